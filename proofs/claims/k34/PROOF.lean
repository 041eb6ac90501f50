import PyProof.Rows.All
import Wide.All
import OpenK.AllK
import Wide.FinOn
import PySem.Challenge.RW_pileports_k34_great_common_remainders
import HandS.ForMost
import HandS.Wide
import HandS.WideMore
import HandS.IsInst
import HandS.Star
import HandS.NoneIn
import HandS.Zip
import HandS.Defaults
import HandS.Evl
import HandS.WrittenGet
import HandS.CallLocal
import HandS.TupAny
import HandS.Style
import HandS.More
set_option Elab.async false
set_option linter.all false
set_option maxRecDepth 100000
set_option maxHeartbeats 8000000
set_option exponentiation.threshold 10000
namespace Z
open PySem PySem.Spec PyProof.Rows L2
def topS (i : Nat) : Stmt := PySem.Challenge.pw_pileports_k34_great_common_remainders.main.body.getD i (.Pass ⟨0, 0, 0, 0⟩)
abbrev s_common_rounds : Stmt := topS 4
abbrev N_common_rounds : List Str := ["remainders", "at", "remainder", "modulus", "common", "pair"]
abbrev P_common_rounds : List Str := ["remainders"]
theorem sc_common_rounds : FnScope N_common_rounds P_common_rounds (defScope s_common_rounds) := ⟨rfl, rfl, rfl, by decide +kernel, rfl, by decide +kernel, by decide +kernel⟩
abbrev s_both_remainders : Stmt := topS 5
abbrev N_both_remainders : List Str := ["one", "other", "first", "modulus", "second", "divided", "divisor", "factor", "steps"]
abbrev P_both_remainders : List Str := ["one", "other"]
theorem sc_both_remainders : FnScope N_both_remainders P_both_remainders (defScope s_both_remainders) := ⟨rfl, rfl, rfl, by decide +kernel, rfl, by decide +kernel, by decide +kernel⟩
abbrev s_divisor_and_factor : Stmt := topS 6
abbrev N_divisor_and_factor : List Str := ["number", "modulus", "rest", "divisor", "factor", "later", "times"]
abbrev P_divisor_and_factor : List Str := ["number", "modulus"]
theorem sc_divisor_and_factor : FnScope N_divisor_and_factor P_divisor_and_factor (defScope s_divisor_and_factor) := ⟨rfl, rfl, rfl, by decide +kernel, rfl, by decide +kernel, by decide +kernel⟩
abbrev s__law_bag : Stmt := topS 8
abbrev N__law_bag : List Str := ["_law_script", "_law_salt", "_law_cell"]
abbrev P__law_bag : List Str := ["_law_script"]
theorem sc__law_bag : FnScope N__law_bag P__law_bag (defScope s__law_bag) := ⟨rfl, rfl, rfl, by decide +kernel, rfl, by decide +kernel, by decide +kernel⟩
abbrev s__law_pull : Stmt := topS 9
abbrev N__law_pull : List Str := ["_law_bag_here", "_law_amount", "_law_cell", "_law_got", "_law_seed"]
abbrev P__law_pull : List Str := ["_law_bag_here", "_law_amount"]
theorem sc__law_pull : FnScope N__law_pull P__law_pull (defScope s__law_pull) := ⟨rfl, rfl, rfl, by decide +kernel, rfl, by decide +kernel, by decide +kernel⟩
abbrev s__law_of : Stmt := topS 10
abbrev N__law_of : List Str := ["_law_bag_here", "_law_things"]
abbrev P__law_of : List Str := ["_law_bag_here", "_law_things"]
theorem sc__law_of : FnScope N__law_of P__law_of (defScope s__law_of) := ⟨rfl, rfl, rfl, by decide +kernel, rfl, by decide +kernel, by decide +kernel⟩
abbrev s__law_same : Stmt := topS 11
abbrev N__law_same : List Str := ["_law_found", "_law_due", "_law_one", "_law_other", "_law_key"]
abbrev P__law_same : List Str := ["_law_found", "_law_due"]
theorem sc__law_same : FnScope N__law_same P__law_same (defScope s__law_same) := ⟨rfl, rfl, rfl, by decide +kernel, rfl, by decide +kernel, by decide +kernel⟩
abbrev s__law_gcd : Stmt := topS 12
abbrev N__law_gcd : List Str := ["_law_one", "_law_other"]
abbrev P__law_gcd : List Str := ["_law_one", "_law_other"]
theorem sc__law_gcd : FnScope N__law_gcd P__law_gcd (defScope s__law_gcd) := ⟨rfl, rfl, rfl, by decide +kernel, rfl, by decide +kernel, by decide +kernel⟩
abbrev s__law_lcm : Stmt := topS 13
abbrev N__law_lcm : List Str := ["_law_numbers", "_law_found", "_law_number"]
abbrev P__law_lcm : List Str := ["_law_numbers"]
theorem sc__law_lcm : FnScope N__law_lcm P__law_lcm (defScope s__law_lcm) := ⟨rfl, rfl, rfl, by decide +kernel, rfl, by decide +kernel, by decide +kernel⟩
abbrev s__law_modulus : Stmt := topS 14
abbrev N__law_modulus : List Str := ["_law_bag_here", "_law_shared", "_law_number"]
abbrev P__law_modulus : List Str := ["_law_bag_here", "_law_shared"]
theorem sc__law_modulus : FnScope N__law_modulus P__law_modulus (defScope s__law_modulus) := ⟨rfl, rfl, rfl, by decide +kernel, rfl, by decide +kernel, by decide +kernel⟩
abbrev s_law : Stmt := topS 15
abbrev N_law : List Str := ["_law_script", "_law_bag_here", "_law_turn", "_law_shared", "_law_moduli", "_law_number", "_law_pairs", "_law_whole", "_law_at", "_law_bent", "_law_clash", "_law_told", "_law_great", "_law_found", "_law_k", "_law_m", "_law_one", "_law_other", "_law_r"]
abbrev P_law : List Str := ["_law_script"]
theorem sc_law : FnScope N_law P_law (defScope s_law) := ⟨rfl, rfl, rfl, by decide +kernel, rfl, by decide +kernel, by decide +kernel⟩
/-! ### rules whose reading names the written part by its own letter -/
section
variable {X : Cx} {K : PySem.W.Frag}
def rLenQ (K : PySem.W.Frag) : List V → Hp → VK → Prop := fun vs H Q => ∃ a us, vs = [.ref a] ∧ (SqL K H a us ∨ SqT K H a us) ∧ Q (.int us.length) H
def rListQ (K : PySem.W.Frag) : List V → Hp → VK → Prop := fun vs H Q => ∃ a us, vs = [.ref a] ∧ (SqL K H a us ∨ SqT K H a us) ∧ ∀ n, H n = none → Q (.ref n) (upd H n (.lst us))
def rTupleQ (K : PySem.W.Frag) : List V → Hp → VK → Prop := fun vs H Q => ∃ a us, vs = [.ref a] ∧ ((SqL K H a us ∧ ∀ n, H n = none → Q (.ref n) (upd H n (.tup us))) ∨ (SqT K H a us ∧ Q (.ref a) H))
theorem k_ixL (h : X.K = K := by rfl) : IxR X (rIxL K) := h ▸ ix_list
theorem k_ixT (h : X.K = K := by rfl) : IxR X (rIxT K) := h ▸ ix_tup
theorem k_slL (h : X.K = K := by rfl) : SlR X (rSlL K) := h ▸ sl_list
theorem k_len (h : X.K = K := by rfl) : CallR X (.builtin "len") (rLenQ K) := h ▸ call_len_seq
theorem k_list (h : X.K = K := by rfl) : CallR X (.type "list") (rListQ K) := h ▸ call_list_of
theorem k_tuple (h : X.K = K := by rfl) : CallR X (.type "tuple") (rTupleQ K) := h ▸ call_tuple_of
theorem k_max (hc : X.calm = true := by rfl) (h : X.K = K := by rfl) : CallR X (.builtin "max") (rMax K) := h ▸ cr_max hc
theorem k_min (hc : X.calm = true := by rfl) (h : X.K = K := by rfl) : CallR X (.builtin "min") (rMin K) := h ▸ cr_min hc
theorem k_all (hc : X.calm = true := by rfl) (h : X.K = K := by rfl) : CallR X (.builtin "all") (rAll K) := h ▸ cr_all hc
theorem k_isi (h : X.K = K := by rfl) : CallR X (.builtin "isinstance") (rIsi K) := h ▸ call_isi
theorem k_in (h : X.K = K := by rfl) : OpR X (compareOp .In) (rIn K false) := h ▸ op_in_seq
theorem k_notIn (h : X.K = K := by rfl) : OpR X (compareOp .NotIn) (rIn K true) := h ▸ op_notIn_seq
theorem k_eqD (hu : X.A.units + 64 < cLine) (h : X.K = K := by rfl) : OpR X (compareOp .Eq) (rEqD K) := h ▸ op_eqD hu
theorem k_neD (hu : X.A.units + 64 < cLine) (h : X.K = K := by rfl) : OpR X (compareOp .NotEq) (rNeD K) := h ▸ op_neD hu
theorem k_piL {tg l : Expr} {tl : TE} (hl : PE X l tl) (h : X.K = K := by rfl) : PI X tg l (iList K tl) := h ▸ pi_list hl
theorem k_piT {tg l : Expr} {tl : TE} (hl : PE X l tl) (h : X.K = K := by rfl) : PI X tg l (iTup K tl) := h ▸ pi_tup hl
theorem k_gT {es : List Expr} {k : Nat} {t : TGs} {n : Nat} {pos : Pos} (pt : PGs X es t) (hc : X.calm = true := by rfl) (hn : (assignEach es X.env).length = n := by rfl)
    (hst : (assignEach es X.env).findIdx? (·.1) = none := by rfl) (h : X.K = K := by rfl) : PG X (.Tuple es k pos) (gTup K n t) := h ▸ pg_tup hc pt hn hst
theorem k_gL {es : List Expr} {k : Nat} {t : TGs} {n : Nat} {pos : Pos} (pt : PGs X es t) (hc : X.calm = true := by rfl) (hn : (assignEach es X.env).length = n := by rfl)
    (hst : (assignEach es X.env).findIdx? (·.1) = none := by rfl) (h : X.K = K := by rfl) : PG X (.Tuple es k pos) (gUnl K n t) := h ▸ pg_unl hc pt hn hst
theorem k_zip {a b : Expr} {ta : TA} {p pos tpos : Pos} {elts : List Expr} {kk : Nat} (ha : PA X [a, b] ta) (hm : X.mg "zip" = none) (hg : Gl X "zip" := by rfl)
    (h1 : starEach [a, b] X.env = (false, eval a X.env) :: starEach [b] X.env := by rfl) (h2 : (backTo pos (starEach [b] X.env)).any (·.1) = false := by rfl) (h : X.K = K := by rfl) :
    PI X (.Tuple elts kk tpos) (.Call (.Name "zip" p) [a, b] [] pos) (RZ.iZipA K ta) := h ▸ RZ.pi_zipA hg hm ha h1 h2
theorem k_enum {e : Expr} {ta : TA} {p pos tpos : Pos} {elts : List Expr} {kk : Nat} (ha : PA X [e] ta) (hm : X.mg "enumerate" = none) (hg : Gl X "enumerate" := by rfl) (h1 : starEach [e] X.env = [(false, eval e X.env)] := by rfl) (h : X.K = K := by rfl) :
    PI X (.Tuple elts kk tpos) (.Call (.Name "enumerate" p) [e] [] pos) (iEnum K ta) := h ▸ pi_enum hg hm ha h1
end
/-! ### dicts of the module -/
section
variable {X : Cx} {K : PySem.W.Frag} {w : World}
theorem k_slT (h : X.K = K := by rfl) : SlR X (rSlT K) := h ▸ sl_tup
theorem k_ixK (h : X.K = K := by rfl) (h2 : X.w = w := by rfl) : IxR X (rIxD K w) := h ▸ h2 ▸ ix_kdict
def KD (K : PySem.W.Frag) (w : World) (a : Addr) : Prop := ∃ es n, K.lookup a = some ⟨.type "dict", none, .dict es n, #[]⟩ ∧ PySem.W.KeysLit w.params es.toList ∧ (a == sysModules) = false
def tKGet (K : PySem.W.Frag) (w : World) (a : Addr) (te : TE) : TE := fun σ H Q => te σ H fun y H2 => ∃ z, y = .str z ∧ ((∃ v, KDct K w a z v ∧ Q v H2) ∨ (KMiss K w a z ∧ Q .non H2))
theorem pe_kget {a : Addr} {o e : Expr} {apos cpos : Pos} {te : TE} (ho : PE X o (tC (.ref a))) (kd : KD K w a) (he : PE X e te) (m : M1 X o "get" apos e cpos) (h : X.K = K := by rfl) (h2 : X.w = w := by rfl) :
    PE X (.Call (.Attribute o "get" apos) [e] [] cpos) (tKGet K w a te) := by
  subst h h2
  obtain ⟨es, n, hl, hkl, low⟩ := kd
  constructor
  intro pins s σ H Q I hq
  refine wpAny_Call_method m.base m.few m.line PySem.F.plainAttrs_dict PySem.F.slot_dict_get PySem.F.type_dict_get (thn (ho.run pins s σ H (fun x H1 => x = .ref a ∧ H1 = H) I ⟨rfl, rfl⟩) fun u s1 ⟨x, H1, I1, rx, ex, eH⟩ => ?_)
  subst ex eH
  obtain rfl : u = Value.ref a := rx
  have hm := PySem.W.mapOf_K (prog := X.prog) (w := X.w) I1.kIn hl hkl
  refine ⟨hm.typeIs, ?_, ?_⟩
  · intro b eb
    cases eb
    exact ⟨_, I1.kIn _ _ hl, rfl⟩
  rw [m.trees]
  refine Calls.callWith_builtin rfl (Calls.evalArgs_plain (Calls.spliced_cons (thn (he.run pins s1 σ _ _ I1 hq) fun iv s2 ⟨y, H2, I2, ry, z, ey, q2⟩ => Calls.spliced_nil ?_)))
  subst ey
  obtain ⟨t, rfl⟩ := (show ∃ t, iv = Value.str z t from ry)
  have hm2 := PySem.W.mapOf_K (prog := X.prog) (w := X.w) I2.kIn hl hkl
  refine call_meetsIn PySem.F.slot_dict_get hm2.typeIs PySem.F.entry_dict_get (PySem.F.args_dict_get_2 _ _) (meets_dict_get (strKind X.prog X.w) a (strKind_is X.prog X.w z t) low) ⟨_, hm2, ?_⟩
  rcases q2 with ⟨v, ⟨es', n', u0, hl', hk', e, ru⟩, q⟩ | ⟨⟨es', n', hl', hk', low', e⟩, q⟩
  · rw [PySem.W.find_K hl e]
    exact ⟨v, H2, I2.tok _, ru, q⟩
  · rw [PySem.W.find_K hl e]
    exact ⟨.non, H2, I2.tok _, rfl, q⟩
end
structure Txt (K : PySem.W.Frag) (mg : Str → Option Value) (w : World) where
  a_common_rounds : Addr
  d_common_rounds : FuncData
  F_common_rounds : Fun K "common_rounds" "common_rounds" s_common_rounds a_common_rounds d_common_rounds
  g_common_rounds : mg "common_rounds" = some (.ref a_common_rounds)
  b_common_rounds : Binds K d_common_rounds P_common_rounds []
  a_both_remainders : Addr
  d_both_remainders : FuncData
  F_both_remainders : Fun K "both_remainders" "both_remainders" s_both_remainders a_both_remainders d_both_remainders
  g_both_remainders : mg "both_remainders" = some (.ref a_both_remainders)
  b_both_remainders : Binds K d_both_remainders P_both_remainders []
  a_divisor_and_factor : Addr
  d_divisor_and_factor : FuncData
  F_divisor_and_factor : Fun K "divisor_and_factor" "divisor_and_factor" s_divisor_and_factor a_divisor_and_factor d_divisor_and_factor
  g_divisor_and_factor : mg "divisor_and_factor" = some (.ref a_divisor_and_factor)
  b_divisor_and_factor : Binds K d_divisor_and_factor P_divisor_and_factor []
  a__law_bag : Addr
  d__law_bag : FuncData
  F__law_bag : Fun K "_law_bag" "_law_bag" s__law_bag a__law_bag d__law_bag
  g__law_bag : mg "_law_bag" = some (.ref a__law_bag)
  b__law_bag : Binds K d__law_bag P__law_bag []
  a__law_pull : Addr
  d__law_pull : FuncData
  F__law_pull : Fun K "_law_pull" "_law_pull" s__law_pull a__law_pull d__law_pull
  g__law_pull : mg "_law_pull" = some (.ref a__law_pull)
  b__law_pull : Binds K d__law_pull P__law_pull []
  a__law_of : Addr
  d__law_of : FuncData
  F__law_of : Fun K "_law_of" "_law_of" s__law_of a__law_of d__law_of
  g__law_of : mg "_law_of" = some (.ref a__law_of)
  b__law_of : Binds K d__law_of P__law_of []
  a__law_same : Addr
  d__law_same : FuncData
  F__law_same : Fun K "_law_same" "_law_same" s__law_same a__law_same d__law_same
  g__law_same : mg "_law_same" = some (.ref a__law_same)
  b__law_same : Binds K d__law_same P__law_same []
  a__law_gcd : Addr
  d__law_gcd : FuncData
  F__law_gcd : Fun K "_law_gcd" "_law_gcd" s__law_gcd a__law_gcd d__law_gcd
  g__law_gcd : mg "_law_gcd" = some (.ref a__law_gcd)
  b__law_gcd : Binds K d__law_gcd P__law_gcd []
  a__law_lcm : Addr
  d__law_lcm : FuncData
  F__law_lcm : Fun K "_law_lcm" "_law_lcm" s__law_lcm a__law_lcm d__law_lcm
  g__law_lcm : mg "_law_lcm" = some (.ref a__law_lcm)
  b__law_lcm : Binds K d__law_lcm P__law_lcm []
  a__law_modulus : Addr
  d__law_modulus : FuncData
  F__law_modulus : Fun K "_law_modulus" "_law_modulus" s__law_modulus a__law_modulus d__law_modulus
  g__law_modulus : mg "_law_modulus" = some (.ref a__law_modulus)
  b__law_modulus : Binds K d__law_modulus P__law_modulus []
  a_law : Addr
  d_law : FuncData
  F_law : Fun K "law" "law" s_law a_law d_law
  g_law : mg "law" = some (.ref a_law)
  m_abs : mg "abs" = none
  m_all : mg "all" = none
  m_bool : mg "bool" = none
  m_dict : mg "dict" = none
  m_enumerate : mg "enumerate" = none
  m_int : mg "int" = none
  m_isinstance : mg "isinstance" = none
  m_len : mg "len" = none
  m_list : mg "list" = none
  m_range : mg "range" = none
  m_str : mg "str" = none
  m_tuple : mg "tuple" = none
  m_zip : mg "zip" = none
/-! ### calls without arguments, by keywords alone, of a starred def -/
section
variable {X : Cx} {CX : CXT} {k : Nat} {f : Addr} {fd : FuncData} {ps ks : List Str} {sp : Sp} {E : XK} {x : Str} {p pos : Pos} {e : Expr} {es : List Expr} {kws : List Keyword} {t tk : TA}
def tR (sp : Sp) (E : XK) (t : TA) : TE := fun σ H Q => t σ H fun vs H1 => sp vs H1 Q E
theorem pe_callR (F : FnR X.prog X.w X.K X.mg X.base CX k f sp) (hr : Room k X.A) (hk : PySem.W.keepIn X.K (.ref f) = true) (hg : Gl X x) (hm : X.mg x = some (.ref f)) (hx : Passes CX X E)
    (args : PA X (e :: es) t) (no_dbg : (x == ("__debug__" : Str)) = false := by decide) (h1 : starEach (e :: es) X.env = (false, eval e X.env) :: starEach es X.env := by rfl)
    (h2 : (backTo pos (starEach es X.env)).any (·.1) = false := by rfl) : PE X (.Call (.Name x p) (e :: es) [] pos) (tR sp E t) :=
  ⟨fun pins s σ H Q I h => wpAny_Call_Name_kw (ld_glob I hg hm (PySem.W.callWith_K (h₀ := X.base) I.ok.mod.kin hk
    (thn (args.run pos pins s σ H _ I h) fun us s1 ⟨vs, H1, I1, r, q⟩ => ⟨I1.kIn, wpAny_call (run_fnR F hr hx I1 r q)⟩) h1 h2) no_dbg)⟩
theorem pe_callR0 (F : FnR X.prog X.w X.K X.mg X.base CX k f sp) (hr : Room k X.A) (hk : PySem.W.keepIn X.K (.ref f) = true) (hg : Gl X x) (hm : X.mg x = some (.ref f)) (hx : Passes CX X E)
    (no_dbg : (x == ("__debug__" : Str)) = false := by decide) : PE X (.Call (.Name x p) [] [] pos) (tR sp E tNil) :=
  ⟨fun pins s σ H Q I h => wpAny_Call_Name_kw (ld_glob I hg hm (PySem.W.callWith_K0 I.kIn hk (wpAny_call (run_fnR (us := []) F hr hx I .nil h))) no_dbg)⟩
theorem pe_callK0 {g : List Value → List Value → List Value} {gV : List V → List V → List V} (F : FnOk X.prog X.w X.K X.mg X.base CX k f fd ps sp) (hr : Room k X.A) (hg : Gl X x) (hm : X.mg x = some (.ref f))
    (hk : PySem.W.keepIn X.K (.ref f) = true) (hb : KBinds X.K fd ps ks g gV) (hx : Passes CX X E) (hkw : PK X kws tk) (hall : (backToKw pos (keywordEach kws X.env)).all (·.1.isSome) = true := by rfl)
    (hks : (backToKw pos (keywordEach kws X.env)).filterMap (·.1) = ks := by rfl) (no_dbg : (x == ("__debug__" : Str)) = false := by decide)
    (hpl : ((backTo pos (starEach [] X.env)).any (·.1) || (backToKw pos (keywordEach kws X.env)).any (·.1.isNone)) = false := by rfl) : PE X (.Call (.Name x p) [] kws pos) (tCallK sp gV E tNil tk) := by
  constructor
  intro pins s σ H Q I h
  refine wpAny_Call_Name_kw (ld_glob I hg hm (PySem.W.callWith_KW0 (h₀ := X.base) I.ok.mod.kin hk hall (thn (hkw.run pos pins s σ H _ I h) fun ws s2 ⟨zs, H2, I2, rz, q2⟩ => ⟨I2.kIn, ?_⟩) hpl) no_dbg)
  rw [hks]
  exact run_fnk (us := []) F hr hb hx I2 .nil rz q2
end
/-! ### tests -/
theorem iteD {p : Prop} [Decidable p] {A B : Prop} (h1 : p → A) (h2 : ¬ p → B) : if decide p = true then A else B := by
  by_cases h : p
  · simp only [h, decide_true, if_true]; exact h1 h
  · simp only [h, decide_false, Bool.false_eq_true, if_false]; exact h2 h
theorem iteND {p : Prop} [Decidable p] {A B : Prop} (h1 : ¬ p → A) (h2 : p → B) : if (!decide p) = true then A else B := by
  by_cases h : p
  · simp only [h, decide_true, Bool.not_true, Bool.false_eq_true, if_false]; exact h2 h
  · simp only [h, decide_false, Bool.not_false, if_true]; exact h1 h
theorem iteE {i j : Int} {A B : Prop} (h1 : i = j → A) (h2 : i ≠ j → B) : if decide (V.int i = V.int j) = true then A else B :=
  iteD (fun h => h1 (V.int.inj h)) fun h => h2 fun e => h (by rw [e])
theorem iteNE {i j : Int} {A B : Prop} (h1 : i ≠ j → A) (h2 : i = j → B) : if (!decide (V.int i = V.int j)) = true then A else B :=
  iteND (fun h => h1 fun e => h (by rw [e])) fun h => h2 (V.int.inj h)
/-! ### the bag of drawn numbers -/
theorem same_new {H : Hp} {p : Addr} {o : HO} (h : H p = none) : Same H (upd H p o) := fun b x e => by rw [upd_ne (ne_of_none e h)]; exact e
def But (b : Addr) (H H' : Hp) : Prop := ∀ a o, a ≠ b → H a = some o → H' a = some o
theorem But.refl (b : Addr) (H : Hp) : But b H H := fun _ _ _ h => h
theorem But.trans {b : Addr} {H H1 H2 : Hp} (x : But b H H1) (y : But b H1 H2) : But b H H2 := fun a o n h => y a o n (x a o n h)
theorem But.upd {b : Addr} {H H' : Hp} {o : HO} (x : But b H H') : But b H (upd H' b o) := fun a u n h => by rw [upd_ne n]; exact x a u n h
theorem Same.but {b : Addr} {H H' : Hp} (x : Same H H') : But b H H' := fun a o _ h => x a o h
theorem But.new {b p : Addr} {H H' : Hp} {o : HO} (x : But b H H') (h : H' p = none) : But b H (L2.upd H' p o) := x.trans (Same.but (same_new h))
theorem But.get {b a : Addr} {H H' : Hp} {o : HO} (x : But b H H') (n : a ≠ b) (h : H a = some o) : H' a = some o := x a o n h
/-- the bag stands at b: its cells at l, the place, what is held, the seed -/
structure BagAt (H : Hp) (b l : Addr) (cs : List Int) (i h s : Int) : Prop where
  at_ : H b = some (.lst [.ref l, .int i, .int h, .int s])
  cells : H l = some (.lst (cs.map V.int))
  ne : l ≠ b
  len : cs.length ≤ 63
  i0 : 0 ≤ i
  h0 : 0 ≤ h
  s0 : 0 ≤ s
  s1 : s < 2147483647
def Bag (H : Hp) (b l : Addr) : Prop := ∃ cs i h s, BagAt H b l cs i h s
theorem BagAt.same {H H' : Hp} {b l : Addr} {cs : List Int} {i h s : Int} (x : BagAt H b l cs i h s) (e : Same H H') : BagAt H' b l cs i h s := ⟨e _ _ x.at_, e _ _ x.cells, x.ne, x.len, x.i0, x.h0, x.s0, x.s1⟩
theorem Bag.same {H H' : Hp} {b l : Addr} (x : Bag H b l) (e : Same H H') : Bag H' b l := by
  obtain ⟨cs, i, h, s, y⟩ := x
  exact ⟨cs, i, h, s, y.same e⟩
theorem Bag.ne {H : Hp} {a b l : Addr} (x : Bag H b l) (h : H a = none) : a ≠ b := by
  obtain ⟨cs, i, hh, s, y⟩ := x
  exact (ne_of_none y.at_ h).symm
theorem Bag.nl {H : Hp} {a b l : Addr} (x : Bag H b l) (h : H a = none) : a ≠ l := by
  obtain ⟨cs, i, hh, s, y⟩ := x
  exact (ne_of_none y.cells h).symm
theorem Bag.mut {H : Hp} {a b l : Addr} {o : HO} (x : Bag H b l) (h1 : a ≠ b) (h2 : a ≠ l) : Bag (upd H a o) b l := by
  obtain ⟨cs, i, hh, s, y⟩ := x
  exact ⟨cs, i, hh, s, by rw [upd_ne h1.symm]; exact y.at_, by rw [upd_ne h2.symm]; exact y.cells, y.ne, y.len, y.i0, y.h0, y.s0, y.s1⟩
theorem BagAt.set {H : Hp} {b l : Addr} {cs : List Int} {i h s i' h' s' : Int} {o : List V} (x : BagAt H b l cs i h s) (e : o = [.ref l, .int i', .int h', .int s']) (a1 : 0 ≤ i') (a2 : 0 ≤ h') (a3 : 0 ≤ s') (a4 : s' < 2147483647) :
    BagAt (upd H b (.lst o)) b l cs i' h' s' := ⟨by rw [upd_same, e], by rw [upd_ne x.ne]; exact x.cells, x.ne, x.len, a1, a2, a3, a4⟩
theorem bag_set {H : Hp} {b l : Addr} {cs : List Int} {i h s i' h' s' k : Int} {j : Nat} {v : V} {Q : Hp → Prop} (x : BagAt H b l cs i h s) (hj : ixN 4 k = some j)
    (e : ([.ref l, .int i, .int h, .int s] : List V).set j v = [.ref l, .int i', .int h', .int s']) (a1 : 0 ≤ i') (a2 : 0 ≤ h') (a3 : 0 ≤ s') (a4 : s' < 2147483647)
    (q : ∀ H', BagAt H' b l cs i' h' s' → But b H H' → Q H') : rSetL (.ref b) (.int k) v H Q :=
  ⟨b, _, k, j, rfl, rfl, x.at_, hj, q _ (x.set e a1 a2 a3 a4) (But.refl b H).upd⟩
theorem fmod_lo (a : Int) {m : Int} (h : 0 < m) : 0 ≤ a.fmod m := by rw [Int.fmod_eq_emod_of_nonneg _ (by omega)]; exact Int.emod_nonneg _ (by omega)
theorem fmod_hi (a : Int) {m : Int} (h : 0 < m) : a.fmod m < m := by rw [Int.fmod_eq_emod_of_nonneg _ (by omega)]; exact Int.emod_lt_of_pos _ h
theorem nat_lt {z : Int} {n : Nat} (h0 : 0 ≤ z) (h1 : z < 2 ^ n) : z.natAbs < 2 ^ n := by
  have : ((z.natAbs : Int)) < ((2 ^ n : Nat) : Int) := by rw [Int.natAbs_of_nonneg h0]; rw [Int.natCast_pow]; exact h1
  omega
def sp_bag (K : PySem.W.Frag) : Sp := fun vs H Q _ => ∃ (a : Addr) (ns : List Int), vs = [.ref a] ∧ SqL K H a (ns.map V.int) ∧ ns.length ≤ 63 ∧ ∀ b l H', H b = none → H l = none → Same H H' → Bag H' b l → Q (.ref b) H'
/-- an amount that // takes -/
def Fit (n : Int) : Prop := n.natAbs < 2 ^ 8000
theorem Fit.of {n : Int} (h0 : 0 ≤ n) (h : n < 1000000000000000000000000000000000000000000) : Fit n := Nat.lt_of_lt_of_le (show n.natAbs < 2 ^ 140 by omega) (Nat.pow_le_pow_right (by decide) (by decide))
def sp_pull : Sp := fun vs H Q _ => ∃ (b l : Addr) (n : Int), vs = [.ref b, .int n] ∧ Bag H b l ∧ 0 < n ∧ Fit n ∧ ∀ r H', 0 ≤ r → r < n → Bag H' b l → But b H H' → Q (.int r) H'
/-! ### steps of a reading -/
theorem mul_ok {i j : Int} (h1 : i.natAbs < 2 ^ 20000) (h2 : j.natAbs < 2 ^ 20000) : CMulW i j := wide_mul h1 h2 (by decide) (by decide) (by decide)
theorem small_pow {i : Int} {a b : Nat} (h : i.natAbs < 2 ^ a) (hab : a ≤ b) : i.natAbs < 2 ^ b := Nat.lt_of_lt_of_le h (Nat.pow_le_pow_right (by decide) hab)
theorem small_abs {i : Int} (h : i.natAbs < 1000000000000000000000000000000000000000000) : i.natAbs < 2 ^ 20000 := small_pow (a := 140) (Nat.lt_of_lt_of_le h (by decide)) (by decide)
theorem div_ok {i j : Int} (h : 0 < j) (h1 : Fit j) : CDivW i j := wide_div h h1 (by decide) (by decide)
theorem div_small {i j : Int} (h : 0 < j) (h1 : j < 1000000000000000000000000000000) : CDivW i j := div_ok h (Fit.of (by omega) (by omega))
theorem le_line {n : Nat} (h : n ≤ 1000) : n ≤ sizeLine := Nat.le_trans h (by decide)
theorem lt_line {n : Nat} (h : n < 1000) : n < sizeLine := Nat.lt_of_lt_of_le h (by decide)
theorem at0 {a b c d : V} : atI [a, b, c, d] 0 = some a := rfl
theorem at1 {a b c d : V} : atI [a, b, c, d] 1 = some b := rfl
theorem at2 {a b c d : V} : atI [a, b, c, d] 2 = some c := rfl
theorem at3 {a b c d : V} : atI [a, b, c, d] 3 = some d := rfl
/-! ### isinstance of built-in kinds -/
theorem kb_int_list : kitB "int" "list" = some false := by decide +kernel
theorem kb_int_tuple : kitB "int" "tuple" = some false := by decide +kernel
theorem kb_int_dict : kitB "int" "dict" = some false := by decide +kernel
theorem kb_int_bool : kitB "int" "bool" = some false := by decide +kernel
theorem kb_int_int : kitB "int" "int" = some true := by decide +kernel
theorem kb_int_str : kitB "int" "str" = some false := by decide +kernel
theorem kb_str_list : kitB "str" "list" = some false := by decide +kernel
theorem kb_str_tuple : kitB "str" "tuple" = some false := by decide +kernel
theorem kb_str_dict : kitB "str" "dict" = some false := by decide +kernel
theorem kb_str_bool : kitB "str" "bool" = some false := by decide +kernel
theorem kb_str_int : kitB "str" "int" = some false := by decide +kernel
theorem kb_str_str : kitB "str" "str" = some true := by decide +kernel
theorem kb_bool_list : kitB "bool" "list" = some false := by decide +kernel
theorem kb_bool_tuple : kitB "bool" "tuple" = some false := by decide +kernel
theorem kb_bool_dict : kitB "bool" "dict" = some false := by decide +kernel
theorem kb_bool_bool : kitB "bool" "bool" = some true := by decide +kernel
theorem kb_bool_int : kitB "bool" "int" = some true := by decide +kernel
theorem kb_bool_str : kitB "bool" "str" = some false := by decide +kernel
theorem kb_NoneType_list : kitB "NoneType" "list" = some false := by decide +kernel
theorem kb_NoneType_tuple : kitB "NoneType" "tuple" = some false := by decide +kernel
theorem kb_NoneType_dict : kitB "NoneType" "dict" = some false := by decide +kernel
theorem kb_NoneType_bool : kitB "NoneType" "bool" = some false := by decide +kernel
theorem kb_NoneType_int : kitB "NoneType" "int" = some false := by decide +kernel
theorem kb_NoneType_str : kitB "NoneType" "str" = some false := by decide +kernel
theorem kb_list_list : kitB "list" "list" = some true := by decide +kernel
theorem kb_list_tuple : kitB "list" "tuple" = some false := by decide +kernel
theorem kb_list_dict : kitB "list" "dict" = some false := by decide +kernel
theorem kb_list_bool : kitB "list" "bool" = some false := by decide +kernel
theorem kb_list_int : kitB "list" "int" = some false := by decide +kernel
theorem kb_list_str : kitB "list" "str" = some false := by decide +kernel
theorem kb_tuple_list : kitB "tuple" "list" = some false := by decide +kernel
theorem kb_tuple_tuple : kitB "tuple" "tuple" = some true := by decide +kernel
theorem kb_tuple_dict : kitB "tuple" "dict" = some false := by decide +kernel
theorem kb_tuple_bool : kitB "tuple" "bool" = some false := by decide +kernel
theorem kb_tuple_int : kitB "tuple" "int" = some false := by decide +kernel
theorem kb_tuple_str : kitB "tuple" "str" = some false := by decide +kernel
theorem tyL {K : PySem.W.Frag} {H : Hp} {a : Addr} {xs : List V} (h : SqL K H a xs) : TyX K H (.ref a) (.type "list") := by
  rcases h with (h | ⟨o, h⟩) | ⟨o, its, n, h1, h2, _⟩
  · exact .base (.lst h)
  · exact .base (.frz h)
  · exact .kList h1 h2
theorem tyT {K : PySem.W.Frag} {H : Hp} {a : Addr} {xs : List V} (h : SqT K H a xs) : TyX K H (.ref a) (.type "tuple") := by
  rcases h with (h | ⟨o, h⟩) | ⟨o, its, n, h1, h2, _⟩
  · exact .base (.tup h)
  · exact .fTuple h
  · exact .kTuple h1 h2
/-! ### loops over anything -/
theorem lc_by {J : It} {n : Nat} {g : TG} {tt : TT} {te : TE} {vs : List Nat} {σ : L2.St} {H1 : Hp} {D : Addr} {Qd : Hp → Prop} (Pv : Nat → Hp → Prop) (h0 : Pv 0 (upd H1 D (.lst []))) (hgo : ∀ i H, i < n → Pv i H → J.go i H) (hstop : ∀ H, Pv n H → J.stop n H)
    (hs : ∀ i H x H', i < n → Pv i H → J.yld i H x H' → g x (wipe σ vs) H' fun σ2 H2 => wipe σ2 vs = wipe σ vs ∧ tt σ2 H2 fun b H3 =>
      if b = true then te σ2 H3 fun y H4 => ∃ acc, H4 D = some (.lst acc) ∧ acc.length < sizeLine ∧ Pv (i + 1) (upd H4 D (.lst (acc ++ [y]))) else Pv (i + 1) H3) (hd : ∀ H, Pv n H → Qd H) :
    ∃ W : Nat → Nat → Hp → Prop, (∃ m, W 0 m (upd H1 D (.lst []))) ∧ ∀ i m H, W i m H →
      (J.stop i H ∧ Qd H) ∨ (J.go i H ∧ ∃ Nx : Hp → Prop, (∀ H', Nx H' → ∃ m', m' < m ∧ W (i + 1) m' H') ∧ ∀ x H', J.yld i H x H' → g x (wipe σ vs) H' fun σ2 H2 => wipe σ2 vs = wipe σ vs ∧ tt σ2 H2 fun b H3 =>
        if b = true then te σ2 H3 fun y H4 => ∃ acc, H4 D = some (.lst acc) ∧ acc.length < sizeLine ∧ Nx (upd H4 D (.lst (acc ++ [y]))) else Nx H3) := by
  refine ⟨fun i m H => m = n - i ∧ i ≤ n ∧ Pv i H, ⟨n, by simp, Nat.zero_le _, h0⟩, ?_⟩
  rintro i m H ⟨em, hi, pv⟩
  by_cases hlt : i < n
  · exact .inr ⟨hgo i H hlt pv, Pv (i + 1), fun H' p' => ⟨n - (i + 1), by omega, rfl, hlt, p'⟩, fun x H' y => hs i H x H' hlt pv y⟩
  · have e : i = n := by omega
    rw [e] at pv ⊢
    exact .inl ⟨hstop H pv, hd H pv⟩
theorem for_by {J : It} {n : Nat} {g : TG} {tb : TS} {D : Ends} {σ : L2.St} {H : Hp} (Pv : Nat → L2.St → Hp → Prop) (h0 : Pv 0 σ H) (hgo : ∀ i σ H, i < n → Pv i σ H → J.go i H) (hstop : ∀ σ H, Pv n σ H → J.stop n H)
    (hs : ∀ i σ H x H', i < n → Pv i σ H → J.yld i H x H' → g x σ H' fun σ2 H2 => tb { D with nx := Pv (i + 1), ct := Pv (i + 1), bk := D.nx } σ2 H2) (hd : ∀ σ H, Pv n σ H → D.nx σ H) :
    ∃ W : Nat → Nat → L2.St → Hp → Prop, (∃ m, W 0 m σ H) ∧ ∀ i m σ H, W i m σ H →
      (J.stop i H ∧ D.nx σ H) ∨ (J.go i H ∧ ∃ N : L2.St → Hp → Prop, (∀ σ' H', N σ' H' → ∃ m', m' < m ∧ W (i + 1) m' σ' H') ∧ ∀ x H', J.yld i H x H' → g x σ H' fun σ2 H2 => tb { D with nx := N, ct := N, bk := D.nx } σ2 H2) := by
  refine ⟨fun i m σ H => m = n - i ∧ i ≤ n ∧ Pv i σ H, ⟨n, by simp, Nat.zero_le _, h0⟩, ?_⟩
  rintro i m σ H ⟨em, hi, pv⟩
  by_cases hlt : i < n
  · exact .inr ⟨hgo i σ H hlt pv, Pv (i + 1), fun σ' H' p' => ⟨n - (i + 1), by omega, rfl, hlt, p'⟩, fun x H' y => hs i σ H x H' hlt pv y⟩
  · have e : i = n := by omega
    rw [e] at pv ⊢
    exact .inl ⟨hstop σ H pv, hd σ H pv⟩
theorem at_zero {α : Type} {x : α} {xs : List α} : atI (x :: xs) 0 = some x := by
  show atI (x :: xs) ((0 : Nat) : Int) = some x
  exact atI_nat rfl
theorem Same.mut {H H' : Hp} {p : Addr} {o : HO} (e : Same H H') (h : H p = none) : Same H (upd H' p o) := fun a u ha => by
  rw [upd_ne (ne_of_none ha h)]
  exact e a u ha
theorem Same.new {H H' : Hp} {p : Addr} {o : HO} (e : Same H H') (h : H' p = none) : Same H (upd H' p o) := Same.trans e (same_new h)
theorem Same.tup {K : PySem.W.Frag} {H H' : Hp} {a : Addr} {xs : List V} (e : Same H H') (h : SqT K H a xs) : SqT K H' a xs := by
  rcases h with (h | ⟨o, h⟩) | h
  · exact .inl (.inl (e _ _ h))
  · exact .inl (.inr ⟨o, e _ _ h⟩)
  · exact .inr h
-- what stands at an address
local macro_rules | `(tactic| walk_at "hp") => `(tactic| first | assumption | exact upd_same | exact BagAt.at_ (by assumption) | exact BagAt.cells (by assumption) | fail "hp")
local macro_rules | `(tactic| walk_at "sq") => `(tactic| first | assumption | (refine Or.inl (Or.inl ?_); walk_at "hp") | (apply Same.seq <;> assumption))
-- bounds
local macro_rules | `(tactic| walk_at "num") => `(tactic| first
  | exact rfl | decide | exact le_line (Nat.le_of_ble_eq_true rfl) | exact lt_line (Nat.le_of_ble_eq_true rfl)
  | (exact mul_ok (small_abs (by omega)) (small_abs (by omega)))
  | (exact div_small (by omega) (by omega))
  | (exact div_ok (by omega) (by assumption))
  | (refine ⟨?_, ?_⟩ <;> omega) | omega
  | (show (_ : Int) ≠ 0; omega) | (show CPow _ _; unfold CPow; decide))
-- one step
local macro_rules | `(tactic| walk_at "rd") => `(tactic| first
  | (refine Exists.intro _ (And.intro rfl ?_))
  | (refine Exists.intro _ (Exists.intro _ (And.intro rfl (And.intro rfl ?_))))
  | (refine Or.inl (Exists.intro _ (And.intro rfl ?_)))
  | (refine Or.inr (Exists.intro _ (And.intro rfl ?_)))
  | (with_reducible refine iteF ?_) | (with_reducible refine iteT ?_)
  | (refine And.intro ?cc ?_; (case cc => walk_at "num"))
  | (refine' Exists.intro _ (Exists.intro _ (Exists.intro _ (Exists.intro _ (And.intro rfl (And.intro rfl (And.intro ?sq (And.intro ?ha ?k))))))); (case sq => walk_at "sq"); (case ha => first | exact rfl | assumption | exact at_zero))
  | (refine' Exists.intro _ (Exists.intro _ (And.intro rfl (And.intro (Or.inl ?sq) ?k))); (case sq => walk_at "sq")))
local macro_rules | `(tactic| walk_at "sqt") => `(tactic| first | assumption | (refine Or.inl (Or.inl ?_); walk_at "hp") | (apply Same.tup <;> assumption))
local macro_rules | `(tactic| walk_at "rdt") => `(tactic| first
  | walk_at "rd"
  | (refine' Exists.intro _ (Exists.intro _ (And.intro rfl (And.intro (Or.inr ?sq) ?k))); (case sq => walk_at "sqt"))
  | (refine' Exists.intro _ (Exists.intro _ (Exists.intro _ (Exists.intro _ (And.intro rfl (And.intro rfl (And.intro ?sq (And.intro ?ha ?k))))))); (case sq => walk_at "sqt"); (case ha => first | exact rfl | assumption | exact at_zero))
  | (refine iteF ?_) | (refine iteT ?_))
local macro_rules | `(tactic| walk_at "rds") => `(tactic| repeat walk_at "rdt")
local macro_rules | `(tactic| walk_at "pull") => `(tactic| (refine' Exists.intro _ (Exists.intro _ (Exists.intro _ (And.intro rfl (And.intro ?bag (And.intro ?pos (And.intro ?fit ?kk)))))); (case bag => assumption); (case pos => first | decide | omega); (case fit => exact Fit.of (by first | decide | omega) (by first | decide | omega))))
local macro_rules | `(tactic| walk_at "two") => `(tactic| refine Exists.intro _ (Exists.intro _ (And.intro rfl ?_)))
/-! ### the law's own draws -/
section
variable {P : Program} {w : World} {K : PySem.W.Frag} {mg : Str → Option Value} {base : Heap}
theorem tail_take {xs : List V} (h : xs.length ≤ 63) : cutV xs none (some 63) = xs := by
  unfold cutV
  have e1 : HT.sIx xs.length 0 none = 0 := HT.sIx_none _ _
  have e2 : HT.sIx xs.length xs.length (some 63) = xs.length := by
    have := HT.sIx_nat xs.length xs.length 63
    rw [show ((63 : Nat) : Int) = 63 from rfl] at this
    rw [this]
    omega
  rw [e1, e2, List.drop_zero, Nat.sub_zero]
  exact List.take_length
theorem ne_zero {i : Int} (h : 0 < i) : i ≠ 0 := by omega
theorem ok__law_bag (T : Txt K mg w) : FnOk P w K mg base CX0 1 T.a__law_bag T.d__law_bag P__law_bag (sp_bag K) := by
  refine T.F__law_bag.ok sc__law_bag (fun vs H Q E h => ?_) (fun cdv A outer s H vs Q E hr h => ?_)
  · obtain ⟨a, ns, rfl, _⟩ := h
    rfl
  · obtain ⟨a, ns, rfl, hS, hlen, q⟩ := h
    refine ⟨_, (pss_cons (ps_set (i := 1) sc__law_bag.nd rfl (Or.inl rfl) pe_int)
  (pss_cons (ps_for PassesOwn.never rfl (k_piL (K := K) (pe_slice (k_slL (K := K)) (pv 0) po_none (po_some pe_int))) (pg_name (i := 2) sc__law_bag.nd rfl (Or.inl rfl))
  (pss_one (ps_set (i := 1) sc__law_bag.nd rfl (Or.inl rfl) (pe_op op_modN (pe_callTy call_int1 (by rfl) T.m_int boot_int (pa_cons (pe_op op_add (pe_op op_add (pe_op op_mulW (pv 1) pe_int) (pe_op op_modN (pe_callTy call_int1 (by rfl) T.m_int boot_int (pa_cons (pv 2) pa_nil)) pe_int)) pe_int) pa_nil)) pe_int))))
  (pss_one (ps_ret (pe_lst (pa_cons (pe_callTy (k_list (K := K)) (by rfl) T.m_list boot_list (pa_cons (pe_slice (k_slL (K := K)) (pv 0) po_none (po_some pe_int)) pa_nil)) (pa_cons pe_int (pa_cons pe_int (pa_cons (pv 1) pa_nil))))))))), ?_⟩
    refine ⟨.ref a, rfl, 63, rfl, a, ns.map V.int, rfl, hS, fun c nc => ?_⟩
    rw [tail_take (by rw [List.length_map]; exact hlen)]
    have s1 : Same H (upd H c (.lst (ns.map V.int))) := same_new nc
    have hC : SqL K (upd H c (.lst (ns.map V.int))) c (ns.map V.int) := .inl (.inl upd_same)
    refine ⟨c, rfl, ⟨_, hC⟩, for_list (xs := ns.map V.int) (fun i σ H' => H' = upd H c (.lst (ns.map V.int)) ∧ ∃ salt y, σ = [some (.ref a), some (.int salt), y] ∧ 0 ≤ salt ∧ salt < 2147483647)
      ⟨rfl, 3817, none, rfl, by omega, by omega⟩ (fun i σ H' _ hp => by rw [hp.1]; exact hC) (fun i x σ H' hx hp => ?_) (fun σ H' hp => ?_)⟩
    · obtain ⟨rfl, salt, y, rfl, b1, b2⟩ := hp
      obtain ⟨n, -, rfl⟩ : ∃ n, n ∈ ns ∧ V.int n = x := by simpa using List.mem_of_getElem? hx
      have c1 := fmod_lo n (m := 2147483579) (by decide)
      have c2 := fmod_hi n (m := 2147483579) (by decide)
      refine ⟨_, rfl, _, _, rfl, rfl, mul_ok (small_abs (by omega)) (small_abs (by omega)), ?_⟩
      refine ⟨_, rfl, .inl ⟨_, rfl, ?_⟩⟩
      refine ⟨_, _, rfl, rfl, ne_zero (by decide), _, _, rfl, rfl, _, _, rfl, rfl, .inl ⟨_, rfl, ?_⟩⟩
      refine ⟨_, _, rfl, rfl, ne_zero (by decide), rfl, _, _, rfl, ?_, ?_⟩
      · exact fmod_lo _ (by decide)
      · exact fmod_hi _ (by decide)
    · obtain ⟨rfl, salt, y, rfl, b1, b2⟩ := hp
      refine ⟨.ref a, rfl, 63, rfl, a, ns.map V.int, rfl, s1.seq hS, fun c2 nc2 => ?_⟩
      rw [tail_take (by rw [List.length_map]; exact hlen)]
      refine ⟨c2, _, rfl, .inl (.inl (.inl upd_same)), fun l nl => ?_⟩
      refine ⟨_, rfl, by show 4 ≤ sizeLine; decide, fun b nb => ?_⟩
      have s2 := (s1.trans (same_new nc2)).trans (same_new (o := .lst (ns.map V.int)) nl)
      have s3 := s2.trans (same_new (o := .lst [.ref l, .int 0, .int 0, .int salt]) nb)
      have nlb : l ≠ b := fun e => by
        rw [← e, upd_same] at nb
        cases nb
      refine q b l _ (s2.free nb) ((s1.trans (same_new nc2)).free nl) s3 ⟨ns, 0, 0, salt, ⟨upd_same, ?_, nlb, hlen, by omega, by omega, b1, b2⟩⟩
      rw [upd_ne nlb]
      exact upd_same
theorem ok__law_pull (T : Txt K mg w) : FnOk P w K mg base CX0 1 T.a__law_pull T.d__law_pull P__law_pull sp_pull := by
  refine T.F__law_pull.ok sc__law_pull (fun vs H Q E h => ?_) (fun cdv A outer s H vs Q E hr h => ?_)
  · obtain ⟨a, l, n, rfl, _⟩ := h
    rfl
  · obtain ⟨b, l, n, rfl, ⟨cs, i, hd, s, hB⟩, n0, n1, q⟩ := h
    refine ⟨_, (Evl.pss_cut (ps_if (PW.pt (pw_and (pt_cmpR op_eq (pe_ix (k_ixL (K := K)) (pv 0) pe_int (fun _ _ => rfl)) pe_int (nomark _)) (pw_and1 (pt_cmpR op_lt (pe_ix (k_ixL (K := K)) (pv 0) pe_int (fun _ _ => rfl)) (pe_callB (k_len (K := K)) (by rfl) T.m_len boot_len (pa_cons (pe_ix (k_ixL (K := K)) (pv 0) pe_int (fun _ _ => rfl)) pa_nil)) (nomark _)))))
  (pss_cons (ps_set (i := 2) sc__law_pull.nd rfl (Or.inl rfl) (pe_ix (k_ixL (K := K)) (pe_ix (k_ixL (K := K)) (pv 0) pe_int (fun _ _ => rfl)) (pe_ix (k_ixL (K := K)) (pv 0) pe_int (fun _ _ => rfl)) (fun _ _ => rfl)))
  (pss_cons (ps_asg (pe_op op_add (pe_ix (k_ixL (K := K)) (pv 0) pe_int (fun _ _ => rfl)) pe_int) (pg_sub (pv 0) pe_int set_list))
  (pss_one (ps_if (pt_cmpR op_ge (pv 2) (pe_op op_pow pe_int pe_int) (nomark _))
  (pss_one (ps_asg (pv 2) (pg_sub (pv 0) pe_int set_list))) (pss_one (ps_asg (pe_op op_modN (pe_callTy call_int1 (by rfl) T.m_int boot_int (pa_cons (pe_op op_add (pe_op op_add (pe_op op_mulW (pe_ix (k_ixL (K := K)) (pv 0) pe_int (fun _ _ => rfl)) pe_int) (pe_op op_mulW (pe_op op_modN (pe_callTy call_int1 (by rfl) T.m_int boot_int (pa_cons (pv 2) pa_nil)) pe_int) pe_int)) pe_int) pa_nil)) pe_int) (pg_sub (pv 0) pe_int set_list))))))) pss_nil)
  (pss_cons (ps_if (pt_cmpR op_gt (pe_ix (k_ixL (K := K)) (pv 0) pe_int (fun _ _ => rfl)) pe_int (nomark _))
  (pss_cons (ps_set (i := 3) sc__law_pull.nd rfl (Or.inl rfl) (pe_op op_modN (pe_callTy call_int1 (by rfl) T.m_int boot_int (pa_cons (pe_ix (k_ixL (K := K)) (pv 0) pe_int (fun _ _ => rfl)) pa_nil)) (pv 1)))
  (pss_cons (ps_asg (pe_op op_fdivW (pe_ix (k_ixL (K := K)) (pv 0) pe_int (fun _ _ => rfl)) (pv 1)) (pg_sub (pv 0) pe_int set_list))
  (pss_one (ps_ret (pv 3))))) pss_nil)
  (pss_cons (ps_set (i := 4) sc__law_pull.nd rfl (Or.inl rfl) (pe_ix (k_ixL (K := K)) (pv 0) pe_int (fun _ _ => rfl)))
  (pss_cons (ps_asg (pe_op op_modN (pe_callTy call_int1 (by rfl) T.m_int boot_int (pa_cons (pe_op op_add (pe_op op_add (pe_op op_mulW (pv 4) (pv 4)) (pe_op op_mulW (pv 4) pe_int)) pe_int) pa_nil)) pe_int) (pg_sub (pv 0) pe_int set_list))
  (pss_one (ps_ret (pe_op op_modN (pe_callTy call_int1 (by rfl) T.m_int boot_int (pa_cons (pe_op op_add (pe_op op_fdivW (pe_ix (k_ixL (K := K)) (pv 0) pe_int (fun _ _ => rfl)) pe_int) (pe_op op_mulW (pe_op op_modN (pe_callTy call_int1 (by rfl) T.m_int boot_int (pa_cons (pe_ix (k_ixL (K := K)) (pv 0) pe_int (fun _ _ => rfl)) pa_nil)) pe_int) pe_int)) pa_nil)) (pv 1)))))))), ?_⟩
    have i0 := hB.i0
    have hd0 := hB.h0
    have s0 := hB.s0
    have s1 := hB.s1
    refine ⟨fun σ' H' => ∃ i' hd' s' y2, BagAt H' b l cs i' hd' s' ∧ But b H H' ∧ σ' = [some (.ref b), some (.int n), y2, none, none], ?_, fun σ' H' hM => ?_⟩
    · walk_at "rds"
      refine iteE (fun h0 => ?_) (fun h0 => ?_)
      · walk_at "rds"
        refine iteD (fun h1 => ?_) (fun h1 => ?_)
        · have hl : i.toNat < cs.length := by
            rw [List.length_map] at h1
            omega
          have hat : atI (cs.map V.int) i = some (.int cs[i.toNat]) := by
            exact at_of (j := i.toNat) (by omega) (by rw [List.getElem?_map, List.getElem?_eq_getElem hl]; rfl)
          walk_at "rds"
          refine bag_set hB rfl rfl (by omega) hd0 s0 s1 (fun H2 hB2 b2 => ?_)
          walk_at "rds"
          refine iteD (fun h2 => ?_) (fun h2 => ?_)
          · have h3 : (0 : Int) ≤ cs[i.toNat] := Int.le_trans (by decide) h2
            walk_at "rds"
            exact bag_set hB2 rfl rfl (by omega) h3 s0 s1 fun H3 hB3 b3 => ⟨_, _, _, _, hB3, b2.trans b3, rfl⟩
          · have c1 := fmod_lo cs[i.toNat] (m := 2147483579) (by decide)
            have c2 := fmod_hi cs[i.toNat] (m := 2147483579) (by decide)
            walk_at "rds"
            exact bag_set hB2 rfl rfl (by omega) hd0 (fmod_lo _ (by decide)) (fmod_hi _ (by decide)) fun H3 hB3 b3 => ⟨_, _, _, _, hB3, b2.trans b3, rfl⟩
        · exact ⟨_, _, _, _, hB, But.refl _ _, rfl⟩
      · walk_at "rds"
        exact ⟨_, _, _, _, hB, But.refl _ _, rfl⟩
    · obtain ⟨i', hd', s', y2, hB', hb', rfl⟩ := hM
      have i0 := hB'.i0
      have hd0 := hB'.h0
      have s0 := hB'.s0
      have s1 := hB'.s1
      walk_at "rds"
      refine iteD (fun h0 => ?_) (fun h0 => ?_)
      · have nn : n ≠ 0 := by omega
        walk_at "rds"
        refine bag_set hB' rfl rfl i0 (Int.ediv_nonneg hd0 (by omega)) s0 s1 (fun H2 hB2 b2 => ?_)
        walk_at "rds"
        exact q _ _ (fmod_lo _ n0) (fmod_hi _ n0) ⟨_, _, _, _, hB2⟩ (hb'.trans b2)
      · have nn : n ≠ 0 := by omega
        walk_at "rds"
        refine bag_set hB' rfl rfl i0 hd0 (fmod_lo _ (by decide)) (fmod_hi _ (by decide)) (fun H2 hB2 b2 => ?_)
        have c1 := hB2.s0
        have c2 := hB2.s1
        generalize (s' * s' + s' * 48271 + 1013904223).fmod 2147483647 = z at hB2 c1 c2
        have c3 := fmod_lo z (m := 8191) (by decide)
        have c4 := fmod_hi z (m := 8191) (by decide)
        walk_at "rds"
        exact q _ _ (fmod_lo _ n0) (fmod_hi _ n0) ⟨_, _, _, _, hB2⟩ (hb'.trans b2)
end
local macro_rules | `(tactic| walk_at "isi") => `(tactic| (refine' Exists.intro _ (Exists.intro _ (Exists.intro _ (Exists.intro _ (Exists.intro _ (And.intro rfl (And.intro (ClsV.ty _) (And.intro ?tt (And.intro (kit_ty ?ee) ?kk)))))))); (case tt => assumption); (case ee => first | exact kb_int_list | exact kb_int_tuple | exact kb_int_dict | exact kb_int_bool | exact kb_int_int | exact kb_int_str | exact kb_str_list | exact kb_str_tuple | exact kb_str_dict | exact kb_str_bool | exact kb_str_int | exact kb_str_str | exact kb_bool_list | exact kb_bool_tuple | exact kb_bool_dict | exact kb_bool_bool | exact kb_bool_int | exact kb_bool_str | exact kb_NoneType_list | exact kb_NoneType_tuple | exact kb_NoneType_dict | exact kb_NoneType_bool | exact kb_NoneType_int | exact kb_NoneType_str | exact kb_list_list | exact kb_list_tuple | exact kb_list_dict | exact kb_list_bool | exact kb_list_int | exact kb_list_str | exact kb_tuple_list | exact kb_tuple_tuple | exact kb_tuple_dict | exact kb_tuple_bool | exact kb_tuple_int | exact kb_tuple_str)))
-- one step
local macro_rules | `(tactic| walk_at "same") => `(tactic| repeat first | walk_at "rdt" | walk_at "isi")
/-! ### the law's comparison -/
/-- equal data, at most d deep -/
inductive Sm (K : PySem.W.Frag) (H : Hp) : Nat → V → V → Prop where
  | int (d : Nat) (i : Int) : Sm K H d (.int i) (.int i)
  | str (d : Nat) (z : Str) : Sm K H d (.str z) (.str z)
  | bl (d : Nat) (b : Bool) : Sm K H d (.bl b) (.bl b)
  | non (d : Nat) : Sm K H d .non .non
  | lst {d : Nat} {a b : Addr} {xs ys : List V} (hx : SqL K H a xs) (hy : SqL K H b ys) (hl : xs.length = ys.length) (hz : xs.length < 1000) (h : ∀ (i : Nat) (x y : V), xs[i]? = some x → ys[i]? = some y → Sm K H d x y) : Sm K H (d + 1) (.ref a) (.ref b)
  | tup {d : Nat} {a b : Addr} {xs ys : List V} (hx : SqT K H a xs) (hy : SqT K H b ys) (hl : xs.length = ys.length) (hz : xs.length < 1000) (h : ∀ (i : Nat) (x y : V), xs[i]? = some x → ys[i]? = some y → Sm K H d x y) : Sm K H (d + 1) (.ref a) (.ref b)
theorem Sm.same {K : PySem.W.Frag} {H H' : Hp} {d : Nat} {x y : V} (h : Sm K H d x y) (e : Same H H') : Sm K H' d x y := by
  induction h with
  | int d i => exact .int d i
  | str d z => exact .str d z
  | bl d b => exact .bl d b
  | non d => exact .non d
  | lst hx hy hl hz _ ih => exact .lst (e.seq hx) (e.seq hy) hl hz ih
  | tup hx hy hl hz _ ih => exact .tup (Same.tup e hx) (Same.tup e hy) hl hz ih
def sp_same (K : PySem.W.Frag) (d : Nat) : Sp := fun vs H Q _ => ∃ x y : V, vs = [x, y] ∧ Sm K H d x y ∧ ∀ H', Same H H' → Q (.bl true) H'
theorem all_true (n : Nat) : (List.replicate n true).all id = true := by
  rw [List.all_eq_true]
  intro b hb
  exact (List.mem_replicate.mp hb).2
section
variable {P : Program} {w : World} {K : PySem.W.Frag} {mg : Str → Option Value} {base : Heap}
theorem ok_same_step (T : Txt K mg w) {k : Nat} {spr : Sp} (G__law_same : FnOk P w K mg base CX0 k T.a__law_same T.d__law_same P__law_same spr) (d : Nat) (hspr : ∀ e, d = e + 1 → ∀ x y H (Q : VK) E, Sm K H e x y → (∀ H', Same H H' → Q (.bl true) H') → spr [x, y] H Q E) :
    FnOk P w K mg base CX0 (k + 1) T.a__law_same T.d__law_same P__law_same (sp_same K d) := by
  refine T.F__law_same.ok sc__law_same (fun vs H Q E h => ?_) (fun cdv A outer s H vs Q E hr h => ?_)
  · obtain ⟨x, y, rfl, _⟩ := h
    rfl
  · obtain ⟨x, y, rfl, hS, q⟩ := h
    refine ⟨_, (pss_cons (ps_if (PW.pt (pw_or (pt_val (pe_callB (k_isi (K := K)) (by rfl) T.m_isinstance boot_isinstance (pa_cons (pv 1) (pa_cons (pe_bltn (v := .ty "list") (by rfl) T.m_list boot_list rfl) pa_nil)))) (pw_or1 (pt_val (pe_callB (k_isi (K := K)) (by rfl) T.m_isinstance boot_isinstance (pa_cons (pv 1) (pa_cons (pe_bltn (v := .ty "tuple") (by rfl) T.m_tuple boot_tuple rfl) pa_nil)))))))
  (pss_cons (ps_if (PW.pt (pw_or (pt_cmpR op_ne (pe_callB (k_isi (K := K)) (by rfl) T.m_isinstance boot_isinstance (pa_cons (pv 0) (pa_cons (pe_bltn (v := .ty "list") (by rfl) T.m_list boot_list rfl) pa_nil))) (pe_callB (k_isi (K := K)) (by rfl) T.m_isinstance boot_isinstance (pa_cons (pv 1) (pa_cons (pe_bltn (v := .ty "list") (by rfl) T.m_list boot_list rfl) pa_nil))) (nomark _)) (pw_or1 (pt_cmpR op_ne (pe_callB (k_isi (K := K)) (by rfl) T.m_isinstance boot_isinstance (pa_cons (pv 0) (pa_cons (pe_bltn (v := .ty "tuple") (by rfl) T.m_tuple boot_tuple rfl) pa_nil))) (pe_callB (k_isi (K := K)) (by rfl) T.m_isinstance boot_isinstance (pa_cons (pv 1) (pa_cons (pe_bltn (v := .ty "tuple") (by rfl) T.m_tuple boot_tuple rfl) pa_nil))) (nomark _)))))
  (pss_one (ps_ret pe_bl)) pss_nil)
  (pss_one (ps_ret (pe_and (pe_cmpR op_eq (pe_callB (k_len (K := K)) (by rfl) T.m_len boot_len (pa_cons (pv 0) pa_nil)) (pe_callB (k_len (K := K)) (by rfl) T.m_len boot_len (pa_cons (pv 1) pa_nil)) (nomark _)) (pe_one (pe_callB (k_all (K := K)) (by rfl) T.m_all boot_all (pa_cons (pe_lc (own := [("_law_one", 2), ("_law_other", 3)]) rfl sc__law_same.nd (k_zip (K := K) (pa_cons (pv 0) (pa_cons (pv 1) pa_nil)) T.m_zip) (blkOk_by (N := N__law_same) (sc := defScope s__law_same) (by decide +kernel)) (fun _ _ _ _ _ => (k_gT (K := K) (n := 2) (pgs_cons (pg_name (i := 2) sc__law_same.nd rfl (Or.inl rfl)) (pgs_cons (pg_name (i := 3) sc__law_same.nd rfl (Or.inl rfl)) pgs_nil)))) (fun _ _ _ _ _ => pts_nil) (fun _ _ _ _ _ => (pe_call G__law_same hr (by rfl) T.g__law_same T.F__law_same.kp T.b__law_same .nil pass0 (pa_cons (pv 2) (pa_cons (pv 3) pa_nil))))) pa_nil))))))) pss_nil)
  (pss_cons (ps_if (pt_val (pe_callB (k_isi (K := K)) (by rfl) T.m_isinstance boot_isinstance (pa_cons (pv 1) (pa_cons (pe_bltn (v := .ty "dict") (by rfl) T.m_dict boot_dict rfl) pa_nil))))
  (pss_one ps_never) pss_nil)
  (pss_cons (ps_if (PW.pt (pw_or (pt_cmpR op_isN (pv 1) pe_non (nomark _)) (pw_or1 (pt_cmpR op_isN (pv 0) pe_non (nomark _)))))
  (pss_one (ps_ret (pe_and (pe_cmpR op_isN (pv 1) pe_non (nomark _)) (pe_one (pe_cmpR op_isN (pv 0) pe_non (nomark _)))))) pss_nil)
  (pss_cons (ps_if (PW.pt (pw_or (pt_cmpR op_ne (pe_callB (k_isi (K := K)) (by rfl) T.m_isinstance boot_isinstance (pa_cons (pv 0) (pa_cons (pe_bltn (v := .ty "bool") (by rfl) T.m_bool boot_bool rfl) pa_nil))) (pe_callB (k_isi (K := K)) (by rfl) T.m_isinstance boot_isinstance (pa_cons (pv 1) (pa_cons (pe_bltn (v := .ty "bool") (by rfl) T.m_bool boot_bool rfl) pa_nil))) (nomark _)) (pw_or1 (pt_cmpR op_ne (pe_callB (k_isi (K := K)) (by rfl) T.m_isinstance boot_isinstance (pa_cons (pv 0) (pa_cons (pe_bltn (v := .ty "int") (by rfl) T.m_int boot_int rfl) pa_nil))) (pe_callB (k_isi (K := K)) (by rfl) T.m_isinstance boot_isinstance (pa_cons (pv 1) (pa_cons (pe_bltn (v := .ty "int") (by rfl) T.m_int boot_int rfl) pa_nil))) (nomark _)))))
  (pss_one (ps_ret pe_bl)) pss_nil)
  (pss_one (ps_ret (pe_and (pe_cmpR op_eq (pe_callB (k_isi (K := K)) (by rfl) T.m_isinstance boot_isinstance (pa_cons (pv 0) (pa_cons (pe_bltn (v := .ty "str") (by rfl) T.m_str boot_str rfl) pa_nil))) (pe_callB (k_isi (K := K)) (by rfl) T.m_isinstance boot_isinstance (pa_cons (pv 1) (pa_cons (pe_bltn (v := .ty "str") (by rfl) T.m_str boot_str rfl) pa_nil))) (nomark _)) (pe_one (pe_cmpR op_eq (pv 0) (pv 1) (nomark _)))))))))), ?_⟩
    cases hS with
    | int _ i =>
      have tx : TyX K H (.int i) (.type "int") := .base (.int i)
      walk_at "same"
      show Q (V.bl (decide (V.int i = V.int i))) H
      rw [decide_eq_true rfl]
      exact q H (Same.refl H)
    | str _ z =>
      have tx : TyX K H (.str z) (.type "str") := .base (.str z)
      walk_at "same"
      show Q (V.bl (decide (V.str z = V.str z))) H
      rw [decide_eq_true rfl]
      exact q H (Same.refl H)
    | bl _ b =>
      have tx : TyX K H (.bl b) (.type "bool") := .base (.bl b)
      walk_at "same"
      show Q (V.bl (decide (V.bl b = V.bl b))) H
      rw [decide_eq_true rfl]
      exact q H (Same.refl H)
    | non =>
      have tx : TyX K H .non (.type "NoneType") := .base .non
      walk_at "same"
      exact q H (Same.refl H)
    | @lst _ a b xs ys hx hy hl hz hh =>
      have tx := tyL hx
      have ty := tyL hy
      walk_at "same"
      refine iteE (fun _ => ?_) (fun e => absurd (by rw [hl]) e)
      refine ⟨.ref a, rfl, .ref b, rfl, a, b, xs, ys, rfl, .inl ⟨hx, hy, fun D hD => ?_⟩⟩
      have s0 : Same H (upd H D (.lst [])) := same_new hD
      refine lc_by (n := xs.length) (fun i H' => Same H H' ∧ H' D = some (.lst ((List.replicate i true).map V.bl))) ⟨s0, upd_same⟩
        (fun i H' hi hp => ⟨xs, ys, xs[i], ys[i]'(hl ▸ hi), hp.1.seq hx, hp.1.seq hy, List.getElem?_eq_getElem hi, List.getElem?_eq_getElem (hl ▸ hi)⟩)
        (fun H' hp => ⟨xs, ys, hp.1.seq hx, hp.1.seq hy, .inl (Nat.le_refl _)⟩) (fun i H' v H2 hi hp hv => ?_) (fun H' hp => ?_)
      · obtain ⟨t, x, y, rfl, nt, rfl, f1, f2⟩ := hv
        obtain ⟨hp1, hp2⟩ := hp
        have gx := f1 xs (hp1.seq hx)
        have gy := f2 ys (hp1.seq hy)
        have s2 : Same H (upd H' t (.tup [x, y])) := Same.new hp1 nt
        refine ⟨t, [x, y], rfl, .inl (.inl upd_same), rfl, x, [y], rfl, y, [], rfl, rfl, rfl, x, rfl, y, rfl, ?_⟩
        refine hspr _ rfl x y _ _ _ ((hh i x y gx gy).same s2) fun H3 s3 => ⟨_, s3 _ _ (same_new nt _ _ hp2), ?_, Same.mut (s2.trans s3) hD, ?_⟩
        · rw [List.length_map, List.length_replicate]
          exact lt_line (by omega)
        · rw [upd_same, List.replicate_succ']
          simp
      · refine ⟨D, _, rfl, .inl (.inl hp.2), ?_⟩
        rw [all_true]
        exact q H' hp.1
    | @tup _ a b xs ys hx hy hl hz hh =>
      have tx := tyT hx
      have ty := tyT hy
      walk_at "same"
      refine iteE (fun _ => ?_) (fun e => absurd (by rw [hl]) e)
      refine ⟨.ref a, rfl, .ref b, rfl, a, b, xs, ys, rfl, .inr ⟨hx, hy, fun D hD => ?_⟩⟩
      have s0 : Same H (upd H D (.lst [])) := same_new hD
      refine lc_by (n := xs.length) (fun i H' => Same H H' ∧ H' D = some (.lst ((List.replicate i true).map V.bl))) ⟨s0, upd_same⟩
        (fun i H' hi hp => ⟨xs, ys, xs[i], ys[i]'(hl ▸ hi), Same.tup hp.1 hx, Same.tup hp.1 hy, List.getElem?_eq_getElem hi, List.getElem?_eq_getElem (hl ▸ hi)⟩)
        (fun H' hp => ⟨xs, ys, Same.tup hp.1 hx, Same.tup hp.1 hy, .inl (Nat.le_refl _)⟩) (fun i H' v H2 hi hp hv => ?_) (fun H' hp => ?_)
      · obtain ⟨t, x, y, rfl, nt, rfl, f1, f2⟩ := hv
        obtain ⟨hp1, hp2⟩ := hp
        have gx := f1 xs (Same.tup hp1 hx)
        have gy := f2 ys (Same.tup hp1 hy)
        have s2 : Same H (upd H' t (.tup [x, y])) := Same.new hp1 nt
        refine ⟨t, [x, y], rfl, .inl (.inl upd_same), rfl, x, [y], rfl, y, [], rfl, rfl, rfl, x, rfl, y, rfl, ?_⟩
        refine hspr _ rfl x y _ _ _ ((hh i x y gx gy).same s2) fun H3 s3 => ⟨_, s3 _ _ (same_new nt _ _ hp2), ?_, Same.mut (s2.trans s3) hD, ?_⟩
        · rw [List.length_map, List.length_replicate]
          exact lt_line (by omega)
        · rw [upd_same, List.replicate_succ']
          simp
      · refine ⟨D, _, rfl, .inl (.inl hp.2), ?_⟩
        rw [all_true]
        exact q H' hp.1
theorem ok_same (T : Txt K mg w) (d : Nat) : FnOk P w K mg base CX0 (d + 1) T.a__law_same T.d__law_same P__law_same (sp_same K d) := by
  induction d with
  | zero =>
    have z : FnOk P w K mg base CX0 0 T.a__law_same T.d__law_same P__law_same (fun _ _ _ _ => False) := ⟨fun _ _ _ _ h => h.elim, fun _ _ _ _ _ _ _ _ _ _ _ _ _ h => h.elim⟩
    exact ok_same_step T z 0 fun e h => nomatch h
  | succ d ih => exact ok_same_step T ih (d + 1) fun e he x y H Q E h q => ⟨x, y, rfl, (Nat.succ.inj he) ▸ h, q⟩
end
/-! ### common remainders -/
theorem gcd_mod (m a : Int) : Int.gcd m (a % m) = Int.gcd m a := by
  have e := Int.emod_add_mul_ediv a m
  apply Nat.dvd_antisymm
  · refine Int.dvd_gcd (Int.gcd_dvd_left ..) ?_
    have h := Int.dvd_add (Int.gcd_dvd_right m (a % m)) (Int.dvd_mul_of_dvd_left (b := m) (c := a / m) (Int.gcd_dvd_left m (a % m)))
    rw [e] at h
    exact h
  · refine Int.dvd_gcd (Int.gcd_dvd_left ..) ?_
    have h := Int.dvd_sub (Int.gcd_dvd_right m a) (Int.dvd_mul_of_dvd_left (b := m) (c := a / m) (Int.gcd_dvd_left m a))
    rw [show a - m * (a / m) = a % m by omega] at h
    exact h
/-- what Euclid's steps keep: rest, divisor, factor, later of number and modulus -/
structure Euc (a m r d f l : Int) : Prop where
  r0 : 0 ≤ r
  rd : r < d
  e1 : m ∣ r - a * f
  e2 : m ∣ d - a * l
  g : Int.gcd d r = Int.gcd m a
  b : f.natAbs * d.natAbs + l.natAbs * r.natAbs ≤ m.natAbs
  bl : l.natAbs ≤ m.natAbs
theorem Euc.start {a m : Int} (hm : 0 < m) : Euc a m (a.fmod m) m 1 0 := by
  have e : a.fmod m = a % m := Int.fmod_eq_emod_of_nonneg _ (by omega)
  rw [e]
  refine ⟨Int.emod_nonneg _ (by omega), Int.emod_lt_of_pos _ hm, ?_, ?_, gcd_mod m a, ?_, ?_⟩
  · rw [Int.mul_one]
    have h := Int.emod_add_mul_ediv a m
    exact ⟨-(a / m), by rw [Int.mul_neg]; omega⟩
  · rw [Int.mul_zero, Int.sub_zero]
    exact Int.dvd_refl m
  · simp
  · simp
theorem Euc.fd {a m r d f l : Int} (h : Euc a m r d f l) : f.natAbs * d.natAbs ≤ m.natAbs := by
  have := h.b
  omega
theorem Euc.step {a m r d f l : Int} (h : Euc a m r d f l) (hr : r ≠ 0) : Euc a m (d - d / r * r) r (l - d / r * f) f := by
  have r0 := h.r0
  have hd := Int.mul_ediv_add_emod d r
  have hm0 := Int.emod_nonneg d hr
  have hm1 := Int.emod_lt_of_pos d (show 0 < r by omega)
  have e : d - d / r * r = d % r := by rw [Int.mul_comm]; omega
  have rd := h.rd
  have t0 : 0 ≤ d / r := Int.ediv_nonneg (by omega) r0
  refine ⟨by rw [e]; exact hm0, by rw [e]; exact hm1, ?_, h.e1, ?_, ?_, ?_⟩
  · have e3 : d - d / r * r - a * (l - d / r * f) = (d - a * l) - d / r * (r - a * f) := by
      rw [Int.mul_sub, Int.mul_sub, ← Int.mul_assoc a, ← Int.mul_assoc (d / r), Int.mul_comm a (d / r)]
      omega
    rw [e3]
    exact Int.dvd_sub h.e2 (Int.dvd_mul_of_dvd_right h.e1)
  · rw [e, gcd_mod, Int.gcd_comm]
    exact h.g
  · -- the bound
    have hb := h.b
    have h1 : (l - d / r * f).natAbs ≤ l.natAbs + (d / r).natAbs * f.natAbs := by
      have := Int.natAbs_sub_le l (d / r * f)
      rw [Int.natAbs_mul] at this
      exact this
    have h2 : (d - d / r * r).natAbs + (d / r).natAbs * r.natAbs = d.natAbs := by
      have e4 : ((d / r).natAbs * r.natAbs : Nat) = (d / r * r).natAbs := (Int.natAbs_mul ..).symm
      have e5 : 0 ≤ d / r * r := Int.mul_nonneg t0 r0
      rw [e4]
      omega
    have h3 : (l - d / r * f).natAbs * r.natAbs ≤ (l.natAbs + (d / r).natAbs * f.natAbs) * r.natAbs := Nat.mul_le_mul_right _ h1
    have h4 : (l.natAbs + (d / r).natAbs * f.natAbs) * r.natAbs + f.natAbs * (d - d / r * r).natAbs = l.natAbs * r.natAbs + f.natAbs * d.natAbs := by
      rw [← h2, Nat.add_mul, Nat.mul_add, Nat.mul_comm (d / r).natAbs f.natAbs, Nat.mul_assoc]
      omega
    omega
  · have h5 := h.fd
    have h6 : f.natAbs * 1 ≤ f.natAbs * d.natAbs := Nat.mul_le_mul_left _ (by omega)
    omega
theorem Euc.done {a m d f l : Int} (h : Euc a m 0 d f l) : d = (Int.gcd m a : Int) ∧ m ∣ (Int.gcd m a : Int) - a * l ∧ l.natAbs ≤ m.natAbs := by
  have e : d = (Int.gcd m a : Int) := by
    have g := h.g
    rw [Int.gcd_zero_right] at g
    have := h.rd
    omega
  refine ⟨e, ?_, h.bl⟩
  rw [← e]
  exact h.e2
/-- both remainders at once -/
theorem crt_two {r m s n f : Int} (hm : 0 < m) (hn : 0 < n) (r0 : 0 ≤ r) (r1 : r < m) (hf : n ∣ (Int.gcd n m : Int) - m * f) (hd : (Int.gcd n m : Int) ∣ s - r) :
    0 ≤ r + m * (((s - r) / (Int.gcd n m : Int) * f).fmod (n / (Int.gcd n m : Int))) ∧ r + m * (((s - r) / (Int.gcd n m : Int) * f).fmod (n / (Int.gcd n m : Int))) < m / (Int.gcd n m : Int) * n ∧
    m ∣ r + m * (((s - r) / (Int.gcd n m : Int) * f).fmod (n / (Int.gcd n m : Int))) - r ∧ n ∣ r + m * (((s - r) / (Int.gcd n m : Int) * f).fmod (n / (Int.gcd n m : Int))) - s := by
  have g0 : (0 : Int) < (Int.gcd n m : Int) := by
    have : 0 < Int.gcd n m := Int.gcd_pos_of_ne_zero_left _ (by omega)
    omega
  obtain ⟨n', hn'⟩ := Int.gcd_dvd_left n m
  obtain ⟨m', hm'⟩ := Int.gcd_dvd_right n m
  obtain ⟨q, hq⟩ := hd
  generalize (Int.gcd n m : Int) = g at *
  have n'0 : 0 < n' := Int.lt_of_not_ge fun h => by
    have h2 := Int.mul_le_mul_of_nonneg_left h (Int.le_of_lt g0)
    rw [Int.mul_zero] at h2
    omega
  have en : n / g = n' := by rw [hn', Int.mul_ediv_cancel_left _ (by omega)]
  have em : m / g = m' := by rw [hm', Int.mul_ediv_cancel_left _ (by omega)]
  have eq : (s - r) / g = q := by rw [hq, Int.mul_ediv_cancel_left _ (by omega)]
  rw [en, em, eq, Int.fmod_eq_emod_of_nonneg _ (by omega)]
  have t0 := Int.emod_nonneg (q * f) (show n' ≠ 0 by omega)
  have t1 := Int.emod_lt_of_pos (q * f) n'0
  have ht := Int.emod_add_mul_ediv (q * f) n'
  generalize (q * f) % n' = t at *
  have emn : m * n' = m' * n := by rw [hm', hn', Int.mul_comm g m', Int.mul_assoc]
  have b0 : 0 ≤ m * t := Int.mul_nonneg (by omega) t0
  have b1 : m * t ≤ m * (n' - 1) := Int.mul_le_mul_of_nonneg_left (by omega) (by omega)
  rw [Int.mul_sub, Int.mul_one] at b1
  refine ⟨by omega, by omega, ?_, ?_⟩
  · rw [show r + m * t - r = m * t by omega]
    exact Int.dvd_mul_right ..
  · obtain ⟨u, hu⟩ := hf
    refine ⟨-(q * u) - m' * (q * f / n'), ?_⟩
    have e1 : r + m * t - s = m * t - g * q := by omega
    have e2 : m * t = m * (q * f) - m * (n' * (q * f / n')) := by rw [← Int.mul_sub]; congr 1; omega
    have e3 : m * (n' * (q * f / n')) = n * (m' * (q * f / n')) := by rw [← Int.mul_assoc, emn, Int.mul_comm m' n, Int.mul_assoc]
    have e4 : m * (q * f) - g * q = -(q * (g - m * f)) := by
      rw [Int.mul_sub, ← Int.mul_assoc m q f, Int.mul_comm m q, Int.mul_assoc q m f, Int.mul_comm g q]
      omega
    have e5 : n * (q * u) = q * (g - m * f) := by rw [hu, ← Int.mul_assoc, Int.mul_comm n q, Int.mul_assoc]
    rw [e1, e2, e3, Int.mul_sub, Int.mul_neg, e5]
    omega
/-- one number with two remainders by two moduli: their differences divide -/
theorem crt_need {r m s n x : Int} (h1 : m ∣ x - r) (h2 : n ∣ x - s) : (Int.gcd n m : Int) ∣ s - r := by
  have a := Int.dvd_trans (Int.gcd_dvd_right n m) h1
  have b := Int.dvd_trans (Int.gcd_dvd_left n m) h2
  have c := Int.dvd_sub a b
  rw [show x - r - (x - s) = s - r by omega] at c
  exact c
/-! ### least common multiples -/
def lcmI (m n : Int) : Int := m / (Int.gcd m n : Int) * n
def lcmL (ns : List Int) : Int := ns.foldl lcmI 1
theorem lcmI_eq {m n : Int} : lcmI m n = m / (Int.gcd m n : Int) * n := rfl
theorem gcd_pos {m n : Int} (h : 0 < n) : (0 : Int) < (Int.gcd m n : Int) := by
  have : 0 < Int.gcd m n := Int.gcd_pos_of_ne_zero_right _ (by omega)
  omega
theorem lcmI_nat {m n : Int} (hm : 0 < m) (hn : 0 < n) : lcmI m n = (Nat.lcm m.toNat n.toNat : Int) := by
  obtain ⟨a, rfl⟩ := Int.eq_ofNat_of_zero_le (Int.le_of_lt hm)
  obtain ⟨b, rfl⟩ := Int.eq_ofNat_of_zero_le (Int.le_of_lt hn)
  show (a : Int) / (Nat.gcd a b : Int) * (b : Int) = (Nat.lcm a b : Int)
  rw [← Int.natCast_ediv, ← Int.natCast_mul]
  congr 1
  unfold Nat.lcm
  rw [Nat.mul_comm (a / Nat.gcd a b) b, Nat.mul_comm a b]
  exact (Nat.mul_div_assoc b (Nat.gcd_dvd_left a b)).symm
theorem lcmI_pos {m n : Int} (hm : 0 < m) (hn : 0 < n) : 0 < lcmI m n := by
  rw [lcmI_nat hm hn]
  have : 0 < Nat.lcm m.toNat n.toNat := Nat.lcm_pos (by omega) (by omega)
  omega
theorem lcmI_le {m n : Int} (hm : 0 < m) (hn : 0 < n) : (lcmI m n).natAbs ≤ m.natAbs * n.natAbs := by
  rw [lcmI_nat hm hn]
  show Nat.lcm m.toNat n.toNat ≤ _
  have h := Nat.div_le_self (m.toNat * n.toNat) (Nat.gcd m.toNat n.toNat)
  rw [show m.natAbs = m.toNat by omega, show n.natAbs = n.toNat by omega]
  exact h
theorem natCast_dvd' {m : Nat} {n : Int} : (m : Int) ∣ n ↔ m ∣ n.natAbs := Int.ofNat_dvd_left
/-! ### several remainders -/
def Sols (ps : List (Int × Int)) (y : Int) : Prop := ∀ p ∈ ps, p.2 ∣ y - p.1
theorem bez' {a m : Int} (n : Nat) : ∀ {r d f l : Int}, r.toNat < n → Euc a m r d f l → ∃ l', m ∣ (Int.gcd m a : Int) - a * l' := by
  induction n with
  | zero => intro r d f l h; omega
  | succ n ih =>
    intro r d f l h hE
    by_cases e : r = 0
    · subst e
      exact ⟨l, hE.done.2.1⟩
    · have h2 := hE.step e
      have h3 := h2.r0
      have h4 := h2.rd
      exact ih (by omega) h2
theorem bez (a : Int) {m : Int} (hm : 0 < m) : ∃ l, m ∣ (Int.gcd m a : Int) - a * l := bez' _ (Nat.lt_succ_self _) (Euc.start hm)
theorem gcd_lcm {a b c : Nat} (hc : 0 < c) : Nat.gcd a (Nat.lcm b c) ∣ Nat.lcm (Nat.gcd a b) (Nat.gcd a c) := by
  have e0 : 0 < Nat.gcd (Nat.gcd a b) (Nat.gcd a c) := Nat.gcd_pos_of_pos_right _ (Nat.gcd_pos_of_pos_right _ hc)
  refine Nat.dvd_of_mul_dvd_mul_right e0 ?_
  rw [Nat.mul_comm (Nat.lcm _ _), Nat.gcd_mul_lcm]
  generalize he : Nat.gcd (Nat.gcd a b) (Nat.gcd a c) = e
  have ea : e ∣ a := he ▸ Nat.dvd_trans (Nat.gcd_dvd_left _ _) (Nat.gcd_dvd_left _ _)
  have eb : e ∣ b := he ▸ Nat.dvd_trans (Nat.gcd_dvd_left _ _) (Nat.gcd_dvd_right _ _)
  have ec : e ∣ c := he ▸ Nat.dvd_trans (Nat.gcd_dvd_right _ _) (Nat.gcd_dvd_right _ _)
  have ga : Nat.gcd a (Nat.lcm b c) ∣ a := Nat.gcd_dvd_left _ _
  have gl : Nat.gcd a (Nat.lcm b c) ∣ Nat.lcm b c := Nat.gcd_dvd_right _ _
  generalize Nat.gcd a (Nat.lcm b c) = g at *
  have x1 : g * e ∣ a * Nat.gcd a c := by
    rw [← Nat.gcd_mul_left]
    exact Nat.dvd_gcd (Nat.mul_dvd_mul ga ea) (Nat.mul_dvd_mul ga ec)
  have x2 : g * e ∣ b * Nat.gcd a c := by
    rw [← Nat.gcd_mul_left]
    refine Nat.dvd_gcd ?_ ?_
    · rw [Nat.mul_comm b a]
      exact Nat.mul_dvd_mul ga eb
    · rw [← Nat.gcd_mul_lcm b c, Nat.mul_comm g e]
      exact Nat.mul_dvd_mul (Nat.dvd_gcd eb ec) gl
  rw [← Nat.gcd_mul_right]
  exact Nat.dvd_gcd x1 x2
theorem gcd_lcmI {a m n D : Int} (hm : 0 < m) (hn : 0 < n) (h1 : (Int.gcd a m : Int) ∣ D) (h2 : (Int.gcd a n : Int) ∣ D) : (Int.gcd a (lcmI m n) : Int) ∣ D := by
  rw [lcmI_nat hm hn]
  rw [natCast_dvd'] at h1 h2 ⊢
  have e1 : Int.gcd a m = Nat.gcd a.natAbs m.toNat := by
    show Nat.gcd a.natAbs m.natAbs = _
    rw [show m.natAbs = m.toNat by omega]
  have e2 : Int.gcd a n = Nat.gcd a.natAbs n.toNat := by
    show Nat.gcd a.natAbs n.natAbs = _
    rw [show n.natAbs = n.toNat by omega]
  rw [e1] at h1
  rw [e2] at h2
  show Nat.gcd a.natAbs (Nat.lcm m.toNat n.toNat) ∣ D.natAbs
  exact Nat.dvd_trans (gcd_lcm (by omega)) (Nat.lcm_dvd h1 h2)
theorem gcd_foldl {a D : Int} : ∀ (ns : List Int) {m : Int}, 0 < m → (∀ n ∈ ns, 0 < n) → (Int.gcd a m : Int) ∣ D → (∀ n ∈ ns, (Int.gcd a n : Int) ∣ D) → (Int.gcd a (ns.foldl lcmI m) : Int) ∣ D
  | [], _, _, _, h, _ => h
  | n :: ns, m, hm, hp, h, hs => by
    have hn := hp n (List.mem_cons_self ..)
    exact gcd_foldl ns (lcmI_pos hm hn) (fun z hz => hp z (List.mem_cons_of_mem _ hz)) (gcd_lcmI hm hn h (hs n (List.mem_cons_self ..))) fun z hz => hs z (List.mem_cons_of_mem _ hz)
theorem gcd_lcmL {a D : Int} {ns : List Int} (hp : ∀ n ∈ ns, 0 < n) (hs : ∀ n ∈ ns, (Int.gcd a n : Int) ∣ D) : (Int.gcd a (lcmL ns) : Int) ∣ D :=
  gcd_foldl ns (by decide) hp (by rw [Int.gcd_one]; exact Int.one_dvd D) hs
theorem lcmI_dvd {m n z : Int} (hm : 0 < m) (hn : 0 < n) : lcmI m n ∣ z ↔ m ∣ z ∧ n ∣ z := by
  rw [lcmI_nat hm hn, natCast_dvd', Nat.lcm_dvd_iff, ← natCast_dvd', ← natCast_dvd', Int.toNat_of_nonneg (Int.le_of_lt hm), Int.toNat_of_nonneg (Int.le_of_lt hn)]
theorem foldl_dvd {z : Int} : ∀ (ns : List Int) {m : Int}, 0 < m → (∀ n ∈ ns, 0 < n) → (ns.foldl lcmI m ∣ z ↔ m ∣ z ∧ ∀ n ∈ ns, n ∣ z)
  | [], m, _, _ => by simp
  | n :: ns, m, hm, hp => by
    have hn := hp n (List.mem_cons_self ..)
    rw [List.foldl_cons, foldl_dvd ns (lcmI_pos hm hn) (fun z hz => hp z (List.mem_cons_of_mem _ hz)), lcmI_dvd hm hn]
    simp [and_assoc]
theorem lcmL_dvd {z : Int} {ns : List Int} (hp : ∀ n ∈ ns, 0 < n) : lcmL ns ∣ z ↔ ∀ n ∈ ns, n ∣ z := by
  have h := foldl_dvd (z := z) ns (m := 1) (by decide) hp
  rw [show lcmL ns = ns.foldl lcmI 1 from rfl, h]
  exact ⟨fun x => x.2, fun x => ⟨Int.one_dvd z, x⟩⟩
theorem foldl_pos : ∀ (ns : List Int) {m : Int}, 0 < m → (∀ n ∈ ns, 0 < n) → 0 < ns.foldl lcmI m
  | [], _, h, _ => h
  | n :: ns, m, hm, hp => foldl_pos ns (lcmI_pos hm (hp n (List.mem_cons_self ..))) fun z hz => hp z (List.mem_cons_of_mem _ hz)
theorem lcmL_pos {ns : List Int} (hp : ∀ n ∈ ns, 0 < n) : 0 < lcmL ns := foldl_pos ns (by decide) hp
theorem lcmL_snoc (ns : List Int) (n : Int) : lcmL (ns ++ [n]) = lcmI (lcmL ns) n := by
  unfold lcmL
  rw [List.foldl_append]
  rfl
/-- what several remainders come to -/
structure Sol (ps : List (Int × Int)) (x M : Int) : Prop where
  x0 : 0 ≤ x
  x1 : x < M
  m : M = lcmL (ps.map Prod.snd)
  s : Sols ps x
def Good (ps : List (Int × Int)) : Prop := ∀ p ∈ ps, 0 < p.2
theorem Good.map {ps : List (Int × Int)} (h : Good ps) : ∀ n ∈ ps.map Prod.snd, 0 < n := by
  intro n hn
  obtain ⟨p, hp, rfl⟩ := List.mem_map.mp hn
  exact h p hp
theorem Sol.none : Sol [] 0 1 := ⟨by decide, by decide, rfl, fun _ h => nomatch h⟩
theorem Sol.dvd {ps : List (Int × Int)} {x M y : Int} (g : Good ps) (h : Sol ps x M) (hy : Sols ps y) : M ∣ y - x := by
  rw [h.m, lcmL_dvd g.map]
  intro n hn
  obtain ⟨p, hp, rfl⟩ := List.mem_map.mp hn
  have := Int.dvd_sub (hy p hp) (h.s p hp)
  rw [show y - p.1 - (x - p.1) = y - x by omega] at this
  exact this
theorem Sol.eq {ps : List (Int × Int)} {x M y : Int} (g : Good ps) (h : Sol ps x M) (hy : Sols ps y) : x = y.fmod M := by
  obtain ⟨q, hq⟩ := h.dvd g hy
  have := h.x0
  have := h.x1
  rw [Int.fmod_eq_emod_of_nonneg _ (by omega), show y = x + M * q by omega, Int.add_mul_emod_self_left, Int.emod_eq_of_lt h.x0 h.x1]
theorem Sol.fail {ps : List (Int × Int)} {x M : Int} {p : Int × Int} (g : Good ps) (h : Sol ps x M) (hn : ¬ (Int.gcd p.2 M : Int) ∣ p.1 - x) : ¬ ∃ y, Sols (ps ++ [p]) y := by
  rintro ⟨y, hy⟩
  exact hn (crt_need (h.dvd g fun z hz => hy z (List.mem_append_left _ hz)) (hy p (List.mem_append_right _ (List.mem_singleton.mpr rfl))))
theorem Sol.add {ps : List (Int × Int)} {x M y : Int} {p : Int × Int} (g : Good ps) (h : Sol ps x M) (y0 : 0 ≤ y) (y1 : y < M / (Int.gcd p.2 M : Int) * p.2) (d1 : M ∣ y - x) (d2 : p.2 ∣ y - p.1) :
    Sol (ps ++ [p]) y (M / (Int.gcd p.2 M : Int) * p.2) := by
  refine ⟨y0, y1, ?_, fun z hz => ?_⟩
  · rw [List.map_append, List.map_cons, List.map_nil, lcmL_snoc, ← h.m, Int.gcd_comm]
    rfl
  · rcases List.mem_append.mp hz with hz | hz
    · have h1 : z.2 ∣ M := by
        rw [h.m]
        exact (lcmL_dvd g.map).mp (Int.dvd_refl _) z.2 (List.mem_map_of_mem hz)
      have h2 := Int.dvd_add (Int.dvd_trans h1 d1) (h.s z hz)
      rw [show y - x + (x - z.1) = y - z.1 by omega] at h2
      exact h2
    · rw [List.mem_singleton.mp hz]
      exact d2
/-- one remainder bent: there is a number if it clashes with none -/
theorem bent_sol {ps : List (Int × Int)} (g : Good ps) {N b m : Int} {k : Nat} (hk : ps[k]? = some (b, m)) (ho : ∀ j p, ps[j]? = some p → j ≠ k → p.2 ∣ N - p.1 ∧ (Int.gcd m p.2 : Int) ∣ b - p.1) : ∃ y, Sols ps y := by
  have hm : 0 < m := g (b, m) (List.mem_of_getElem? hk)
  have hpos : ∀ n ∈ (ps.map Prod.snd).set k 1, 0 < n := by
    intro n hn
    rcases List.mem_or_eq_of_mem_set hn with h | h
    · exact g.map n h
    · omega
  have hL := lcmL_pos hpos
  have hd : (Int.gcd m (lcmL ((ps.map Prod.snd).set k 1)) : Int) ∣ N - b := by
    refine gcd_lcmL hpos fun n hn => ?_
    obtain ⟨j, hj⟩ := List.getElem?_of_mem hn
    rw [List.getElem?_set] at hj
    by_cases e : k = j
    · rw [if_pos e] at hj
      split at hj
      · rw [← Option.some.inj hj, Int.gcd_one]
        exact Int.one_dvd _
      · cases hj
    · rw [if_neg e, List.getElem?_map] at hj
      cases hp : ps[j]? with
      | none => rw [hp] at hj; cases hj
      | some p =>
        rw [hp] at hj
        cases hj
        obtain ⟨h1, h2⟩ := ho j p hp (fun x => e x.symm)
        have h3 := Int.dvd_sub (Int.dvd_trans (Int.gcd_dvd_right m p.2) h1) h2
        rw [show N - p.1 - (b - p.1) = N - b by omega] at h3
        exact h3
  obtain ⟨f, hf⟩ := bez (lcmL ((ps.map Prod.snd).set k 1)) hm
  -- from N on by the moduli of the others
  obtain ⟨q, hq⟩ := hd
  obtain ⟨u, hu⟩ := hf
  refine ⟨N - lcmL ((ps.map Prod.snd).set k 1) * (f * q), fun p hp => ?_⟩
  obtain ⟨j, hj⟩ := List.getElem?_of_mem hp
  by_cases e : j = k
  · subst e
    rw [hk] at hj
    cases hj
    show m ∣ _
    refine ⟨u * q, ?_⟩
    show N - lcmL ((ps.map Prod.snd).set j 1) * (f * q) - b = m * (u * q)
    rw [← Int.mul_assoc m, ← hu, Int.sub_mul, ← hq, Int.mul_assoc]
    omega
  · have h1 := (ho j p hj e).1
    have h2 : p.2 ∣ lcmL ((ps.map Prod.snd).set k 1) := by
      refine (lcmL_dvd hpos).mp (Int.dvd_refl _) p.2 ?_
      refine List.mem_of_getElem? (i := j) ?_
      rw [List.getElem?_set, if_neg (fun x => e x.symm), List.getElem?_map, hj]
      rfl
    have h3 := Int.dvd_sub h1 (Int.dvd_mul_of_dvd_left (c := f * q) h2)
    rw [show N - p.1 - lcmL ((ps.map Prod.snd).set k 1) * (f * q) = N - lcmL ((ps.map Prod.snd).set k 1) * (f * q) - p.1 by omega] at h3
    exact h3
/-! ### the program: common remainders -/
theorem pow_le2 {i : Int} {a b : Nat} (h : i.natAbs < 2 ^ a) (hab : a ≤ b) : i.natAbs < 2 ^ b := Nat.lt_of_lt_of_le h (Nat.pow_le_pow_right (by decide) hab)
theorem le_pow {i j : Int} {a : Nat} (h : i.natAbs ≤ j.natAbs) (hj : j.natAbs < 2 ^ a) : i.natAbs < 2 ^ a := Nat.lt_of_le_of_lt h hj
theorem wide_ok {i j m : Int} (hm : m.natAbs < 2 ^ 8000) (hi : i.natAbs ≤ m.natAbs) (hj : j.natAbs ≤ m.natAbs) : CMulW i j := wide_mul (le_pow hi hm) (le_pow hj hm) (by decide) (by decide) (by decide)
section
variable {P : Program} {w : World} {K : PySem.W.Frag} {mg : Str → Option Value} {base : Heap}
def sp_egcd : Sp := fun vs H Q _ => ∃ a m : Int, vs = [.int a, .int m] ∧ 0 < m ∧ m.natAbs < 2 ^ 8000 ∧
  ∀ t l H', H t = none → Same H H' → H' t = some (.tup [.int (Int.gcd m a : Int), .int l]) → m ∣ (Int.gcd m a : Int) - a * l → l.natAbs ≤ m.natAbs → Q (.ref t) H'
theorem ok_divisor_and_factor (T : Txt K mg w) : FnOk P w K mg base CX0 1 T.a_divisor_and_factor T.d_divisor_and_factor P_divisor_and_factor sp_egcd := by
  refine T.F_divisor_and_factor.ok sc_divisor_and_factor (fun vs H Q E h => ?_) (fun cdv A outer s H vs Q E hr h => ?_)
  · obtain ⟨a, m, rfl, _⟩ := h
    rfl
  · obtain ⟨a, m, rfl, m0, mb, q⟩ := h
    refine ⟨_, (pss_cons (ps_par (by rfl) sc_divisor_and_factor.nd (i := 2) (j := 3) rfl rfl (by decide) rfl rfl (pa_cons (pe_op op_modN (pv 0) (pv 1)) (pa_cons (pv 1) pa_nil)) (by rfl))
  (pss_cons (ps_asg (pe_tup (pa_cons pe_int (pa_cons pe_int pa_nil))) (k_gT (K := K) (n := 2) (pgs_cons (pg_name (i := 4) sc_divisor_and_factor.nd rfl (Or.inl rfl)) (pgs_cons (pg_name (i := 5) sc_divisor_and_factor.nd rfl (Or.inl rfl)) pgs_nil))))
  (pss_cons (ps_while PassesOwn.never (pt_cmpR op_ne (pv 2) pe_int (nomark _))
  (pss_cons (ps_set (i := 6) sc_divisor_and_factor.nd rfl (Or.inl rfl) (pe_op op_fdivW (pv 3) (pv 2)))
  (pss_cons (ps_par (by rfl) sc_divisor_and_factor.nd (i := 3) (j := 2) rfl rfl (by decide) rfl rfl (pa_cons (pv 2) (pa_cons (pe_op op_sub (pv 3) (pe_op op_mulW (pv 6) (pv 2))) pa_nil)) (by rfl))
  (pss_one (ps_par (by rfl) sc_divisor_and_factor.nd (i := 5) (j := 4) rfl rfl (by decide) rfl rfl (pa_cons (pv 4) (pa_cons (pe_op op_sub (pv 5) (pe_op op_mulW (pv 6) (pv 4))) pa_nil)) (by rfl))))))
  (pss_one (ps_ret (pe_tup (pa_cons (pv 3) (pa_cons (pv 5) pa_nil)))))))), ?_⟩
    have mne : m ≠ 0 := by omega
    refine ⟨_, rfl, _, rfl, _, _, rfl, rfl, mne, _, rfl, _, _, rfl, ?_⟩
    refine ⟨by show 2 ≤ sizeLine; decide, fun t0 nt0 => ?_⟩
    refine ⟨t0, [.int 1, .int 0], rfl, .inl (.inl upd_same), rfl, _, _, rfl, _, _, rfl, rfl, ?_⟩
    have s0 : Same H (upd H t0 (.tup [.int 1, .int 0])) := same_new nt0
    refine ⟨fun k σ' H' => ∃ r d f l y6, Euc a m r d f l ∧ d ≤ m ∧ k = r.toNat ∧ Same H H' ∧ σ' = [some (.int a), some (.int m), some (.int r), some (.int d), some (.int f), some (.int l), y6], ⟨_, _, _, _, _, none, Euc.start m0, Int.le_refl _, rfl, s0, rfl⟩, fun k σ' H' hW => ?_⟩
    obtain ⟨r, d, f, l, y6, hE, hdm, rfl, hH, rfl⟩ := hW
    have r0 := hE.r0
    have rd := hE.rd
    refine ⟨_, rfl, rfl, _, rfl, ?_⟩
    refine iteNE (fun ne => ?_) (fun e => ?_)
    · have hS := hE.step ne
      refine ⟨fun σ2 H2 => ∃ m', m' < r.toNat ∧ ∃ r d f l y6, Euc a m r d f l ∧ d ≤ m ∧ m' = r.toNat ∧ Same H H2 ∧ σ2 = [some (.int a), some (.int m), some (.int r), some (.int d), some (.int f), some (.int l), y6], fun σ2 H2 h => h, ?_⟩
      have g1 : CDivW d r := div_ok (by omega) (show r.natAbs < 2 ^ 8000 from le_pow (by omega) mb)
      have q0 : 0 ≤ d / r := Int.ediv_nonneg (by omega) r0
      have qd : (d / r).natAbs ≤ m.natAbs := by
        have := Int.natAbs_ediv_le_natAbs d r
        omega
      have fm : f.natAbs ≤ m.natAbs := by
        have h1 := hE.fd
        have h2 : f.natAbs * 1 ≤ f.natAbs * d.natAbs := Nat.mul_le_mul_left _ (by omega)
        omega
      have g2 : CMulW (d / r) r := wide_ok mb qd (by omega)
      have g3 : CMulW (d / r) f := wide_ok mb qd fm
      have lt : (d - d / r * r).toNat < r.toNat := by
        have := hS.r0
        have := hS.rd
        omega
      have rm : r ≤ m := by omega
      clear mb
      repeat first | walk_at "rdt" | walk_at "two"
      exact ⟨_, lt, _, _, _, _, _, hS, rm, rfl, hH, rfl⟩
    · subst e
      obtain ⟨e1, e2, e3⟩ := hE.done
      subst e1
      walk_at "rds"
      intro t nt
      exact q t l _ (hH.free nt) (Same.new hH nt) upd_same e2 e3
end
theorem fmod_zero {a : Int} {k : Int} (hk : 0 < k) : a.fmod k = 0 ↔ k ∣ a := by
  rw [Int.fmod_eq_emod_of_nonneg _ (by omega)]
  exact ⟨Int.dvd_of_emod_eq_zero, Int.emod_eq_zero_of_dvd⟩
section
variable {P : Program} {w : World} {K : PySem.W.Frag} {mg : Str → Option Value} {base : Heap}
def sp_both (K : PySem.W.Frag) : Sp := fun vs H Q _ => ∃ (p q : Addr) (r m s n : Int), vs = [.ref p, .ref q] ∧ SqT K H p [.int r, .int m] ∧ SqT K H q [.int s, .int n] ∧
  0 < m ∧ 0 < n ∧ 0 ≤ r ∧ r < m ∧ 0 ≤ s ∧ s < n ∧ m.natAbs < 2 ^ 4000 ∧ n.natAbs < 2 ^ 4000 ∧
  (∀ H', Same H H' → ¬ (Int.gcd n m : Int) ∣ s - r → Q .non H') ∧
  (∀ t x H', H t = none → Same H H' → H' t = some (.tup [.int x, .int (m / (Int.gcd n m : Int) * n)]) → 0 ≤ x → x < m / (Int.gcd n m : Int) * n → m ∣ x - r → n ∣ x - s → Q (.ref t) H')
theorem ok_both_remainders (T : Txt K mg w) : FnOk P w K mg base CX0 2 T.a_both_remainders T.d_both_remainders P_both_remainders (sp_both K) := by
  refine T.F_both_remainders.ok sc_both_remainders (fun vs H Q E h => ?_) (fun cdv A outer s H vs Q E hr h => ?_)
  · obtain ⟨p, q, r, m, s, n, rfl, _⟩ := h
    rfl
  · obtain ⟨p, q, r, m, u, n, rfl, hp, hq, m0, n0, r0, r1, u0, u1, mb, nb, qn, qy⟩ := h
    have G_divisor_and_factor := ok_divisor_and_factor (P := P) (w := w) (base := base) T
    refine ⟨_, (pss_cons (ps_asg (pv 0) (k_gT (K := K) (n := 2) (pgs_cons (pg_name (i := 2) sc_both_remainders.nd rfl (Or.inl rfl)) (pgs_cons (pg_name (i := 3) sc_both_remainders.nd rfl (Or.inl rfl)) pgs_nil))))
  (pss_cons (ps_asg (pv 1) (k_gT (K := K) (n := 2) (pgs_cons (pg_name (i := 4) sc_both_remainders.nd rfl (Or.inl rfl)) (pgs_cons (pg_name (i := 5) sc_both_remainders.nd rfl (Or.inl rfl)) pgs_nil))))
  (pss_cons (ps_asg (pe_call G_divisor_and_factor (hr.mono (by decide)) (by rfl) T.g_divisor_and_factor T.F_divisor_and_factor.kp T.b_divisor_and_factor .nil pass0 (pa_cons (pv 3) (pa_cons (pv 5) pa_nil))) (k_gT (K := K) (n := 2) (pgs_cons (pg_name (i := 6) sc_both_remainders.nd rfl (Or.inl rfl)) (pgs_cons (pg_name (i := 7) sc_both_remainders.nd rfl (Or.inl rfl)) pgs_nil))))
  (pss_cons (ps_if (pt_cmpR op_ne (pe_op op_modN (pe_op op_sub (pv 4) (pv 2)) (pv 6)) pe_int (nomark _))
  (pss_one (ps_ret pe_non)) pss_nil)
  (pss_cons (ps_set (i := 8) sc_both_remainders.nd rfl (Or.inl rfl) (pe_op op_modN (pe_op op_mulW (pe_op op_fdivW (pe_op op_sub (pv 4) (pv 2)) (pv 6)) (pv 7)) (pe_op op_fdivW (pv 5) (pv 6))))
  (pss_one (ps_ret (pe_tup (pa_cons (pe_op op_add (pv 2) (pe_op op_mulW (pv 3) (pv 8))) (pa_cons (pe_op op_mulW (pe_op op_fdivW (pv 3) (pv 6)) (pv 5)) pa_nil)))))))))), ?_⟩
    refine ⟨_, rfl, _, _, rfl, hp, rfl, _, _, rfl, _, _, rfl, rfl, ?_⟩
    refine ⟨_, rfl, _, _, rfl, hq, rfl, _, _, rfl, _, _, rfl, rfl, ?_⟩
    refine ⟨_, rfl, _, rfl, m, n, rfl, n0, pow_le2 nb (by decide), fun t l H1 nt s1 e1 hd hl => ?_⟩
    refine ⟨_, _, rfl, .inl (.inl e1), rfl, _, _, rfl, _, _, rfl, rfl, ?_⟩
    have g0 : (0 : Int) < (Int.gcd n m : Int) := gcd_pos m0
    have gm : ((Int.gcd n m : Int)).natAbs ≤ n.natAbs := Nat.le_of_dvd (by omega) (by
      show Int.gcd n m ∣ n.natAbs
      exact Nat.gcd_dvd_left _ _)
    have gdn : (Int.gcd n m : Int) ∣ n := Int.gcd_dvd_left ..
    have gb : ((Int.gcd n m : Int)).natAbs < 2 ^ 4000 := le_pow gm nb
    have hcrt := fun hz => crt_two m0 n0 r0 r1 hd (s := u) hz
    have gne : (Int.gcd n m : Int) ≠ 0 := by omega
    have cg : ∀ z, CDivW z (Int.gcd n m : Int) := fun z => div_ok g0 (pow_le2 gb (by decide))
    have nq : 0 < n / (Int.gcd n m : Int) := Int.ediv_pos_of_pos_of_dvd n0 (Int.le_of_lt g0) gdn
    have nqne : n / (Int.gcd n m : Int) ≠ 0 := Int.ne_of_gt nq
    have nql : (n / (Int.gcd n m : Int)).natAbs ≤ n.natAbs := Int.natAbs_ediv_le_natAbs _ _
    have mql : (m / (Int.gcd n m : Int)).natAbs ≤ m.natAbs := Int.natAbs_ediv_le_natAbs _ _
    have c2 : CMulW (m / (Int.gcd n m : Int)) n := wide_mul (le_pow mql mb) nb (by decide) (by decide) (by decide)
    have ub : ((u - r) / (Int.gcd n m : Int)).natAbs < 2 ^ 4001 := by
      refine Nat.lt_of_le_of_lt (Int.natAbs_ediv_le_natAbs _ _) ?_
      have x1 : (u - r).natAbs < m.natAbs + n.natAbs := by omega
      rw [Nat.pow_succ]
      clear gb
      generalize 2 ^ 4000 = z at *
      omega
    have c1 : CMulW ((u - r) / (Int.gcd n m : Int)) l := wide_mul ub (le_pow hl nb) (by decide) (by decide) (by decide)
    generalize (Int.gcd n m : Int) = g at *
    have c3 : CMulW m (((u - r) / g * l).fmod (n / g)) := by
      have y0 := fmod_lo ((u - r) / g * l) nq
      have y1 := fmod_hi ((u - r) / g * l) nq
      refine wide_mul mb (le_pow (j := n) ?_ nb) (by decide) (by decide) (by decide)
      clear mb nb gb ub
      omega
    clear mb nb gb ub
    repeat first | walk_at "rdt" | walk_at "two"
    refine iteNE (fun ne => ?_) (fun e => ?_)
    · refine qn _ s1 fun hdv => ne ?_
      exact (fmod_zero g0).mpr hdv
    · obtain ⟨a1, a2, a3, a4⟩ := hcrt ((fmod_zero g0).mp e)
      have cg1 := cg (u - r)
      have cg2 := cg n
      have cg3 := cg m
      repeat first | walk_at "rdt" | walk_at "two"
      intro t2 nt2
      exact qy t2 _ _ (s1.free nt2) (Same.new s1 nt2) upd_same a1 a2 a3 a4
end
section
variable {P : Program} {w : World} {K : PySem.W.Frag} {mg : Str → Option Value} {base : Heap}
/-- pairs of numbers lie in a list -/
def Prs (K : PySem.W.Frag) (H : Hp) (xs : List V) (ps : List (Int × Int)) : Prop :=
  xs.length = ps.length ∧ ∀ (i : Nat) (p : Int × Int), ps[i]? = some p → ∃ a, xs[i]? = some (.ref a) ∧ SqT K H a [.int p.1, .int p.2]
theorem Prs.same {H H' : Hp} {xs : List V} {ps : List (Int × Int)} (h : Prs K H xs ps) (e : Same H H') : Prs K H' xs ps :=
  ⟨h.1, fun i p hp => by
    obtain ⟨a, h1, h2⟩ := h.2 i p hp
    exact ⟨a, h1, Same.tup e h2⟩⟩
def Rem (ps : List (Int × Int)) : Prop := ∀ p ∈ ps, 0 < p.2 ∧ 0 ≤ p.1 ∧ p.1 < p.2
def sp_common (K : PySem.W.Frag) : Sp := fun vs H Q _ => ∃ (a : Addr) (xs : List V) (ps : List (Int × Int)) (B : Nat), vs = [.ref a] ∧ SqL K H a xs ∧ Prs K H xs ps ∧ Rem ps ∧ 0 < B ∧ (∀ p ∈ ps, p.2.natAbs < 2 ^ B) ∧ ps.length * B + B + 1 ≤ 4000 ∧
  (∀ H', Same H H' → (¬ ∃ y, Sols ps y) → Q .non H') ∧
  (∀ t x H', H t = none → Same H H' → H' t = some (.tup [.int x, .int (lcmL (ps.map Prod.snd))]) → Sol ps x (lcmL (ps.map Prod.snd)) → Q (.ref t) H')
theorem ok_common_rounds (T : Txt K mg w) : FnOk P w K mg base CX0 3 T.a_common_rounds T.d_common_rounds P_common_rounds (sp_common K) := by
  refine T.F_common_rounds.ok sc_common_rounds (fun vs H Q E h => ?_) (fun cdv A outer s H vs Q E hr h => ?_)
  · obtain ⟨a, xs, ps, B, rfl, _⟩ := h
    rfl
  · obtain ⟨a, xs, ps, B, rfl, hx, hp, hR, b0, hB, hl, qn, qy⟩ := h
    have G_both_remainders := ok_both_remainders (P := P) (w := w) (base := base) T
    refine ⟨_, (pss_cons (ps_for PassesOwn.never rfl (k_enum (K := K) (pa_cons (pv 0) pa_nil) T.m_enumerate) (k_gT (K := K) (n := 2) (pgs_cons (pg_name (i := 1) sc_common_rounds.nd rfl (Or.inl rfl)) (pgs_cons (k_gT (K := K) (n := 2) (pgs_cons (pg_name (i := 2) sc_common_rounds.nd rfl (Or.inl rfl)) (pgs_cons (pg_name (i := 3) sc_common_rounds.nd rfl (Or.inl rfl)) pgs_nil))) pgs_nil)))
  (pss_one (ps_if (PW.pt (pw_or (pt_cmpR op_lt (pv 3) pe_int (nomark _)) (pw_or (pt_cmpR op_lt (pv 2) pe_int (nomark _)) (pw_or1 (pt_cmpR op_ge (pv 2) (pv 3) (nomark _))))))
  (pss_one ps_never) pss_nil)))
  (pss_cons (ps_set (i := 4) sc_common_rounds.nd rfl (Or.inl rfl) (pe_tup (pa_cons pe_int (pa_cons pe_int pa_nil))))
  (pss_cons (ps_for PassesOwn.never rfl (k_piL (K := K) (pv 0)) (pg_name (i := 5) sc_common_rounds.nd rfl (Or.inl rfl))
  (pss_cons (ps_set (i := 4) sc_common_rounds.nd rfl (Or.inl rfl) (pe_call G_both_remainders (hr.mono (by decide)) (by rfl) T.g_both_remainders T.F_both_remainders.kp T.b_both_remainders .nil pass0 (pa_cons (pv 4) (pa_cons (pv 5) pa_nil))))
  (pss_one (ps_if (pt_cmpR op_isN (pv 4) pe_non (nomark _))
  (pss_one (ps_ret pe_non)) pss_nil))))
  (pss_one (ps_ret (pv 4)))))), ?_⟩
    refine ⟨_, rfl, a, xs, rfl, hx, for_by (n := xs.length) (fun i σ H' => Same H H' ∧ ∃ y1 y2 y3, σ = [some (.ref a), y1, y2, y3, none, none]) ⟨Same.refl H, none, none, none, rfl⟩
      (fun i σ H' hi hp => ⟨xs, xs[i], hp.1.seq hx, List.getElem?_eq_getElem hi⟩) (fun σ H' hp => ⟨xs, hp.1.seq hx, Nat.le_refl _⟩) (fun i σ H' v H2 hi hq hv => ?_) (fun σ H' hq => ?_)⟩
    · obtain ⟨t, x, rfl, nt, rfl, f1⟩ := hv
      obtain ⟨hq1, y1, y2, y3, rfl⟩ := hq
      have gx := f1 xs (hq1.seq hx)
      have hi' : i < ps.length := by rw [← hp.1]; exact hi
      obtain ⟨c, hc1, hc2⟩ := hp.2 i ps[i] (List.getElem?_eq_getElem hi')
      rw [gx] at hc1
      cases hc1
      obtain ⟨e1, e2, e3⟩ := hR ps[i] (List.getElem_mem hi')
      have s2 : Same H (upd H' t (.tup [.int (i : Nat), .ref c])) := Same.new hq1 nt
      refine ⟨t, [.int (i : Nat), .ref c], rfl, .inl (.inl upd_same), rfl, _, _, rfl, _, _, rfl, ?_⟩
      refine ⟨c, _, rfl, Same.tup s2 hc2, rfl, _, _, rfl, _, _, rfl, rfl, ?_⟩
      generalize ps[i] = pp at *
      refine ⟨rfl, ?_⟩
      walk_at "rds"
      refine iteD (fun h => by omega) (fun _ => ?_)
      walk_at "rds"
      refine iteD (fun h => by omega) (fun _ => ?_)
      walk_at "rds"
      refine iteD (fun h => by omega) (fun _ => ?_)
      exact ⟨s2, _, _, _, rfl⟩
    · obtain ⟨hq1, y1, y2, y3, rfl⟩ := hq
      refine ⟨by show 2 ≤ sizeLine; decide, fun t0 nt0 => ?_⟩
      have s0 := Same.new (o := .tup [.int 0, .int 1]) hq1 nt0
      refine ⟨_, rfl, a, rfl, ⟨_, s0.seq hx⟩, for_list (xs := xs) (fun i σ H2 => Same H H2 ∧ ∃ (t : Addr) (x M : Int) (z5 : Option V), H t = none ∧ H2 t = some (.tup [.int x, .int M]) ∧ Sol (ps.take i) x M ∧ M.natAbs < 2 ^ (i * B + 1) ∧ σ = [some (.ref a), y1, y2, y3, some (.ref t), z5])
        ⟨s0, t0, 0, 1, none, hq1.free nt0, upd_same, Sol.none, by rw [Nat.zero_mul]; decide, rfl⟩ (fun i σ H2 _ hz => hz.1.seq hx) (fun i x σ H2 hi hz => ?_) (fun σ H2 hz => ?_)⟩
      · obtain ⟨h2, t, x1, M, z5, nt, ht, hS, hM, rfl⟩ := hz
        have hi1 : i < xs.length := (List.getElem?_eq_some_iff.mp hi).1
        have hi' : i < ps.length := by rw [← hp.1]; exact hi1
        have hg := List.getElem?_eq_getElem hi'
        obtain ⟨c, hc1, hc2⟩ := (hp.same h2).2 i ps[i] hg
        rw [hi] at hc1
        cases hc1
        obtain ⟨e1, e2, e3⟩ := hR ps[i] (List.getElem_mem hi')
        have eB := hB ps[i] (List.getElem_mem hi')
        have gd : Good (ps.take i) := fun p h => (hR p (List.mem_of_mem_take h)).1
        have et : ps.take (i + 1) = ps.take i ++ [ps[i]] := by rw [List.take_add_one, hg]; rfl
        generalize ps[i] = pp at *
        have x0 := hS.x0
        have x2 := hS.x1
        have M0 : 0 < M := by omega
        have ib : i * B + B ≤ ps.length * B := by
          have := Nat.mul_le_mul_right B (show i + 1 ≤ ps.length from hi')
          rw [Nat.add_mul, Nat.one_mul] at this
          exact this
        refine ⟨_, rfl, _, rfl, t, c, x1, M, pp.1, pp.2, rfl, .inl (.inl ht), hc2, M0, e1, x0, x2, e2, e3, pow_le2 hM (by omega), pow_le2 eB (by omega), fun H3 s3 hn => ?_, fun t2 y H3 nt2 s3 ht2 y0 y1 d1 d2 => ?_⟩
        · walk_at "rds"
          refine qn H3 (h2.trans s3) fun ⟨y, hy⟩ => hS.fail gd hn ⟨y, fun p hpm => hy p ?_⟩
          rw [← et] at hpm
          exact List.mem_of_mem_take hpm
        · walk_at "rds"
          refine ⟨h2.trans s3, t2, y, _, some (.ref c), h2.free nt2, ht2, et ▸ hS.add gd y0 y1 d1 d2, ?_, rfl⟩
          rw [show (i + 1) * B + 1 = (i * B + 1) + B by rw [Nat.add_mul]; omega, Nat.pow_add]
          refine Nat.lt_of_le_of_lt ?_ (Nat.mul_lt_mul'' hM eB)
          rw [Int.natAbs_mul]
          exact Nat.mul_le_mul_right _ (Int.natAbs_ediv_le_natAbs _ _)
      · obtain ⟨h2, t, x1, M, z5, nt, ht, hS, hM, rfl⟩ := hz
        rw [hp.1, List.take_length] at hS
        have eM := hS.m
        subst eM
        exact ⟨_, rfl, qy t x1 H2 nt h2 ht hS⟩
end
/-! ### the law's choices -/
theorem But.seq {K : PySem.W.Frag} {b t : Addr} {H H' : Hp} {xs : List V} (x : But b H H') (n : t ≠ b) (h : SqL K H t xs) : SqL K H' t xs := by
  rcases h with (h | ⟨o, h⟩) | h
  · exact .inl (.inl (x _ _ n h))
  · exact .inl (.inr ⟨o, x _ _ n h⟩)
  · exact .inr h
theorem Bag.obj {H : Hp} {b l : Addr} (x : Bag H b l) : ∃ xs, H b = some (.lst xs) := by
  obtain ⟨cs, i, hh, s, y⟩ := x
  exact ⟨_, y.at_⟩
/-- tuples stay when the bag changes -/
theorem But.tup {K : PySem.W.Frag} {b l t : Addr} {H H' : Hp} {xs : List V} (x : But b H H') (hB : Bag H b l) (h : SqT K H t xs) : SqT K H' t xs := by
  obtain ⟨ys, hb⟩ := hB.obj
  rcases h with (h | ⟨o, h⟩) | h
  · exact .inl (.inl (x _ _ (ne_of h hb (by intro z; cases z)) h))
  · exact .inl (.inr ⟨o, x _ _ (ne_of h hb (by intro z; cases z)) h⟩)
  · exact .inr h
section
variable {P : Program} {w : World} {K : PySem.W.Frag} {mg : Str → Option Value} {base : Heap}
def sp_of (K : PySem.W.Frag) : Sp := fun vs H Q _ => ∃ (b l t : Addr) (xs : List V), vs = [.ref b, .ref t] ∧ Bag H b l ∧ SqL K H t xs ∧ t ≠ b ∧ 0 < xs.length ∧ xs.length ≤ 1000 ∧
  ∀ (i : Nat) (x : V) H', xs[i]? = some x → Bag H' b l → But b H H' → Q x H'
theorem ok__law_of (T : Txt K mg w) : FnOk P w K mg base CX0 2 T.a__law_of T.d__law_of P__law_of (sp_of K) := by
  have G__law_pull := ok__law_pull (P := P) (w := w) (base := base) T
  refine T.F__law_of.ok sc__law_of (fun vs H Q E h => ?_) (fun cdv A outer s H vs Q E hr h => ?_)
  · obtain ⟨b, l, t, xs, rfl, _⟩ := h
    rfl
  · obtain ⟨b, l, t, xs, rfl, hB, ht, nt, x0, x1, q⟩ := h
    refine ⟨_, (pss_one (ps_ret (pe_ix (k_ixL (K := K)) (pv 1) (pe_call G__law_pull (hr.mono (by decide)) (by rfl) T.g__law_pull T.F__law_pull.kp T.b__law_pull .nil pass0 (pa_cons (pv 0) (pa_cons (pe_callB (k_len (K := K)) (by rfl) T.m_len boot_len (pa_cons (pv 1) pa_nil)) pa_nil))) (fun _ _ => rfl)))), ?_⟩
    walk_at "rds"
    refine ⟨b, l, _, rfl, hB, by omega, Fit.of (by omega) (by omega), fun r H2 r0 r1 hB2 b2 => ?_⟩
    have hi : r.toNat < xs.length := by omega
    have hx : atI xs r = some xs[r.toNat] := at_of (j := r.toNat) (by omega) (List.getElem?_eq_getElem hi)
    exact ⟨t, xs, r, xs[r.toNat], rfl, rfl, b2.seq nt ht, hx, q r.toNat _ H2 (List.getElem?_eq_getElem hi) hB2 b2⟩
end
/-! ### the law's own reckoning -/
section
variable {P : Program} {w : World} {K : PySem.W.Frag} {mg : Str → Option Value} {base : Heap}
theorem gcd_step {x y : Int} (hx : 0 ≤ x) (hy : 0 < y) : Int.gcd y (x.fmod y) = Int.gcd x y := by
  rw [Int.fmod_eq_emod_of_nonneg _ (by omega), gcd_mod, Int.gcd_comm]
def sp_gcd : Sp := fun vs H Q _ => ∃ a b : Int, vs = [.int a, .int b] ∧ Q (.int (Int.gcd a b : Int)) H
theorem ok__law_gcd (T : Txt K mg w) : FnOk P w K mg base CX0 1 T.a__law_gcd T.d__law_gcd P__law_gcd sp_gcd := by
  refine T.F__law_gcd.ok sc__law_gcd (fun vs H Q E h => ?_) (fun cdv A outer s H vs Q E hr h => ?_)
  · obtain ⟨a, b, rfl, _⟩ := h
    rfl
  · obtain ⟨a, b, rfl, q⟩ := h
    refine ⟨_, (pss_cons (ps_par (by rfl) sc__law_gcd.nd (i := 0) (j := 1) rfl rfl (by decide) rfl rfl (pa_cons (pe_callB call_abs (by rfl) T.m_abs boot_abs (pa_cons (pv 0) pa_nil)) (pa_cons (pe_callB call_abs (by rfl) T.m_abs boot_abs (pa_cons (pv 1) pa_nil)) pa_nil)) (by rfl))
  (pss_cons (ps_while PassesOwn.never (pt_cmpR op_ne (pv 1) pe_int (nomark _))
  (pss_one (ps_par (by rfl) sc__law_gcd.nd (i := 0) (j := 1) rfl rfl (by decide) rfl rfl (pa_cons (pv 1) (pa_cons (pe_op op_modN (pe_callTy call_int1 (by rfl) T.m_int boot_int (pa_cons (pv 0) pa_nil)) (pv 1)) pa_nil)) (by rfl))))
  (pss_one (ps_ret (pv 0))))), ?_⟩
    walk_at "rds"
    walk_at "two"
    refine ⟨fun m σ' H' => ∃ x y : Int, 0 ≤ x ∧ 0 ≤ y ∧ m = y.toNat ∧ σ' = [some (.int x), some (.int y)] ∧ H' = H ∧ Int.gcd x y = Int.gcd a b,
      ⟨_, (if a < 0 then -a else a), (if b < 0 then -b else b), by split <;> omega, by split <;> omega, rfl, rfl, rfl, ?_⟩, fun m σ' H' hW => ?_⟩
    · have e1 : ∀ z : Int, (if z < 0 then -z else z).natAbs = z.natAbs := fun z => by split <;> omega
      show Nat.gcd _ _ = Nat.gcd _ _
      rw [e1, e1]
    · obtain ⟨x, y, hx, hy, rfl, rfl, rfl, hg⟩ := hW
      refine ⟨_, rfl, rfl, _, rfl, ?_⟩
      refine iteNE (fun ne => ?_) (fun e => ?_)
      · have hy' : 0 < y := by omega
        refine ⟨fun σ2 H2 => σ2 = [some (.int y), some (.int (x.fmod y))] ∧ H2 = H', fun σ2 H2 h2 => ?_, ?_⟩
        · obtain ⟨rfl, rfl⟩ := h2
          have h1 := fmod_lo x hy'
          have h2 := fmod_hi x hy'
          exact ⟨(x.fmod y).toNat, by omega, y, _, hy, h1, rfl, rfl, rfl, by rw [gcd_step hx hy', hg]⟩
        · repeat first | walk_at "rdt" | walk_at "two"
          first | exact rfl | exact ⟨rfl, rfl⟩
      · subst e
        refine ⟨_, rfl, ?_⟩
        have hx2 : (x : Int) = (Int.gcd a b : Int) := by
          rw [← hg, Int.gcd_zero_right]
          omega
        rw [hx2]
        exact q
def sp_lcm (K : PySem.W.Frag) : Sp := fun vs H Q _ => ∃ (p : Addr) (ns : List Int), vs = [.ref p] ∧ SqL K H p (ns.map V.int) ∧ (∀ n ∈ ns, 0 < n ∧ n.natAbs < 2 ^ 2000) ∧ ns.length ≤ 9 ∧ Q (.int (lcmL ns)) H
theorem lcmL_take {ns : List Int} (h : ∀ n ∈ ns, 0 < n ∧ n.natAbs < 2 ^ 2000) : ∀ i, i ≤ ns.length → 0 < lcmL (ns.take i) ∧ (lcmL (ns.take i)).natAbs < 2 ^ (2000 * i + 1)
  | 0, _ => by
    rw [List.take_zero]
    show (0 : Int) < 1 ∧ (1 : Int).natAbs < 2 ^ (0 + 1)
    exact ⟨by decide, by decide⟩
  | i + 1, hi => by
    obtain ⟨h1, h2⟩ := lcmL_take h i (by omega)
    have hi' : i < ns.length := by omega
    obtain ⟨n1, n2⟩ := h ns[i] (List.getElem_mem hi')
    have e : lcmL (ns.take (i + 1)) = lcmI (lcmL (ns.take i)) ns[i] := by
      unfold lcmL
      rw [List.take_add_one, List.getElem?_eq_getElem hi', List.foldl_append]
      rfl
    rw [e]
    refine ⟨lcmI_pos h1 n1, Nat.lt_of_le_of_lt (lcmI_le h1 n1) ?_⟩
    rw [show 2000 * (i + 1) + 1 = 2000 * i + 1 + 2000 by omega, Nat.pow_add]
    exact Nat.mul_lt_mul'' h2 n2
theorem ok__law_lcm (T : Txt K mg w) : FnOk P w K mg base CX0 2 T.a__law_lcm T.d__law_lcm P__law_lcm (sp_lcm K) := by
  refine T.F__law_lcm.ok sc__law_lcm (fun vs H Q E h => ?_) (fun cdv A outer s H vs Q E hr h => ?_)
  · obtain ⟨p, ns, rfl, _⟩ := h
    rfl
  · obtain ⟨p, ns, rfl, hS, hn, hl, q⟩ := h
    have G__law_gcd := ok__law_gcd (P := P) (w := w) (base := base) T
    refine ⟨_, (pss_cons (ps_set (i := 1) sc__law_lcm.nd rfl (Or.inl rfl) pe_int)
  (pss_cons (ps_for PassesOwn.never rfl (k_piL (K := K) (pv 0)) (pg_name (i := 2) sc__law_lcm.nd rfl (Or.inl rfl))
  (pss_one (ps_set (i := 1) sc__law_lcm.nd rfl (Or.inl rfl) (pe_op op_mulW (pe_op op_fdivW (pv 1) (pe_call G__law_gcd (hr.mono (by decide)) (by rfl) T.g__law_gcd T.F__law_gcd.kp T.b__law_gcd .nil pass0 (pa_cons (pv 1) (pa_cons (pv 2) pa_nil)))) (pv 2)))))
  (pss_one (ps_ret (pv 1))))), ?_⟩
    refine ⟨.ref p, rfl, p, rfl, ⟨_, hS⟩, for_list (xs := ns.map V.int) (fun i σ H' => H' = H ∧ ∃ y, σ = [some (.ref p), some (.int (lcmL (ns.take i))), y]) ⟨rfl, none, rfl⟩
      (fun i σ H' _ hp => by rw [hp.1]; exact hS) (fun i x σ H' hx hp => ?_) (fun σ H' hp => ?_)⟩
    · obtain ⟨rfl, y, rfl⟩ := hp
      rw [List.getElem?_map] at hx
      cases hg : ns[i]? with
      | none =>
        rw [hg] at hx
        cases hx
      | some n =>
        rw [hg] at hx
        have ex : V.int n = x := Option.some.inj hx
        subst ex
        have hi : i < ns.length := (List.getElem?_eq_some_iff.mp hg).1
        obtain ⟨c1, c2⟩ := lcmL_take hn i (Nat.le_of_lt hi)
        obtain ⟨n1, n2⟩ := hn n (List.mem_of_getElem? hg)
        have e : lcmL (ns.take (i + 1)) = lcmI (lcmL (ns.take i)) n := by
          unfold lcmL
          rw [List.take_add_one, hg, List.foldl_append]
          rfl
        have g1 := gcd_pos (m := lcmL (ns.take i)) n1
        have g2 : ((Int.gcd (lcmL (ns.take i)) n : Int)).natAbs < 2 ^ 2000 := Nat.lt_of_le_of_lt (Nat.le_of_dvd (by omega) (by
          show Int.gcd (lcmL (ns.take i)) n ∣ n.natAbs
          exact Nat.gcd_dvd_right _ _)) n2
        refine ⟨_, rfl, _, rfl, _, rfl, _, _, rfl, _, _, rfl, rfl, wide_div g1 g2 (by decide) (by decide), _, rfl, _, _, rfl, rfl, ?_, ?_⟩
        · refine wide_mul (a := 2000 * i + 1) (b := 2000) (Nat.lt_of_le_of_lt ?_ c2) n2 (by omega) (by decide) (by omega)
          exact Int.natAbs_ediv_le_natAbs _ _
        · refine ⟨rfl, some (.int n), ?_⟩
          rw [e]
          rfl
    · obtain ⟨rfl, y, rfl⟩ := hp
      rw [List.length_map, List.take_length]
      exact ⟨_, rfl, q⟩
def sp_modulus : Sp := fun vs H Q _ => ∃ (b l : Addr) (f : Int), vs = [.ref b, .int f] ∧ Bag H b l ∧ 0 < f ∧ f ≤ 60 ∧
  ∀ (r : Int) H', 0 < r → r.natAbs < 2 ^ 110 → Bag H' b l → But b H H' → Q (.int r) H'
theorem ok__law_modulus (T : Txt K mg w) : FnOk P w K mg base CX0 3 T.a__law_modulus T.d__law_modulus P__law_modulus sp_modulus := by
  have G__law_pull := ok__law_pull (P := P) (w := w) (base := base) T
  have G__law_of := ok__law_of (P := P) (w := w) (base := base) T
  refine T.F__law_modulus.ok sc__law_modulus (fun vs H Q E h => ?_) (fun cdv A outer s H vs Q E hr h => ?_)
  · obtain ⟨b, l, f, rfl, _⟩ := h
    rfl
  · obtain ⟨b, l, f, rfl, hB, f0, f1, q⟩ := h
    refine ⟨_, (pss_cons (ps_set (i := 2) sc__law_modulus.nd rfl (Or.inl rfl) (pe_op op_add pe_int (pe_call G__law_pull (hr.mono (by decide)) (by rfl) T.g__law_pull T.F__law_pull.kp T.b__law_pull .nil pass0 (pa_cons (pv 0) (pa_cons (pe_call G__law_of (hr.mono (by decide)) (by rfl) T.g__law_of T.F__law_of.kp T.b__law_of .nil pass0 (pa_cons (pv 0) (pa_cons (pe_lst (pa_cons pe_int (pa_cons (pe_op op_pow pe_int pe_int) (pa_cons (pe_op op_pow pe_int pe_int) pa_nil)))) pa_nil))) pa_nil)))))
  (pss_one (ps_ret (pe_op op_mulW (pv 2) (pe_call G__law_of (hr.mono (by decide)) (by rfl) T.g__law_of T.F__law_of.kp T.b__law_of .nil pass0 (pa_cons (pv 0) (pa_cons (pe_lst (pa_cons pe_int (pa_cons (pv 1) pa_nil))) pa_nil))))))), ?_⟩
    have cp9 : CPow 10 9 := ⟨by decide, by decide, by decide⟩
    have cp28 : CPow 10 28 := ⟨by decide, by decide, by decide⟩
    repeat first | walk_at "rdt" | walk_at "two"
    intro t nt
    have nb := hB.ne nt
    have nl := hB.nl nt
    have hB1 := hB.same (same_new (o := .lst [.int 9, .int (10 ^ (9 : Int).toNat), .int (10 ^ (28 : Int).toNat)]) nt)
    refine ⟨b, l, t, _, rfl, hB1, .inl (.inl upd_same), nb, by decide, by decide, fun i x H2 hx hB2 b2 => ?_⟩
    have hxx : ∃ z : Int, x = .int z ∧ 0 < z ∧ z ≤ 10000000000000000000000000000 := by
      match i, hx with
      | 0, hx => cases hx; exact ⟨9, rfl, by decide, by decide⟩
      | 1, hx => cases hx; exact ⟨_, rfl, by decide, by decide⟩
      | 2, hx => cases hx; exact ⟨_, rfl, by decide, by decide⟩
    obtain ⟨z, rfl, z0, z1⟩ := hxx
    refine ⟨b, l, z, rfl, hB2, z0, Fit.of (by omega) (by omega), fun r H3 r0 r1 hB3 b3 => ?_⟩
    repeat first | walk_at "rdt" | walk_at "two"
    intro t2 nt2
    have nb2 := hB3.ne nt2
    have hB4 := hB3.same (same_new (o := .lst [.int 1, .int f]) nt2)
    refine ⟨b, l, t2, [.int 1, .int f], rfl, hB4, .inl (.inl upd_same), nb2, Nat.zero_lt_succ _, by show 2 ≤ 1000; decide, fun i x H5 hx hB5 b5 => ?_⟩
    have hxx : ∃ g : Int, x = .int g ∧ 0 < g ∧ g ≤ 60 := by
      match i, hx with
      | 0, hx => cases hx; exact ⟨1, rfl, by decide, by decide⟩
      | 1, hx => cases hx; exact ⟨_, rfl, f0, f1⟩
    obtain ⟨g, rfl, g0, g1⟩ := hxx
    have c1 : CMulW (1 + r) g := mul_ok (small_abs (by omega)) (small_abs (by omega))
    refine ⟨_, _, rfl, rfl, c1, ?_⟩
    refine q _ H5 (Int.mul_pos (by omega) g0) ?_ hB5 ((((Same.but (same_new nt)).trans b2).trans b3).trans ((Same.but (same_new nt2)).trans b5))
    have h1 : (1 + r) * g ≤ 10000000000000000000000000000 * 60 := Int.mul_le_mul (by omega) g1 (by omega) (by decide)
    have h2 : 0 < (1 + r) * g := Int.mul_pos (by omega) g0
    refine Nat.lt_of_lt_of_le (show ((1 + r) * g).natAbs < 600000000000000000000000000001 by omega) (by decide)
end
/-! ### powers of great numbers -/
def CPowW (i j : Int) : Prop := 0 ≤ j ∧ (Builtin.Int.intBits i : Int) * j ≤ 2 ^ 27
theorem op_powW {X : Cx} : OpR X (binaryOp .Pow) (rI CPowW fun i j => .int (i ^ j.toNat)) := opI fun _ _ _ _ _ _ _ hc q => pow_int hc.1 hc.2 q
/-- the end of a body, by a name -/
theorem gen_ends {tb : TS} {D : Ends} {σ : L2.St} {H : Hp} (h : ∀ DD : Ends, (∀ σ H, D.nx σ H → DD.nx σ H) → tb DD σ H) : tb D σ H := h D fun _ _ x => x
/-! ### pairs of the law -/
def mkp (n : Int) (ms : List Int) : List (Int × Int) := ms.map fun m => (n.fmod m, m)
theorem mkp_snd (n : Int) (ms : List Int) : (mkp n ms).map Prod.snd = ms := by
  unfold mkp
  rw [List.map_map]
  exact List.map_id' _
theorem mkp_len (n : Int) (ms : List Int) : (mkp n ms).length = ms.length := List.length_map ..
theorem mkp_get {n m : Int} {ms : List Int} {i : Nat} (h : ms[i]? = some m) : (mkp n ms)[i]? = some (n.fmod m, m) := by
  unfold mkp
  rw [List.getElem?_map, h]
  rfl
theorem mkp_mem {n : Int} {ms : List Int} {p : Int × Int} (h : p ∈ mkp n ms) : ∃ m, m ∈ ms ∧ p = (n.fmod m, m) := by
  obtain ⟨m, h1, h2⟩ := List.mem_map.mp h
  exact ⟨m, h1, h2.symm⟩
theorem fmod_dvd {n m : Int} (h : 0 < m) : m ∣ n - n.fmod m := by
  rw [Int.fmod_eq_emod_of_nonneg _ (by omega)]
  exact Int.dvd_self_sub_emod
theorem mkp_rem {n : Int} {ms : List Int} (h : ∀ m ∈ ms, 0 < m) : Rem (mkp n ms) := by
  intro p hp
  obtain ⟨m, hm, rfl⟩ := mkp_mem hp
  exact ⟨h m hm, fmod_lo n (h m hm), fmod_hi n (h m hm)⟩
theorem mkp_sols {n : Int} {ms : List Int} (h : ∀ m ∈ ms, 0 < m) : Sols (mkp n ms) n := by
  intro p hp
  obtain ⟨m, hm, rfl⟩ := mkp_mem hp
  exact fmod_dvd (h m hm)
theorem Rem.good {ps : List (Int × Int)} (h : Rem ps) : Good ps := fun p hp => (h p hp).1
theorem sqt_upd {K : PySem.W.Frag} {H : Hp} {t D : Addr} {xs old : List V} {o : HO} (h : SqT K H t xs) (hD : H D = some (.lst old)) : SqT K (upd H D o) t xs := by
  rcases h with (h | ⟨u, h⟩) | h
  · exact .inl (.inl (by rw [upd_ne (ne_of h hD (by intro z; cases z))]; exact h))
  · exact .inl (.inr ⟨u, by rw [upd_ne (ne_of h hD (by intro z; cases z))]; exact h⟩)
  · exact .inr h
theorem Prs.snoc {K : PySem.W.Frag} {H : Hp} {D a : Addr} {xs old : List V} {ps : List (Int × Int)} {p : Int × Int} {o : HO} (h : Prs K H xs ps) (hD : H D = some (.lst old)) (ha : SqT K H a [.int p.1, .int p.2]) : Prs K (upd H D o) (xs ++ [.ref a]) (ps ++ [p]) := by
  refine ⟨by rw [List.length_append, List.length_append, h.1]; rfl, fun i q hq => ?_⟩
  by_cases hi : i < ps.length
  · rw [List.getElem?_append_left hi] at hq
    obtain ⟨c, h1, h2⟩ := h.2 i q hq
    exact ⟨c, by rw [List.getElem?_append_left (by rw [h.1]; exact hi)]; exact h1, sqt_upd h2 hD⟩
  · rw [List.getElem?_append_right (by omega)] at hq
    have e : i - ps.length = 0 := by
      have := (List.getElem?_eq_some_iff.mp hq).1
      rw [List.length_singleton] at this
      omega
    rw [e] at hq
    cases hq
    exact ⟨a, by rw [List.getElem?_append_right (by rw [h.1]; omega), h.1, e]; rfl, sqt_upd ha hD⟩
theorem Prs.set {K : PySem.W.Frag} {H : Hp} {D a : Addr} {xs old : List V} {ps : List (Int × Int)} {p : Int × Int} {o : HO} {k : Nat} (h : Prs K H xs ps) (hD : H D = some (.lst old)) (ha : SqT K H a [.int p.1, .int p.2]) : Prs K (upd H D o) (xs.set k (.ref a)) (ps.set k p) := by
  refine ⟨by rw [List.length_set, List.length_set, h.1], fun i q hq => ?_⟩
  rw [List.getElem?_set] at hq
  by_cases e : k = i
  · subst e
    rw [if_pos rfl] at hq
    split at hq
    · cases hq
      rename_i hl
      exact ⟨a, by rw [List.getElem?_set, if_pos rfl, if_pos (by rw [h.1]; exact hl)], sqt_upd ha hD⟩
    · cases hq
  · rw [if_neg e] at hq
    obtain ⟨c, h1, h2⟩ := h.2 i q hq
    exact ⟨c, by rw [List.getElem?_set, if_neg e]; exact h1, sqt_upd h2 hD⟩
theorem Prs.but {K : PySem.W.Frag} {H H' : Hp} {b l : Addr} {xs : List V} {ps : List (Int × Int)} (h : Prs K H xs ps) (hB : Bag H b l) (e : But b H H') : Prs K H' xs ps :=
  ⟨h.1, fun i p hp => by
    obtain ⟨a, h1, h2⟩ := h.2 i p hp
    exact ⟨a, h1, But.tup e hB h2⟩⟩
theorem flat_rep {v : V} : ∀ n : Nat, (List.replicate n [v]).flatten = List.replicate n v
  | 0 => rfl
  | n + 1 => by
    rw [List.replicate_succ, List.flatten_cons, flat_rep n, List.replicate_succ]
    rfl
theorem ixN_of {n : Nat} {k : Int} (h0 : 0 ≤ k) (h : k < n) : ixN n k = some k.toNat := by
  unfold ixN
  rw [if_pos h0, if_pos h]
theorem set_self {α : Type} {xs : List α} {k : Nat} {x : α} (h : xs[k]? = some x) : xs.set k x = xs := by
  refine List.ext_getElem? fun i => ?_
  rw [List.getElem?_set]
  by_cases e : k = i
  · subst e
    rw [if_pos rfl, if_pos (List.getElem?_eq_some_iff.mp h).1, h]
  · rw [if_neg e]
/-- the clashes -/
def NoClash (ps : List (Int × Int)) (b m : Int) (i : Nat) : Prop := ∀ (j : Nat) (p : Int × Int), j < i → ps[j]? = some p → (Int.gcd m p.2 : Int) ∣ b - p.1
theorem NoClash.zero (ps : List (Int × Int)) (b m : Int) : NoClash ps b m 0 := fun _ _ h => absurd h (Nat.not_lt_zero _)
theorem NoClash.succ {ps : List (Int × Int)} {b m : Int} {i : Nat} {p : Int × Int} (h : NoClash ps b m i) (hp : ps[i]? = some p) (hd : (Int.gcd m p.2 : Int) ∣ b - p.1) : NoClash ps b m (i + 1) := fun j q hj hq => by
  by_cases e : j = i
  · subst e
    rw [hp] at hq
    cases hq
    exact hd
  · exact h j q (by omega) hq
theorem NoClash.less {ps : List (Int × Int)} {b m : Int} {i : Nat} (h : NoClash ps b m (i + 1)) : NoClash ps b m i := fun j q hj hq => h j q (by omega) hq
/-- two tuples of the same two numbers -/
theorem sm_two {K : PySem.W.Frag} {H : Hp} {s t : Addr} {x y : Int} (d : Nat) (h1 : SqT K H s [.int x, .int y]) (h2 : SqT K H t [.int x, .int y]) : Sm K H (d + 1) (.ref s) (.ref t) := by
  refine .tup h1 h2 rfl (by simp) fun i y z e1 e2 => ?_
  have e : y = z := Option.some.inj (e1.symm.trans e2)
  subst e
  match i, e1 with
  | 0, e1 => cases e1; exact .int _ _
  | 1, e1 => cases e1; exact .int _ _
  | n + 2, e1 => cases e1
/-! data for == -/
def intsD (zs : List Int) : PyData := .list (zs.map .int)
theorem dp_ints {K : PySem.W.Frag} {H : Hp} {a : Addr} {zs : List Int} (ha : SqL K H a (zs.map V.int)) : Dp K H (.ref a) (intsD zs) := by
  refine .lst ha ?_
  clear ha
  induction zs with
  | nil => exact .nil
  | cons z r ih => exact .cons (.int _) ih
theorem shaped_ints (zs : List Int) : SeqAt.shaped (intsD zs) = true := by
  have h1 : PyData.canLayAll0 (zs.map .int) = true := by
    induction zs with
    | nil => rfl
    | cons c r ih =>
      show (PyData.canLay0 (.int c) && PyData.canLayAll0 (r.map .int)) = true
      rw [ih]
      rfl
  have h2 : PyData.depthAll (zs.map .int) ≤ 0 := by
    clear h1
    induction zs with
    | nil => exact Nat.zero_le _
    | cons c r ih =>
      show max (PyData.depth (.int c)) (PyData.depthAll (r.map .int)) ≤ 0
      have e : PyData.depth (.int c) = 0 := rfl
      rw [e]
      omega
  show (PyData.canLayAll0 (zs.map .int) && decide (PyData.depthAll (zs.map .int) + 1 ≤ 64)) = true
  rw [h1, decide_eq_true (by omega)]
  rfl
theorem eqv_ints (zs : List Int) : PyData.eqv (intsD zs) (intsD zs) = true := by
  show PyData.eqvAll (zs.map .int) (zs.map .int) = true
  induction zs with
  | nil => rfl
  | cons c r ih =>
    show (PyData.eqv (.int c) (.int c) && PyData.eqvAll (r.map .int) (r.map .int)) = true
    rw [ih]
    show (c == c && true) = true
    simp
/-- pairs of pairs of numbers -/
def quadD (q : (Int × Int) × (Int × Int)) : PyData := .tuple [.tuple [.int q.1.1, .int q.1.2], .tuple [.int q.2.1, .int q.2.2]]
def quadsD (qs : List ((Int × Int) × (Int × Int))) : PyData := .list (qs.map quadD)
/-- a list of pairs of pairs -/
inductive QL (K : PySem.W.Frag) (H : Hp) : List V → List ((Int × Int) × (Int × Int)) → Prop where
  | nil : QL K H [] []
  | cons {t a b : Addr} {vs : List V} {qs : List ((Int × Int) × (Int × Int))} {q : (Int × Int) × (Int × Int)} (h : SqT K H t [.ref a, .ref b]) (ha : SqT K H a [.int q.1.1, .int q.1.2]) (hb : SqT K H b [.int q.2.1, .int q.2.2]) (r : QL K H vs qs) : QL K H (.ref t :: vs) (q :: qs)
theorem QL.same {K : PySem.W.Frag} {H H' : Hp} {vs : List V} {qs : List ((Int × Int) × (Int × Int))} (h : QL K H vs qs) (e : Same H H') : QL K H' vs qs := by
  induction h with
  | nil => exact .nil
  | cons h ha hb _ ih => exact .cons (Same.tup e h) (Same.tup e ha) (Same.tup e hb) ih
theorem QL.upd {K : PySem.W.Frag} {H : Hp} {D : Addr} {old : List V} {o : HO} {vs : List V} {qs : List ((Int × Int) × (Int × Int))} (h : QL K H vs qs) (hD : H D = some (.lst old)) : QL K (L2.upd H D o) vs qs := by
  induction h with
  | nil => exact .nil
  | cons h ha hb _ ih => exact .cons (sqt_upd h hD) (sqt_upd ha hD) (sqt_upd hb hD) ih
theorem QL.snoc {K : PySem.W.Frag} {H : Hp} {vs : List V} {qs : List ((Int × Int) × (Int × Int))} {t a b : Addr} {q : (Int × Int) × (Int × Int)} (h : QL K H vs qs) (h1 : SqT K H t [.ref a, .ref b]) (ha : SqT K H a [.int q.1.1, .int q.1.2]) (hb : SqT K H b [.int q.2.1, .int q.2.2]) : QL K H (vs ++ [.ref t]) (qs ++ [q]) := by
  induction h with
  | nil => exact .cons h1 ha hb .nil
  | cons h ha hb _ ih => exact .cons h ha hb ih
theorem QL.dps {K : PySem.W.Frag} {H : Hp} {vs : List V} {qs : List ((Int × Int) × (Int × Int))} (h : QL K H vs qs) : DpAll K H vs (qs.map quadD) := by
  induction h with
  | nil => exact .nil
  | cons h ha hb _ ih => exact .cons (.tup h (.cons (.tup ha (.cons (.int _) (.cons (.int _) .nil))) (.cons (.tup hb (.cons (.int _) (.cons (.int _) .nil))) .nil))) ih
theorem QL.dp {K : PySem.W.Frag} {H : Hp} {a : Addr} {vs : List V} {qs : List ((Int × Int) × (Int × Int))} (h : QL K H vs qs) (ha : SqL K H a vs) : Dp K H (.ref a) (quadsD qs) := .lst ha h.dps
theorem shaped_quads (qs : List ((Int × Int) × (Int × Int))) : SeqAt.shaped (quadsD qs) = true := by
  have h1 : PyData.canLayAll0 (qs.map quadD) = true := by
    induction qs with
    | nil => rfl
    | cons c r ih =>
      show (PyData.canLay0 (quadD c) && PyData.canLayAll0 (r.map quadD)) = true
      rw [ih]
      rfl
  have h2 : PyData.depthAll (qs.map quadD) ≤ 2 := by
    clear h1
    induction qs with
    | nil => exact Nat.zero_le _
    | cons c r ih =>
      show max (PyData.depth (quadD c)) (PyData.depthAll (r.map quadD)) ≤ 2
      have e : PyData.depth (quadD c) = 2 := rfl
      rw [e]
      omega
  show (PyData.canLayAll0 (qs.map quadD) && decide (PyData.depthAll (qs.map quadD) + 1 ≤ 64)) = true
  rw [h1, decide_eq_true (by omega)]
  rfl
theorem eqv_quads (qs : List ((Int × Int) × (Int × Int))) : PyData.eqv (quadsD qs) (intsD []) = decide (qs = []) := by
  cases qs with
  | nil => rfl
  | cons c r => rfl
theorem sol_fmod {x r m : Int} (h0 : 0 ≤ r) (h1 : r < m) (h : m ∣ x - r) : x.fmod m = r := by
  obtain ⟨q, hq⟩ := h
  rw [Int.fmod_eq_emod_of_nonneg _ (by omega), show x = r + m * q by omega, Int.add_mul_emod_self_left, Int.emod_eq_of_lt h0 h1]
theorem big_add {G r : Int} (h0 : 0 < G) (h1 : G.natAbs < 2 ^ 1299) (r0 : 0 ≤ r) (r1 : r < 10 ^ (9 : Int).toNat) : 0 < G + r ∧ (G + r).natAbs < 2 ^ 1300 := by
  have h2 : r.natAbs < 2 ^ 1299 := Nat.lt_of_lt_of_le (show r.natAbs < 2 ^ 30 by
    have e : (10 : Int) ^ (9 : Int).toNat = 1000000000 := rfl
    omega) (Nat.pow_le_pow_right (by decide) (by decide))
  refine ⟨by omega, Nat.lt_of_le_of_lt (Int.natAbs_add_le G r) ?_⟩
  rw [show (2 : Nat) ^ 1300 = 2 ^ 1299 * 2 from Nat.pow_succ ..]
  generalize (2 : Nat) ^ 1299 = Z at *
  omega
/-! ### the law -/
local macro_rules | `(tactic| walk_at "nst") => `(tactic| try dsimp only [List.set_cons_succ, List.set_cons_zero, wipe, List.map_cons, List.map_nil, List.foldl_cons, List.foldl_nil])
def spLaw (K : PySem.W.Frag) : Sp := fun vs H Q _ => ∃ (a : Addr) (ns : List Int), vs = [.ref a] ∧ SqL K H a (ns.map V.int) ∧ ns.length ≤ 63 ∧ ∀ H', Q (.bl true) H'
section
variable {P : Program} {w : World} {K : PySem.W.Frag} {mg : Str → Option Value} {base : Heap}
theorem ok_law (T : Txt K mg w) : FnOk P w K mg base CX0 9 T.a_law T.d_law P_law (spLaw K) := by
  have G__law_bag := ok__law_bag (P := P) (w := w) (base := base) T
  have G__law_pull := ok__law_pull (P := P) (w := w) (base := base) T
  have G__law_of := ok__law_of (P := P) (w := w) (base := base) T
  have G__law_gcd := ok__law_gcd (P := P) (w := w) (base := base) T
  have G__law_lcm := ok__law_lcm (P := P) (w := w) (base := base) T
  have G__law_modulus := ok__law_modulus (P := P) (w := w) (base := base) T
  have G_common_rounds := ok_common_rounds (P := P) (w := w) (base := base) T
  have G__law_same := ok_same (P := P) (w := w) (base := base) T 1
  refine T.F_law.ok sc_law (fun vs H Q E h => ?_) (fun cdv A outer s H vs Q E hr h => ?_)
  · obtain ⟨a, ns, rfl, _⟩ := h
    rfl
  · obtain ⟨a, ns, rfl, hS, hlen, q⟩ := h
    refine ⟨_, (pss_cons (ps_set (i := 1) sc_law.nd rfl (Or.inr rfl) (pe_call G__law_bag (hr.mono (by decide)) (by rfl) T.g__law_bag T.F__law_bag.kp T.b__law_bag .nil pass0 (pa_cons (pv 0) pa_nil)))
  (pss_cons (ps_for PassesOwn.never rfl (pi_range1 rfl T.m_range (pa_cons pe_int pa_nil)) (pg_name (i := 2) sc_law.nd rfl (Or.inl rfl))
  (pss_cons (ps_set (i := 3) sc_law.nd rfl (Or.inr rfl) (pe_op op_add pe_int (pe_call G__law_pull (hr.mono (by decide)) (by rfl) T.g__law_pull T.F__law_pull.kp T.b__law_pull .nil pass0 (pa_cons (pv 1) (pa_cons pe_int pa_nil)))))
  (pss_cons (ps_setLc (i := 4) (own := [("_law_k", 14)]) rfl sc_law.nd rfl rfl (sw_true rfl rfl rfl (by decide +kernel)) (pi_range1 rfl T.m_range (pa_cons (pe_op op_add pe_int (pe_call G__law_pull (hr.mono (by decide)) (by rfl) T.g__law_pull T.F__law_pull.kp T.b__law_pull .nil pass0 (pa_cons (pv 1) (pa_cons pe_int pa_nil)))) pa_nil)) (blkOk_by (N := N_law) (sc := defScope s_law) (by decide +kernel)) (fun _ _ _ _ _ => (pg_name (i := 14) sc_law.nd rfl (Or.inl rfl))) (fun _ _ _ _ _ => pts_nil) (fun _ _ _ _ _ => (pe_call G__law_modulus (hr.mono (by decide)) (by rfl) T.g__law_modulus T.F__law_modulus.kp T.b__law_modulus .nil pass0 (pa_cons (pv 1) (pa_cons (pv 3) pa_nil)))))
  (pss_cons (ps_set (i := 5) sc_law.nd rfl (Or.inr rfl) (pe_call G__law_pull (hr.mono (by decide)) (by rfl) T.g__law_pull T.F__law_pull.kp T.b__law_pull .nil pass0 (pa_cons (pv 1) (pa_cons (pe_op op_pow pe_int pe_int) pa_nil))))
  (pss_cons (ps_setLc (i := 6) (own := [("_law_m", 15)]) rfl sc_law.nd rfl rfl (sw_true rfl rfl rfl (by decide +kernel)) (k_piL (K := K) (pv 4)) (blkOk_by (N := N_law) (sc := defScope s_law) (by decide +kernel)) (fun _ _ _ _ _ => (pg_name (i := 15) sc_law.nd rfl (Or.inl rfl))) (fun _ _ _ _ _ => pts_nil) (fun _ _ _ _ _ => (pe_tup (pa_cons (pe_op op_modN (pe_callTy call_int1 (by rfl) T.m_int boot_int (pa_cons (pv 5) pa_nil)) (pv 15)) (pa_cons (pv 15) pa_nil)))))
  (pss_cons (ps_set (i := 7) sc_law.nd rfl (Or.inl rfl) (pe_call G__law_lcm (hr.mono (by decide)) (by rfl) T.g__law_lcm T.F__law_lcm.kp T.b__law_lcm .nil pass0 (pa_cons (pv 4) pa_nil)))
  (pss_cons (ps_if (pt_not (pt_val (pe_call G__law_same (hr.mono (by decide)) (by rfl) T.g__law_same T.F__law_same.kp T.b__law_same .nil pass0 (pa_cons (pe_call G_common_rounds (hr.mono (by decide)) (by rfl) T.g_common_rounds T.F_common_rounds.kp T.b_common_rounds .nil pass0 (pa_cons (pv 6) pa_nil)) (pa_cons (pe_tup (pa_cons (pe_op op_modN (pe_callTy call_int1 (by rfl) T.m_int boot_int (pa_cons (pv 5) pa_nil)) (pv 7)) (pa_cons (pv 7) pa_nil))) pa_nil)))))
  (pss_one (ps_ret pe_bl)) pss_nil)
  (pss_cons (ps_set (i := 8) sc_law.nd rfl (Or.inl rfl) (pe_call G__law_pull (hr.mono (by decide)) (by rfl) T.g__law_pull T.F__law_pull.kp T.b__law_pull .nil pass0 (pa_cons (pv 1) (pa_cons (pe_callB (k_len (K := K)) (by rfl) T.m_len boot_len (pa_cons (pv 6) pa_nil)) pa_nil))))
  (pss_cons (ps_set (i := 9) sc_law.nd rfl (Or.inl rfl) (pe_callTy (k_list (K := K)) (by rfl) T.m_list boot_list (pa_cons (pv 6) pa_nil)))
  (pss_cons (ps_asg (pe_tup (pa_cons (pe_op op_modN (pe_callTy call_int1 (by rfl) T.m_int boot_int (pa_cons (pe_op op_add (pe_ix (k_ixT (K := K)) (pe_ix (k_ixL (K := K)) (pv 6) (pv 8) (fun _ _ => rfl)) pe_int (fun _ _ => rfl)) pe_int) pa_nil)) (pe_ix (k_ixL (K := K)) (pv 4) (pv 8) (fun _ _ => rfl))) (pa_cons (pe_ix (k_ixL (K := K)) (pv 4) (pv 8) (fun _ _ => rfl)) pa_nil))) (pg_sub (pv 9) (pv 8) set_list))
  (pss_cons (ps_setLc (i := 10) (own := [("_law_one", 16), ("_law_other", 17)]) rfl sc_law.nd rfl rfl (sw_true rfl rfl rfl (by decide +kernel)) (k_zip (K := K) (pa_cons (pe_op op_rep (pe_lst (pa_cons (pe_ix (k_ixL (K := K)) (pv 9) (pv 8) (fun _ _ => rfl)) pa_nil)) (pe_callB (k_len (K := K)) (by rfl) T.m_len boot_len (pa_cons (pv 9) pa_nil))) (pa_cons (pv 9) pa_nil)) T.m_zip) (blkOk_by (N := N_law) (sc := defScope s_law) (by decide +kernel)) (fun _ _ _ _ _ => (k_gT (K := K) (n := 2) (pgs_cons (pg_name (i := 16) sc_law.nd rfl (Or.inl rfl)) (pgs_cons (pg_name (i := 17) sc_law.nd rfl (Or.inl rfl)) pgs_nil)))) (fun _ _ _ _ _ => (pts_one (pt_cmpR op_ne (pe_op op_modN (pe_op op_sub (pe_ix (k_ixT (K := K)) (pv 16) pe_int (fun _ _ => rfl)) (pe_ix (k_ixT (K := K)) (pv 17) pe_int (fun _ _ => rfl))) (pe_call G__law_gcd (hr.mono (by decide)) (by rfl) T.g__law_gcd T.F__law_gcd.kp T.b__law_gcd .nil pass0 (pa_cons (pe_ix (k_ixT (K := K)) (pv 16) pe_int (fun _ _ => rfl)) (pa_cons (pe_ix (k_ixT (K := K)) (pv 17) pe_int (fun _ _ => rfl)) pa_nil)))) pe_int (nomark _)))) (fun _ _ _ _ _ => (pe_tup (pa_cons (pv 16) (pa_cons (pv 17) pa_nil)))))
  (pss_cons (ps_set (i := 11) sc_law.nd rfl (Or.inr rfl) (pe_call G_common_rounds (hr.mono (by decide)) (by rfl) T.g_common_rounds T.F_common_rounds.kp T.b_common_rounds .nil pass0 (pa_cons (pv 9) pa_nil)))
  (pss_cons (ps_if (pt_cmpR op_ne (pe_cmpR op_isN (pv 11) pe_non (nomark _)) (pe_cmpR (k_neD (K := K) hr.units) (pv 10) (pe_lst pa_nil) (nomark _)) (nomark _))
  (pss_one (ps_ret pe_bl)) pss_nil)
  (pss_one (ps_if (PW.pt (pw_and (pt_cmpR op_notN (pv 11) pe_non (nomark _)) (pw_and1 (PW.pt (pw_or (pt_cmpR op_ne (pe_ix (k_ixT (K := K)) (pv 11) pe_int (fun _ _ => rfl)) (pv 7) (nomark _)) (pw_or (pt_not (pt_chain op_le op_lt pe_int (pe_ix (k_ixT (K := K)) (pv 11) pe_int (fun _ _ => rfl)) (pv 7))) (pw_or1 (pt_cmpR (k_neD (K := K) hr.units) (pe_lc (own := [("_law_r", 18), ("_law_m", 15)]) rfl sc_law.nd (k_piL (K := K) (pv 9)) (blkOk_by (N := N_law) (sc := defScope s_law) (by decide +kernel)) (fun _ _ _ _ _ => (k_gT (K := K) (n := 2) (pgs_cons (pg_name (i := 18) sc_law.nd rfl (Or.inl rfl)) (pgs_cons (pg_name (i := 15) sc_law.nd rfl (Or.inl rfl)) pgs_nil)))) (fun _ _ _ _ _ => pts_nil) (fun _ _ _ _ _ => (pe_op op_modN (pe_callTy call_int1 (by rfl) T.m_int boot_int (pa_cons (pe_ix (k_ixT (K := K)) (pv 11) pe_int (fun _ _ => rfl)) pa_nil)) (pv 15)))) (pe_lc (own := [("_law_r", 18), ("_law_m", 15)]) rfl sc_law.nd (k_piL (K := K) (pv 9)) (blkOk_by (N := N_law) (sc := defScope s_law) (by decide +kernel)) (fun _ _ _ _ _ => (k_gT (K := K) (n := 2) (pgs_cons (pg_name (i := 18) sc_law.nd rfl (Or.inl rfl)) (pgs_cons (pg_name (i := 15) sc_law.nd rfl (Or.inl rfl)) pgs_nil)))) (fun _ _ _ _ _ => pts_nil) (fun _ _ _ _ _ => (pv 18))) (nomark _)))))))))
  (pss_one (ps_ret pe_bl)) pss_nil)))))))))))))))
  (pss_cons (ps_set (i := 12) sc_law.nd rfl (Or.inl rfl) (pe_lst (pa_cons (pe_op op_add (pe_op op_mulW (pe_op op_powW (pe_op op_pow pe_int pe_int) pe_int) (pe_op op_pow pe_int pe_int)) (pe_call G__law_pull (hr.mono (by decide)) (by rfl) T.g__law_pull T.F__law_pull.kp T.b__law_pull .nil pass0 (pa_cons (pv 1) (pa_cons (pe_op op_pow pe_int pe_int) pa_nil)))) (pa_cons (pe_op op_add (pe_op op_powW (pe_op op_pow pe_int pe_int) pe_int) (pe_call G__law_pull (hr.mono (by decide)) (by rfl) T.g__law_pull T.F__law_pull.kp T.b__law_pull .nil pass0 (pa_cons (pv 1) (pa_cons (pe_op op_pow pe_int pe_int) pa_nil)))) pa_nil))))
  (pss_cons (ps_set (i := 5) sc_law.nd rfl (Or.inr rfl) (pe_op op_add (pe_op op_powW (pe_op op_pow pe_int pe_int) pe_int) (pe_call G__law_pull (hr.mono (by decide)) (by rfl) T.g__law_pull T.F__law_pull.kp T.b__law_pull .nil pass0 (pa_cons (pv 1) (pa_cons (pe_op op_pow pe_int pe_int) pa_nil)))))
  (pss_cons (ps_set (i := 13) sc_law.nd rfl (Or.inl rfl) (pe_call G_common_rounds (hr.mono (by decide)) (by rfl) T.g_common_rounds T.F_common_rounds.kp T.b_common_rounds .nil pass0 (pa_cons (pe_lc (own := [("_law_m", 15)]) rfl sc_law.nd (k_piL (K := K) (pv 12)) (blkOk_by (N := N_law) (sc := defScope s_law) (by decide +kernel)) (fun _ _ _ _ _ => (pg_name (i := 15) sc_law.nd rfl (Or.inl rfl))) (fun _ _ _ _ _ => pts_nil) (fun _ _ _ _ _ => (pe_tup (pa_cons (pe_op op_modN (pe_callTy call_int1 (by rfl) T.m_int boot_int (pa_cons (pv 5) pa_nil)) (pv 15)) (pa_cons (pv 15) pa_nil))))) pa_nil)))
  (pss_cons (ps_set (i := 7) sc_law.nd rfl (Or.inl rfl) (pe_call G__law_lcm (hr.mono (by decide)) (by rfl) T.g__law_lcm T.F__law_lcm.kp T.b__law_lcm .nil pass0 (pa_cons (pv 12) pa_nil)))
  (pss_one (ps_ret (pe_call G__law_same (hr.mono (by decide)) (by rfl) T.g__law_same T.F__law_same.kp T.b__law_same .nil pass0 (pa_cons (pv 13) (pa_cons (pe_tup (pa_cons (pe_op op_modN (pe_callTy call_int1 (by rfl) T.m_int boot_int (pa_cons (pv 5) pa_nil)) (pv 7)) (pa_cons (pv 7) pa_nil))) pa_nil))))))))))), ?_⟩
    refine ⟨.ref a, rfl, a, ns, rfl, hS, hlen, fun b l H1 nb nl s1 hB1 => ?_⟩
    refine ⟨4, rfl, by decide, by decide, for_range (fun i σ H' => Bag H' b l ∧ ∃ y2 y3 y4 y5 y6 y7 y8 y9 y10 y11, σ = [some (.ref a), some (.ref b), y2, y3, y4, y5, y6, y7, y8, y9, y10, y11, none, none, none, none, none, none, none])
      ⟨hB1, none, none, none, none, none, none, none, none, none, none, rfl⟩ (fun i σ H2 hi hp => ?_) (fun σ H2 hp => ?_)⟩
    · obtain ⟨hB2, y2, y3, y4, y5, y6, y7, y8, y9, y10, y11, rfl⟩ := hp
      refine gen_ends (tb := tSeq _ _) (fun DD hDD => ?_)
      have cp30 : CPow 10 30 := ⟨by decide, by decide, by decide⟩
      walk_at "nst"
      walk_at "rds"
      walk_at "pull"
      intro f H3 f0 f1 hB3 b3
      walk_at "nst"
      walk_at "rds"
      walk_at "pull"
      intro c H4 c0 c1 hB4 b4
      walk_at "nst"
      walk_at "rds"
      intro D hD
      have nDb := hB4.ne hD
      have nDl := hB4.nl hD
      refine lc_by (n := (1 + c).toNat) (fun i H' => Bag H' b l ∧ ∃ ms : List Int, H' D = some (.lst (ms.map V.int)) ∧ ms.length = i ∧ ∀ m ∈ ms, 0 < m ∧ m.natAbs < 2 ^ 110) ⟨hB4.same (same_new hD), [], upd_same, rfl, fun _ h => nomatch h⟩
        (fun i H' hi _ => by show i < (1 + c).toNat; omega) (fun H' _ => by show (1 + c).toNat ≤ _; omega) (fun i H' x H2' hi hw hy => ?_) (fun H5 hw => ?_)
      · obtain ⟨rfl, rfl⟩ := hy
        obtain ⟨hBi, ms, hDi, hml, hms⟩ := hw
        refine ⟨rfl, ?_⟩
        walk_at "nst"
        walk_at "rds"
        refine ⟨b, l, 1 + f, rfl, hBi, by omega, by omega, fun r H6 r0 r1 hB6 b6 => ?_⟩
        refine ⟨_, b6.get nDb hDi, by rw [List.length_map, hml]; exact lt_line (by omega), hB6.mut nDb nDl, ms ++ [r], by rw [upd_same, List.map_append]; rfl, by rw [List.length_append, hml]; rfl, fun m hm => ?_⟩
        rcases List.mem_append.mp hm with hm | hm
        · exact hms m hm
        · rw [List.mem_singleton.mp hm]
          exact ⟨r0, r1⟩
      obtain ⟨hB5, ms, hD5, hml, hms⟩ := hw
      have ml0 : 0 < ms.length := by omega
      have ml1 : ms.length ≤ 5 := by omega
      walk_at "nst"
      walk_at "rds"
      walk_at "pull"
      intro n H6 n0 n1 hB6 b6
      have hD6 := b6.get nDb hD5
      walk_at "nst"
      walk_at "rds"
      refine ⟨⟨_, .inl (.inl hD6)⟩, fun D2 hD2 => ?_⟩
      have mp : ∀ m ∈ ms, 0 < m := fun m h => (hms m h).1
      refine lc_list (xs := ms.map V.int) (fun i H' => Same H6 H' ∧ ∃ xs, H' D2 = some (.lst xs) ∧ Prs K H' xs ((mkp n ms).take i)) ⟨same_new hD2, [], upd_same, rfl, fun i p h => nomatch h⟩
        (fun i H' hi hp => hp.1.seq (.inl (.inl hD6))) (fun i x H' hx hw => ?_) (fun H7 hw => ?_)
      · obtain ⟨s2, xs, hDi, hxs⟩ := hw
        rw [List.getElem?_map] at hx
        obtain ⟨m, hm, rfl⟩ := Option.map_eq_some_iff.mp hx
        have m0 := mp m (List.mem_of_getElem? hm)
        have mne : m ≠ 0 := by omega
        refine ⟨rfl, ?_⟩
        walk_at "nst"
        walk_at "rds"
        intro t nt
        have s3 := same_new (o := .tup [.int (n.fmod m), .int m]) nt
        refine ⟨_, s3 _ _ hDi, ?_, Same.mut (s2.trans s3) hD2, _, upd_same, ?_⟩
        · rw [hxs.1, List.length_take, mkp_len]
          exact lt_line (by omega)
        · rw [List.take_add_one, mkp_get hm]
          exact (hxs.same s3).snoc (s3 _ _ hDi) (.inl (.inl upd_same))
      obtain ⟨s7, xs, hD7, hxs⟩ := hw
      rw [List.length_map, List.take_of_length_le (by rw [mkp_len]; exact Nat.le_refl _)] at hxs
      have hM7 := s7 _ _ hD6
      have hB7 := hB6.same s7
      have nD2b := hB6.ne hD2
      clear s1 hS b3 b4 hB2 hB3 hB4 hB5 hB6 b6 hD5 hD hD2
      walk_at "nst"
      walk_at "rds"
      refine ⟨D, ms, rfl, .inl (.inl hM7), fun m hm => ⟨mp m hm, pow_le2 (hms m hm).2 (by decide)⟩, by omega, ?_⟩
      have hW := lcmL_pos mp
      have hWne : lcmL ms ≠ 0 := by omega
      walk_at "nst"
      walk_at "rds"
      refine ⟨D2, xs, mkp n ms, 110, rfl, .inl (.inl hD7), hxs, mkp_rem mp, by decide, fun p hp => ?_, by rw [mkp_len]; omega, fun H8 s8 hno => absurd ⟨n, mkp_sols mp⟩ hno, fun t x H8 nt s8 ht hSol => ?_⟩
      · obtain ⟨m, hm, rfl⟩ := mkp_mem hp
        exact (hms m hm).2
      have ex := hSol.eq (mkp_rem mp).good (mkp_sols mp)
      rw [mkp_snd] at ex ht
      subst ex
      walk_at "nst"
      walk_at "rds"
      intro t2 nt2
      have s9 := same_new (o := .tup [V.int (n.fmod (lcmL ms)), V.int (lcmL ms)]) nt2
      refine ⟨_, _, rfl, sm_two 0 (.inl (.inl (s9 _ _ ht))) (.inl (.inl upd_same)), fun H9 s10 => ?_⟩
      have sz := (s8.trans s9).trans s10
      have hM9 := sz _ _ hM7
      have hD9 := sz _ _ hD7
      have hx9 := hxs.same sz
      have hB9 := hB7.same sz
      have xl : xs.length = ms.length := by rw [hxs.1, mkp_len]
      clear sz s8 s9 s10 ht hM7 hD7 hxs hB7 s7 nt nt2 hSol hD6
      walk_at "nst"
      walk_at "rds"
      refine ⟨b, l, _, rfl, hB9, by omega, Fit.of (by omega) (by omega), fun k H10 k0 k1 hB10 b10 => ?_⟩
      have hM10 := b10.get nDb hM9
      have hD10 := b10.get nD2b hD9
      have hx10 := hx9.but hB9 b10
      clear hM9 hD9 hx9 hB9 b10
      walk_at "nst"
      walk_at "rds"
      intro D3 nD3
      have s11 := same_new (o := .lst xs) nD3
      have hk : k.toNat < ms.length := by omega
      have hg := List.getElem?_eq_getElem hk
      obtain ⟨tc, hc1, hc2⟩ := hx10.2 _ _ (mkp_get (n := n) hg)
      have hm0 := mp _ (List.getElem_mem hk)
      have hmb := (hms _ (List.getElem_mem hk)).2
      generalize hmk : ms[k.toNat] = m at *
      have mne : m ≠ 0 := by omega
      have ax : atI xs k = some (.ref tc) := at_of (j := k.toNat) (by omega) hc1
      have am : atI (ms.map V.int) k = some (.int m) := at_of (j := k.toNat) (by omega) (by rw [List.getElem?_map, hg]; rfl)
      have hM11 := s11 _ _ hM10
      have hD11 := s11 _ _ hD10
      have hx11 := hx10.same s11
      have hc11 := Same.tup s11 hc2
      have hB11 := hB10.same s11
      walk_at "nst"
      walk_at "rds"
      intro t3 nt3
      have s12 := same_new (o := .tup [V.int ((n.fmod m + 1).fmod m), V.int m]) nt3
      have nMD3 : D ≠ D3 := ne_of_none hM10 nD3
      have sB := Same.mut (o := .lst (xs.set k.toNat (.ref t3))) (s11.trans s12) nD3
      have hL12 : upd (upd H10 D3 (.lst xs)) t3 (.tup [V.int ((n.fmod m + 1).fmod m), V.int m]) D3 = some (.lst xs) := s12 _ _ upd_same
      refine ⟨_, rfl, _, rfl, D3, xs, k, k.toNat, rfl, rfl, hL12, ixN_of k0 k1, ?_⟩
      have hx12 : Prs K _ (xs.set k.toNat (.ref t3)) ((mkp n ms).set k.toNat ((n.fmod m + 1).fmod m, m)) := Prs.set (o := .lst (xs.set k.toNat (.ref t3))) (hx11.same s12) hL12 (.inl (.inl upd_same))
      have hB12 := hB10.same sB
      have hM12 := sB _ _ hM10
      have hL : upd (upd (upd H10 D3 (.lst xs)) t3 (.tup [V.int ((n.fmod m + 1).fmod m), V.int m])) D3 (.lst (xs.set k.toNat (.ref t3))) D3 = some (.lst (xs.set k.toNat (.ref t3))) := upd_same
      have nD3b := hB10.ne nD3
      have nD3l := hB10.nl nD3
      clear hL12 hM11 hD11 hx11 hc11 hB11 hc2 ax hx10 hD10 hM10 hB10 s11 s12 sB nt3 nD3 hc1
      generalize upd (upd (upd H10 D3 (.lst xs)) t3 (.tup [V.int ((n.fmod m + 1).fmod m), V.int m])) D3 (.lst (xs.set k.toNat (.ref t3))) = H12 at *
      generalize hps : (mkp n ms).set k.toNat ((n.fmod m + 1).fmod m, m) = ps at *
      have b0 := fmod_lo (n.fmod m + 1) hm0
      have b1 := fmod_hi (n.fmod m + 1) hm0
      generalize hbv : (n.fmod m + 1).fmod m = bv at *
      have hpk : ps[k.toNat]? = some (bv, m) := by
        rw [← hps, List.getElem?_set, if_pos rfl, if_pos (by rw [mkp_len]; exact hk)]
      obtain ⟨t3', e3, ht3⟩ := hx12.2 _ _ hpk
      have ax : atI (xs.set k.toNat (.ref t3)) k = some (.ref t3') := at_of (j := k.toNat) (by omega) e3
      have hpl : ps.length = ms.length := by rw [← hps, List.length_set, mkp_len]
      have hRem : Rem ps := by
        intro p hp
        rw [← hps] at hp
        rcases List.mem_or_eq_of_mem_set hp with h | h
        · exact mkp_rem mp p h
        · rw [h]
          exact ⟨hm0, b0, b1⟩
      have hpb : ∀ p ∈ ps, p.2.natAbs < 2 ^ 110 := by
        intro p hp
        rw [← hps] at hp
        rcases List.mem_or_eq_of_mem_set hp with h | h
        · obtain ⟨z, hz, rfl⟩ := mkp_mem h
          exact (hms z hz).2
        · rw [h]
          exact hmb
      have hsnd : ps.map Prod.snd = ms := by
        rw [← hps, List.map_set, mkp_snd]
        exact set_self hg
      have hoth : ∀ (j : Nat) (p : Int × Int), ps[j]? = some p → j ≠ k.toNat → p.2 ∣ n - p.1 := by
        intro j p hj ne
        rw [← hps, List.getElem?_set, if_neg (fun e => ne e.symm)] at hj
        exact mkp_sols mp p (List.mem_of_getElem? hj)
      have hxl : (xs.set k.toNat (.ref t3)).length = ms.length := by rw [List.length_set]; exact xl
      clear hps
      generalize xs.set k.toNat (.ref t3) = xb at *
      walk_at "nst"
      walk_at "rds"
      intro l1 nl1
      have s13 := same_new (o := .lst [.ref t3']) nl1
      have hL13 := s13 _ _ hL
      walk_at "nst"
      walk_at "rds"
      refine ⟨l1, _, [.ref t3'], rfl, rfl, upd_same, by omega, by omega, ?_, fun D4 nD4 => ?_⟩
      · rw [hxl]
        show 1 * _ ≤ sizeLine
        exact le_line (by omega)
      rw [flat_rep, hxl, Int.toNat_natCast]
      have s14 := same_new (o := .lst (List.replicate ms.length (.ref t3'))) nD4
      have s34 := s13.trans s14
      have hL14 := s14 _ _ hL13
      have hx14 := hx12.same s34
      have ht14 := Same.tup s34 ht3
      have hB14 := hB12.same s34
      have hM14 := s34 _ _ hM12
      have hD4 : upd (upd H12 l1 (.lst [.ref t3'])) D4 (.lst (List.replicate ms.length (.ref t3'))) D4 = some (.lst (List.replicate ms.length (.ref t3'))) := upd_same
      clear s13 s14 hL hL13 hx12 ht3 hB12 hM12 nl1 nD4 s34
      generalize upd (upd H12 l1 (.lst [.ref t3'])) D4 (.lst (List.replicate ms.length (.ref t3'))) = H14 at *
      walk_at "nst"
      walk_at "rds"
      refine ⟨D4, D3, _, _, rfl, .inl ⟨.inl (.inl hD4), .inl (.inl hL14), fun D5 hD5 => ?_⟩⟩
      have cell : ∀ j, j < ms.length → (List.replicate ms.length (V.ref t3'))[j]? = some (.ref t3') := fun j hj => by rw [List.getElem?_replicate, if_pos hj]
      refine lc_by (n := ms.length) (fun i H' => Same H14 H' ∧ ∃ ys qs, H' D5 = some (.lst ys) ∧ ys.length ≤ i ∧ QL K H' ys qs ∧ (qs = [] ↔ NoClash ps bv m i)) ⟨same_new hD5, [], [], upd_same, Nat.le_refl _, .nil, fun _ => NoClash.zero ps bv m, fun _ => rfl⟩
        (fun i H' hi hp => ⟨_, _, .ref t3', xb[i]'(by omega), hp.1.seq (.inl (.inl hD4)), hp.1.seq (.inl (.inl hL14)), cell i hi, List.getElem?_eq_getElem (by omega)⟩)
        (fun H' hp => ⟨_, _, hp.1.seq (.inl (.inl hD4)), hp.1.seq (.inl (.inl hL14)), .inl (by rw [List.length_replicate]; exact Nat.le_refl _)⟩) (fun i H' v H2 hi hp hv => ?_) (fun H15 hp => ?_)
      · obtain ⟨t, x, y, rfl, nt, rfl, f1, f2⟩ := hv
        obtain ⟨hp1, ys, qs, hDi, hyl, hQ, hiff⟩ := hp
        have gx := f1 _ (hp1.seq (.inl (.inl hD4)))
        have gy := f2 _ (hp1.seq (.inl (.inl hL14)))
        rw [cell i hi] at gx
        cases gx
        have hip : i < ps.length := by omega
        have hgp := List.getElem?_eq_getElem hip
        obtain ⟨cj, hcj, hcj2⟩ := hx14.2 _ _ hgp
        rw [gy] at hcj
        cases hcj
        have hr := hRem _ (List.getElem_mem hip)
        generalize hpi : ps[i] = p at *
        obtain ⟨pr, pm⟩ := p
        have hgp2 : ps[i]? = some (pr, pm) := hgp
        have s2 : Same H14 (upd H' t (.tup [.ref t3', .ref cj])) := Same.new hp1 nt
        have hsx := Same.tup s2 ht14
        have hsy := Same.tup s2 hcj2
        have hDi2 := same_new (o := .tup [.ref t3', .ref cj]) nt _ _ hDi
        have hQ2 := hQ.same (same_new (o := .tup [.ref t3', .ref cj]) nt)
        have g0 : (0 : Int) < (Int.gcd m pm : Int) := gcd_pos hr.1
        have gne : (Int.gcd m pm : Int) ≠ 0 := by omega
        refine ⟨t, [.ref t3', .ref cj], rfl, .inl (.inl upd_same), rfl, _, _, rfl, _, _, rfl, rfl, rfl, ?_⟩
        have a1 : atI [V.int bv, V.int m] 1 = some (.int m) := rfl
        have a2 : atI [V.int pr, V.int pm] 1 = some (.int pm) := rfl
        clear hRem hpb hoth hsnd hx14 hB14 hM14 ax e3 hpk hmb hms mp hL14 hD4 hp1 hDi hQ f1 f2 gy am hW hWne hg hgp hcj2 cell
        walk_at "nst"
        walk_at "rds"
        refine ⟨m, pm, rfl, ?_⟩
        have hdv : ((bv - pr).fmod (Int.gcd m pm : Int) = 0) ↔ (Int.gcd m pm : Int) ∣ bv - pr := fmod_zero g0
        generalize hgg : (Int.gcd m pm : Int) = g at g0 gne hdv ⊢
        walk_at "nst"
        walk_at "rds"
        refine iteNE (fun ne => ?_) (fun e => ?_)
        · walk_at "rds"
          intro t4 nt4
          have s4 := same_new (o := .tup [.ref t3', .ref cj]) nt4
          refine ⟨_, s4 _ _ hDi2, lt_line (by omega), Same.mut (s2.trans s4) hD5, _, qs ++ [((bv, m), (pr, pm))], upd_same, ?_, ?_, ?_⟩
          · rw [List.length_append]
            show ys.length + 1 ≤ i + 1
            omega
          · exact ((hQ2.same s4).snoc (.inl (.inl upd_same)) (Same.tup s4 hsx) (Same.tup s4 hsy)).upd (s4 _ _ hDi2)
          · constructor
            · intro h
              exact absurd h (by simp)
            · intro h
              exact absurd (hdv.mpr (hgg ▸ h i (pr, pm) (Nat.lt_succ_self i) hgp2)) ne
        · refine ⟨s2, ys, qs, hDi2, by omega, hQ2, fun h => (hiff.mp h).succ hgp2 (by show (Int.gcd m pm : Int) ∣ bv - pr; rw [hgg]; exact hdv.mp e), fun h => hiff.mpr h.less⟩
      obtain ⟨s15, ys, qs, hD15, hyl, hQ, hiff⟩ := hp
      have hL15 := s15 _ _ hL14
      have hx15 := hx14.same s15
      have hB15 := hB14.same s15
      have hM15 := s15 _ _ hM14
      have nD5b := hB14.ne hD5
      clear hL14 hx14 hB14 hM14 s15 hD4 ht14 hD5 cell am ax
      walk_at "nst"
      walk_at "rds"
      have hcl : (¬ ∃ y, Sols ps y) ↔ ¬ (qs = []) := by
        rw [hiff]
        refine not_congr ⟨fun ⟨y, hy⟩ j p hj hp => ?_, fun h => bent_sol hRem.good hpk fun j p hj ne => ⟨hoth j p hj ne, h j p ?_ hj⟩⟩
        · have h1 := hy (bv, m) (List.mem_of_getElem? hpk)
          have h2 := hy p (List.mem_of_getElem? hp)
          exact crt_need h2 h1
        · rw [← hpl]
          exact (List.getElem?_eq_some_iff.mp hj).1
      refine ⟨D3, xb, ps, 110, rfl, .inl (.inl hL15), hx15, hRem, by decide, hpb, by omega, fun H16 s16 hno => ?_, fun t x H16 nt s16 ht hSol => ?_⟩
      · have hne := hcl.mp hno
        have hD16 := s16 _ _ hD15
        have hQ16 := hQ.same s16
        have hB16 := hB15.same s16
        clear hQ hB15 hM15 hL15 hx15
        walk_at "nst"
        walk_at "rds"
        intro D6 nD6
        have s17 := same_new (o := .lst []) nD6
        refine ⟨quadsD qs, intsD [], (hQ16.same s17).dp (.inl (.inl (s17 _ _ hD16))), dp_ints (.inl (.inl upd_same)), shaped_quads qs, shaped_ints [], ?_⟩
        rw [eqv_quads, decide_eq_false hne]
        refine ⟨rfl, _, rfl, iteND (fun h => absurd rfl h) (fun _ => ?_)⟩
        walk_at "nst"
        walk_at "rds"
        exact hDD _ _ ⟨hB16.same s17, _, _, _, _, _, _, _, _, _, _, rfl⟩
      · have heq : qs = [] := Classical.byContradiction fun h => hcl.mpr h ⟨x, hSol.s⟩
        have hD16 := s16 _ _ hD15
        have hQ16 := hQ.same s16
        have hB16 := hB15.same s16
        have hL16 := s16 _ _ hL15
        have hx16 := hx15.same s16
        rw [hsnd] at hSol ht
        have x0 := hSol.x0
        have x1 := hSol.x1
        clear hQ hB15 hM15 hL15 hx15 s16 hD15 nt
        walk_at "nst"
        walk_at "rds"
        intro D6 nD6
        have s17 := same_new (o := .lst []) nD6
        refine ⟨quadsD qs, intsD [], (hQ16.same s17).dp (.inl (.inl (s17 _ _ hD16))), dp_ints (.inl (.inl upd_same)), shaped_quads qs, shaped_ints [], ?_⟩
        rw [eqv_quads, decide_eq_true heq]
        refine ⟨rfl, _, rfl, iteND (fun h => absurd rfl h) (fun _ => ?_)⟩
        have ht17 := s17 _ _ ht
        have hL17 := s17 _ _ hL16
        have hx17 := hx16.same s17
        have hB17 := hB16.same s17
        clear ht hL16 hx16 hB16 hQ16 hD16 s17
        generalize upd H16 D6 (.lst []) = H17 at *
        have at1 : atI [V.int x, V.int (lcmL ms)] 1 = some (.int (lcmL ms)) := rfl
        generalize hWg : lcmL ms = W at *
        walk_at "nst"
        walk_at "rds"
        refine iteND (fun h => absurd rfl h) (fun _ => ?_)
        walk_at "nst"
        walk_at "rds"
        refine iteD (fun _ => ?_) (fun h => absurd x0 h)
        walk_at "rds"
        refine iteND (fun h => absurd x1 h) (fun _ => ?_)
        clear hcl hiff hpk hoth hsnd hms ml0 hk hg hmk at1 f0 f1 c0 c1 n0 n1 k0 k1 hm0 hmb mne b0 b1 hbv e3 cp30 hyl
        walk_at "rds"
        refine ⟨⟨_, .inl (.inl hL17)⟩, fun D7 hD7 => ?_⟩
        refine lc_list (xs := xb) (fun i H' => Same H17 H' ∧ H' D7 = some (.lst (((ps.take i).map Prod.fst).map V.int))) ⟨same_new hD7, upd_same⟩
          (fun i H' hi hp => hp.1.seq (.inl (.inl hL17))) (fun i v H' hv hp => ?_) (fun H18 hp => ?_)
        · obtain ⟨s2, hDi⟩ := hp
          have hi1 : i < xb.length := (List.getElem?_eq_some_iff.mp hv).1
          have hip : i < ps.length := by omega
          have hgp := List.getElem?_eq_getElem hip
          obtain ⟨cj, hcj, hcj2⟩ := hx17.2 _ _ hgp
          rw [hv] at hcj
          cases hcj
          have hr := hRem _ (List.getElem_mem hip)
          have hs := hSol.s _ (List.getElem_mem hip)
          have hf := sol_fmod hr.2.1 hr.2.2 hs
          generalize hpi : ps[i] = p at *
          obtain ⟨pr, pm⟩ := p
          have pne : pm ≠ 0 := by
            have h : 0 < pm := hr.1
            omega
          have hc := Same.tup s2 hcj2
          have htt := s2 _ _ ht17
          have e2 : ((ps.take (i + 1)).map Prod.fst).map V.int = ((ps.take i).map Prod.fst).map V.int ++ [V.int (x.fmod pm)] := by
            rw [List.take_add_one, hgp, hf]
            simp
          refine ⟨cj, _, rfl, hc, rfl, _, _, rfl, _, _, rfl, rfl, rfl, ?_⟩
          clear hRem hpb hx17 hB17
          walk_at "nst"
          walk_at "rds"
          refine ⟨_, hDi, ?_, Same.mut s2 hD7, by rw [upd_same, e2]⟩
          rw [List.length_map, List.length_map, List.length_take]
          exact lt_line (by omega)
        obtain ⟨s18, hD18⟩ := hp
        have hL18 := s18 _ _ hL17
        have hx18 := hx17.same s18
        have hB18 := hB17.same s18
        clear hL17 hx17 hB17 ht17 s18 hD7
        walk_at "nst"
        walk_at "rds"
        refine ⟨⟨_, .inl (.inl hL18)⟩, fun D8 hD8 => ?_⟩
        refine lc_list (xs := xb) (fun i H' => Same H18 H' ∧ H' D8 = some (.lst (((ps.take i).map Prod.fst).map V.int))) ⟨same_new hD8, upd_same⟩
          (fun i H' hi hp => hp.1.seq (.inl (.inl hL18))) (fun i v H' hv hp => ?_) (fun H19 hp => ?_)
        · obtain ⟨s2, hDi⟩ := hp
          have hi1 : i < xb.length := (List.getElem?_eq_some_iff.mp hv).1
          have hip : i < ps.length := by omega
          have hgp := List.getElem?_eq_getElem hip
          obtain ⟨cj, hcj, hcj2⟩ := hx18.2 _ _ hgp
          rw [hv] at hcj
          cases hcj
          generalize hpi : ps[i] = p at *
          obtain ⟨pr, pm⟩ := p
          have hc := Same.tup s2 hcj2
          have e2 : ((ps.take (i + 1)).map Prod.fst).map V.int = ((ps.take i).map Prod.fst).map V.int ++ [V.int pr] := by
            rw [List.take_add_one, hgp]
            simp
          refine ⟨cj, _, rfl, hc, rfl, _, _, rfl, _, _, rfl, rfl, rfl, ?_⟩
          clear hRem hpb hx18 hB18
          walk_at "nst"
          walk_at "rds"
          refine ⟨_, hDi, ?_, Same.mut s2 hD8, by rw [upd_same, e2]⟩
          rw [List.length_map, List.length_map, List.length_take]
          exact lt_line (by omega)
        obtain ⟨s19, hD19⟩ := hp
        refine ⟨intsD ((ps.take xb.length).map Prod.fst), intsD ((ps.take xb.length).map Prod.fst), dp_ints (.inl (.inl (s19 _ _ hD18))), dp_ints (.inl (.inl hD19)), shaped_ints _, shaped_ints _, ?_⟩
        rw [eqv_ints]
        refine ⟨_, rfl, iteF ?_⟩
        exact hDD _ _ ⟨hB18.same s19, _, _, _, _, _, _, _, _, _, _, rfl⟩
    · obtain ⟨hB2, y2, y3, y4, y5, y6, y7, y8, y9, y10, y11, rfl⟩ := hp
      have cp9 : CPow 10 9 := ⟨by decide, by decide, by decide⟩
      have cp29 : CPow 10 29 := ⟨by decide, by decide, by decide⟩
      have cp30 : CPow 10 30 := ⟨by decide, by decide, by decide⟩
      have cp60 : CPow 10 60 := ⟨by decide, by decide, by decide⟩
      have cp55 : CPow 7 55 := ⟨by decide, by decide, by decide⟩
      have cp50 : CPow 3 50 := ⟨by decide, by decide, by decide⟩
      have cpa : CPowW (10 ^ (60 : Int).toNat) 6 := ⟨by decide, by decide +kernel⟩
      have cpb : CPowW (7 ^ (55 : Int).toNat) 8 := ⟨by decide, by decide +kernel⟩
      have cpc : CPowW (3 ^ (50 : Int).toNat) 16 := ⟨by decide, by decide +kernel⟩
      walk_at "nst"
      walk_at "rds"
      have cmw : CMulW ((10 ^ (60 : Int).toNat) ^ (6 : Int).toNat) (10 ^ (29 : Int).toNat) := mul_ok (by decide +kernel) (by decide +kernel)
      walk_at "rds"
      walk_at "pull"
      intro r1 H3 r10 r11 hB3 b3
      walk_at "nst"
      walk_at "rds"
      walk_at "pull"
      intro r2 H4 r20 r21 hB4 b4
      walk_at "nst"
      walk_at "rds"
      intro D hD
      walk_at "nst"
      have g10 : (0 : Int) < (10 ^ (60 : Int).toNat) ^ (6 : Int).toNat * 10 ^ (29 : Int).toNat := by decide +kernel
      have g11 : ((10 ^ (60 : Int).toNat) ^ (6 : Int).toNat * 10 ^ (29 : Int).toNat : Int).natAbs < 2 ^ 1299 := by decide +kernel
      have g20 : (0 : Int) < (7 ^ (55 : Int).toNat) ^ (8 : Int).toNat := by decide +kernel
      have g21 : ((7 ^ (55 : Int).toNat) ^ (8 : Int).toNat : Int).natAbs < 2 ^ 1299 := by decide +kernel
      clear cmw cpa cpb cp60 cp55 cp29
      generalize ((10 ^ (60 : Int).toNat) ^ (6 : Int).toNat * 10 ^ (29 : Int).toNat : Int) = G1 at *
      generalize ((7 ^ (55 : Int).toNat) ^ (8 : Int).toNat : Int) = G2 at *
      obtain ⟨k10, k11⟩ := big_add g10 g11 r10 r11
      obtain ⟨k20, k21⟩ := big_add g20 g21 r20 r21
      clear g10 g11 g20 g21 r10 r11 r20 r21 b3 b4 hB3
      generalize G1 + r1 = m1 at *
      generalize G2 + r2 = m2 at *
      have hB5 := hB4.same (same_new (o := .lst [V.int m1, V.int m2]) hD)
      have nDb := hB4.ne hD
      have hD5 : upd H4 D (.lst [V.int m1, V.int m2]) D = some (.lst ([m1, m2].map V.int)) := upd_same
      generalize upd H4 D (.lst [V.int m1, V.int m2]) = H5 at *
      have hms : ∀ m ∈ [m1, m2], 0 < m ∧ m.natAbs < 2 ^ 1300 := by
        intro m hm
        rcases List.mem_cons.mp hm with rfl | hm
        · exact ⟨k10, k11⟩
        · rw [List.mem_singleton.mp hm]
          exact ⟨k20, k21⟩
      have hml : ([m1, m2] : List Int).length = 2 := rfl
      clear k10 k11 k20 k21
      generalize [m1, m2] = ms at *
      walk_at "rds"
      walk_at "pull"
      intro r3 H6 r30 r31 hB6 b6
      have hD6 := b6.get nDb hD5
      walk_at "nst"
      walk_at "rds"
      walk_at "nst"
      generalize ((3 ^ (50 : Int).toNat) ^ (16 : Int).toNat : Int) + r3 = n at *
      refine ⟨⟨_, .inl (.inl hD6)⟩, fun D2 hD2 => ?_⟩
      have mp : ∀ m ∈ ms, 0 < m := fun m h => (hms m h).1
      refine lc_list (xs := ms.map V.int) (fun i H' => Same H6 H' ∧ ∃ xs, H' D2 = some (.lst xs) ∧ Prs K H' xs ((mkp n ms).take i)) ⟨same_new hD2, [], upd_same, rfl, fun i p h => nomatch h⟩
        (fun i H' hi hp => hp.1.seq (.inl (.inl hD6))) (fun i x H' hx hw => ?_) (fun H7 hw => ?_)
      · obtain ⟨s2, xs, hDi, hxs⟩ := hw
        rw [List.getElem?_map] at hx
        obtain ⟨m, hm, rfl⟩ := Option.map_eq_some_iff.mp hx
        have m0 := mp m (List.mem_of_getElem? hm)
        have mne : m ≠ 0 := by omega
        refine ⟨rfl, ?_⟩
        walk_at "nst"
        walk_at "rds"
        intro t nt
        have s3 := same_new (o := .tup [.int (n.fmod m), .int m]) nt
        refine ⟨_, s3 _ _ hDi, ?_, Same.mut (s2.trans s3) hD2, _, upd_same, ?_⟩
        · rw [hxs.1, List.length_take, mkp_len]
          exact lt_line (by omega)
        · rw [List.take_add_one, mkp_get hm]
          exact (hxs.same s3).snoc (s3 _ _ hDi) (.inl (.inl upd_same))
      obtain ⟨s7, xs, hD7, hxs⟩ := hw
      rw [List.length_map, List.take_of_length_le (by rw [mkp_len]; exact Nat.le_refl _)] at hxs
      have hM7 := s7 _ _ hD6
      clear s1 hS hB2 hB4 hB5 hB6 b6 hD5 hD hD2 s7 hD6
      walk_at "nst"
      walk_at "rds"
      refine ⟨D2, xs, mkp n ms, 1300, rfl, .inl (.inl hD7), hxs, mkp_rem mp, by decide, fun p hp => ?_, by rw [mkp_len]; omega, fun H8 s8 hno => absurd ⟨n, mkp_sols mp⟩ hno, fun t x H8 nt s8 ht hSol => ?_⟩
      · obtain ⟨m, hm, rfl⟩ := mkp_mem hp
        exact (hms m hm).2
      have ex := hSol.eq (mkp_rem mp).good (mkp_sols mp)
      rw [mkp_snd] at ex ht
      subst ex
      have hM8 := s8 _ _ hM7
      clear hD7 hxs hM7 s8 nt hSol
      walk_at "nst"
      walk_at "rds"
      refine ⟨D, ms, rfl, .inl (.inl hM8), fun m hm => ⟨mp m hm, pow_le2 (hms m hm).2 (by decide)⟩, by omega, ?_⟩
      have hW := lcmL_pos mp
      have hWne : lcmL ms ≠ 0 := by omega
      walk_at "nst"
      walk_at "rds"
      intro t2 nt2
      have s9 := same_new (o := .tup [V.int (n.fmod (lcmL ms)), V.int (lcmL ms)]) nt2
      refine ⟨_, _, rfl, sm_two 0 (.inl (.inl (s9 _ _ ht))) (.inl (.inl upd_same)), fun H9 s10 => ?_⟩
      exact q _
end
theorem all_mk {w : World} {K : PySem.W.Frag} {h : Heap} {mg : Str → Option Value} {fa : Addr} (X : K.In h) (G : h.Ns mainGlobals mg) (hfa : mg "law" = some (.ref fa))
    {f0 f1 f2 f3 f4 f5 f6 f7 f8 f9 f10 : Addr} {od0 an0 od1 an1 od2 an2 od3 an3 od4 an4 od5 an5 od6 an6 od7 an7 od8 an8 od9 an9 od10 an10 : Option Addr} {sl0 sl1 sl2 sl3 sl4 sl5 sl6 sl7 sl8 sl9 sl10 : Array (Option Value)} {oc0 kV0 dc0 pm0 cd0 ct0 oc1 kV1 dc1 pm1 cd1 ct1 oc2 kV2 dc2 pm2 cd2 ct2 oc3 kV3 dc3 pm3 cd3 ct3 oc4 kV4 dc4 pm4 cd4 ct4 oc5 kV5 dc5 pm5 cd5 ct5 oc6 kV6 dc6 pm6 cd6 ct6 oc7 kV7 dc7 pm7 cd7 ct7 oc8 kV8 dc8 pm8 cd8 ct8 oc9 kV9 dc9 pm9 cd9 ct9 oc10 kV10 dc10 pm10 cd10 ct10 : Value}
    (a0 : PySem.W.nsIn K mainGlobals "common_rounds" = some (some (.ref f0))) (l0 : K.lookup f0 = some ⟨oc0, od0, .func (PySem.W.fnOf "common_rounds" "common_rounds" (defArgs s_common_rounds) (defBody s_common_rounds) (defScope s_common_rounds) .none kV0 dc0 pm0 an0 cd0 ct0), sl0⟩) (c0 : PySem.W.codeIn K cd0 "common_rounds" = true) (k0 : PySem.W.keepIn K (.ref f0) = true)
    (a1 : PySem.W.nsIn K mainGlobals "both_remainders" = some (some (.ref f1))) (l1 : K.lookup f1 = some ⟨oc1, od1, .func (PySem.W.fnOf "both_remainders" "both_remainders" (defArgs s_both_remainders) (defBody s_both_remainders) (defScope s_both_remainders) .none kV1 dc1 pm1 an1 cd1 ct1), sl1⟩) (c1 : PySem.W.codeIn K cd1 "both_remainders" = true) (k1 : PySem.W.keepIn K (.ref f1) = true)
    (a2 : PySem.W.nsIn K mainGlobals "divisor_and_factor" = some (some (.ref f2))) (l2 : K.lookup f2 = some ⟨oc2, od2, .func (PySem.W.fnOf "divisor_and_factor" "divisor_and_factor" (defArgs s_divisor_and_factor) (defBody s_divisor_and_factor) (defScope s_divisor_and_factor) .none kV2 dc2 pm2 an2 cd2 ct2), sl2⟩) (c2 : PySem.W.codeIn K cd2 "divisor_and_factor" = true) (k2 : PySem.W.keepIn K (.ref f2) = true)
    (a3 : PySem.W.nsIn K mainGlobals "_law_bag" = some (some (.ref f3))) (l3 : K.lookup f3 = some ⟨oc3, od3, .func (PySem.W.fnOf "_law_bag" "_law_bag" (defArgs s__law_bag) (defBody s__law_bag) (defScope s__law_bag) .none kV3 dc3 pm3 an3 cd3 ct3), sl3⟩) (c3 : PySem.W.codeIn K cd3 "_law_bag" = true) (k3 : PySem.W.keepIn K (.ref f3) = true)
    (a4 : PySem.W.nsIn K mainGlobals "_law_pull" = some (some (.ref f4))) (l4 : K.lookup f4 = some ⟨oc4, od4, .func (PySem.W.fnOf "_law_pull" "_law_pull" (defArgs s__law_pull) (defBody s__law_pull) (defScope s__law_pull) .none kV4 dc4 pm4 an4 cd4 ct4), sl4⟩) (c4 : PySem.W.codeIn K cd4 "_law_pull" = true) (k4 : PySem.W.keepIn K (.ref f4) = true)
    (a5 : PySem.W.nsIn K mainGlobals "_law_of" = some (some (.ref f5))) (l5 : K.lookup f5 = some ⟨oc5, od5, .func (PySem.W.fnOf "_law_of" "_law_of" (defArgs s__law_of) (defBody s__law_of) (defScope s__law_of) .none kV5 dc5 pm5 an5 cd5 ct5), sl5⟩) (c5 : PySem.W.codeIn K cd5 "_law_of" = true) (k5 : PySem.W.keepIn K (.ref f5) = true)
    (a6 : PySem.W.nsIn K mainGlobals "_law_same" = some (some (.ref f6))) (l6 : K.lookup f6 = some ⟨oc6, od6, .func (PySem.W.fnOf "_law_same" "_law_same" (defArgs s__law_same) (defBody s__law_same) (defScope s__law_same) .none kV6 dc6 pm6 an6 cd6 ct6), sl6⟩) (c6 : PySem.W.codeIn K cd6 "_law_same" = true) (k6 : PySem.W.keepIn K (.ref f6) = true)
    (a7 : PySem.W.nsIn K mainGlobals "_law_gcd" = some (some (.ref f7))) (l7 : K.lookup f7 = some ⟨oc7, od7, .func (PySem.W.fnOf "_law_gcd" "_law_gcd" (defArgs s__law_gcd) (defBody s__law_gcd) (defScope s__law_gcd) .none kV7 dc7 pm7 an7 cd7 ct7), sl7⟩) (c7 : PySem.W.codeIn K cd7 "_law_gcd" = true) (k7 : PySem.W.keepIn K (.ref f7) = true)
    (a8 : PySem.W.nsIn K mainGlobals "_law_lcm" = some (some (.ref f8))) (l8 : K.lookup f8 = some ⟨oc8, od8, .func (PySem.W.fnOf "_law_lcm" "_law_lcm" (defArgs s__law_lcm) (defBody s__law_lcm) (defScope s__law_lcm) .none kV8 dc8 pm8 an8 cd8 ct8), sl8⟩) (c8 : PySem.W.codeIn K cd8 "_law_lcm" = true) (k8 : PySem.W.keepIn K (.ref f8) = true)
    (a9 : PySem.W.nsIn K mainGlobals "_law_modulus" = some (some (.ref f9))) (l9 : K.lookup f9 = some ⟨oc9, od9, .func (PySem.W.fnOf "_law_modulus" "_law_modulus" (defArgs s__law_modulus) (defBody s__law_modulus) (defScope s__law_modulus) .none kV9 dc9 pm9 an9 cd9 ct9), sl9⟩) (c9 : PySem.W.codeIn K cd9 "_law_modulus" = true) (k9 : PySem.W.keepIn K (.ref f9) = true)
    (a10 : PySem.W.nsIn K mainGlobals "law" = some (some (.ref f10))) (l10 : K.lookup f10 = some ⟨oc10, od10, .func (PySem.W.fnOf "law" "law" (defArgs s_law) (defBody s_law) (defScope s_law) .none kV10 dc10 pm10 an10 cd10 ct10), sl10⟩) (c10 : PySem.W.codeIn K cd10 "law" = true) (k10 : PySem.W.keepIn K (.ref f10) = true)
    (z_abs : PySem.W.nsIn K mainGlobals "abs" = some none)
    (z_all : PySem.W.nsIn K mainGlobals "all" = some none)
    (z_bool : PySem.W.nsIn K mainGlobals "bool" = some none)
    (z_dict : PySem.W.nsIn K mainGlobals "dict" = some none)
    (z_enumerate : PySem.W.nsIn K mainGlobals "enumerate" = some none)
    (z_int : PySem.W.nsIn K mainGlobals "int" = some none)
    (z_isinstance : PySem.W.nsIn K mainGlobals "isinstance" = some none)
    (z_len : PySem.W.nsIn K mainGlobals "len" = some none)
    (z_list : PySem.W.nsIn K mainGlobals "list" = some none)
    (z_range : PySem.W.nsIn K mainGlobals "range" = some none)
    (z_str : PySem.W.nsIn K mainGlobals "str" = some none)
    (z_tuple : PySem.W.nsIn K mainGlobals "tuple" = some none)
    (z_zip : PySem.W.nsIn K mainGlobals "zip" = some none)
    : ∃ fd : FuncData, (∀ (s : Shared) (v : Value), BindsTo s fd ⟨[v], []⟩ [("_law_script", v)]) ∧ ∀ base : Heap, K.In base → base.Ns mainGlobals mg → FnOk (PySem.Challenge.rw_pileports_k34_great_common_remainders).prog w K mg base CX0 9 fa fd ["_law_script"] (spLaw K) := by
  have e := hfa.symm.trans (PySem.W.mg_of X G a10)
  cases e
  have F0 := fun_mk (st := s_common_rounds) l0 c0 k0
  have F1 := fun_mk (st := s_both_remainders) l1 c1 k1
  have F2 := fun_mk (st := s_divisor_and_factor) l2 c2 k2
  have F3 := fun_mk (st := s__law_bag) l3 c3 k3
  have F4 := fun_mk (st := s__law_pull) l4 c4 k4
  have F5 := fun_mk (st := s__law_of) l5 c5 k5
  have F6 := fun_mk (st := s__law_same) l6 c6 k6
  have F7 := fun_mk (st := s__law_gcd) l7 c7 k7
  have F8 := fun_mk (st := s__law_lcm) l8 c8 k8
  have F9 := fun_mk (st := s__law_modulus) l9 c9 k9
  have F10 := fun_mk (st := s_law) l10 c10 k10
  let T : Txt K mg w := {
    a_common_rounds := _,
    d_common_rounds := _,
    F_common_rounds := F0,
    g_common_rounds := PySem.W.mg_of X G a0,
    b_common_rounds := F0.binds (ps := P_common_rounds) fun _ _ _ _ _ _ us hl => match us, hl with | [_], _ => rfl,
    a_both_remainders := _,
    d_both_remainders := _,
    F_both_remainders := F1,
    g_both_remainders := PySem.W.mg_of X G a1,
    b_both_remainders := F1.binds (ps := P_both_remainders) fun _ _ _ _ _ _ us hl => match us, hl with | [_, _], _ => rfl,
    a_divisor_and_factor := _,
    d_divisor_and_factor := _,
    F_divisor_and_factor := F2,
    g_divisor_and_factor := PySem.W.mg_of X G a2,
    b_divisor_and_factor := F2.binds (ps := P_divisor_and_factor) fun _ _ _ _ _ _ us hl => match us, hl with | [_, _], _ => rfl,
    a__law_bag := _,
    d__law_bag := _,
    F__law_bag := F3,
    g__law_bag := PySem.W.mg_of X G a3,
    b__law_bag := F3.binds (ps := P__law_bag) fun _ _ _ _ _ _ us hl => match us, hl with | [_], _ => rfl,
    a__law_pull := _,
    d__law_pull := _,
    F__law_pull := F4,
    g__law_pull := PySem.W.mg_of X G a4,
    b__law_pull := F4.binds (ps := P__law_pull) fun _ _ _ _ _ _ us hl => match us, hl with | [_, _], _ => rfl,
    a__law_of := _,
    d__law_of := _,
    F__law_of := F5,
    g__law_of := PySem.W.mg_of X G a5,
    b__law_of := F5.binds (ps := P__law_of) fun _ _ _ _ _ _ us hl => match us, hl with | [_, _], _ => rfl,
    a__law_same := _,
    d__law_same := _,
    F__law_same := F6,
    g__law_same := PySem.W.mg_of X G a6,
    b__law_same := F6.binds (ps := P__law_same) fun _ _ _ _ _ _ us hl => match us, hl with | [_, _], _ => rfl,
    a__law_gcd := _,
    d__law_gcd := _,
    F__law_gcd := F7,
    g__law_gcd := PySem.W.mg_of X G a7,
    b__law_gcd := F7.binds (ps := P__law_gcd) fun _ _ _ _ _ _ us hl => match us, hl with | [_, _], _ => rfl,
    a__law_lcm := _,
    d__law_lcm := _,
    F__law_lcm := F8,
    g__law_lcm := PySem.W.mg_of X G a8,
    b__law_lcm := F8.binds (ps := P__law_lcm) fun _ _ _ _ _ _ us hl => match us, hl with | [_], _ => rfl,
    a__law_modulus := _,
    d__law_modulus := _,
    F__law_modulus := F9,
    g__law_modulus := PySem.W.mg_of X G a9,
    b__law_modulus := F9.binds (ps := P__law_modulus) fun _ _ _ _ _ _ us hl => match us, hl with | [_, _], _ => rfl,
    a_law := _,
    d_law := _,
    F_law := F10,
    g_law := PySem.W.mg_of X G a10,
    m_abs := PySem.W.mg_none_of X G z_abs,
    m_all := PySem.W.mg_none_of X G z_all,
    m_bool := PySem.W.mg_none_of X G z_bool,
    m_dict := PySem.W.mg_none_of X G z_dict,
    m_enumerate := PySem.W.mg_none_of X G z_enumerate,
    m_int := PySem.W.mg_none_of X G z_int,
    m_isinstance := PySem.W.mg_none_of X G z_isinstance,
    m_len := PySem.W.mg_none_of X G z_len,
    m_list := PySem.W.mg_none_of X G z_list,
    m_range := PySem.W.mg_none_of X G z_range,
    m_str := PySem.W.mg_none_of X G z_str,
    m_tuple := PySem.W.mg_none_of X G z_tuple,
    m_zip := PySem.W.mg_none_of X G z_zip }
  exact ⟨_, fun s v => .of_eq rfl, fun base _ _ => ok_law T⟩
end Z
open PySem PySem.W PyProof.Rows
set_option maxHeartbeats 0 in
theorem PySem.Challenge.cw_pileports_k34_great_common_remainders_holds : PySem.Challenge.rw_pileports_k34_great_common_remainders.Holds := by
  w_on; o_law; k_head; (case hw => w_witness2)
  k_fill
  refine L2.walk_of (l := PySem.Challenge.rw_pileports_k34_great_common_remainders) (n := 63) (k := 9) (x := "_law_script") (CX := fun _ => L2.CX0) (sp := fun w => Z.spLaw _) rfl (by decide) rfl ⟨rfl, by decide, by decide⟩ (fun w h Y => PySem.W.kIn_of Y) ?F (fun _ _ a ns hl _ hS => ⟨a, ns, rfl, hS, hl, fun _ => rfl⟩) (fun _ _ _ _ _ h => h)
  case F =>
    intro w mg fa h KX G hmg
    refine' Z.all_mk KX G hmg ?a0 ?l0 ?c0 ?k0 ?a1 ?l1 ?c1 ?k1 ?a2 ?l2 ?c2 ?k2 ?a3 ?l3 ?c3 ?k3 ?a4 ?l4 ?c4 ?k4 ?a5 ?l5 ?c5 ?k5 ?a6 ?l6 ?c6 ?k6 ?a7 ?l7 ?c7 ?k7 ?a8 ?l8 ?c8 ?k8 ?a9 ?l9 ?c9 ?k9 ?a10 ?l10 ?c10 ?k10 ?z_abs ?z_all ?z_bool ?z_dict ?z_enumerate ?z_int ?z_isinstance ?z_len ?z_list ?z_range ?z_str ?z_tuple ?z_zip
    (case a0 => k_is); (case l0 => k_is); (case c0 => k_is); (case k0 => k_is); (case a1 => k_is); (case l1 => k_is); (case c1 => k_is); (case k1 => k_is); (case a2 => k_is); (case l2 => k_is); (case c2 => k_is); (case k2 => k_is); (case a3 => k_is); (case l3 => k_is); (case c3 => k_is); (case k3 => k_is); (case a4 => k_is); (case l4 => k_is); (case c4 => k_is); (case k4 => k_is); (case a5 => k_is); (case l5 => k_is); (case c5 => k_is); (case k5 => k_is); (case a6 => k_is); (case l6 => k_is); (case c6 => k_is); (case k6 => k_is); (case a7 => k_is); (case l7 => k_is); (case c7 => k_is); (case k7 => k_is); (case a8 => k_is); (case l8 => k_is); (case c8 => k_is); (case k8 => k_is); (case a9 => k_is); (case l9 => k_is); (case c9 => k_is); (case k9 => k_is); (case a10 => k_is); (case l10 => k_is); (case c10 => k_is); (case k10 => k_is); (case z_abs => k_is); (case z_all => k_is); (case z_bool => k_is); (case z_dict => k_is); (case z_enumerate => k_is); (case z_int => k_is); (case z_isinstance => k_is); (case z_len => k_is); (case z_list => k_is); (case z_range => k_is); (case z_str => k_is); (case z_tuple => k_is); (case z_zip => k_is)
