import PyProof.Rows.All
import Wide.All
import OpenK.AllK
import Wide.FinOn
import PySem.Challenge.RW_pileports_k33_common_remainders
import HandS.ForMost
import HandS.Wide
import HandS.WideMore
import HandS.IsInst
import HandS.Star
import HandS.NoneIn
import HandS.Zip
import HandS.Defaults
import HandS.Evl
import HandS.WrittenGet
import HandS.CallLocal
import HandS.TupAny
import HandS.Style
import HandS.More
import HandS.ExcInit
import HandS.ExcField
import HandS.ExcIs
import HandS.WordsExc
import HandS.ClsMeth
import HandS.HotCalls
import HandS.Lambda
import HandS.EndTab
import HandS.Deep
import KE.KNestM
import KE.GoesEnum
import KE.GoesMore
set_option Elab.async false
set_option linter.all false
set_option maxRecDepth 100000
set_option maxHeartbeats 8000000
set_option exponentiation.threshold 10000
namespace Z
open PySem PySem.Spec PyProof.Rows L2
def topS (i : Nat) : Stmt := PySem.Challenge.pw_pileports_k33_common_remainders.main.body.getD i (.Pass ⟨0, 0, 0, 0⟩)
abbrev s_PileError : Stmt := inClass (topS 1) 0
abbrev N_PileError : List Str := ["self", "code"]
abbrev P_PileError : List Str := ["self", "code"]
theorem sc_PileError : FnScope N_PileError P_PileError (defScope s_PileError) := ⟨rfl, rfl, rfl, by decide +kernel, rfl, by decide +kernel, by decide +kernel⟩
abbrev s_BadRemainder : Stmt := inClass (topS 2) 0
abbrev N_BadRemainder : List Str := ["self", "at"]
abbrev P_BadRemainder : List Str := ["self", "at"]
theorem sc_BadRemainder : FnScope N_BadRemainder P_BadRemainder (defScope s_BadRemainder) := ⟨rfl, rfl, rfl, by decide +kernel, rfl, by decide +kernel, by decide +kernel⟩
abbrev s_common_rounds : Stmt := topS 5
abbrev N_common_rounds : List Str := ["remainders", "at", "remainder", "modulus", "common", "pair"]
abbrev P_common_rounds : List Str := ["remainders"]
theorem sc_common_rounds : FnScope N_common_rounds P_common_rounds (defScope s_common_rounds) := ⟨rfl, rfl, rfl, by decide +kernel, rfl, by decide +kernel, by decide +kernel⟩
abbrev s_both_remainders : Stmt := topS 6
abbrev N_both_remainders : List Str := ["one", "other", "first", "modulus", "second", "divided", "divisor", "factor", "steps"]
abbrev P_both_remainders : List Str := ["one", "other"]
theorem sc_both_remainders : FnScope N_both_remainders P_both_remainders (defScope s_both_remainders) := ⟨rfl, rfl, rfl, by decide +kernel, rfl, by decide +kernel, by decide +kernel⟩
abbrev s_divisor_and_factor : Stmt := topS 7
abbrev N_divisor_and_factor : List Str := ["number", "modulus", "rest", "divisor", "factor", "later", "times"]
abbrev P_divisor_and_factor : List Str := ["number", "modulus"]
theorem sc_divisor_and_factor : FnScope N_divisor_and_factor P_divisor_and_factor (defScope s_divisor_and_factor) := ⟨rfl, rfl, rfl, by decide +kernel, rfl, by decide +kernel, by decide +kernel⟩
abbrev s__law_bag : Stmt := topS 9
abbrev N__law_bag : List Str := ["_law_script", "_law_salt", "_law_cell"]
abbrev P__law_bag : List Str := ["_law_script"]
theorem sc__law_bag : FnScope N__law_bag P__law_bag (defScope s__law_bag) := ⟨rfl, rfl, rfl, by decide +kernel, rfl, by decide +kernel, by decide +kernel⟩
abbrev s__law_pull : Stmt := topS 10
abbrev N__law_pull : List Str := ["_law_bag_here", "_law_amount", "_law_cell", "_law_got", "_law_seed"]
abbrev P__law_pull : List Str := ["_law_bag_here", "_law_amount"]
theorem sc__law_pull : FnScope N__law_pull P__law_pull (defScope s__law_pull) := ⟨rfl, rfl, rfl, by decide +kernel, rfl, by decide +kernel, by decide +kernel⟩
abbrev s__law_of : Stmt := topS 11
abbrev N__law_of : List Str := ["_law_bag_here", "_law_things"]
abbrev P__law_of : List Str := ["_law_bag_here", "_law_things"]
theorem sc__law_of : FnScope N__law_of P__law_of (defScope s__law_of) := ⟨rfl, rfl, rfl, by decide +kernel, rfl, by decide +kernel, by decide +kernel⟩
abbrev s__law_same : Stmt := topS 12
abbrev N__law_same : List Str := ["_law_found", "_law_due", "_law_one", "_law_other", "_law_key"]
abbrev P__law_same : List Str := ["_law_found", "_law_due"]
theorem sc__law_same : FnScope N__law_same P__law_same (defScope s__law_same) := ⟨rfl, rfl, rfl, by decide +kernel, rfl, by decide +kernel, by decide +kernel⟩
abbrev s__law_field : Stmt := topS 13
abbrev N__law_field : List Str := ["_law_e"]
abbrev P__law_field : List Str := ["_law_e"]
theorem sc__law_field : FnScope N__law_field P__law_field (defScope s__law_field) := ⟨rfl, rfl, rfl, by decide +kernel, rfl, by decide +kernel, by decide +kernel⟩
abbrev s__law_try : Stmt := topS 14
abbrev N__law_try : List Str := ["_law_ask", "_law_e"]
abbrev P__law_try : List Str := ["_law_ask"]
theorem sc__law_try : FnScope N__law_try P__law_try (defScope s__law_try) := ⟨rfl, rfl, rfl, by decide +kernel, rfl, by decide +kernel, by decide +kernel⟩
abbrev s__law_gcd : Stmt := topS 15
abbrev N__law_gcd : List Str := ["_law_one", "_law_other"]
abbrev P__law_gcd : List Str := ["_law_one", "_law_other"]
theorem sc__law_gcd : FnScope N__law_gcd P__law_gcd (defScope s__law_gcd) := ⟨rfl, rfl, rfl, by decide +kernel, rfl, by decide +kernel, by decide +kernel⟩
abbrev s__law_lcm : Stmt := topS 16
abbrev N__law_lcm : List Str := ["_law_numbers", "_law_found", "_law_number"]
abbrev P__law_lcm : List Str := ["_law_numbers"]
theorem sc__law_lcm : FnScope N__law_lcm P__law_lcm (defScope s__law_lcm) := ⟨rfl, rfl, rfl, by decide +kernel, rfl, by decide +kernel, by decide +kernel⟩
abbrev s_law : Stmt := topS 17
abbrev N_law : List Str := ["_law_script", "_law_bag_here", "_law_turn", "_law_moduli", "_law_number", "_law_pick", "_law_pairs", "_law_whole", "_law_found", "_law_due", "_law_at", "_law_bad", "_law_bent", "_law_k", "_law_m", "_law_r"]
abbrev P_law : List Str := ["_law_script"]
theorem sc_law : FnScope N_law P_law (defScope s_law) := ⟨rfl, rfl, rfl, by decide +kernel, rfl, by decide +kernel, by decide +kernel⟩
/-! ### rules whose reading names the written part by its own letter -/
section
variable {X : Cx} {K : PySem.W.Frag}
def rLenQ (K : PySem.W.Frag) : List V → Hp → VK → Prop := fun vs H Q => ∃ a us, vs = [.ref a] ∧ (SqL K H a us ∨ SqT K H a us) ∧ Q (.int us.length) H
def rListQ (K : PySem.W.Frag) : List V → Hp → VK → Prop := fun vs H Q => ∃ a us, vs = [.ref a] ∧ (SqL K H a us ∨ SqT K H a us) ∧ ∀ n, H n = none → Q (.ref n) (upd H n (.lst us))
def rTupleQ (K : PySem.W.Frag) : List V → Hp → VK → Prop := fun vs H Q => ∃ a us, vs = [.ref a] ∧ ((SqL K H a us ∧ ∀ n, H n = none → Q (.ref n) (upd H n (.tup us))) ∨ (SqT K H a us ∧ Q (.ref a) H))
theorem k_ixL (h : X.K = K := by rfl) : IxR X (rIxL K) := h ▸ ix_list
theorem k_ixT (h : X.K = K := by rfl) : IxR X (rIxT K) := h ▸ ix_tup
theorem k_slL (h : X.K = K := by rfl) : SlR X (rSlL K) := h ▸ sl_list
theorem k_len (h : X.K = K := by rfl) : CallR X (.builtin "len") (rLenQ K) := h ▸ call_len_seq
theorem k_list (h : X.K = K := by rfl) : CallR X (.type "list") (rListQ K) := h ▸ call_list_of
theorem k_tuple (h : X.K = K := by rfl) : CallR X (.type "tuple") (rTupleQ K) := h ▸ call_tuple_of
theorem k_max (hc : X.calm = true := by rfl) (h : X.K = K := by rfl) : CallR X (.builtin "max") (rMax K) := h ▸ cr_max hc
theorem k_min (hc : X.calm = true := by rfl) (h : X.K = K := by rfl) : CallR X (.builtin "min") (rMin K) := h ▸ cr_min hc
theorem k_all (hc : X.calm = true := by rfl) (h : X.K = K := by rfl) : CallR X (.builtin "all") (rAll K) := h ▸ cr_all hc
theorem k_isi (h : X.K = K := by rfl) : CallR X (.builtin "isinstance") (rIsi K) := h ▸ call_isi
theorem k_in (h : X.K = K := by rfl) : OpR X (compareOp .In) (rIn K false) := h ▸ op_in_seq
theorem k_notIn (h : X.K = K := by rfl) : OpR X (compareOp .NotIn) (rIn K true) := h ▸ op_notIn_seq
theorem k_eqD (hu : X.A.units + 64 < cLine) (h : X.K = K := by rfl) : OpR X (compareOp .Eq) (rEqD K) := h ▸ op_eqD hu
theorem k_neD (hu : X.A.units + 64 < cLine) (h : X.K = K := by rfl) : OpR X (compareOp .NotEq) (rNeD K) := h ▸ op_neD hu
theorem k_piL {tg l : Expr} {tl : TE} (hl : PE X l tl) (h : X.K = K := by rfl) : PI X tg l (iList K tl) := h ▸ pi_list hl
theorem k_piT {tg l : Expr} {tl : TE} (hl : PE X l tl) (h : X.K = K := by rfl) : PI X tg l (iTup K tl) := h ▸ pi_tup hl
theorem k_gT {es : List Expr} {k : Nat} {t : TGs} {n : Nat} {pos : Pos} (pt : PGs X es t) (hc : X.calm = true := by rfl) (hn : (assignEach es X.env).length = n := by rfl)
    (hst : (assignEach es X.env).findIdx? (·.1) = none := by rfl) (h : X.K = K := by rfl) : PG X (.Tuple es k pos) (gTup K n t) := h ▸ pg_tup hc pt hn hst
theorem k_gL {es : List Expr} {k : Nat} {t : TGs} {n : Nat} {pos : Pos} (pt : PGs X es t) (hc : X.calm = true := by rfl) (hn : (assignEach es X.env).length = n := by rfl)
    (hst : (assignEach es X.env).findIdx? (·.1) = none := by rfl) (h : X.K = K := by rfl) : PG X (.Tuple es k pos) (gUnl K n t) := h ▸ pg_unl hc pt hn hst
theorem k_zip {a b : Expr} {ta : TA} {p pos tpos : Pos} {elts : List Expr} {kk : Nat} (ha : PA X [a, b] ta) (hm : X.mg "zip" = none) (hg : Gl X "zip" := by rfl)
    (h1 : starEach [a, b] X.env = (false, eval a X.env) :: starEach [b] X.env := by rfl) (h2 : (backTo pos (starEach [b] X.env)).any (·.1) = false := by rfl) (h : X.K = K := by rfl) :
    PI X (.Tuple elts kk tpos) (.Call (.Name "zip" p) [a, b] [] pos) (RZ.iZipA K ta) := h ▸ RZ.pi_zipA hg hm ha h1 h2
theorem k_enum {e : Expr} {ta : TA} {p pos tpos : Pos} {elts : List Expr} {kk : Nat} (ha : PA X [e] ta) (hm : X.mg "enumerate" = none) (hg : Gl X "enumerate" := by rfl) (h1 : starEach [e] X.env = [(false, eval e X.env)] := by rfl) (h : X.K = K := by rfl) :
    PI X (.Tuple elts kk tpos) (.Call (.Name "enumerate" p) [e] [] pos) (iEnum K ta) := h ▸ pi_enum hg hm ha h1
end
/-! ### dicts of the module -/
section
variable {X : Cx} {K : PySem.W.Frag} {w : World}
theorem k_slT (h : X.K = K := by rfl) : SlR X (rSlT K) := h ▸ sl_tup
theorem k_ixK (h : X.K = K := by rfl) (h2 : X.w = w := by rfl) : IxR X (rIxD K w) := h ▸ h2 ▸ ix_kdict
def KD (K : PySem.W.Frag) (w : World) (a : Addr) : Prop := ∃ es n, K.lookup a = some ⟨.type "dict", none, .dict es n, #[]⟩ ∧ PySem.W.KeysLit w.params es.toList ∧ (a == sysModules) = false
def tKGet (K : PySem.W.Frag) (w : World) (a : Addr) (te : TE) : TE := fun σ H Q => te σ H fun y H2 => ∃ z, y = .str z ∧ ((∃ v, KDct K w a z v ∧ Q v H2) ∨ (KMiss K w a z ∧ Q .non H2))
theorem pe_kget {a : Addr} {o e : Expr} {apos cpos : Pos} {te : TE} (ho : PE X o (tC (.ref a))) (kd : KD K w a) (he : PE X e te) (m : M1 X o "get" apos e cpos) (h : X.K = K := by rfl) (h2 : X.w = w := by rfl) :
    PE X (.Call (.Attribute o "get" apos) [e] [] cpos) (tKGet K w a te) := by
  subst h h2
  obtain ⟨es, n, hl, hkl, low⟩ := kd
  constructor
  intro pins s σ H Q I hq
  refine wpAny_Call_method m.base m.few m.line PySem.F.plainAttrs_dict PySem.F.slot_dict_get PySem.F.type_dict_get (thn (ho.run pins s σ H (fun x H1 => x = .ref a ∧ H1 = H) I ⟨rfl, rfl⟩) fun u s1 ⟨x, H1, I1, rx, ex, eH⟩ => ?_)
  subst ex eH
  obtain rfl : u = Value.ref a := rx
  have hm := PySem.W.mapOf_K (prog := X.prog) (w := X.w) I1.kIn hl hkl
  refine ⟨hm.typeIs, ?_, ?_⟩
  · intro b eb
    cases eb
    exact ⟨_, I1.kIn _ _ hl, rfl⟩
  rw [m.trees]
  refine Calls.callWith_builtin rfl (Calls.evalArgs_plain (Calls.spliced_cons (thn (he.run pins s1 σ _ _ I1 hq) fun iv s2 ⟨y, H2, I2, ry, z, ey, q2⟩ => Calls.spliced_nil ?_)))
  subst ey
  obtain ⟨t, rfl⟩ := (show ∃ t, iv = Value.str z t from ry)
  have hm2 := PySem.W.mapOf_K (prog := X.prog) (w := X.w) I2.kIn hl hkl
  refine call_meetsIn PySem.F.slot_dict_get hm2.typeIs PySem.F.entry_dict_get (PySem.F.args_dict_get_2 _ _) (meets_dict_get (strKind X.prog X.w) a (strKind_is X.prog X.w z t) low) ⟨_, hm2, ?_⟩
  rcases q2 with ⟨v, ⟨es', n', u0, hl', hk', e, ru⟩, q⟩ | ⟨⟨es', n', hl', hk', low', e⟩, q⟩
  · rw [PySem.W.find_K hl e]
    exact ⟨v, H2, I2.tok _, ru, q⟩
  · rw [PySem.W.find_K hl e]
    exact ⟨.non, H2, I2.tok _, rfl, q⟩
end
/-! ### a def that stands in a class, called by the class's name -/
section
variable {X : Cx}
def tFnC (sp : Sp) (E : XK) (t : TA) : TE := fun σ H Q => t σ H fun vs H1 => sp vs H1 Q E
theorem pe_clsfn {CX : CXT} {k : Nat} {C g : Addr} {mc : Value} {fd : FuncData} {ps : List Str} {sp : Sp} {E : XK} {x m : Str} {e : Expr} {es : List Expr} {t : TA} {p1 p2 pos : Pos} {pl : Sem Bool}
    (hg : Gl X x) (hm : X.mg x = some (.ref C)) (r : ClX.CRead X.K C mc) (c : ClX.CVal X.K C mc m (.ref g) (.ref g)) (F : FnOk X.prog X.w X.K X.mg X.base CX k g fd ps sp) (hr : Room k X.A) (hk : PySem.W.keepIn X.K (.ref g) = true) (hb : Binds X.K fd ps []) (hx : Passes CX X E) (ha : PA X (e :: es) t)
    (hdb : (x == ("__debug__" : Str)) = false := by decide)
    (hst : starEach (e :: es) X.env = (false, eval e X.env) :: starEach es X.env := by rfl) (hpl : (backTo pos (starEach es X.env)).any (·.1) = false := by rfl)
    (ht : eval (.Call (.Attribute (.Name x p1) m p2) (e :: es) [] pos) X.env = (do
      let ov ← eval (.Name x p1) X.env
      standAt p2.atName
      let (f, first) ← holding [ov] (getMethod ov m pl)
      callWith pos f first (backTo pos (starEach (e :: es) X.env)) (backToKw pos (keywordEach [] X.env))) := by rfl) :
    PE X (.Call (.Attribute (.Name x p1) m p2) (e :: es) [] pos) (tFnC sp E t) := by
  refine ⟨fun pins s σ H Q I h => ?_⟩
  refine PySem.W.methodCall_KW (pl := pl) (ld_glob I hg hm ?_ hdb) ht
  refine PySem.W.method_cls I.kIn r.ga (ClX.getcval_ok I r c fun s2 I2 => ?_)
  refine PySem.W.callWith_K (h₀ := X.base) I2.ok.mod.kin hk (thn (ha.run pos pins s2 σ H _ I2 h) fun us s3 ⟨vs, H2, I3, rv, q2⟩ => ⟨I3.kIn, ?_⟩) hst hpl
  have q3 : sp (vs ++ []) H2 Q E := by rw [List.append_nil]; exact q2
  exact run_fn F hr hb .nil hx I3 rv q3
end
/-! ### a field of the exception that is pinned -/
/-- what the written part says of an exception's class: its field f is read -/
structure XRd (K : PySem.W.Frag) (C : Addr) (f : Str) : Prop where
  cls : XfC K C
  no : PySem.W.findIn K (.ref C) f = some none
def tXg (K : PySem.W.Frag) (a : Addr) (cls : Value) (d : Option Addr) (f : Str) (te : TE) : TE := fun σ H Q => te σ H fun x H1 => x = .ref a ∧ ∃ (C dd : Addr) (fs : List (Str × V)) (v : V), cls = .ref C ∧ d = some dd ∧ XRd K C f ∧ H1 dd = some (.xd fs) ∧ fs.lookup f = some v ∧ Q v H1
theorem pe_xg {X : Cx} {p : Addr × Obj} {cls : Value} {d : Option Addr} {e : Expr} {te : TE} {pos : Pos} {n : Str} (hp : p ∈ X.pn) (hz : Zc cls d p.2) (hf : ∃ vs, p.2.data = .fields vs) (he : PE X e te) (hb : attributeBase e n X.env (eval e X.env) = eval e X.env := by rfl) : PE X (.Attribute e n pos) (tXg X.K p.1 cls d n te) := by
  refine ⟨fun pins s σ H Q I h => ?_⟩
  refine attr_of hb (thn (he.run pins s σ H _ I h) fun u s1 hh => ?_)
  obtain ⟨x, H1, I1, rx, ex, C, dd, fs, v, hc0, hd0, T, ea, l, q⟩ := hh
  obtain ⟨vs, hd⟩ := hf
  have hc : p.2.cls = .ref C := hz.1.trans hc0
  have hdd : p.2.dict = some dd := hz.2.trans hd0
  subst ex
  obtain rfl : u = Value.ref p.1 := rx
  obtain ⟨ha, _⟩ := I1.pin p (List.mem_append_left _ hp)
  have hx : ObjOk X.prog X.w H1 s1.heap dd (.xd fs) := I1.hok dd _ ea
  obtain ⟨mA, hns, hr⟩ := hx
  obtain ⟨od, ho, hl⟩ := lookIn_ns hns
  obtain ⟨u, hu, ru⟩ := RelO.some_of (v := v) (o := mA n) (by rw [← l]; exact hr n)
  have J : PySem.W.InstAt s1.heap p.1 p.2 C (some od) := ⟨ha, hc, by unfold PySem.W.notCls; rw [hd] <;> rfl, by rw [hdd]; exact ho⟩
  exact HandSPX.exc_get I1.kIn J T.cls.ga T.cls.gg T.cls.exC (PySem.W.findObj_own T.cls.hdC T.no rfl (by rw [hl, hu])) (handed_of ru) ⟨v, H1, I1.tok _, ru, q⟩
theorem k_xg {K : PySem.W.Frag} {X : Cx} {p : Addr × Obj} {cls : Value} {d : Option Addr} {e : Expr} {te : TE} {pos : Pos} {n : Str} (hp : p ∈ X.pn) (hz : Zc cls d p.2) (hf : ∃ vs, p.2.data = .fields vs) (he : PE X e te) (hb : attributeBase e n X.env (eval e X.env) = eval e X.env := by rfl) (h : X.K = K := by rfl) : PE X (.Attribute e n pos) (tXg K p.1 cls d n te) := h ▸ pe_xg hp hz hf he hb
/-! ### a def called while the exception p is pinned -/
structure FnP (P : Program) (w : World) (K : PySem.W.Frag) (mg : Str → Option Value) (base : Heap) (k : Nat) (f : Addr) (fd : FuncData) (ps : List Str) (sp : Addr → Value → Option Addr → Sp) : Prop where
  len : ∀ a cls d vs H Q E, sp a cls d vs H Q E → vs.length = ps.length
  run : ∀ (A : Around) (outer : List Env) (s : Shared) (H : Hp) (args : Args) (us : List Value) (vs : List V) (Q : VK) (p : Addr × Obj) (cls : Value) (d : Option Addr), Zc cls d p.2 → (∃ vs, p.2.data = .fields vs) → L2H.RoomH k A → L2H.PinOk outer H s p → Env0 P w K mg base A outer s H → BindsTo s fd args (ps.zip us) → Vals vs us → sp p.1 cls d vs H Q E0 →
    codeAny (model P w) A (.call (.ref f) args) (CR CX0 outer P w H s Q E0) s
theorem fn_ofP {P : Program} {w : World} {K : PySem.W.Frag} {mg : Str → Option Value} {base : Heap} {k : Nat} {f : Addr} {name qual : Str} {params : Arguments} {body : List Stmt} {scope : Scope} {dV kV doc pm cdv ct oc : Value} {an od : Option Addr}
    {osl : Array (Option Value)} {N ps : List Str} {sp : Addr → Value → Option Addr → Sp} (lk : K.lookup f = some ⟨oc, od, .func (PySem.W.fnOf name qual params body scope dV kV doc pm an cdv ct), osl⟩) (hcd : PySem.W.codeIn K cdv qual = true) (S : FnScope N ps scope)
    (len : ∀ a cls d vs H Q E, sp a cls d vs H Q E → vs.length = ps.length)
    (hbody : ∀ (A : Around) (outer : List Env) (s : Shared) (H : Hp) (vs : List V) (Q : VK) (p : Addr × Obj) (cls : Value) (d : Option Addr), Zc cls d p.2 → (∃ vs, p.2.data = .fields vs) → L2H.RoomH k (A.deeper (envOfC qual scope s.heap.objs.size f cdv)) → sp p.1 cls d vs H Q E0 →
      ∃ t, PSs (L2H.cxH CX0 P w K mg base N qual scope f cdv A outer s H E0 p).nox body t ∧ t { nx := fun _ H' => Q .non H', rt := Q } (L2.start N vs) H) :
    FnP P w K mg base (k + 1) f (PySem.W.fnOf name qual params body scope dV kV doc pm an cdv ct) ps sp := by
  refine ⟨len, fun A outer s H args us vs Q p cls d hz hf hr hpin e0 hb r hsp => ?_⟩
  have hl := len _ _ _ _ _ _ _ hsp
  have KX : K.In s.heap := e0.mod.kin.keeps fun b o e => (e0.bs b o e).1
  have lim : s.heap.NoLimit := e0.mod.nolimit.keeps fun b o e => (e0.bs b o e).1
  have hkind : ∀ y ∈ ps.zip us, scope.names.lookup y.1 = some .local ∨ (scope.names.lookup y.1 = some .cell ∧ ((cellsFrom (s.heap.objs.size + 1) scope.names []).lookup y.1).isSome = true) := fun ⟨n, v⟩ hy => by
    rcases S.par n (List.of_mem_zip hy).1 with q | q
    · exact .inl q
    · exact .inr ⟨q, PySem.W.cellsFrom_some _ _ _ (.inl q)⟩
  refine codeAny_call_function hr.depth (KX _ _ lk) rfl S.co S.gen rfl (PySem.W.codeRec_of KX hcd) (hb _ _ _ _ ?_)
  refine wpAny_newFunctionEnv_cells S.kind hkind fun env he s1 x => ?_
  subst he
  refine ⟨lim.keeps x.toInCall.keep, codeAny_func ?_⟩
  obtain ⟨t, ht0, hq⟩ := hbody A outer s H vs Q p cls d hz hf (hr.deeper _) hsp
  have ht := ht0.nox
  have I : Inv (L2H.cxH CX0 P w K mg base N qual scope f cdv A outer s H E0 p) [] (L2.start N vs) H s1 := L2H.inv_startH S hpin e0 hl r x
  refine wpAny_mono (ht.run [] s1 (L2.start N vs) H _ I hq) (fun fl s' hs => ?_) fun e s' hs => hs
  have fin : ∀ {σ' : L2.St} {H' : Hp} {v : V} {u : Value}, Inv (L2H.cxH CX0 P w K mg base N qual scope f cdv A outer s H E0 p) [] σ' H' s' → RelV v u → Q v H' → CE outer P w H s Q u s' :=
    fun {σ' H' v u} J rv q => ⟨v, H', J.os, J.bare, J.base, J.hok, rv, q⟩
  cases fl with
  | ret u =>
    obtain ⟨v, σ', H', J, rv, q⟩ := hs
    exact fin J rv q
  | next =>
    obtain ⟨σ', H', J, q⟩ := hs
    exact fin (v := V.non) (u := Value.none) J rfl q
  | brk =>
    obtain ⟨_, _, _, q⟩ := hs
    exact False.elim q
  | cont =>
    obtain ⟨_, _, _, q⟩ := hs
    exact False.elim q
def tCallP (sp : Addr → Value → Option Addr → Sp) (a : Addr) (cls : Value) (d : Option Addr) (t : TA) : TE := fun σ H Q => t σ H fun vs H1 => sp a cls d vs H1 Q E0
theorem pe_callP {X : Cx} {k : Nat} {f : Addr} {fd : FuncData} {ps : List Str} {sp : Addr → Value → Option Addr → Sp} {x : Str} {q pos : Pos} {e : Expr} {es : List Expr} {t : TA} {p : Addr × Obj} {cls : Value} {d : Option Addr} (hp : p ∈ X.pn) (hz : Zc cls d p.2) (hf : ∃ vs, p.2.data = .fields vs) (F : FnP X.prog X.w X.K X.mg X.base k f fd ps sp) (hr : L2H.RoomH k X.A)
    (hg : Gl X x) (hm : X.mg x = some (.ref f)) (hk : PySem.W.keepIn X.K (.ref f) = true) (hb : Binds X.K fd ps [])
    (ha : PA X (e :: es) t) (hdb : (x == ("__debug__" : Str)) = false := by decide) (he : starEach (e :: es) X.env = (false, eval e X.env) :: starEach es X.env := by rfl) (hpl : (backTo pos (starEach es X.env)).any (·.1) = false := by rfl) :
    PE X (.Call (.Name x q) (e :: es) [] pos) (tCallP sp p.1 cls d t) := by
  refine ⟨fun pins s σ H Q I h => ?_⟩
  refine wpAny_Call_Name_kw (ld_glob I hg hm ?_ hdb)
  refine PySem.W.callWith_K (h₀ := X.base) I.ok.mod.kin hk (thn (ha.run pos pins s σ H _ I h) fun us s1 ⟨vs, H1, I1, r, q1⟩ => ⟨I1.kIn, ?_⟩) he hpl
  have hl : us.length = ps.length := by rw [← r.length]; exact F.len _ _ _ _ _ _ _ q1
  have b := hb s1 us I1.kIn (by rw [List.append_nil]; exact hl)
  rw [List.append_nil] at b
  have P1 := I1.pin p (List.mem_append_left _ hp)
  have hpin : L2H.PinOk X.stack H1 s1 p := ⟨P1.1, P1.2.1, fun hm => (List.mem_cons.mp (I1.stkSub p.1 hm)).elim P1.2.2.1 P1.2.2.2.1, P1.2.2.2.2⟩
  refine wpAny_call (codeAny_mono (F.run X.A X.stack s1 H1 ⟨us, []⟩ us vs Q p cls d hz hf hr hpin I1.env0 b r q1) fun r s' hq => ?_)
  cases r with
  | error e => exact (show False from hq).elim
  | ok fl =>
    cases fl with
    | ret u => exact I1.after hq
    | next => exact False.elim hq
    | brk => exact False.elim hq
    | cont => exact False.elim hq
/-! ### several except clauses with names -/
def wManyA (K : PySem.W.Frag) (n : Nat) (Wout : WX) (D : Ends) : List (Value × Nat × (Addr → Value → Option Addr → TS)) → WX
  | [] => Wout
  | (c, i, ts) :: r => fun cls d σ H => ∃ b, PySem.W.exmOne K cls c = some b ∧
      (b = true → ∀ a, H a = none → σ.length = n → ts a cls d { nx := fun σ' H' => D.nx (σ'.set i none) H', rt := D.rt, bk := fun σ' H' => D.bk (σ'.set i none) H', ct := fun σ' H' => D.ct (σ'.set i none) H' } (σ.set i (some (.ref a))) H) ∧
      (b = false → wManyA K n Wout D r cls d σ H)
inductive HdsA (X : Cx) : List ExceptHandler → List (Value × Nat × (Addr → Value → Option Addr → TS)) → Prop
  | nil : HdsA X [] []
  | cons {x n : Str} {c : Value} {i : Nat} {ts : Addr → Value → Option Addr → TS} {b₀ : Stmt} {suite : List Stmt} {np pos' : Pos} {hds : List ExceptHandler} {l : List (Value × Nat × (Addr → Value → Option Addr → TS))} (hc : Names X x c) (hi : X.N[i]? = some n) (hln : X.env.kindOf n = some .local)
      (hsu : ∀ (a : Addr) (oe : Obj) (cls : Value) (d : Option Addr) (pn : List (Addr × Obj)), Zc cls d oe → (∃ vs, oe.data = .fields vs) → PSs (X.suite a ((a, oe) :: pn)) (b₀ :: suite) (ts a cls d)) (r : HdsA X hds l) :
      HdsA X (.ExceptHandler (some (.Name x np)) (some n) (b₀ :: suite) pos' :: hds) ((c, i, ts) :: l)
section
variable {X : Cx} {body : List Stmt} {h₀ : ExceptHandler} {hds : List ExceptHandler} {l : List (Value × Nat × (Addr → Value → Option Addr → TS))} {pos : Pos} {tb : WX → TS} {Wout : WX}
theorem ps_try_manyA (hs : X.stack = X.env :: X.outer) (hf : X.env.frame = some X.env.locals) (hN : X.N.Nodup) (tk : Takes X Wout)
    (hb : ∀ (W : WX) (pn : List (Addr × Obj)) (xe : Value → Shared → Prop), Takes (X.tr pn xe) W → PassesOwn (model X.prog X.w) X.A X.env xe → PSs (X.tr pn xe) body (tb W))
    (hh : HdsA X (h₀ :: hds) l) : PS X (.Try body (h₀ :: hds) [] [] pos) (fun D σ H => tb (wManyA X.K X.N.length Wout D l) D σ H) := by
  refine ⟨fun pins s σ H D I h => ?_⟩
  have ok := I.ok
  have hfr : X.A.frames = some (X.env :: X.outer) := by rw [ok.frames, hs]
  refine wpAny_Try_except ?_
  refine wpAny_mono ((hb (wManyA X.K X.N.length Wout D l) (X.pn ++ pins) (fun e s₁ => wpAny (model X.prog X.w) X.A (noteFrame e X.env) (fun _ s₂ => wpAny (model X.prog X.w) X.A (setFlight e none) (fun _ s₃ =>
    wpAny (model X.prog X.w) X.A (handleBy e X.env (h₀ :: hds)) (SP X pins D) X.xe s₃) X.xe s₂) X.xe s₁) (fun u s' xx => ?_) PassesOwn.looking).run [] s σ H D (I.toTry _) h) (fun f s1 hsp => ?_) (fun e s1 he => he)
  · -- the catch
    obtain ⟨a, B, sI, pins', σ', H', cls, d, rfl, J', nb, up, sky, na, os, ag, w⟩ := xx
    have J : Inv X pins σ' H' sI := J'.ofTry ok
    have sky' : Sky B (X.env :: X.outer) a (Zc cls d) X.env.locals s'.heap := by rw [← hs]; exact sky
    show wpAny (model X.prog X.w) X.A (noteFrame (.ref a) X.env) _ _ _
    refine Sky.land Zc.steady hfr hf sky' fun h3 fl3 up3 => ?_
    have J3 : Inv X pins σ' H' { s' with heap := h3 } := J.landed nb fl3.1 (up.trans up3) os ag
    obtain ⟨oe3, vs3, he3, hz3, hd3⟩ := fl3.there
    have notFr : ∀ {h : Heap} {o : Obj} {vs : Array Value}, h.FunFrames B (X.env :: X.outer) → h.get? a = some o → o.data = .fields vs → a ∉ frs (X.env :: X.outer) := fun {h o vs} ff e dd hm => by
      obtain ⟨_, o', e', hnf⟩ := ff.mem hm
      rw [e] at e'; cases e'
      exact hnf _ dd
    have nfr := notFr fl3.2.2.1 he3 hd3
    have nL : a ≠ X.env.locals := fun z => nfr (List.mem_filterMap.mpr ⟨X.env, List.mem_cons_self, by rw [hf, z]⟩)
    have nF : a ∉ X.fs := fun hm => by
      obtain ⟨e, he, q⟩ := List.mem_filterMap.mp hm
      exact nfr (List.mem_filterMap.mpr ⟨e, List.mem_cons_of_mem _ he, q⟩)
    have S3 := J3.suite he3 hd3 na nL nF
    have go : ∀ {hds' : List ExceptHandler} {l' : List (Value × Nat × (Addr → Value → Option Addr → TS))}, HdsA X hds' l' → wManyA X.K X.N.length Wout D l' cls d σ' H' →
        wpAny (model X.prog X.w) X.A (handleBy (.ref a) X.env hds') (SP X pins D) X.xe { s' with heap := h3 } := by
      intro hds' l' hk
      induction hk with
      | nil =>
        intro w
        refine wpAny_handleBy_nil ?_
        obtain ⟨k1, k2, k3, oe, vs, T, oT, ts', he, hz, hd, h1, hr⟩ := id fl3
        unfold PySem.passOn
        refine wpAny_bind (wpAny_field he hd h1 ?_)
        rw [if_neg (show ¬ ((Value.ref T == Value.none) = true) from by simp)]
        have fin : wpAny (model X.prog X.w) X.A (setFlight (.ref a) X.env.frame) (fun _ s4 => wpAny (model X.prog X.w) X.A (throw (.ref a) : Sem Flow) (SP X pins D) X.xe s4) X.xe { s' with heap := h3 } := by
          rw [hf]
          refine HandSPX.setFlight_upZ fl3 fun h4 hh4 up4 => wpAny_throw (tk _ _ ?_)
          exact ⟨a, B, sI, pins, σ', H', cls, d, rfl, J, nb, (up.trans up3).trans up4, .inr (.inr (by rw [hs]; exact hh4)), na, os, ag, w⟩
        first
          | exact wpAny_bind (wpAny_pure (wpAny_bind fin))
          | exact wpAny_bind fin
      | @cons x n c i ts b₀ suite np pos' hds2 l2 hc hi hln hsu r ih =>
        intro w
        obtain ⟨b, hb1, hyes, hno⟩ := w
        have hloc : Loc X.env.scope n := .inl hln
        refine wpAny_handleBy_cons (codeAny_handlers_test ?_) (by intro q; cases q)
        have LT : PySem.W.Looks (model X.prog X.w) h3 (typeOf (.ref a)) cls := fun A Q E s k q => wpAny_typeOf_ref (k _ _ he3) (by rw [hz3.1]; exact q)
        have LM := PySem.W.exm_one (M := model X.prog X.w) (J3.kIn) LT hb1
        have test : ∀ {Q : Value → Shared → Prop} {E : Value → Shared → Prop}, Q c { s' with heap := h3 } → wpAny (model X.prog X.w) (X.A.mark (some (.ref a))) (eval (.Name x np) X.env) Q E { s' with heap := h3 } := fun {Q E} q => by
          obtain ⟨hg, hdbg, hm | ⟨hm, hv, hnn⟩⟩ := hc
          · exact ld_glob (X := X.suite a ((a, oe3) :: (X.pn ++ pins))) S3 hg hm q hdbg
          · exact ld_blt (X := X.suite a ((a, oe3) :: (X.pn ++ pins))) S3 hg hm hv q hnn hdbg
        refine test (LM.here ?_)
        cases b with
        | true =>
          refine codeAny_handlers_suite_as ?_
          refine HandSPX.lands_againZ fl3 fun h4 fl4 up4 => ?_
          have J4 : Inv X pins σ' H' { s' with heap := h4 } := J.landed nb fl4.1 ((up.trans up3).trans up4) os ag
          obtain ⟨oe4, vs4, he4, hz4, hd4⟩ := fl4.there
          have S4 := J4.suite he4 hd4 na nL nF
          refine store_ok (X := X.suite a ((a, oe4) :: (X.pn ++ pins))) (v := .ref a) S4 hN hi hloc rfl (fun s5 S5 => ?_) (.inr hln)
          refine wpAny_mono ((hsu a oe4 cls d (X.pn ++ pins) hz4 ⟨_, hd4⟩).run [] s5 _ H' _ S5 (hyes rfl a na J.len)) (fun f s6 hsp => ?_) (fun _ _ z => False.elim z)
          have end_ : ∀ {σ6 : L2.St} {H6 : Hp} {Q : Shared → Prop}, Inv (X.suite a ((a, oe4) :: (X.pn ++ pins))) [] σ6 H6 s6 → (∀ s7, Inv X pins (σ6.set i none) H6 s7 → Q s7) →
              wpAny (model X.prog X.w) X.A (do bindName X.env n .none; unbindBehindTheSuite X.env n pos') (fun _ s7 => Q s7) X.xe s6 := fun {σ6 H6 Q} S6 hq => gone_ok (S6.unsuite ok) hN hi hln hq
          cases f with
          | next =>
            obtain ⟨σ6, H6, S6, q6⟩ := hsp
            exact end_ S6 fun s7 J7 => ⟨_, _, J7, q6⟩
          | brk =>
            obtain ⟨σ6, H6, S6, q6⟩ := hsp
            exact end_ S6 fun s7 J7 => ⟨_, _, J7, q6⟩
          | cont =>
            obtain ⟨σ6, H6, S6, q6⟩ := hsp
            exact end_ S6 fun s7 J7 => ⟨_, _, J7, q6⟩
          | ret u =>
            obtain ⟨v6, σ6, H6, S6, r6, q6⟩ := hsp
            exact end_ S6 fun s7 J7 => ⟨_, _, _, J7, r6, q6⟩
        | false =>
          show wpAny _ X.A (handleBy (.ref a) X.env hds2) _ _ _
          exact ih (hno rfl)
    exact go hh w
  · cases f with
    | next =>
      obtain ⟨σ', H', J', q⟩ := hsp
      exact wpAny_execs_nil ⟨σ', H', J'.ofTry ok, q⟩
    | brk =>
      obtain ⟨σ', H', J', q⟩ := hsp
      exact ⟨σ', H', J'.ofTry ok, q⟩
    | cont =>
      obtain ⟨σ', H', J', q⟩ := hsp
      exact ⟨σ', H', J'.ofTry ok, q⟩
    | ret u =>
      obtain ⟨v, σ', H', J', r, q⟩ := hsp
      exact ⟨v, σ', H', J'.ofTry ok, r, q⟩
end
/-! ### what the written part says of the classes of errors, of the law's code -/
structure FunC (K : PySem.W.Frag) (x qual : Str) (st : Stmt) (f : Addr) (fd : FuncData) (c : Addr) : Prop where
  ex : ∃ (oc : Value) (od : Option Addr) (kV doc pm : Value) (an : Option Addr) (ct : Value) (osl : Array (Option Value)),
    fd = PySem.W.fnOf x qual (defArgs st) (defBody st) (defScope st) .none kV doc pm an (.ref c) ct ∧ K.lookup f = some ⟨oc, od, .func fd, osl⟩ ∧ PySem.W.codeIn K (.ref c) qual = true
  kp : PySem.W.keepIn K (.ref f) = true
theorem FunC.ok {P : Program} {w : World} {K : PySem.W.Frag} {mg : Str → Option Value} {base : Heap} {x qual : Str} {st : Stmt} {f c : Addr} {fd : FuncData} {N ps : List Str} {k : Nat} {sp : Sp} (F : FunC K x qual st f fd c) (S : FnScope N ps (defScope st)) (len : ∀ vs H Q E, sp vs H Q E → vs.length = ps.length)
    (hbody : ∀ (A : Around) (outer : List Env) (s : Shared) (H : Hp) (vs : List V) (Q : VK) (E : XK), Room k (A.deeper (envOfC qual (defScope st) s.heap.objs.size f (.ref c))) → sp vs H Q E →
      ∃ t, PSs (cxOf CX0 P w K mg base N qual (defScope st) f (.ref c) A outer s H E).nox (defBody st) t ∧ t { nx := fun _ H' => Q .non H', rt := Q } (start N vs) H) : FnOk P w K mg base CX0 (k + 1) f fd ps sp := by
  obtain ⟨oc, od, kV, doc, pm, an, ct, osl, rfl, lk, hcd⟩ := F.ex
  refine fn_of lk hcd S len fun A outer s H vs Q E hr hsp => ?_
  obtain ⟨t, h, q⟩ := hbody A outer s H vs Q E hr hsp
  exact ⟨t, h.nox, q⟩
structure ExcT (K : PySem.W.Frag) (C PE : Addr) (fs : List Str) : Prop where
  o : OexC K C
  x : XfC K C
  no : ∀ f ∈ fs, PySem.W.findIn K (.ref C) f = some none
  e : PySem.W.exmOne K (.ref C) (.ref PE) = some true
theorem ExcT.rd {K : PySem.W.Frag} {C PE : Addr} {fs : List Str} (T : ExcT K C PE fs) {f : Str} (h : f ∈ fs) : XRd K C f := ⟨T.x, T.no f h⟩
theorem binds_pe {K : PySem.W.Frag} {f : Addr} {fd : FuncData} (F : FunD K "__init__" "PileError.__init__" (defArgs s_PileError) (defBody s_PileError) (defScope s_PileError) [.str "PileError"] [] f fd) : Binds K fd P_PileError [] := by
  obtain ⟨ds, h1, h2⟩ := F.binds1 (ps := P_PileError) 2 1 (List.cons_ne_nil _ _) rfl (fun T kV doc pm an cdv ct us its hu hi => match us, hu, its, hi with | [_, _], _, [_], _ => ⟨_, rfl, rfl⟩)
  cases h1
  exact h2
theorem tabs_nil {H : Hp} {P : Addr} {q : Str} (h : H P = some (.tbl #[])) : LamX.Tabs [(P, q)] H := fun p hp => by
  rw [List.mem_singleton.mp hp]
  exact LamX.TabS.nil h
/-! ### a dict of the module that has no such key -/
def keysIn (ks : List Str) (es : List DictEntry) : Bool := es.all fun e => !e.refKey && (match e.key with | .str y _ => ks.contains y | _ => false)
theorem miss_of {K : PySem.W.Frag} {w : World} {a : Addr} {es : Array DictEntry} {n : Nat} {ks : List Str} (hl : K.lookup a = some ⟨.type "dict", none, .dict es n, #[]⟩) (hk : PySem.W.KeysLit w.params es.toList) (hs : (a == sysModules) = false)
    (h : keysIn ks es.toList = true) (z : Str) (hz : z ∉ ks) : KMiss K w a z := by
  refine ⟨es, n, hl, hk, hs, ?_⟩
  unfold PySem.W.nsIn
  rw [hl]
  have h' := List.all_eq_true.mp h
  have e1 : es.toList.find? (·.key.isStr z) = none := by
    refine List.find?_eq_none.mpr fun e he q => ?_
    obtain ⟨_, h2⟩ := Bool.and_eq_true_iff.mp (h' e he)
    split at h2
    · rename_i y t ey
      rw [ey] at q
      have : y = z := by
        first
          | exact eq_of_beq q
          | simpa [Value.isStr] using q
      rw [this] at h2
      exact hz (List.contains_iff_mem.mp h2)
    · cases h2
  have e2 : es.toList.any (·.refKey) = false := by
    refine Bool.eq_false_iff.mpr fun q => ?_
    obtain ⟨e, he, q⟩ := List.any_eq_true.mp q
    obtain ⟨h1, _⟩ := Bool.and_eq_true_iff.mp (h' e he)
    rw [q] at h1
    cases h1
  dsimp only
  rw [e1, e2]
  rfl
/-! ### enumerate of a tuple; a list or a tuple walked -/
theorem pi_or {X : Cx} {tg iter : Expr} {w1 w2 : TI} (h1 : PI X tg iter w1) (h2 : PI X tg iter w2) : PI X tg iter (fun σ H R => w1 σ H R ∨ w2 σ H R) :=
  ⟨fun pins s σ H R I h => h.elim (h1.run pins s σ H R I) (h2.run pins s σ H R I)⟩
set_option maxHeartbeats 1000000 in
theorem meets_enum1 {v : Value} {o : Obj} {H : Heap → Prop} (B : Begins v o H) :
    Meets (Builtin.«enumerate.__new__» ⟨[.type "enumerate", v], []⟩) (fun _ R s => H s.heap ∧
      R (.ok (.ret (.ref (s.heap.push o).objs.size))) { s with heap := (s.heap.push o).push { cls := .type "enumerate", data := .fields #[.none, .bool false, .ref s.heap.objs.size, rawInt 0, .none, .none] } }) :=
  .of_wp fun prog w A R s h => by
    obtain ⟨hp, g, d, tk, os⟩ := s; obtain ⟨h1, h⟩ := h
    have hsub := sub_enumerate
    have q1 : ∀ {A' : Around} {E : Value → Shared → Prop} {Q : Value → Shared → Prop}, Q (.ref hp.objs.size) ⟨hp.push o, g, d, tk, os⟩ → wpAny (model prog w) A' (pyIter v) Q E ⟨hp, g, d, tk, os⟩ :=
      fun q => B.iter prog w _ _ ⟨hp, g, d, tk, os⟩ _ h1 q
    wp_walk using q1
    refine wpAny_stack_any fun st => wpAny_pure ?_
    split
    · rename_i c _ _ _ _ _
      cases (c == Value.type "enumerate")
      · wp_walk using q1
        exact ⟨_, rfl, h⟩
      · wp_walk using q1
        exact ⟨_, rfl, h⟩
    · wp_walk using q1
      exact ⟨_, rfl, h⟩
theorem enum1_begins {prog : Program} {w : World} {A : Around} {E : Value → Shared → Prop} {s : Shared} {v : Value} {o : Obj} {H : Heap → Prop} {Q : Value → Shared → Prop} (B : Begins v o H) (h1 : H s.heap)
    (h : ∀ h', IsEnum h' (s.heap.objs.size + 1) s.heap.objs.size 0 .none → h'.get? s.heap.objs.size = some o → h'.objs.size = s.heap.objs.size + 2 →
      (∀ b o, s.heap.get? b = some o → h'.get? b = some o) → Q (.ref (s.heap.objs.size + 1)) { s with heap := h' }) :
    wpAny (model prog w) A (call (.type "enumerate") [v]) Q E s := by
  refine callType_new F.called_enumerate (by decide) (F.typeCall_enumerate_1 _) (F.newCall_enumerate_1 _) (fun obj => F.args_object_init_2 obj _) F.entry_enumerate_new
    (meets_enum1 B) ⟨h1, ?_⟩
  have hz : (s.heap.push o).objs.size = s.heap.objs.size + 1 := Heap.size_push ..
  show _ ∧ _
  rw [hz]
  have he : IsEnum ((s.heap.push o).push { cls := .type "enumerate", data := .fields #[.none, .bool false, .ref s.heap.objs.size, rawInt 0, .none, .none] }) (s.heap.objs.size + 1) s.heap.objs.size 0 .none := by
    have := Heap.get?_push_size (s.heap.push o) (o := { cls := .type "enumerate", data := .fields #[.none, .bool false, .ref s.heap.objs.size, rawInt 0, .none, .none] }) rfl
    rw [hz] at this; exact this
  refine ⟨⟨_, he, rfl⟩, h _ he (Heap.get?_push_of_some _ (Heap.get?_push_size _ B.free)) (by rw [Heap.size_push, hz]) fun b o x => Heap.get?_push_of_some _ (Heap.get?_push_of_some _ x)⟩
def Itet (K : PySem.W.Frag) (a : Addr) : It :=
  ⟨fun i H => ∃ (xs : List V) (x : V), SqT K H a xs ∧ xs[i]? = some x, fun i H v H' => ∃ T x, v = .ref T ∧ H T = none ∧ H' = upd H T (.tup [.int (i : Nat), x]) ∧ ∀ xs, SqT K H a xs → xs[i]? = some x, fun i H => ∃ xs : List V, SqT K H a xs ∧ xs.length ≤ i⟩
theorem turn_enumT {P : Program} {w : World} {K : PySem.W.Frag} {elts : List Expr} {kk : Nat} {tpos : Pos} (a e it : Addr) :
    Turn P w K (.Tuple elts kk tpos) (Itet K a) [e, it] e (fun i h => (∃ old, IsEnum h e it ((i : Nat) : Int) old) ∧ h.IsTupleIter it a i ∧ e ≠ it ∧ e ≠ a ∧ a ≠ it) where
  mem := by simp
  obj := fun i h st b hb => by
    obtain ⟨⟨old, he⟩, ⟨o, ho, hc, hd⟩, _⟩ := st
    have e' : b = e ∨ b = it := by simpa using hb
    rcases e' with z | z
    · rw [z]; exact ⟨_, he, fun v q => nomatch q⟩
    · rw [z]; exact ⟨o, ho, fun v q => by rw [hd] at q; cases q⟩
  keep := fun i h h' st k => let ⟨⟨old, he⟩, hi, hne⟩ := st; ⟨⟨old, k e (by simp) _ he⟩, hi.at fun o q => k it (by simp) o q, hne⟩
  item := by
    intro X hP hw hK hc i pins s σ H E I hf st hg
    subst hP hw hK
    obtain ⟨⟨old, he⟩, hit, hne, hne2, hne3⟩ := st
    obtain ⟨xs, x, hq, hx⟩ := hg
    obtain ⟨its, rv, p, hz⟩ := I.tuple hq
    have hel : e < s.heap.objs.size := Heap.lt_size he
    have hil : it < s.heap.objs.size := by obtain ⟨_, q, _⟩ := hit; exact Heap.lt_size q
    have hn : i < its.toArray.size := by
      have h1 := (List.getElem?_eq_some_iff.mp hx).1
      have h2 := rv.length
      simp
      omega
    have D := Draws.tuple (prog := X.prog) (w := X.w) (A := X.A.in1) (I.ok.hd hc) it a hne3 its.toArray
    refine wpAny_pyNext_enum_itemD D he ⟨hit, p⟩ hn hne (by simp [hne, hne2]) fun u h' tk hu ho hst' hT hsz hk => ?_
    obtain ⟨u', hu', ru⟩ := rv.get hx
    have eu : u = u' := by
      have h1 : its[i]? = some u := by simpa using hu
      rw [hu'] at h1
      exact (Option.some.inj h1).symm
    subst eu
    refine ⟨_, rfl, wpAny_letOwnedTupleGo_enum (s := { s with heap := h', toks := tk + 1 }) ho fun h'' he' sb => ?_⟩
    have hT2 : h''.get? s.heap.objs.size = some { cls := .type "tuple", data := .seq #[.int i tk, u] } := (sb.2 _ (Nat.ne_of_gt hel)).trans hT
    have new : ObjOk X.prog X.w (upd H s.heap.objs.size (.tup [.int (i : Nat), x])) h'' s.heap.objs.size (.tup [.int (i : Nat), x]) :=
      ⟨by show 2 ≤ sizeLine; decide, [.int i tk, u], .cons ⟨_, rfl⟩ (.cons ru .nil), ⟨_, hT2, rfl, _, rfl⟩⟩
    have I1 : Inv X pins σ (upd H s.heap.objs.size (.tup [.int (i : Nat), x])) { s with heap := h'', toks := tk + 1 } :=
      I.turnedNew (ch := [e, it]) (fun b ob hb q => (sb.2 b (fun z => hb (by simp [z]))).trans (hk b ob (fun z => hb (by simp [z])) (fun z => hb (by simp [z])) q)) hf (Nat.le_refl _) new
    refine ⟨.ref s.heap.objs.size, _, I1, rfl, ⟨_, x, rfl, I.hok.fresh (Nat.le_refl _), rfl, fun ys hy => by rw [I.tuple_inj hy hq]; exact hx⟩, ⟨⟨u, ?_⟩, hst'.1.at fun o q => (sb.2 it (Ne.symm hne)).trans q, hne, hne2, hne3⟩, fun b hb => ?_⟩
    · have e1 : ((i + 1 : Nat) : Int) = (i : Int) + 1 := by omega
      rw [e1]; exact he'
    · have hb' : b < s.heap.objs.size := by
        have e' : b = e ∨ b = it := by simpa using hb
        rcases e' with z | z
        · rw [z]; exact hel
        · rw [z]; exact hil
      rw [upd_ne (Nat.ne_of_lt hb')]
      exact (hf b hb).1
  done := by
    intro X hP hw hK hc i pins s σ H E I hf st hg
    subst hP hw hK
    obtain ⟨⟨old, he⟩, hit, hne, hne2, hne3⟩ := st
    obtain ⟨xs, hq, hx⟩ := hg
    obtain ⟨its, rv, p, hz⟩ := I.tuple hq
    obtain ⟨f0, f1, f2, f3, f4, f5⟩ := hf it (by simp)
    have hl := rv.length
    have hend : its.toArray[i]? = none := by simp; omega
    have hT : s.TypeIs (.ref e) "enumerate" := ⟨_, he, rfl⟩
    unfold pyNext
    refine wpAny_bind (wpAny_attempt (wpAny_callSpecial?_slot (name := Str.ofString "__next__") hT F.slot_enumerate_next
      (wpAny_call_entry F.slot_enumerate_next hT F.entry_enumerate_next ?_ (F.args_enumerate_next_1 _))))
    show wpAny _ _ (field (.ref e) 2 >>= _) _ _ _
    refine wpAny_bind (wpAny_field he rfl (x := .ref it) rfl ?_)
    refine wpAny_bind (wpAny_nextOf_tuple_end (A := X.A.in1) (I.ok.hd hc) hit p hend fun h' x eb hx' => ?_)
    obtain ⟨o, ho, hc'⟩ := hx'
    refine wpAny_bind (wpAny_isInstance (T := "StopIteration") (b := true) ⟨o, ho, hc'⟩ isSubtype_stop ?_)
    exact wpAny_pure ⟨rfl, I.turned (t' := s.toks) (fun b o hb q => eb b o hb q) f0 f1 f3 f4 f5⟩
  self := fun A i s Q E st h => let ⟨⟨_, he⟩, _⟩ := st; wpAny_pyIter_enum he h
def iEnumT (K : PySem.W.Frag) (ta : TA) : TI := fun σ H R => ta σ H fun vs H1 => ∃ a xs, vs = [.ref a] ∧ SqT K H1 a xs ∧ R (Itet K a) H1
theorem pi_enumT {X : Cx} {e : Expr} {ta : TA} {p pos tpos : Pos} {elts : List Expr} {kk : Nat} (hg : Gl X "enumerate") (hm : X.mg "enumerate" = none) (ha : PA X [e] ta) (hs : starEach [e] X.env = [(false, eval e X.env)] := by rfl) :
    PI X (.Tuple elts kk tpos) (.Call (.Name "enumerate" p) [e] [] pos) (iEnumT X.K ta) := by
  refine ⟨fun pins s σ H R I h => ?_⟩
  refine Call_ (ld_blt I hg hm boot_enumerate (PyProof.Rows.callWith_type1 (thn (ha.run pos pins s σ H _ I h) fun us s1 ⟨vs, H1, I1, r1, q1⟩ => ?_) hs rfl))
  obtain ⟨a, xs, ex, hq, q⟩ := q1
  subst ex
  cases r1 with
  | cons r rr =>
    cases rr
    cases r
    obtain ⟨its, rv, p', hz⟩ := I1.tuple hq
    refine enum1_begins (begins_tuple a its.toArray) p' fun h' he hit hsz hk => wpAny_pyIter_enum he ?_
    have I2 : Inv X pins σ H1 { s1 with heap := h' } := I1.kept (t' := s1.toks) hk
    have hlt : a < s1.heap.objs.size := by
      obtain ⟨o, q, _⟩ := p'
      exact Heap.lt_size q
    refine ⟨s1.heap.objs.size + 1, [s1.heap.objs.size + 1, s1.heap.objs.size], _, _, H1, rfl, I2, turn_enumT a (s1.heap.objs.size + 1) s1.heap.objs.size, ⟨⟨.none, he⟩, ⟨_, hit, rfl, rfl⟩, Nat.succ_ne_self _, Nat.ne_of_gt (Nat.lt_succ_of_lt hlt), Nat.ne_of_lt hlt⟩, fun b hb => ?_, q⟩
    have e' : b = s1.heap.objs.size + 1 ∨ b = s1.heap.objs.size := by simpa using hb
    have hle : s1.heap.objs.size ≤ b := by
      rcases e' with z | z
      · rw [z]; exact Nat.le_add_right _ _
      · rw [z]; exact Nat.le_refl _
    exact I1.fpOk hle (I1.hok.fresh hle)
section
variable {X : Cx} {K : PySem.W.Frag}
theorem k_enumT {e : Expr} {ta : TA} {p pos tpos : Pos} {elts : List Expr} {kk : Nat} (ha : PA X [e] ta) (hm : X.mg "enumerate" = none) (hg : Gl X "enumerate" := by rfl) (h1 : starEach [e] X.env = [(false, eval e X.env)] := by rfl) (h : X.K = K := by rfl) :
    PI X (.Tuple elts kk tpos) (.Call (.Name "enumerate" p) [e] [] pos) (iEnumT K ta) := h ▸ pi_enumT hg hm ha h1
end
structure Txt (K : PySem.W.Frag) (mg : Str → Option Value) (w : World) where
  a_common_rounds : Addr
  d_common_rounds : FuncData
  F_common_rounds : Fun K "common_rounds" "common_rounds" s_common_rounds a_common_rounds d_common_rounds
  g_common_rounds : mg "common_rounds" = some (.ref a_common_rounds)
  b_common_rounds : Binds K d_common_rounds P_common_rounds []
  a_both_remainders : Addr
  d_both_remainders : FuncData
  F_both_remainders : Fun K "both_remainders" "both_remainders" s_both_remainders a_both_remainders d_both_remainders
  g_both_remainders : mg "both_remainders" = some (.ref a_both_remainders)
  b_both_remainders : Binds K d_both_remainders P_both_remainders []
  a_divisor_and_factor : Addr
  d_divisor_and_factor : FuncData
  F_divisor_and_factor : Fun K "divisor_and_factor" "divisor_and_factor" s_divisor_and_factor a_divisor_and_factor d_divisor_and_factor
  g_divisor_and_factor : mg "divisor_and_factor" = some (.ref a_divisor_and_factor)
  b_divisor_and_factor : Binds K d_divisor_and_factor P_divisor_and_factor []
  a__law_bag : Addr
  d__law_bag : FuncData
  F__law_bag : Fun K "_law_bag" "_law_bag" s__law_bag a__law_bag d__law_bag
  g__law_bag : mg "_law_bag" = some (.ref a__law_bag)
  b__law_bag : Binds K d__law_bag P__law_bag []
  a__law_pull : Addr
  d__law_pull : FuncData
  F__law_pull : Fun K "_law_pull" "_law_pull" s__law_pull a__law_pull d__law_pull
  g__law_pull : mg "_law_pull" = some (.ref a__law_pull)
  b__law_pull : Binds K d__law_pull P__law_pull []
  a__law_of : Addr
  d__law_of : FuncData
  F__law_of : Fun K "_law_of" "_law_of" s__law_of a__law_of d__law_of
  g__law_of : mg "_law_of" = some (.ref a__law_of)
  b__law_of : Binds K d__law_of P__law_of []
  a__law_same : Addr
  d__law_same : FuncData
  F__law_same : Fun K "_law_same" "_law_same" s__law_same a__law_same d__law_same
  g__law_same : mg "_law_same" = some (.ref a__law_same)
  b__law_same : Binds K d__law_same P__law_same []
  a__law_field : Addr
  d__law_field : FuncData
  F__law_field : Fun K "_law_field" "_law_field" s__law_field a__law_field d__law_field
  g__law_field : mg "_law_field" = some (.ref a__law_field)
  b__law_field : Binds K d__law_field P__law_field []
  a__law_try : Addr
  d__law_try : FuncData
  F__law_try : Fun K "_law_try" "_law_try" s__law_try a__law_try d__law_try
  g__law_try : mg "_law_try" = some (.ref a__law_try)
  b__law_try : Binds K d__law_try P__law_try []
  a__law_gcd : Addr
  d__law_gcd : FuncData
  F__law_gcd : Fun K "_law_gcd" "_law_gcd" s__law_gcd a__law_gcd d__law_gcd
  g__law_gcd : mg "_law_gcd" = some (.ref a__law_gcd)
  b__law_gcd : Binds K d__law_gcd P__law_gcd []
  a__law_lcm : Addr
  d__law_lcm : FuncData
  F__law_lcm : Fun K "_law_lcm" "_law_lcm" s__law_lcm a__law_lcm d__law_lcm
  g__law_lcm : mg "_law_lcm" = some (.ref a__law_lcm)
  b__law_lcm : Binds K d__law_lcm P__law_lcm []
  a_law : Addr
  d_law : FuncData
  F_law : Fun K "law" "law" s_law a_law d_law
  g_law : mg "law" = some (.ref a_law)
  c_law : Addr
  p_law : Addr
  C_law : FunC K "law" "law" s_law a_law d_law c_law
  a_PileError : Addr
  g_PileError : mg "PileError" = some (.ref a_PileError)
  f_PileError : Addr
  d_PileError : FuncData
  F_PileError : FunD K "__init__" "PileError.__init__" (defArgs s_PileError) (defBody s_PileError) (defScope s_PileError) [.str "PileError"] [] f_PileError d_PileError
  b_PileError : Binds K d_PileError P_PileError []
  r_PileError : ClX.CRead K a_PileError (.type "type")
  v_PileError : ClX.CVal K a_PileError (.type "type") "__init__" (.ref f_PileError) (.ref f_PileError)
  a_BadRemainder : Addr
  g_BadRemainder : mg "BadRemainder" = some (.ref a_BadRemainder)
  x_BadRemainder : ExcT K a_BadRemainder a_PileError ["code", "at"]
  f_BadRemainder : Addr
  d_BadRemainder : FuncData
  F_BadRemainder : Fun K "__init__" "BadRemainder.__init__" s_BadRemainder f_BadRemainder d_BadRemainder
  b_BadRemainder : Binds K d_BadRemainder P_BadRemainder []
  i_BadRemainder : PySem.W.findIn K (.ref a_BadRemainder) "__init__" = some (some (.ref f_BadRemainder))
  ti_BadRemainder : PySem.W.typeIn K (.ref f_BadRemainder) = some (.type "function")
  a_Missing : Addr
  g_Missing : mg "Missing" = some (.ref a_Missing)
  m_abs : mg "abs" = none
  m_all : mg "all" = none
  m_bool : mg "bool" = none
  m_dict : mg "dict" = none
  m_enumerate : mg "enumerate" = none
  m_int : mg "int" = none
  m_isinstance : mg "isinstance" = none
  m_len : mg "len" = none
  m_list : mg "list" = none
  m_range : mg "range" = none
  m_str : mg "str" = none
  m_tuple : mg "tuple" = none
  m_zip : mg "zip" = none
/-! ### calls without arguments, by keywords alone, of a starred def -/
section
variable {X : Cx} {CX : CXT} {k : Nat} {f : Addr} {fd : FuncData} {ps ks : List Str} {sp : Sp} {E : XK} {x : Str} {p pos : Pos} {e : Expr} {es : List Expr} {kws : List Keyword} {t tk : TA}
def tR (sp : Sp) (E : XK) (t : TA) : TE := fun σ H Q => t σ H fun vs H1 => sp vs H1 Q E
theorem pe_callR (F : FnR X.prog X.w X.K X.mg X.base CX k f sp) (hr : Room k X.A) (hk : PySem.W.keepIn X.K (.ref f) = true) (hg : Gl X x) (hm : X.mg x = some (.ref f)) (hx : Passes CX X E)
    (args : PA X (e :: es) t) (no_dbg : (x == ("__debug__" : Str)) = false := by decide) (h1 : starEach (e :: es) X.env = (false, eval e X.env) :: starEach es X.env := by rfl)
    (h2 : (backTo pos (starEach es X.env)).any (·.1) = false := by rfl) : PE X (.Call (.Name x p) (e :: es) [] pos) (tR sp E t) :=
  ⟨fun pins s σ H Q I h => wpAny_Call_Name_kw (ld_glob I hg hm (PySem.W.callWith_K (h₀ := X.base) I.ok.mod.kin hk
    (thn (args.run pos pins s σ H _ I h) fun us s1 ⟨vs, H1, I1, r, q⟩ => ⟨I1.kIn, wpAny_call (run_fnR F hr hx I1 r q)⟩) h1 h2) no_dbg)⟩
theorem pe_callR0 (F : FnR X.prog X.w X.K X.mg X.base CX k f sp) (hr : Room k X.A) (hk : PySem.W.keepIn X.K (.ref f) = true) (hg : Gl X x) (hm : X.mg x = some (.ref f)) (hx : Passes CX X E)
    (no_dbg : (x == ("__debug__" : Str)) = false := by decide) : PE X (.Call (.Name x p) [] [] pos) (tR sp E tNil) :=
  ⟨fun pins s σ H Q I h => wpAny_Call_Name_kw (ld_glob I hg hm (PySem.W.callWith_K0 I.kIn hk (wpAny_call (run_fnR (us := []) F hr hx I .nil h))) no_dbg)⟩
theorem pe_callK0 {g : List Value → List Value → List Value} {gV : List V → List V → List V} (F : FnOk X.prog X.w X.K X.mg X.base CX k f fd ps sp) (hr : Room k X.A) (hg : Gl X x) (hm : X.mg x = some (.ref f))
    (hk : PySem.W.keepIn X.K (.ref f) = true) (hb : KBinds X.K fd ps ks g gV) (hx : Passes CX X E) (hkw : PK X kws tk) (hall : (backToKw pos (keywordEach kws X.env)).all (·.1.isSome) = true := by rfl)
    (hks : (backToKw pos (keywordEach kws X.env)).filterMap (·.1) = ks := by rfl) (no_dbg : (x == ("__debug__" : Str)) = false := by decide)
    (hpl : ((backTo pos (starEach [] X.env)).any (·.1) || (backToKw pos (keywordEach kws X.env)).any (·.1.isNone)) = false := by rfl) : PE X (.Call (.Name x p) [] kws pos) (tCallK sp gV E tNil tk) := by
  constructor
  intro pins s σ H Q I h
  refine wpAny_Call_Name_kw (ld_glob I hg hm (PySem.W.callWith_KW0 (h₀ := X.base) I.ok.mod.kin hk hall (thn (hkw.run pos pins s σ H _ I h) fun ws s2 ⟨zs, H2, I2, rz, q2⟩ => ⟨I2.kIn, ?_⟩) hpl) no_dbg)
  rw [hks]
  exact run_fnk (us := []) F hr hb hx I2 .nil rz q2
end
/-! ### tests -/
theorem iteD {p : Prop} [Decidable p] {A B : Prop} (h1 : p → A) (h2 : ¬ p → B) : if decide p = true then A else B := by
  by_cases h : p
  · simp only [h, decide_true, if_true]; exact h1 h
  · simp only [h, decide_false, Bool.false_eq_true, if_false]; exact h2 h
theorem iteND {p : Prop} [Decidable p] {A B : Prop} (h1 : ¬ p → A) (h2 : p → B) : if (!decide p) = true then A else B := by
  by_cases h : p
  · simp only [h, decide_true, Bool.not_true, Bool.false_eq_true, if_false]; exact h2 h
  · simp only [h, decide_false, Bool.not_false, if_true]; exact h1 h
theorem iteE {i j : Int} {A B : Prop} (h1 : i = j → A) (h2 : i ≠ j → B) : if decide (V.int i = V.int j) = true then A else B :=
  iteD (fun h => h1 (V.int.inj h)) fun h => h2 fun e => h (by rw [e])
theorem iteNE {i j : Int} {A B : Prop} (h1 : i ≠ j → A) (h2 : i = j → B) : if (!decide (V.int i = V.int j)) = true then A else B :=
  iteND (fun h => h1 fun e => h (by rw [e])) fun h => h2 (V.int.inj h)
/-! ### the bag of drawn numbers -/
theorem same_new {H : Hp} {p : Addr} {o : HO} (h : H p = none) : Same H (upd H p o) := fun b x e => by rw [upd_ne (ne_of_none e h)]; exact e
def But (b : Addr) (H H' : Hp) : Prop := ∀ a o, a ≠ b → H a = some o → H' a = some o
theorem But.refl (b : Addr) (H : Hp) : But b H H := fun _ _ _ h => h
theorem But.trans {b : Addr} {H H1 H2 : Hp} (x : But b H H1) (y : But b H1 H2) : But b H H2 := fun a o n h => y a o n (x a o n h)
theorem But.upd {b : Addr} {H H' : Hp} {o : HO} (x : But b H H') : But b H (upd H' b o) := fun a u n h => by rw [upd_ne n]; exact x a u n h
theorem Same.but {b : Addr} {H H' : Hp} (x : Same H H') : But b H H' := fun a o _ h => x a o h
theorem But.new {b p : Addr} {H H' : Hp} {o : HO} (x : But b H H') (h : H' p = none) : But b H (L2.upd H' p o) := x.trans (Same.but (same_new h))
theorem But.get {b a : Addr} {H H' : Hp} {o : HO} (x : But b H H') (n : a ≠ b) (h : H a = some o) : H' a = some o := x a o n h
/-- the bag stands at b: its cells at l, the place, what is held, the seed -/
structure BagAt (H : Hp) (b l : Addr) (cs : List Int) (i h s : Int) : Prop where
  at_ : H b = some (.lst [.ref l, .int i, .int h, .int s])
  cells : H l = some (.lst (cs.map V.int))
  ne : l ≠ b
  len : cs.length ≤ 63
  i0 : 0 ≤ i
  h0 : 0 ≤ h
  s0 : 0 ≤ s
  s1 : s < 2147483647
def Bag (H : Hp) (b l : Addr) : Prop := ∃ cs i h s, BagAt H b l cs i h s
theorem BagAt.same {H H' : Hp} {b l : Addr} {cs : List Int} {i h s : Int} (x : BagAt H b l cs i h s) (e : Same H H') : BagAt H' b l cs i h s := ⟨e _ _ x.at_, e _ _ x.cells, x.ne, x.len, x.i0, x.h0, x.s0, x.s1⟩
theorem Bag.same {H H' : Hp} {b l : Addr} (x : Bag H b l) (e : Same H H') : Bag H' b l := by
  obtain ⟨cs, i, h, s, y⟩ := x
  exact ⟨cs, i, h, s, y.same e⟩
theorem Bag.ne {H : Hp} {a b l : Addr} (x : Bag H b l) (h : H a = none) : a ≠ b := by
  obtain ⟨cs, i, hh, s, y⟩ := x
  exact (ne_of_none y.at_ h).symm
theorem Bag.nl {H : Hp} {a b l : Addr} (x : Bag H b l) (h : H a = none) : a ≠ l := by
  obtain ⟨cs, i, hh, s, y⟩ := x
  exact (ne_of_none y.cells h).symm
theorem Bag.mut {H : Hp} {a b l : Addr} {o : HO} (x : Bag H b l) (h1 : a ≠ b) (h2 : a ≠ l) : Bag (upd H a o) b l := by
  obtain ⟨cs, i, hh, s, y⟩ := x
  exact ⟨cs, i, hh, s, by rw [upd_ne h1.symm]; exact y.at_, by rw [upd_ne h2.symm]; exact y.cells, y.ne, y.len, y.i0, y.h0, y.s0, y.s1⟩
theorem BagAt.set {H : Hp} {b l : Addr} {cs : List Int} {i h s i' h' s' : Int} {o : List V} (x : BagAt H b l cs i h s) (e : o = [.ref l, .int i', .int h', .int s']) (a1 : 0 ≤ i') (a2 : 0 ≤ h') (a3 : 0 ≤ s') (a4 : s' < 2147483647) :
    BagAt (upd H b (.lst o)) b l cs i' h' s' := ⟨by rw [upd_same, e], by rw [upd_ne x.ne]; exact x.cells, x.ne, x.len, a1, a2, a3, a4⟩
theorem bag_set {H : Hp} {b l : Addr} {cs : List Int} {i h s i' h' s' k : Int} {j : Nat} {v : V} {Q : Hp → Prop} (x : BagAt H b l cs i h s) (hj : ixN 4 k = some j)
    (e : ([.ref l, .int i, .int h, .int s] : List V).set j v = [.ref l, .int i', .int h', .int s']) (a1 : 0 ≤ i') (a2 : 0 ≤ h') (a3 : 0 ≤ s') (a4 : s' < 2147483647)
    (q : ∀ H', BagAt H' b l cs i' h' s' → But b H H' → Q H') : rSetL (.ref b) (.int k) v H Q :=
  ⟨b, _, k, j, rfl, rfl, x.at_, hj, q _ (x.set e a1 a2 a3 a4) (But.refl b H).upd⟩
theorem fmod_lo (a : Int) {m : Int} (h : 0 < m) : 0 ≤ a.fmod m := by rw [Int.fmod_eq_emod_of_nonneg _ (by omega)]; exact Int.emod_nonneg _ (by omega)
theorem fmod_hi (a : Int) {m : Int} (h : 0 < m) : a.fmod m < m := by rw [Int.fmod_eq_emod_of_nonneg _ (by omega)]; exact Int.emod_lt_of_pos _ h
theorem nat_lt {z : Int} {n : Nat} (h0 : 0 ≤ z) (h1 : z < 2 ^ n) : z.natAbs < 2 ^ n := by
  have : ((z.natAbs : Int)) < ((2 ^ n : Nat) : Int) := by rw [Int.natAbs_of_nonneg h0]; rw [Int.natCast_pow]; exact h1
  omega
def sp_bag (K : PySem.W.Frag) : Sp := fun vs H Q _ => ∃ (a : Addr) (ns : List Int), vs = [.ref a] ∧ SqL K H a (ns.map V.int) ∧ ns.length ≤ 63 ∧ ∀ b l H', H b = none → H l = none → Same H H' → Bag H' b l → Q (.ref b) H'
/-- an amount that // takes -/
def Fit (n : Int) : Prop := n.natAbs < 2 ^ 8000
theorem Fit.of {n : Int} (h0 : 0 ≤ n) (h : n < 1000000000000000000000000000000000000000000) : Fit n := Nat.lt_of_lt_of_le (show n.natAbs < 2 ^ 140 by omega) (Nat.pow_le_pow_right (by decide) (by decide))
def sp_pull : Sp := fun vs H Q _ => ∃ (b l : Addr) (n : Int), vs = [.ref b, .int n] ∧ Bag H b l ∧ 0 < n ∧ Fit n ∧ ∀ r H', 0 ≤ r → r < n → Bag H' b l → But b H H' → Q (.int r) H'
/-! ### steps of a reading -/
theorem mul_ok {i j : Int} (h1 : i.natAbs < 2 ^ 20000) (h2 : j.natAbs < 2 ^ 20000) : CMulW i j := wide_mul h1 h2 (by decide) (by decide) (by decide)
theorem small_pow {i : Int} {a b : Nat} (h : i.natAbs < 2 ^ a) (hab : a ≤ b) : i.natAbs < 2 ^ b := Nat.lt_of_lt_of_le h (Nat.pow_le_pow_right (by decide) hab)
theorem small_abs {i : Int} (h : i.natAbs < 1000000000000000000000000000000000000000000) : i.natAbs < 2 ^ 20000 := small_pow (a := 140) (Nat.lt_of_lt_of_le h (by decide)) (by decide)
theorem div_ok {i j : Int} (h : 0 < j) (h1 : Fit j) : CDivW i j := wide_div h h1 (by decide) (by decide)
theorem div_small {i j : Int} (h : 0 < j) (h1 : j < 1000000000000000000000000000000) : CDivW i j := div_ok h (Fit.of (by omega) (by omega))
theorem le_line {n : Nat} (h : n ≤ 1000) : n ≤ sizeLine := Nat.le_trans h (by decide)
theorem lt_line {n : Nat} (h : n < 1000) : n < sizeLine := Nat.lt_of_lt_of_le h (by decide)
theorem at0 {a b c d : V} : atI [a, b, c, d] 0 = some a := rfl
theorem at1 {a b c d : V} : atI [a, b, c, d] 1 = some b := rfl
theorem at2 {a b c d : V} : atI [a, b, c, d] 2 = some c := rfl
theorem at3 {a b c d : V} : atI [a, b, c, d] 3 = some d := rfl
/-! ### isinstance of built-in kinds -/
theorem kb_int_list : kitB "int" "list" = some false := by decide +kernel
theorem kb_int_tuple : kitB "int" "tuple" = some false := by decide +kernel
theorem kb_int_dict : kitB "int" "dict" = some false := by decide +kernel
theorem kb_int_bool : kitB "int" "bool" = some false := by decide +kernel
theorem kb_int_int : kitB "int" "int" = some true := by decide +kernel
theorem kb_int_str : kitB "int" "str" = some false := by decide +kernel
theorem kb_str_list : kitB "str" "list" = some false := by decide +kernel
theorem kb_str_tuple : kitB "str" "tuple" = some false := by decide +kernel
theorem kb_str_dict : kitB "str" "dict" = some false := by decide +kernel
theorem kb_str_bool : kitB "str" "bool" = some false := by decide +kernel
theorem kb_str_int : kitB "str" "int" = some false := by decide +kernel
theorem kb_str_str : kitB "str" "str" = some true := by decide +kernel
theorem kb_bool_list : kitB "bool" "list" = some false := by decide +kernel
theorem kb_bool_tuple : kitB "bool" "tuple" = some false := by decide +kernel
theorem kb_bool_dict : kitB "bool" "dict" = some false := by decide +kernel
theorem kb_bool_bool : kitB "bool" "bool" = some true := by decide +kernel
theorem kb_bool_int : kitB "bool" "int" = some true := by decide +kernel
theorem kb_bool_str : kitB "bool" "str" = some false := by decide +kernel
theorem kb_NoneType_list : kitB "NoneType" "list" = some false := by decide +kernel
theorem kb_NoneType_tuple : kitB "NoneType" "tuple" = some false := by decide +kernel
theorem kb_NoneType_dict : kitB "NoneType" "dict" = some false := by decide +kernel
theorem kb_NoneType_bool : kitB "NoneType" "bool" = some false := by decide +kernel
theorem kb_NoneType_int : kitB "NoneType" "int" = some false := by decide +kernel
theorem kb_NoneType_str : kitB "NoneType" "str" = some false := by decide +kernel
theorem kb_list_list : kitB "list" "list" = some true := by decide +kernel
theorem kb_list_tuple : kitB "list" "tuple" = some false := by decide +kernel
theorem kb_list_dict : kitB "list" "dict" = some false := by decide +kernel
theorem kb_list_bool : kitB "list" "bool" = some false := by decide +kernel
theorem kb_list_int : kitB "list" "int" = some false := by decide +kernel
theorem kb_list_str : kitB "list" "str" = some false := by decide +kernel
theorem kb_tuple_list : kitB "tuple" "list" = some false := by decide +kernel
theorem kb_tuple_tuple : kitB "tuple" "tuple" = some true := by decide +kernel
theorem kb_tuple_dict : kitB "tuple" "dict" = some false := by decide +kernel
theorem kb_tuple_bool : kitB "tuple" "bool" = some false := by decide +kernel
theorem kb_tuple_int : kitB "tuple" "int" = some false := by decide +kernel
theorem kb_tuple_str : kitB "tuple" "str" = some false := by decide +kernel
theorem tyL {K : PySem.W.Frag} {H : Hp} {a : Addr} {xs : List V} (h : SqL K H a xs) : TyX K H (.ref a) (.type "list") := by
  rcases h with (h | ⟨o, h⟩) | ⟨o, its, n, h1, h2, _⟩
  · exact .base (.lst h)
  · exact .base (.frz h)
  · exact .kList h1 h2
theorem tyT {K : PySem.W.Frag} {H : Hp} {a : Addr} {xs : List V} (h : SqT K H a xs) : TyX K H (.ref a) (.type "tuple") := by
  rcases h with (h | ⟨o, h⟩) | ⟨o, its, n, h1, h2, _⟩
  · exact .base (.tup h)
  · exact .fTuple h
  · exact .kTuple h1 h2
/-! ### loops over anything -/
theorem lc_by {J : It} {n : Nat} {g : TG} {tt : TT} {te : TE} {vs : List Nat} {σ : L2.St} {H1 : Hp} {D : Addr} {Qd : Hp → Prop} (Pv : Nat → Hp → Prop) (h0 : Pv 0 (upd H1 D (.lst []))) (hgo : ∀ i H, i < n → Pv i H → J.go i H) (hstop : ∀ H, Pv n H → J.stop n H)
    (hs : ∀ i H x H', i < n → Pv i H → J.yld i H x H' → g x (wipe σ vs) H' fun σ2 H2 => wipe σ2 vs = wipe σ vs ∧ tt σ2 H2 fun b H3 =>
      if b = true then te σ2 H3 fun y H4 => ∃ acc, H4 D = some (.lst acc) ∧ acc.length < sizeLine ∧ Pv (i + 1) (upd H4 D (.lst (acc ++ [y]))) else Pv (i + 1) H3) (hd : ∀ H, Pv n H → Qd H) :
    ∃ W : Nat → Nat → Hp → Prop, (∃ m, W 0 m (upd H1 D (.lst []))) ∧ ∀ i m H, W i m H →
      (J.stop i H ∧ Qd H) ∨ (J.go i H ∧ ∃ Nx : Hp → Prop, (∀ H', Nx H' → ∃ m', m' < m ∧ W (i + 1) m' H') ∧ ∀ x H', J.yld i H x H' → g x (wipe σ vs) H' fun σ2 H2 => wipe σ2 vs = wipe σ vs ∧ tt σ2 H2 fun b H3 =>
        if b = true then te σ2 H3 fun y H4 => ∃ acc, H4 D = some (.lst acc) ∧ acc.length < sizeLine ∧ Nx (upd H4 D (.lst (acc ++ [y]))) else Nx H3) := by
  refine ⟨fun i m H => m = n - i ∧ i ≤ n ∧ Pv i H, ⟨n, by simp, Nat.zero_le _, h0⟩, ?_⟩
  rintro i m H ⟨em, hi, pv⟩
  by_cases hlt : i < n
  · exact .inr ⟨hgo i H hlt pv, Pv (i + 1), fun H' p' => ⟨n - (i + 1), by omega, rfl, hlt, p'⟩, fun x H' y => hs i H x H' hlt pv y⟩
  · have e : i = n := by omega
    rw [e] at pv ⊢
    exact .inl ⟨hstop H pv, hd H pv⟩
theorem for_by {J : It} {n : Nat} {g : TG} {tb : TS} {D : Ends} {σ : L2.St} {H : Hp} (Pv : Nat → L2.St → Hp → Prop) (h0 : Pv 0 σ H) (hgo : ∀ i σ H, i < n → Pv i σ H → J.go i H) (hstop : ∀ σ H, Pv n σ H → J.stop n H)
    (hs : ∀ i σ H x H', i < n → Pv i σ H → J.yld i H x H' → g x σ H' fun σ2 H2 => tb { D with nx := Pv (i + 1), ct := Pv (i + 1), bk := D.nx } σ2 H2) (hd : ∀ σ H, Pv n σ H → D.nx σ H) :
    ∃ W : Nat → Nat → L2.St → Hp → Prop, (∃ m, W 0 m σ H) ∧ ∀ i m σ H, W i m σ H →
      (J.stop i H ∧ D.nx σ H) ∨ (J.go i H ∧ ∃ N : L2.St → Hp → Prop, (∀ σ' H', N σ' H' → ∃ m', m' < m ∧ W (i + 1) m' σ' H') ∧ ∀ x H', J.yld i H x H' → g x σ H' fun σ2 H2 => tb { D with nx := N, ct := N, bk := D.nx } σ2 H2) := by
  refine ⟨fun i m σ H => m = n - i ∧ i ≤ n ∧ Pv i σ H, ⟨n, by simp, Nat.zero_le _, h0⟩, ?_⟩
  rintro i m σ H ⟨em, hi, pv⟩
  by_cases hlt : i < n
  · exact .inr ⟨hgo i σ H hlt pv, Pv (i + 1), fun σ' H' p' => ⟨n - (i + 1), by omega, rfl, hlt, p'⟩, fun x H' y => hs i σ H x H' hlt pv y⟩
  · have e : i = n := by omega
    rw [e] at pv ⊢
    exact .inl ⟨hstop σ H pv, hd σ H pv⟩
theorem at_zero {α : Type} {x : α} {xs : List α} : atI (x :: xs) 0 = some x := by
  show atI (x :: xs) ((0 : Nat) : Int) = some x
  exact atI_nat rfl
theorem Same.mut {H H' : Hp} {p : Addr} {o : HO} (e : Same H H') (h : H p = none) : Same H (upd H' p o) := fun a u ha => by
  rw [upd_ne (ne_of_none ha h)]
  exact e a u ha
theorem Same.new {H H' : Hp} {p : Addr} {o : HO} (e : Same H H') (h : H' p = none) : Same H (upd H' p o) := Same.trans e (same_new h)
theorem Same.tup {K : PySem.W.Frag} {H H' : Hp} {a : Addr} {xs : List V} (e : Same H H') (h : SqT K H a xs) : SqT K H' a xs := by
  rcases h with (h | ⟨o, h⟩) | h
  · exact .inl (.inl (e _ _ h))
  · exact .inl (.inr ⟨o, e _ _ h⟩)
  · exact .inr h
-- what stands at an address
local macro_rules | `(tactic| walk_at "hp") => `(tactic| first | assumption | exact upd_same | exact BagAt.at_ (by assumption) | exact BagAt.cells (by assumption) | fail "hp")
local macro_rules | `(tactic| walk_at "sq") => `(tactic| first | assumption | (refine Or.inl (Or.inl ?_); walk_at "hp") | (apply Same.seq <;> assumption))
-- bounds
local macro_rules | `(tactic| walk_at "num") => `(tactic| first
  | exact rfl | decide | exact le_line (Nat.le_of_ble_eq_true rfl) | exact lt_line (Nat.le_of_ble_eq_true rfl)
  | (exact mul_ok (small_abs (by omega)) (small_abs (by omega)))
  | (exact div_small (by omega) (by omega))
  | (exact div_ok (by omega) (by assumption))
  | (refine ⟨?_, ?_⟩ <;> omega) | omega
  | (show (_ : Int) ≠ 0; omega) | (show CPow _ _; unfold CPow; decide))
-- one step
local macro_rules | `(tactic| walk_at "rd") => `(tactic| first
  | (refine Exists.intro _ (And.intro rfl ?_))
  | (refine Exists.intro _ (Exists.intro _ (And.intro rfl (And.intro rfl ?_))))
  | (refine Or.inl (Exists.intro _ (And.intro rfl ?_)))
  | (refine Or.inr (Exists.intro _ (And.intro rfl ?_)))
  | (with_reducible refine iteF ?_) | (with_reducible refine iteT ?_)
  | (refine And.intro ?cc ?_; (case cc => walk_at "num"))
  | (refine' Exists.intro _ (Exists.intro _ (Exists.intro _ (Exists.intro _ (And.intro rfl (And.intro rfl (And.intro ?sq (And.intro ?ha ?k))))))); (case sq => walk_at "sq"); (case ha => first | exact rfl | assumption | exact at_zero))
  | (refine' Exists.intro _ (Exists.intro _ (And.intro rfl (And.intro (Or.inl ?sq) ?k))); (case sq => walk_at "sq")))
local macro_rules | `(tactic| walk_at "sqt") => `(tactic| first | assumption | (refine Or.inl (Or.inl ?_); walk_at "hp") | (apply Same.tup <;> assumption))
local macro_rules | `(tactic| walk_at "rdt") => `(tactic| first
  | walk_at "rd"
  | (refine' Exists.intro _ (Exists.intro _ (And.intro rfl (And.intro (Or.inr ?sq) ?k))); (case sq => walk_at "sqt"))
  | (refine' Exists.intro _ (Exists.intro _ (Exists.intro _ (Exists.intro _ (And.intro rfl (And.intro rfl (And.intro ?sq (And.intro ?ha ?k))))))); (case sq => walk_at "sqt"); (case ha => first | exact rfl | assumption | exact at_zero))
  | (refine iteF ?_) | (refine iteT ?_))
local macro_rules | `(tactic| walk_at "rds") => `(tactic| repeat walk_at "rdt")
local macro_rules | `(tactic| walk_at "pull") => `(tactic| (refine' Exists.intro _ (Exists.intro _ (Exists.intro _ (And.intro rfl (And.intro ?bag (And.intro ?pos (And.intro ?fit ?kk)))))); (case bag => assumption); (case pos => first | decide | omega); (case fit => exact Fit.of (by first | decide | omega) (by first | decide | omega))))
local macro_rules | `(tactic| walk_at "two") => `(tactic| refine Exists.intro _ (Exists.intro _ (And.intro rfl ?_)))
/-! ### the law's own draws -/
section
variable {P : Program} {w : World} {K : PySem.W.Frag} {mg : Str → Option Value} {base : Heap}
theorem tail_take {xs : List V} (h : xs.length ≤ 63) : cutV xs none (some 63) = xs := by
  unfold cutV
  have e1 : HT.sIx xs.length 0 none = 0 := HT.sIx_none _ _
  have e2 : HT.sIx xs.length xs.length (some 63) = xs.length := by
    have := HT.sIx_nat xs.length xs.length 63
    rw [show ((63 : Nat) : Int) = 63 from rfl] at this
    rw [this]
    omega
  rw [e1, e2, List.drop_zero, Nat.sub_zero]
  exact List.take_length
theorem ne_zero {i : Int} (h : 0 < i) : i ≠ 0 := by omega
theorem ok__law_bag (T : Txt K mg w) : FnOk P w K mg base CX0 1 T.a__law_bag T.d__law_bag P__law_bag (sp_bag K) := by
  refine T.F__law_bag.ok sc__law_bag (fun vs H Q E h => ?_) (fun cdv A outer s H vs Q E hr h => ?_)
  · obtain ⟨a, ns, rfl, _⟩ := h
    rfl
  · obtain ⟨a, ns, rfl, hS, hlen, q⟩ := h
    refine ⟨_, (pss_cons (ps_set (i := 1) sc__law_bag.nd rfl (Or.inl rfl) pe_int)
  (pss_cons (ps_for PassesOwn.never rfl (k_piL (K := K) (pe_slice (k_slL (K := K)) (pv 0) po_none (po_some pe_int))) (pg_name (i := 2) sc__law_bag.nd rfl (Or.inl rfl))
  (pss_one (ps_set (i := 1) sc__law_bag.nd rfl (Or.inl rfl) (pe_op op_modN (pe_callTy call_int1 (by rfl) T.m_int boot_int (pa_cons (pe_op op_add (pe_op op_add (pe_op op_mulW (pv 1) pe_int) (pe_op op_modN (pe_callTy call_int1 (by rfl) T.m_int boot_int (pa_cons (pv 2) pa_nil)) pe_int)) pe_int) pa_nil)) pe_int))))
  (pss_one (ps_ret (pe_lst (pa_cons (pe_callTy (k_list (K := K)) (by rfl) T.m_list boot_list (pa_cons (pe_slice (k_slL (K := K)) (pv 0) po_none (po_some pe_int)) pa_nil)) (pa_cons pe_int (pa_cons pe_int (pa_cons (pv 1) pa_nil))))))))), ?_⟩
    refine ⟨.ref a, rfl, 63, rfl, a, ns.map V.int, rfl, hS, fun c nc => ?_⟩
    rw [tail_take (by rw [List.length_map]; exact hlen)]
    have s1 : Same H (upd H c (.lst (ns.map V.int))) := same_new nc
    have hC : SqL K (upd H c (.lst (ns.map V.int))) c (ns.map V.int) := .inl (.inl upd_same)
    refine ⟨c, rfl, ⟨_, hC⟩, for_list (xs := ns.map V.int) (fun i σ H' => H' = upd H c (.lst (ns.map V.int)) ∧ ∃ salt y, σ = [some (.ref a), some (.int salt), y] ∧ 0 ≤ salt ∧ salt < 2147483647)
      ⟨rfl, 3817, none, rfl, by omega, by omega⟩ (fun i σ H' _ hp => by rw [hp.1]; exact hC) (fun i x σ H' hx hp => ?_) (fun σ H' hp => ?_)⟩
    · obtain ⟨rfl, salt, y, rfl, b1, b2⟩ := hp
      obtain ⟨n, -, rfl⟩ : ∃ n, n ∈ ns ∧ V.int n = x := by simpa using List.mem_of_getElem? hx
      have c1 := fmod_lo n (m := 2147483579) (by decide)
      have c2 := fmod_hi n (m := 2147483579) (by decide)
      refine ⟨_, rfl, _, _, rfl, rfl, mul_ok (small_abs (by omega)) (small_abs (by omega)), ?_⟩
      refine ⟨_, rfl, .inl ⟨_, rfl, ?_⟩⟩
      refine ⟨_, _, rfl, rfl, ne_zero (by decide), _, _, rfl, rfl, _, _, rfl, rfl, .inl ⟨_, rfl, ?_⟩⟩
      refine ⟨_, _, rfl, rfl, ne_zero (by decide), rfl, _, _, rfl, ?_, ?_⟩
      · exact fmod_lo _ (by decide)
      · exact fmod_hi _ (by decide)
    · obtain ⟨rfl, salt, y, rfl, b1, b2⟩ := hp
      refine ⟨.ref a, rfl, 63, rfl, a, ns.map V.int, rfl, s1.seq hS, fun c2 nc2 => ?_⟩
      rw [tail_take (by rw [List.length_map]; exact hlen)]
      refine ⟨c2, _, rfl, .inl (.inl (.inl upd_same)), fun l nl => ?_⟩
      refine ⟨_, rfl, by show 4 ≤ sizeLine; decide, fun b nb => ?_⟩
      have s2 := (s1.trans (same_new nc2)).trans (same_new (o := .lst (ns.map V.int)) nl)
      have s3 := s2.trans (same_new (o := .lst [.ref l, .int 0, .int 0, .int salt]) nb)
      have nlb : l ≠ b := fun e => by
        rw [← e, upd_same] at nb
        cases nb
      refine q b l _ (s2.free nb) ((s1.trans (same_new nc2)).free nl) s3 ⟨ns, 0, 0, salt, ⟨upd_same, ?_, nlb, hlen, by omega, by omega, b1, b2⟩⟩
      rw [upd_ne nlb]
      exact upd_same
theorem ok__law_pull (T : Txt K mg w) : FnOk P w K mg base CX0 1 T.a__law_pull T.d__law_pull P__law_pull sp_pull := by
  refine T.F__law_pull.ok sc__law_pull (fun vs H Q E h => ?_) (fun cdv A outer s H vs Q E hr h => ?_)
  · obtain ⟨a, l, n, rfl, _⟩ := h
    rfl
  · obtain ⟨b, l, n, rfl, ⟨cs, i, hd, s, hB⟩, n0, n1, q⟩ := h
    refine ⟨_, (Evl.pss_cut (ps_if (PW.pt (pw_and (pt_cmpR op_eq (pe_ix (k_ixL (K := K)) (pv 0) pe_int (fun _ _ => rfl)) pe_int (nomark _)) (pw_and1 (pt_cmpR op_lt (pe_ix (k_ixL (K := K)) (pv 0) pe_int (fun _ _ => rfl)) (pe_callB (k_len (K := K)) (by rfl) T.m_len boot_len (pa_cons (pe_ix (k_ixL (K := K)) (pv 0) pe_int (fun _ _ => rfl)) pa_nil)) (nomark _)))))
  (pss_cons (ps_set (i := 2) sc__law_pull.nd rfl (Or.inl rfl) (pe_ix (k_ixL (K := K)) (pe_ix (k_ixL (K := K)) (pv 0) pe_int (fun _ _ => rfl)) (pe_ix (k_ixL (K := K)) (pv 0) pe_int (fun _ _ => rfl)) (fun _ _ => rfl)))
  (pss_cons (ps_asg (pe_op op_add (pe_ix (k_ixL (K := K)) (pv 0) pe_int (fun _ _ => rfl)) pe_int) (pg_sub (pv 0) pe_int set_list))
  (pss_one (ps_if (pt_cmpR op_ge (pv 2) (pe_op op_pow pe_int pe_int) (nomark _))
  (pss_one (ps_asg (pv 2) (pg_sub (pv 0) pe_int set_list))) (pss_one (ps_asg (pe_op op_modN (pe_callTy call_int1 (by rfl) T.m_int boot_int (pa_cons (pe_op op_add (pe_op op_add (pe_op op_mulW (pe_ix (k_ixL (K := K)) (pv 0) pe_int (fun _ _ => rfl)) pe_int) (pe_op op_mulW (pe_op op_modN (pe_callTy call_int1 (by rfl) T.m_int boot_int (pa_cons (pv 2) pa_nil)) pe_int) pe_int)) pe_int) pa_nil)) pe_int) (pg_sub (pv 0) pe_int set_list))))))) pss_nil)
  (pss_cons (ps_if (pt_cmpR op_gt (pe_ix (k_ixL (K := K)) (pv 0) pe_int (fun _ _ => rfl)) pe_int (nomark _))
  (pss_cons (ps_set (i := 3) sc__law_pull.nd rfl (Or.inl rfl) (pe_op op_modN (pe_callTy call_int1 (by rfl) T.m_int boot_int (pa_cons (pe_ix (k_ixL (K := K)) (pv 0) pe_int (fun _ _ => rfl)) pa_nil)) (pv 1)))
  (pss_cons (ps_asg (pe_op op_fdivW (pe_ix (k_ixL (K := K)) (pv 0) pe_int (fun _ _ => rfl)) (pv 1)) (pg_sub (pv 0) pe_int set_list))
  (pss_one (ps_ret (pv 3))))) pss_nil)
  (pss_cons (ps_set (i := 4) sc__law_pull.nd rfl (Or.inl rfl) (pe_ix (k_ixL (K := K)) (pv 0) pe_int (fun _ _ => rfl)))
  (pss_cons (ps_asg (pe_op op_modN (pe_callTy call_int1 (by rfl) T.m_int boot_int (pa_cons (pe_op op_add (pe_op op_add (pe_op op_mulW (pv 4) (pv 4)) (pe_op op_mulW (pv 4) pe_int)) pe_int) pa_nil)) pe_int) (pg_sub (pv 0) pe_int set_list))
  (pss_one (ps_ret (pe_op op_modN (pe_callTy call_int1 (by rfl) T.m_int boot_int (pa_cons (pe_op op_add (pe_op op_fdivW (pe_ix (k_ixL (K := K)) (pv 0) pe_int (fun _ _ => rfl)) pe_int) (pe_op op_mulW (pe_op op_modN (pe_callTy call_int1 (by rfl) T.m_int boot_int (pa_cons (pe_ix (k_ixL (K := K)) (pv 0) pe_int (fun _ _ => rfl)) pa_nil)) pe_int) pe_int)) pa_nil)) (pv 1)))))))), ?_⟩
    have i0 := hB.i0
    have hd0 := hB.h0
    have s0 := hB.s0
    have s1 := hB.s1
    refine ⟨fun σ' H' => ∃ i' hd' s' y2, BagAt H' b l cs i' hd' s' ∧ But b H H' ∧ σ' = [some (.ref b), some (.int n), y2, none, none], ?_, fun σ' H' hM => ?_⟩
    · walk_at "rds"
      refine iteE (fun h0 => ?_) (fun h0 => ?_)
      · walk_at "rds"
        refine iteD (fun h1 => ?_) (fun h1 => ?_)
        · have hl : i.toNat < cs.length := by
            rw [List.length_map] at h1
            omega
          have hat : atI (cs.map V.int) i = some (.int cs[i.toNat]) := by
            exact at_of (j := i.toNat) (by omega) (by rw [List.getElem?_map, List.getElem?_eq_getElem hl]; rfl)
          walk_at "rds"
          refine bag_set hB rfl rfl (by omega) hd0 s0 s1 (fun H2 hB2 b2 => ?_)
          walk_at "rds"
          refine iteD (fun h2 => ?_) (fun h2 => ?_)
          · have h3 : (0 : Int) ≤ cs[i.toNat] := Int.le_trans (by decide) h2
            walk_at "rds"
            exact bag_set hB2 rfl rfl (by omega) h3 s0 s1 fun H3 hB3 b3 => ⟨_, _, _, _, hB3, b2.trans b3, rfl⟩
          · have c1 := fmod_lo cs[i.toNat] (m := 2147483579) (by decide)
            have c2 := fmod_hi cs[i.toNat] (m := 2147483579) (by decide)
            walk_at "rds"
            exact bag_set hB2 rfl rfl (by omega) hd0 (fmod_lo _ (by decide)) (fmod_hi _ (by decide)) fun H3 hB3 b3 => ⟨_, _, _, _, hB3, b2.trans b3, rfl⟩
        · exact ⟨_, _, _, _, hB, But.refl _ _, rfl⟩
      · walk_at "rds"
        exact ⟨_, _, _, _, hB, But.refl _ _, rfl⟩
    · obtain ⟨i', hd', s', y2, hB', hb', rfl⟩ := hM
      have i0 := hB'.i0
      have hd0 := hB'.h0
      have s0 := hB'.s0
      have s1 := hB'.s1
      walk_at "rds"
      refine iteD (fun h0 => ?_) (fun h0 => ?_)
      · have nn : n ≠ 0 := by omega
        walk_at "rds"
        refine bag_set hB' rfl rfl i0 (Int.ediv_nonneg hd0 (by omega)) s0 s1 (fun H2 hB2 b2 => ?_)
        walk_at "rds"
        exact q _ _ (fmod_lo _ n0) (fmod_hi _ n0) ⟨_, _, _, _, hB2⟩ (hb'.trans b2)
      · have nn : n ≠ 0 := by omega
        walk_at "rds"
        refine bag_set hB' rfl rfl i0 hd0 (fmod_lo _ (by decide)) (fmod_hi _ (by decide)) (fun H2 hB2 b2 => ?_)
        have c1 := hB2.s0
        have c2 := hB2.s1
        generalize (s' * s' + s' * 48271 + 1013904223).fmod 2147483647 = z at hB2 c1 c2
        have c3 := fmod_lo z (m := 8191) (by decide)
        have c4 := fmod_hi z (m := 8191) (by decide)
        walk_at "rds"
        exact q _ _ (fmod_lo _ n0) (fmod_hi _ n0) ⟨_, _, _, _, hB2⟩ (hb'.trans b2)
end
local macro_rules | `(tactic| walk_at "isi") => `(tactic| (refine' Exists.intro _ (Exists.intro _ (Exists.intro _ (Exists.intro _ (Exists.intro _ (And.intro rfl (And.intro (ClsV.ty _) (And.intro ?tt (And.intro (kit_ty ?ee) ?kk)))))))); (case tt => assumption); (case ee => first | exact kb_int_list | exact kb_int_tuple | exact kb_int_dict | exact kb_int_bool | exact kb_int_int | exact kb_int_str | exact kb_str_list | exact kb_str_tuple | exact kb_str_dict | exact kb_str_bool | exact kb_str_int | exact kb_str_str | exact kb_bool_list | exact kb_bool_tuple | exact kb_bool_dict | exact kb_bool_bool | exact kb_bool_int | exact kb_bool_str | exact kb_NoneType_list | exact kb_NoneType_tuple | exact kb_NoneType_dict | exact kb_NoneType_bool | exact kb_NoneType_int | exact kb_NoneType_str | exact kb_list_list | exact kb_list_tuple | exact kb_list_dict | exact kb_list_bool | exact kb_list_int | exact kb_list_str | exact kb_tuple_list | exact kb_tuple_tuple | exact kb_tuple_dict | exact kb_tuple_bool | exact kb_tuple_int | exact kb_tuple_str)))
-- one step
local macro_rules | `(tactic| walk_at "same") => `(tactic| repeat first | walk_at "rdt" | walk_at "isi")
/-! ### the law's comparison -/
/-- equal data, at most d deep -/
inductive Sm (K : PySem.W.Frag) (H : Hp) : Nat → V → V → Prop where
  | int (d : Nat) (i : Int) : Sm K H d (.int i) (.int i)
  | str (d : Nat) (z : Str) : Sm K H d (.str z) (.str z)
  | bl (d : Nat) (b : Bool) : Sm K H d (.bl b) (.bl b)
  | non (d : Nat) : Sm K H d .non .non
  | lst {d : Nat} {a b : Addr} {xs ys : List V} (hx : SqL K H a xs) (hy : SqL K H b ys) (hl : xs.length = ys.length) (hz : xs.length < 1000) (h : ∀ (i : Nat) (x y : V), xs[i]? = some x → ys[i]? = some y → Sm K H d x y) : Sm K H (d + 1) (.ref a) (.ref b)
  | tup {d : Nat} {a b : Addr} {xs ys : List V} (hx : SqT K H a xs) (hy : SqT K H b ys) (hl : xs.length = ys.length) (hz : xs.length < 1000) (h : ∀ (i : Nat) (x y : V), xs[i]? = some x → ys[i]? = some y → Sm K H d x y) : Sm K H (d + 1) (.ref a) (.ref b)
theorem Sm.same {K : PySem.W.Frag} {H H' : Hp} {d : Nat} {x y : V} (h : Sm K H d x y) (e : Same H H') : Sm K H' d x y := by
  induction h with
  | int d i => exact .int d i
  | str d z => exact .str d z
  | bl d b => exact .bl d b
  | non d => exact .non d
  | lst hx hy hl hz _ ih => exact .lst (e.seq hx) (e.seq hy) hl hz ih
  | tup hx hy hl hz _ ih => exact .tup (Same.tup e hx) (Same.tup e hy) hl hz ih
def sp_same (K : PySem.W.Frag) (d : Nat) : Sp := fun vs H Q _ => ∃ x y : V, vs = [x, y] ∧ Sm K H d x y ∧ ∀ H', Same H H' → Q (.bl true) H'
theorem all_true (n : Nat) : (List.replicate n true).all id = true := by
  rw [List.all_eq_true]
  intro b hb
  exact (List.mem_replicate.mp hb).2
section
variable {P : Program} {w : World} {K : PySem.W.Frag} {mg : Str → Option Value} {base : Heap}
theorem ok_same_step (T : Txt K mg w) {k : Nat} {spr : Sp} (G__law_same : FnOk P w K mg base CX0 k T.a__law_same T.d__law_same P__law_same spr) (d : Nat) (hspr : ∀ e, d = e + 1 → ∀ x y H (Q : VK) E, Sm K H e x y → (∀ H', Same H H' → Q (.bl true) H') → spr [x, y] H Q E) :
    FnOk P w K mg base CX0 (k + 1) T.a__law_same T.d__law_same P__law_same (sp_same K d) := by
  refine T.F__law_same.ok sc__law_same (fun vs H Q E h => ?_) (fun cdv A outer s H vs Q E hr h => ?_)
  · obtain ⟨x, y, rfl, _⟩ := h
    rfl
  · obtain ⟨x, y, rfl, hS, q⟩ := h
    refine ⟨_, (pss_cons (ps_if (PW.pt (pw_or (pt_val (pe_callB (k_isi (K := K)) (by rfl) T.m_isinstance boot_isinstance (pa_cons (pv 1) (pa_cons (pe_bltn (v := .ty "list") (by rfl) T.m_list boot_list rfl) pa_nil)))) (pw_or1 (pt_val (pe_callB (k_isi (K := K)) (by rfl) T.m_isinstance boot_isinstance (pa_cons (pv 1) (pa_cons (pe_bltn (v := .ty "tuple") (by rfl) T.m_tuple boot_tuple rfl) pa_nil)))))))
  (pss_cons (ps_if (PW.pt (pw_or (pt_cmpR op_ne (pe_callB (k_isi (K := K)) (by rfl) T.m_isinstance boot_isinstance (pa_cons (pv 0) (pa_cons (pe_bltn (v := .ty "list") (by rfl) T.m_list boot_list rfl) pa_nil))) (pe_callB (k_isi (K := K)) (by rfl) T.m_isinstance boot_isinstance (pa_cons (pv 1) (pa_cons (pe_bltn (v := .ty "list") (by rfl) T.m_list boot_list rfl) pa_nil))) (nomark _)) (pw_or1 (pt_cmpR op_ne (pe_callB (k_isi (K := K)) (by rfl) T.m_isinstance boot_isinstance (pa_cons (pv 0) (pa_cons (pe_bltn (v := .ty "tuple") (by rfl) T.m_tuple boot_tuple rfl) pa_nil))) (pe_callB (k_isi (K := K)) (by rfl) T.m_isinstance boot_isinstance (pa_cons (pv 1) (pa_cons (pe_bltn (v := .ty "tuple") (by rfl) T.m_tuple boot_tuple rfl) pa_nil))) (nomark _)))))
  (pss_one (ps_ret pe_bl)) pss_nil)
  (pss_one (ps_ret (pe_and (pe_cmpR op_eq (pe_callB (k_len (K := K)) (by rfl) T.m_len boot_len (pa_cons (pv 0) pa_nil)) (pe_callB (k_len (K := K)) (by rfl) T.m_len boot_len (pa_cons (pv 1) pa_nil)) (nomark _)) (pe_one (pe_callB (k_all (K := K)) (by rfl) T.m_all boot_all (pa_cons (pe_lc (own := [("_law_one", 2), ("_law_other", 3)]) rfl sc__law_same.nd (k_zip (K := K) (pa_cons (pv 0) (pa_cons (pv 1) pa_nil)) T.m_zip) (blkOk_by (N := N__law_same) (sc := defScope s__law_same) (by decide +kernel)) (fun _ _ _ _ _ => (k_gT (K := K) (n := 2) (pgs_cons (pg_name (i := 2) sc__law_same.nd rfl (Or.inl rfl)) (pgs_cons (pg_name (i := 3) sc__law_same.nd rfl (Or.inl rfl)) pgs_nil)))) (fun _ _ _ _ _ => pts_nil) (fun _ _ _ _ _ => (pe_call G__law_same hr (by rfl) T.g__law_same T.F__law_same.kp T.b__law_same .nil pass0 (pa_cons (pv 2) (pa_cons (pv 3) pa_nil))))) pa_nil))))))) pss_nil)
  (pss_cons (ps_if (pt_val (pe_callB (k_isi (K := K)) (by rfl) T.m_isinstance boot_isinstance (pa_cons (pv 1) (pa_cons (pe_bltn (v := .ty "dict") (by rfl) T.m_dict boot_dict rfl) pa_nil))))
  (pss_one ps_never) pss_nil)
  (pss_cons (ps_if (PW.pt (pw_or (pt_cmpR op_isN (pv 1) pe_non (nomark _)) (pw_or1 (pt_cmpR op_isN (pv 0) pe_non (nomark _)))))
  (pss_one (ps_ret (pe_and (pe_cmpR op_isN (pv 1) pe_non (nomark _)) (pe_one (pe_cmpR op_isN (pv 0) pe_non (nomark _)))))) pss_nil)
  (pss_cons (ps_if (PW.pt (pw_or (pt_cmpR op_ne (pe_callB (k_isi (K := K)) (by rfl) T.m_isinstance boot_isinstance (pa_cons (pv 0) (pa_cons (pe_bltn (v := .ty "bool") (by rfl) T.m_bool boot_bool rfl) pa_nil))) (pe_callB (k_isi (K := K)) (by rfl) T.m_isinstance boot_isinstance (pa_cons (pv 1) (pa_cons (pe_bltn (v := .ty "bool") (by rfl) T.m_bool boot_bool rfl) pa_nil))) (nomark _)) (pw_or1 (pt_cmpR op_ne (pe_callB (k_isi (K := K)) (by rfl) T.m_isinstance boot_isinstance (pa_cons (pv 0) (pa_cons (pe_bltn (v := .ty "int") (by rfl) T.m_int boot_int rfl) pa_nil))) (pe_callB (k_isi (K := K)) (by rfl) T.m_isinstance boot_isinstance (pa_cons (pv 1) (pa_cons (pe_bltn (v := .ty "int") (by rfl) T.m_int boot_int rfl) pa_nil))) (nomark _)))))
  (pss_one (ps_ret pe_bl)) pss_nil)
  (pss_one (ps_ret (pe_and (pe_cmpR op_eq (pe_callB (k_isi (K := K)) (by rfl) T.m_isinstance boot_isinstance (pa_cons (pv 0) (pa_cons (pe_bltn (v := .ty "str") (by rfl) T.m_str boot_str rfl) pa_nil))) (pe_callB (k_isi (K := K)) (by rfl) T.m_isinstance boot_isinstance (pa_cons (pv 1) (pa_cons (pe_bltn (v := .ty "str") (by rfl) T.m_str boot_str rfl) pa_nil))) (nomark _)) (pe_one (pe_cmpR op_eq (pv 0) (pv 1) (nomark _)))))))))), ?_⟩
    cases hS with
    | int _ i =>
      have tx : TyX K H (.int i) (.type "int") := .base (.int i)
      walk_at "same"
      show Q (V.bl (decide (V.int i = V.int i))) H
      rw [decide_eq_true rfl]
      exact q H (Same.refl H)
    | str _ z =>
      have tx : TyX K H (.str z) (.type "str") := .base (.str z)
      walk_at "same"
      show Q (V.bl (decide (V.str z = V.str z))) H
      rw [decide_eq_true rfl]
      exact q H (Same.refl H)
    | bl _ b =>
      have tx : TyX K H (.bl b) (.type "bool") := .base (.bl b)
      walk_at "same"
      show Q (V.bl (decide (V.bl b = V.bl b))) H
      rw [decide_eq_true rfl]
      exact q H (Same.refl H)
    | non =>
      have tx : TyX K H .non (.type "NoneType") := .base .non
      walk_at "same"
      exact q H (Same.refl H)
    | @lst _ a b xs ys hx hy hl hz hh =>
      have tx := tyL hx
      have ty := tyL hy
      walk_at "same"
      refine iteE (fun _ => ?_) (fun e => absurd (by rw [hl]) e)
      refine ⟨.ref a, rfl, .ref b, rfl, a, b, xs, ys, rfl, .inl ⟨hx, hy, fun D hD => ?_⟩⟩
      have s0 : Same H (upd H D (.lst [])) := same_new hD
      refine lc_by (n := xs.length) (fun i H' => Same H H' ∧ H' D = some (.lst ((List.replicate i true).map V.bl))) ⟨s0, upd_same⟩
        (fun i H' hi hp => ⟨xs, ys, xs[i], ys[i]'(hl ▸ hi), hp.1.seq hx, hp.1.seq hy, List.getElem?_eq_getElem hi, List.getElem?_eq_getElem (hl ▸ hi)⟩)
        (fun H' hp => ⟨xs, ys, hp.1.seq hx, hp.1.seq hy, .inl (Nat.le_refl _)⟩) (fun i H' v H2 hi hp hv => ?_) (fun H' hp => ?_)
      · obtain ⟨t, x, y, rfl, nt, rfl, f1, f2⟩ := hv
        obtain ⟨hp1, hp2⟩ := hp
        have gx := f1 xs (hp1.seq hx)
        have gy := f2 ys (hp1.seq hy)
        have s2 : Same H (upd H' t (.tup [x, y])) := Same.new hp1 nt
        refine ⟨t, [x, y], rfl, .inl (.inl upd_same), rfl, x, [y], rfl, y, [], rfl, rfl, rfl, x, rfl, y, rfl, ?_⟩
        refine hspr _ rfl x y _ _ _ ((hh i x y gx gy).same s2) fun H3 s3 => ⟨_, s3 _ _ (same_new nt _ _ hp2), ?_, Same.mut (s2.trans s3) hD, ?_⟩
        · rw [List.length_map, List.length_replicate]
          exact lt_line (by omega)
        · rw [upd_same, List.replicate_succ']
          simp
      · refine ⟨D, _, rfl, .inl (.inl hp.2), ?_⟩
        rw [all_true]
        exact q H' hp.1
    | @tup _ a b xs ys hx hy hl hz hh =>
      have tx := tyT hx
      have ty := tyT hy
      walk_at "same"
      refine iteE (fun _ => ?_) (fun e => absurd (by rw [hl]) e)
      refine ⟨.ref a, rfl, .ref b, rfl, a, b, xs, ys, rfl, .inr ⟨hx, hy, fun D hD => ?_⟩⟩
      have s0 : Same H (upd H D (.lst [])) := same_new hD
      refine lc_by (n := xs.length) (fun i H' => Same H H' ∧ H' D = some (.lst ((List.replicate i true).map V.bl))) ⟨s0, upd_same⟩
        (fun i H' hi hp => ⟨xs, ys, xs[i], ys[i]'(hl ▸ hi), Same.tup hp.1 hx, Same.tup hp.1 hy, List.getElem?_eq_getElem hi, List.getElem?_eq_getElem (hl ▸ hi)⟩)
        (fun H' hp => ⟨xs, ys, Same.tup hp.1 hx, Same.tup hp.1 hy, .inl (Nat.le_refl _)⟩) (fun i H' v H2 hi hp hv => ?_) (fun H' hp => ?_)
      · obtain ⟨t, x, y, rfl, nt, rfl, f1, f2⟩ := hv
        obtain ⟨hp1, hp2⟩ := hp
        have gx := f1 xs (Same.tup hp1 hx)
        have gy := f2 ys (Same.tup hp1 hy)
        have s2 : Same H (upd H' t (.tup [x, y])) := Same.new hp1 nt
        refine ⟨t, [x, y], rfl, .inl (.inl upd_same), rfl, x, [y], rfl, y, [], rfl, rfl, rfl, x, rfl, y, rfl, ?_⟩
        refine hspr _ rfl x y _ _ _ ((hh i x y gx gy).same s2) fun H3 s3 => ⟨_, s3 _ _ (same_new nt _ _ hp2), ?_, Same.mut (s2.trans s3) hD, ?_⟩
        · rw [List.length_map, List.length_replicate]
          exact lt_line (by omega)
        · rw [upd_same, List.replicate_succ']
          simp
      · refine ⟨D, _, rfl, .inl (.inl hp.2), ?_⟩
        rw [all_true]
        exact q H' hp.1
theorem ok_same (T : Txt K mg w) (d : Nat) : FnOk P w K mg base CX0 (d + 1) T.a__law_same T.d__law_same P__law_same (sp_same K d) := by
  induction d with
  | zero =>
    have z : FnOk P w K mg base CX0 0 T.a__law_same T.d__law_same P__law_same (fun _ _ _ _ => False) := ⟨fun _ _ _ _ h => h.elim, fun _ _ _ _ _ _ _ _ _ _ _ _ _ h => h.elim⟩
    exact ok_same_step T z 0 fun e h => nomatch h
  | succ d ih => exact ok_same_step T ih (d + 1) fun e he x y H Q E h q => ⟨x, y, rfl, (Nat.succ.inj he) ▸ h, q⟩
end
/-! ### errors are made -/
/-- an error is raised: its class, its field, its code, what it holds -/
def Raised (C : Addr) (fld code : Str) (v : V) (H : Hp) (E : XK) : Prop := ∀ dd, H dd = none → E (.ref C) (some dd) (upd H dd (.xd [(fld, v), ("code", .str code)]))
def sp_pe (K : PySem.W.Frag) : Sp := fun vs H Q _ => ∃ (a C : Addr) (z : Str), vs = [.ref a, .str z] ∧ OexC K C ∧ PySem.W.findIn K (.ref C) "code" = some none ∧ H a = some (exo a C none) ∧ ∀ dx, H dx = none → dx ≠ a → Q .non (upd (upd H dx (exd dx [("code", .str z)])) a (exo a C (some dx)))
def sp_x1 (K : PySem.W.Frag) (C : Addr) (fld z : Str) : Sp := fun vs H Q _ => ∃ (a : Addr) (v : V), vs = [.ref a, v] ∧ H a = some (exo a C none) ∧ ∀ dx H', H dx = none → dx ≠ a → H' a = some (exo a C (some dx)) → H' dx = some (exd dx [(fld, v), ("code", .str z)]) → (∀ b, b ≠ a → b ≠ dx → H' b = H b) → Q .non H'
theorem mk_x1 {K : PySem.W.Frag} {C : Addr} {fld z : Str} {H1 : Hp} {v : V} {W : Option Addr → Hp → Prop} (h : ∀ d, H1 d = none → W (some d) (upd H1 d (.xd [(fld, v), ("code", .str z)]))) :
    ∀ a, H1 a = none → sp_x1 K C fld z (.ref a :: ([v] ++ [])) (upd H1 a (exo a C none)) (fun y H2 => y = .non ∧ ∃ (d : Addr) (fs : List (Str × V)), H2 a = some (exo a C (some d)) ∧ H2 d = some (exd d fs) ∧ H1 d = none ∧ W (some d) (upd (del H2 a) d (.xd fs))) (fun _ _ _ => False) := by
  intro a na
  refine ⟨a, v, rfl, upd_same, fun dx H' n ne e1 e2 e3 => ⟨rfl, dx, _, e1, e2, by rwa [upd_ne ne] at n, ?_⟩⟩
  have e : upd (del H' a) dx (.xd [(fld, v), ("code", .str z)]) = upd H1 dx (.xd [(fld, v), ("code", .str z)]) := by
    funext b
    by_cases h1 : b = dx
    · rw [h1, upd_same, upd_same]
    · rw [upd_ne h1, upd_ne h1]
      by_cases h2 : b = a
      · rw [h2, del_same, na]
      · rw [del_ne h2, e3 b h2 h1, upd_ne h2]
  rw [e]
  exact h dx (by rwa [upd_ne ne] at n)
section
variable {P : Program} {w : World} {K : PySem.W.Frag} {mg : Str → Option Value} {base : Heap}
theorem ok_PileError (T : Txt K mg w) : FnOk P w K mg base CX0 1 T.f_PileError T.d_PileError P_PileError (sp_pe K) := by
  refine T.F_PileError.ok (CX := CX0) sc_PileError (fun vs H Q E h => ?_) (fun cdv A outer s H vs Q E hr h => ?_)
  · obtain ⟨a, C, z, rfl, _⟩ := h
    rfl
  · obtain ⟨a, C, z, rfl, hO, hn, ha, q⟩ := h
    refine ⟨_, pss_one (ps_ost (pv 0) (pv 1)), ?_⟩
    exact ⟨_, rfl, _, rfl, a, C, rfl, hO, hn, .inl ⟨ha, fun dx n ne => q dx n ne⟩⟩
theorem ok_BadRemainder (T : Txt K mg w) : FnOk P w K mg base CX0 2 T.f_BadRemainder T.d_BadRemainder P_BadRemainder (sp_x1 K T.a_BadRemainder "at" "BadRemainder") := by
  have G_PE := ok_PileError (P := P) (w := w) (base := base) T
  refine T.F_BadRemainder.ok sc_BadRemainder (fun vs H Q E h => ?_) (fun cdv A outer s H vs Q E hr h => ?_)
  · obtain ⟨a, v, rfl, _⟩ := h
    rfl
  · obtain ⟨a, v, rfl, ha, q⟩ := h
    refine ⟨_, pss_cons (ps_expr (pe_clsfn (by rfl) T.g_PileError T.r_PileError T.v_PileError G_PE (hr.mono (by decide)) T.F_PileError.kp T.b_PileError pass0 (pa_cons (pv 0) (pa_cons pe_str pa_nil)))) (pss_one (ps_ost (pv 0) (pv 1))), ?_⟩
    refine ⟨_, rfl, a, T.a_BadRemainder, _, rfl, T.x_BadRemainder.o, T.x_BadRemainder.no _ (List.mem_cons_self ..), ha, fun dx n ne => ?_⟩
    refine ⟨_, rfl, _, rfl, a, T.a_BadRemainder, rfl, T.x_BadRemainder.o, T.x_BadRemainder.no _ (List.mem_cons_of_mem _ (List.mem_cons_self ..)), .inr ⟨dx, _, upd_same, by rw [upd_ne ne, upd_same], by decide, ?_⟩⟩
    exact q dx _ n ne (by rw [upd_ne (Ne.symm ne), upd_same]) upd_same fun b h1 h2 => by rw [upd_ne h2, upd_ne h1, upd_ne h2]
end
/-! ### the law's question of an error -/
def fieldOf (z : Str) : Option Str :=
  if inV (.str z) [.str "BadPlace", .str "NoPlace"] = true then some "place"
  else if inV (.str z) [.str "BadMove", .str "BadText", .str "BadRemainder", .str "BadDeed"] = true then some "at"
  else if inV (.str z) [.str "TooLong", .str "TooWide", .str "TooGreat", .str "TooSmall", .str "Full"] = true then some "limit"
  else if inV (.str z) [.str "BadName", .str "Taken", .str "NoWord", .str "NoPile", .str "NoMark"] = true then some "name"
  else if inV (.str z) [.str "InUse", .str "NoWatch"] = true then some "number"
  else if decide (V.str z = .str "BadSize") = true then some "size"
  else if decide (V.str z = .str "BadRounds") = true then some "rounds"
  else if decide (V.str z = .str "BadCapacity") = true then some "value"
  else if decide (V.str z = .str "BadPage") = true then some "row" else none
/-- an error: its class, its code, what it is asked for -/
def ErrAt (K : PySem.W.Frag) (H : Hp) (cls : Value) (d : Option Addr) (z : Str) (v : V) : Prop := ∃ (C dd : Addr) (fs : List (Str × V)), cls = .ref C ∧ d = some dd ∧ XRd K C "code" ∧ H dd = some (.xd fs) ∧ fs.lookup ("code" : Str) = some (.str z) ∧
  (∀ f, fieldOf z = some f → XRd K C f ∧ fs.lookup f = some v) ∧ (fieldOf z = none → v = .non)
def sp_field (K : PySem.W.Frag) : Addr → Value → Option Addr → Sp := fun a cls d vs H Q _ => vs = [.ref a] ∧ ∃ (z : Str) (v : V), ErrAt K H cls d z v ∧ ∀ H', Same H H' → Q v H'
theorem iteC {c : Bool} {A B : Prop} (h1 : c = true → A) (h2 : c = false → B) : if c = true then A else B := by
  cases c
  · exact iteF (h2 rfl)
  · exact iteT (h1 rfl)
section
variable {P : Program} {w : World} {K : PySem.W.Frag} {mg : Str → Option Value} {base : Heap}
theorem ok_field (T : Txt K mg w) : FnP P w K mg base 2 T.a__law_field T.d__law_field P__law_field (sp_field K) := by
  obtain ⟨oc, od, kV, doc, pm, an, cdv, ct, osl, e, lk, hcd⟩ := T.F__law_field.ex
  rw [e] at lk ⊢
  refine fn_ofP lk hcd sc__law_field (fun a cls d vs H Q E h => ?_) (fun A outer s H vs Q p cls d hz hf hr h => ?_)
  · rw [h.1]
    rfl
  · obtain ⟨rfl, z, v, hE, q⟩ := h
    refine ⟨_, (pss_cons (ps_if (pt_cmpR (k_in (K := K)) (k_xg (K := K) List.mem_cons_self hz hf (pv 0)) (pe_lst (pa_cons pe_str (pa_cons pe_str pa_nil))) (by rfl))
  (pss_one (ps_ret (k_xg (K := K) List.mem_cons_self hz hf (pv 0)))) pss_nil)
  (pss_cons (ps_if (pt_cmpR (k_in (K := K)) (k_xg (K := K) List.mem_cons_self hz hf (pv 0)) (pe_lst (pa_cons pe_str (pa_cons pe_str (pa_cons pe_str (pa_cons pe_str pa_nil))))) (by rfl))
  (pss_one (ps_ret (k_xg (K := K) List.mem_cons_self hz hf (pv 0)))) pss_nil)
  (pss_cons (ps_if (pt_cmpR (k_in (K := K)) (k_xg (K := K) List.mem_cons_self hz hf (pv 0)) (pe_lst (pa_cons pe_str (pa_cons pe_str (pa_cons pe_str (pa_cons pe_str (pa_cons pe_str pa_nil)))))) (by rfl))
  (pss_one (ps_ret (k_xg (K := K) List.mem_cons_self hz hf (pv 0)))) pss_nil)
  (pss_cons (ps_if (pt_cmpR (k_in (K := K)) (k_xg (K := K) List.mem_cons_self hz hf (pv 0)) (pe_lst (pa_cons pe_str (pa_cons pe_str (pa_cons pe_str (pa_cons pe_str (pa_cons pe_str pa_nil)))))) (by rfl))
  (pss_one (ps_ret (k_xg (K := K) List.mem_cons_self hz hf (pv 0)))) pss_nil)
  (pss_cons (ps_if (pt_cmpR (k_in (K := K)) (k_xg (K := K) List.mem_cons_self hz hf (pv 0)) (pe_lst (pa_cons pe_str (pa_cons pe_str pa_nil))) (by rfl))
  (pss_one (ps_ret (k_xg (K := K) List.mem_cons_self hz hf (pv 0)))) pss_nil)
  (pss_cons (ps_if (pt_cmpR op_eq (k_xg (K := K) List.mem_cons_self hz hf (pv 0)) pe_str (nomark _))
  (pss_one (ps_ret (k_xg (K := K) List.mem_cons_self hz hf (pv 0)))) pss_nil)
  (pss_cons (ps_if (pt_cmpR op_eq (k_xg (K := K) List.mem_cons_self hz hf (pv 0)) pe_str (nomark _))
  (pss_one (ps_ret (k_xg (K := K) List.mem_cons_self hz hf (pv 0)))) pss_nil)
  (pss_cons (ps_if (pt_cmpR op_eq (k_xg (K := K) List.mem_cons_self hz hf (pv 0)) pe_str (nomark _))
  (pss_one (ps_ret (k_xg (K := K) List.mem_cons_self hz hf (pv 0)))) pss_nil)
  (pss_one (ps_ret (pe_ifExp (pt_cmpR op_eq (k_xg (K := K) List.mem_cons_self hz hf (pv 0)) pe_str (nomark _)) (k_xg (K := K) List.mem_cons_self hz hf (pv 0)) pe_non))))))))))), ?_⟩
    obtain ⟨C, dd, fs, rfl, rfl, hC, hH, hl, hf1, hf0⟩ := hE
    have s0 : Same H H := Same.refl H
    refine ⟨_, rfl, rfl, C, dd, fs, .str z, rfl, rfl, hC, s0 _ _ hH, hl, ?_⟩
    walk_at "rds"
    intro D1 nD1
    have s1 := Same.new s0 (o := .lst [.str "BadPlace", .str "NoPlace"]) nD1
    refine ⟨D1, _, rfl, .inl (.inl (.inl upd_same)), rfl, rfl, _, rfl, iteC (fun e => ?_) (fun e1 => ?_)⟩
    · change inV _ _ = true at e
      obtain ⟨h1, h2⟩ := hf1 "place" (by unfold fieldOf; rw [if_pos e])
      exact ⟨_, rfl, rfl, C, dd, fs, v, rfl, rfl, h1, s1 _ _ hH, h2, q _ s1⟩
    change inV _ _ = false at e1
    refine ⟨_, rfl, rfl, C, dd, fs, .str z, rfl, rfl, hC, s1 _ _ hH, hl, ?_⟩
    walk_at "rds"
    intro D2 nD2
    have s2 := Same.new s1 (o := .lst [.str "BadMove", .str "BadText", .str "BadRemainder", .str "BadDeed"]) nD2
    refine ⟨D2, _, rfl, .inl (.inl (.inl upd_same)), rfl, rfl, _, rfl, iteC (fun e => ?_) (fun e2 => ?_)⟩
    · change inV _ _ = true at e
      obtain ⟨h1, h2⟩ := hf1 "at" (by unfold fieldOf; rw [if_neg (by rw [e1]; decide)]; rw [if_pos e])
      exact ⟨_, rfl, rfl, C, dd, fs, v, rfl, rfl, h1, s2 _ _ hH, h2, q _ s2⟩
    change inV _ _ = false at e2
    refine ⟨_, rfl, rfl, C, dd, fs, .str z, rfl, rfl, hC, s2 _ _ hH, hl, ?_⟩
    walk_at "rds"
    intro D3 nD3
    have s3 := Same.new s2 (o := .lst [.str "TooLong", .str "TooWide", .str "TooGreat", .str "TooSmall", .str "Full"]) nD3
    refine ⟨D3, _, rfl, .inl (.inl (.inl upd_same)), rfl, rfl, _, rfl, iteC (fun e => ?_) (fun e3 => ?_)⟩
    · change inV _ _ = true at e
      obtain ⟨h1, h2⟩ := hf1 "limit" (by unfold fieldOf; rw [if_neg (by rw [e1]; decide)]; rw [if_neg (by rw [e2]; decide)]; rw [if_pos e])
      exact ⟨_, rfl, rfl, C, dd, fs, v, rfl, rfl, h1, s3 _ _ hH, h2, q _ s3⟩
    change inV _ _ = false at e3
    refine ⟨_, rfl, rfl, C, dd, fs, .str z, rfl, rfl, hC, s3 _ _ hH, hl, ?_⟩
    walk_at "rds"
    intro D4 nD4
    have s4 := Same.new s3 (o := .lst [.str "BadName", .str "Taken", .str "NoWord", .str "NoPile", .str "NoMark"]) nD4
    refine ⟨D4, _, rfl, .inl (.inl (.inl upd_same)), rfl, rfl, _, rfl, iteC (fun e => ?_) (fun e4 => ?_)⟩
    · change inV _ _ = true at e
      obtain ⟨h1, h2⟩ := hf1 "name" (by unfold fieldOf; rw [if_neg (by rw [e1]; decide)]; rw [if_neg (by rw [e2]; decide)]; rw [if_neg (by rw [e3]; decide)]; rw [if_pos e])
      exact ⟨_, rfl, rfl, C, dd, fs, v, rfl, rfl, h1, s4 _ _ hH, h2, q _ s4⟩
    change inV _ _ = false at e4
    refine ⟨_, rfl, rfl, C, dd, fs, .str z, rfl, rfl, hC, s4 _ _ hH, hl, ?_⟩
    walk_at "rds"
    intro D5 nD5
    have s5 := Same.new s4 (o := .lst [.str "InUse", .str "NoWatch"]) nD5
    refine ⟨D5, _, rfl, .inl (.inl (.inl upd_same)), rfl, rfl, _, rfl, iteC (fun e => ?_) (fun e5 => ?_)⟩
    · change inV _ _ = true at e
      obtain ⟨h1, h2⟩ := hf1 "number" (by unfold fieldOf; rw [if_neg (by rw [e1]; decide)]; rw [if_neg (by rw [e2]; decide)]; rw [if_neg (by rw [e3]; decide)]; rw [if_neg (by rw [e4]; decide)]; rw [if_pos e])
      exact ⟨_, rfl, rfl, C, dd, fs, v, rfl, rfl, h1, s5 _ _ hH, h2, q _ s5⟩
    change inV _ _ = false at e5
    refine ⟨_, rfl, rfl, C, dd, fs, .str z, rfl, rfl, hC, s5 _ _ hH, hl, ?_⟩
    walk_at "rds"
    refine iteC (fun e => ?_) (fun e6 => ?_)
    · obtain ⟨h1, h2⟩ := hf1 "size" (by unfold fieldOf; rw [if_neg (by rw [e1]; decide)]; rw [if_neg (by rw [e2]; decide)]; rw [if_neg (by rw [e3]; decide)]; rw [if_neg (by rw [e4]; decide)]; rw [if_neg (by rw [e5]; decide)]; rw [if_pos e])
      exact ⟨_, rfl, rfl, C, dd, fs, v, rfl, rfl, h1, s5 _ _ hH, h2, q _ s5⟩
    refine ⟨_, rfl, rfl, C, dd, fs, .str z, rfl, rfl, hC, s5 _ _ hH, hl, ?_⟩
    walk_at "rds"
    refine iteC (fun e => ?_) (fun e7 => ?_)
    · obtain ⟨h1, h2⟩ := hf1 "rounds" (by unfold fieldOf; rw [if_neg (by rw [e1]; decide)]; rw [if_neg (by rw [e2]; decide)]; rw [if_neg (by rw [e3]; decide)]; rw [if_neg (by rw [e4]; decide)]; rw [if_neg (by rw [e5]; decide)]; rw [if_neg (by rw [e6]; decide)]; rw [if_pos e])
      exact ⟨_, rfl, rfl, C, dd, fs, v, rfl, rfl, h1, s5 _ _ hH, h2, q _ s5⟩
    refine ⟨_, rfl, rfl, C, dd, fs, .str z, rfl, rfl, hC, s5 _ _ hH, hl, ?_⟩
    walk_at "rds"
    refine iteC (fun e => ?_) (fun e8 => ?_)
    · obtain ⟨h1, h2⟩ := hf1 "value" (by unfold fieldOf; rw [if_neg (by rw [e1]; decide)]; rw [if_neg (by rw [e2]; decide)]; rw [if_neg (by rw [e3]; decide)]; rw [if_neg (by rw [e4]; decide)]; rw [if_neg (by rw [e5]; decide)]; rw [if_neg (by rw [e6]; decide)]; rw [if_neg (by rw [e7]; decide)]; rw [if_pos e])
      exact ⟨_, rfl, rfl, C, dd, fs, v, rfl, rfl, h1, s5 _ _ hH, h2, q _ s5⟩
    refine ⟨_, rfl, rfl, C, dd, fs, .str z, rfl, rfl, hC, s5 _ _ hH, hl, ?_⟩
    walk_at "rds"
    refine iteC (fun e => ?_) (fun e9 => ?_)
    · obtain ⟨h1, h2⟩ := hf1 "row" (by unfold fieldOf; rw [if_neg (by rw [e1]; decide)]; rw [if_neg (by rw [e2]; decide)]; rw [if_neg (by rw [e3]; decide)]; rw [if_neg (by rw [e4]; decide)]; rw [if_neg (by rw [e5]; decide)]; rw [if_neg (by rw [e6]; decide)]; rw [if_neg (by rw [e7]; decide)]; rw [if_neg (by rw [e8]; decide)]; rw [if_pos e])
      exact ⟨_, rfl, rfl, C, dd, fs, v, rfl, rfl, h1, s5 _ _ hH, h2, q _ s5⟩
    have hv := hf0 (by unfold fieldOf; rw [if_neg (by rw [e1]; decide)]; rw [if_neg (by rw [e2]; decide)]; rw [if_neg (by rw [e3]; decide)]; rw [if_neg (by rw [e4]; decide)]; rw [if_neg (by rw [e5]; decide)]; rw [if_neg (by rw [e6]; decide)]; rw [if_neg (by rw [e7]; decide)]; rw [if_neg (by rw [e8]; decide)]; rw [if_neg (by rw [e9]; decide)])
    rw [hv] at q
    exact q _ s5
end
/-! ### the law asks: a value, or what the error tells -/
/-- tl: the reading of what is asked; PE_: the class PileError -/
def TTry (K : PySem.W.Frag) (PE_ : Addr) : (XK → Hp → VK → Prop) → Hp → VK → Prop := fun tl H Q =>
  tl (fun cls d H' => PySem.W.exmOne K cls (.ref PE_) = some true ∧ ∃ (z : Str) (v : V), ErrAt K H' cls d z v ∧ ∀ (t : Addr) H2, H' t = none → Same H' H2 → H2 t = some (.tup [.str z, v]) → Q (.ref t) H2)
    H (fun v H' => [V.str "value", v].length ≤ sizeLine ∧ ∀ p : Addr, H' p = none → Q (.ref p) (upd H' p (.tup [.str "value", v])))
abbrev qLam : Str := "law.<locals>.<lambda>"
theorem ErrAt.code {K : PySem.W.Frag} {H : Hp} {cls : Value} {d : Option Addr} {z : Str} {v : V} (h : ErrAt K H cls d z v) : ∃ (C dd : Addr) (fs : List (Str × V)), cls = .ref C ∧ d = some dd ∧ XRd K C "code" ∧ H dd = some (.xd fs) ∧ fs.lookup ("code" : Str) = some (.str z) := by
  obtain ⟨C, dd, fs, h1, h2, h3, h4, h5, _⟩ := h
  exact ⟨C, dd, fs, h1, h2, h3, h4, h5⟩
theorem raised_of {K : PySem.W.Frag} {C PE : Addr} {fs : List Str} {fld code : Str} {v : V} {H : Hp} {Q : VK} (X : ExcT K C PE fs) (hc : ("code" : Str) ∈ fs) (hf : fld ∈ fs) (hn : (("code" : Str) == fld) = false) (ho : fieldOf code = some fld)
    (h : ∀ (t : Addr) H2, H t = none → Same H H2 → H2 t = some (.tup [.str code, v]) → Q (.ref t) H2) :
    Raised C fld code v H (fun cls d H' => PySem.W.exmOne K cls (.ref PE) = some true ∧ ∃ (z : Str) (v : V), ErrAt K H' cls d z v ∧ ∀ (t : Addr) H2, H' t = none → Same H' H2 → H2 t = some (.tup [.str z, v]) → Q (.ref t) H2) := by
  intro dd nd
  refine ⟨X.e, code, v, ⟨C, dd, _, rfl, rfl, X.rd hc, upd_same, ?_, fun f e => ?_, fun e => ?_⟩, fun t H2 nt s e => h t H2 ?_ ((same_new nd).trans s) e⟩
  · simp [List.lookup, hn]
  · rw [ho] at e
    cases e
    refine ⟨X.rd hf, ?_⟩
    simp [List.lookup]
  · rw [ho] at e
    cases e
  · by_cases e : t = dd
    · rw [e, upd_same] at nt
      cases nt
    · rwa [upd_ne e] at nt
theorem roomP {A : Around} {o : Option Value} (h : L2H.RoomH 3 A) : L2H.RoomH 2 (A.mark o) := ⟨(h.mono (j := 2) (by decide)).dp, (h.mono (j := 2) (by decide)).un⟩
section
variable {K : PySem.W.Frag} {mg : Str → Option Value} {w : World}
theorem gives_try (T : Txt K mg w) {X : Cx} {sg : Scope} {bg : List Stmt} {cdg : Value} {q : Str} (hK : X.K = K) (hmg : X.mg = mg) (hw : X.w = w) (hs : sg = defScope s__law_try) (hb : bg = defBody s__law_try) (hr : Room 6 X.A) :
    LamX.GivesTo X N__law_try "_law_try" sg T.a__law_try cdg bg "_law_ask" q (TTry K T.a_PileError) := by
  subst hs hb hK hmg hw
  have F := ok_field (P := X.prog) (base := X.base) T
  intro f c' s H Q tl act hc h
  have hr2 : L2H.RoomH 3 (X.A.deeper (envOfC "_law_try" (defScope s__law_try) s.heap.objs.size T.a__law_try cdg)) := L2H.roomH_of ((hr.mono (by decide)).deeper _)
  refine ⟨_, pss_one (ps_try_manyA (X := (cxOf C8.CX0 X.prog X.w X.K X.mg X.base N__law_try "_law_try" (defScope s__law_try) T.a__law_try cdg X.A X.stack s H C8.E0).nox)
    (l := [(.ref T.a_PileError, 1, fun a cls d => tRet (tTup (tCons (tXg X.K a cls d "code" (tVar 1)) (tCons (tCallP (sp_field X.K) a cls d (tCons (tVar 1) tNil)) tNil)))), (.ref T.a_Missing, 1, fun a cls d => tRet (tTup (tCons (tXg X.K a cls d "code" (tVar 1)) (tCons (tCallP (sp_field X.K) a cls d (tCons (tVar 1) tNil)) tNil))))])
    (tb := fun W D σ H => ∃ Ech : XK, (∀ cls d σ' H', Ech cls d H' → W cls d σ' H') ∧ σ[0]? = some (some (.ref f)) ∧ H c' = some (LamX.CodeO c' q) ∧ tl Ech H (fun v H' => [V.str "value", v].length ≤ sizeLine ∧ ∀ p : Addr, H' p = none → D.rt (.ref p) (upd H' p (.tup [.str "value", v]))))
    rfl rfl sc__law_try.nd takes0 (fun W pn xe tk _ => ?_)
    (.cons ⟨rfl, rfl, .inl T.g_PileError⟩ rfl rfl (fun a oe cls d pn hz hf => ?_) (.cons ⟨rfl, rfl, .inl T.g_Missing⟩ rfl rfl (fun a oe cls d pn hz hf => ?_) .nil))), ?_⟩
  · refine ⟨fun pins s' σ H' D I h' => ?_⟩
    obtain ⟨Ech, hW, h1, h2, h3⟩ := h'
    exact (pss_one (ps_ret (pe_tup (pa_cons pe_str (pa_cons (act W pn xe Ech _ _ tk hW) pa_nil))))).run pins s' σ H' D I ⟨h1, h2, h3⟩
  · exact pss_one (ps_ret (pe_tup (pa_cons (k_xg (p := (a, oe)) (K := X.K) List.mem_cons_self hz hf (pv 1)) (pa_cons (pe_callP (p := (a, oe)) List.mem_cons_self hz hf F (roomP hr2) (by rfl) T.g__law_field T.F__law_field.kp T.b__law_field (pa_cons (pv 1) pa_nil)) pa_nil))))
  · exact pss_one (ps_ret (pe_tup (pa_cons (k_xg (p := (a, oe)) (K := X.K) List.mem_cons_self hz hf (pv 1)) (pa_cons (pe_callP (p := (a, oe)) List.mem_cons_self hz hf F (roomP hr2) (by rfl) T.g__law_field T.F__law_field.kp T.b__law_field (pa_cons (pv 1) pa_nil)) pa_nil))))
  · refine ⟨fun cls d H' => PySem.W.exmOne X.K cls (.ref T.a_PileError) = some true ∧ ∃ (z : Str) (v : V), ErrAt X.K H' cls d z v ∧ ∀ (t : Addr) H2, H' t = none → Same H' H2 → H2 t = some (.tup [.str z, v]) → Q (.ref t) H2, fun cls d σ' H' hE => ?_, rfl, hc, h⟩
    obtain ⟨he, z, v, hA, hq⟩ := hE
    refine ⟨true, he, fun _ a na hl => ?_, fun e => nomatch e⟩
    obtain ⟨C, dd, fs, rfl, rfl, h3, h4, h5⟩ := hA.code
    have e1 : (σ'.set 1 (some (.ref a)))[1]? = some (some (.ref a)) := by
      rw [List.getElem?_set, if_pos rfl, if_pos (by rw [hl]; exact Nat.lt_succ_self 1)]
    refine ⟨_, e1, rfl, C, dd, fs, .str z, rfl, rfl, h3, h4, h5, _, e1, rfl, z, v, hA, fun H2 s2 => ⟨le_line (Nat.le_of_ble_eq_true rfl), fun p hp => hq p _ (s2.free hp) (Same.new s2 hp) upd_same⟩⟩
end
/-- texts told apart -/
theorem iteS {z : Str} {A B : Prop} (h : A) : if decide (V.str z = V.str z) = true then A else B := iteD (fun _ => h) fun e => absurd rfl e
theorem iteSN {y z : Str} {A B : Prop} (h : decide (y = z) = false) (q : B) : if decide (V.str y = V.str z) = true then A else B := iteD (fun e => absurd (V.str.inj e) (of_decide_eq_false h)) fun _ => q
theorem dS {z : Str} : decide (V.str z = V.str z) = true := decide_eq_true rfl
theorem dSN {y z : Str} (h : decide (y = z) = false) : decide (V.str y = V.str z) = false := decide_eq_false fun e => of_decide_eq_false h (V.str.inj e)
local macro_rules | `(tactic| walk_at "strs") => `(tactic| repeat first
  | walk_at "rdt" | walk_at "isi" | refine iteS ?_ | (refine iteSN (by assumption) ?_) | (refine iteSN (by decide +kernel) ?_))
local macro_rules | `(tactic| walk_at "qd") => `(tactic| first | assumption | (rw [dS]; assumption) | (rw [decide_eq_true rfl]; assumption))
/-! ### common remainders -/
theorem gcd_mod (m a : Int) : Int.gcd m (a % m) = Int.gcd m a := by
  have e := Int.emod_add_mul_ediv a m
  apply Nat.dvd_antisymm
  · refine Int.dvd_gcd (Int.gcd_dvd_left ..) ?_
    have h := Int.dvd_add (Int.gcd_dvd_right m (a % m)) (Int.dvd_mul_of_dvd_left (b := m) (c := a / m) (Int.gcd_dvd_left m (a % m)))
    rw [e] at h
    exact h
  · refine Int.dvd_gcd (Int.gcd_dvd_left ..) ?_
    have h := Int.dvd_sub (Int.gcd_dvd_right m a) (Int.dvd_mul_of_dvd_left (b := m) (c := a / m) (Int.gcd_dvd_left m a))
    rw [show a - m * (a / m) = a % m by omega] at h
    exact h
/-- what Euclid's steps keep: rest, divisor, factor, later of number and modulus -/
structure Euc (a m r d f l : Int) : Prop where
  r0 : 0 ≤ r
  rd : r < d
  e1 : m ∣ r - a * f
  e2 : m ∣ d - a * l
  g : Int.gcd d r = Int.gcd m a
  b : f.natAbs * d.natAbs + l.natAbs * r.natAbs ≤ m.natAbs
  bl : l.natAbs ≤ m.natAbs
theorem Euc.start {a m : Int} (hm : 0 < m) : Euc a m (a.fmod m) m 1 0 := by
  have e : a.fmod m = a % m := Int.fmod_eq_emod_of_nonneg _ (by omega)
  rw [e]
  refine ⟨Int.emod_nonneg _ (by omega), Int.emod_lt_of_pos _ hm, ?_, ?_, gcd_mod m a, ?_, ?_⟩
  · rw [Int.mul_one]
    have h := Int.emod_add_mul_ediv a m
    exact ⟨-(a / m), by rw [Int.mul_neg]; omega⟩
  · rw [Int.mul_zero, Int.sub_zero]
    exact Int.dvd_refl m
  · simp
  · simp
theorem Euc.fd {a m r d f l : Int} (h : Euc a m r d f l) : f.natAbs * d.natAbs ≤ m.natAbs := by
  have := h.b
  omega
theorem Euc.step {a m r d f l : Int} (h : Euc a m r d f l) (hr : r ≠ 0) : Euc a m (d - d / r * r) r (l - d / r * f) f := by
  have r0 := h.r0
  have hd := Int.mul_ediv_add_emod d r
  have hm0 := Int.emod_nonneg d hr
  have hm1 := Int.emod_lt_of_pos d (show 0 < r by omega)
  have e : d - d / r * r = d % r := by rw [Int.mul_comm]; omega
  have rd := h.rd
  have t0 : 0 ≤ d / r := Int.ediv_nonneg (by omega) r0
  refine ⟨by rw [e]; exact hm0, by rw [e]; exact hm1, ?_, h.e1, ?_, ?_, ?_⟩
  · have e3 : d - d / r * r - a * (l - d / r * f) = (d - a * l) - d / r * (r - a * f) := by
      rw [Int.mul_sub, Int.mul_sub, ← Int.mul_assoc a, ← Int.mul_assoc (d / r), Int.mul_comm a (d / r)]
      omega
    rw [e3]
    exact Int.dvd_sub h.e2 (Int.dvd_mul_of_dvd_right h.e1)
  · rw [e, gcd_mod, Int.gcd_comm]
    exact h.g
  · -- the bound
    have hb := h.b
    have h1 : (l - d / r * f).natAbs ≤ l.natAbs + (d / r).natAbs * f.natAbs := by
      have := Int.natAbs_sub_le l (d / r * f)
      rw [Int.natAbs_mul] at this
      exact this
    have h2 : (d - d / r * r).natAbs + (d / r).natAbs * r.natAbs = d.natAbs := by
      have e4 : ((d / r).natAbs * r.natAbs : Nat) = (d / r * r).natAbs := (Int.natAbs_mul ..).symm
      have e5 : 0 ≤ d / r * r := Int.mul_nonneg t0 r0
      rw [e4]
      omega
    have h3 : (l - d / r * f).natAbs * r.natAbs ≤ (l.natAbs + (d / r).natAbs * f.natAbs) * r.natAbs := Nat.mul_le_mul_right _ h1
    have h4 : (l.natAbs + (d / r).natAbs * f.natAbs) * r.natAbs + f.natAbs * (d - d / r * r).natAbs = l.natAbs * r.natAbs + f.natAbs * d.natAbs := by
      rw [← h2, Nat.add_mul, Nat.mul_add, Nat.mul_comm (d / r).natAbs f.natAbs, Nat.mul_assoc]
      omega
    omega
  · have h5 := h.fd
    have h6 : f.natAbs * 1 ≤ f.natAbs * d.natAbs := Nat.mul_le_mul_left _ (by omega)
    omega
theorem Euc.done {a m d f l : Int} (h : Euc a m 0 d f l) : d = (Int.gcd m a : Int) ∧ m ∣ (Int.gcd m a : Int) - a * l ∧ l.natAbs ≤ m.natAbs := by
  have e : d = (Int.gcd m a : Int) := by
    have g := h.g
    rw [Int.gcd_zero_right] at g
    have := h.rd
    omega
  refine ⟨e, ?_, h.bl⟩
  rw [← e]
  exact h.e2
/-- both remainders at once -/
theorem crt_two {r m s n f : Int} (hm : 0 < m) (hn : 0 < n) (r0 : 0 ≤ r) (r1 : r < m) (hf : n ∣ (Int.gcd n m : Int) - m * f) (hd : (Int.gcd n m : Int) ∣ s - r) :
    0 ≤ r + m * (((s - r) / (Int.gcd n m : Int) * f).fmod (n / (Int.gcd n m : Int))) ∧ r + m * (((s - r) / (Int.gcd n m : Int) * f).fmod (n / (Int.gcd n m : Int))) < m / (Int.gcd n m : Int) * n ∧
    m ∣ r + m * (((s - r) / (Int.gcd n m : Int) * f).fmod (n / (Int.gcd n m : Int))) - r ∧ n ∣ r + m * (((s - r) / (Int.gcd n m : Int) * f).fmod (n / (Int.gcd n m : Int))) - s := by
  have g0 : (0 : Int) < (Int.gcd n m : Int) := by
    have : 0 < Int.gcd n m := Int.gcd_pos_of_ne_zero_left _ (by omega)
    omega
  obtain ⟨n', hn'⟩ := Int.gcd_dvd_left n m
  obtain ⟨m', hm'⟩ := Int.gcd_dvd_right n m
  obtain ⟨q, hq⟩ := hd
  generalize (Int.gcd n m : Int) = g at *
  have n'0 : 0 < n' := Int.lt_of_not_ge fun h => by
    have h2 := Int.mul_le_mul_of_nonneg_left h (Int.le_of_lt g0)
    rw [Int.mul_zero] at h2
    omega
  have en : n / g = n' := by rw [hn', Int.mul_ediv_cancel_left _ (by omega)]
  have em : m / g = m' := by rw [hm', Int.mul_ediv_cancel_left _ (by omega)]
  have eq : (s - r) / g = q := by rw [hq, Int.mul_ediv_cancel_left _ (by omega)]
  rw [en, em, eq, Int.fmod_eq_emod_of_nonneg _ (by omega)]
  have t0 := Int.emod_nonneg (q * f) (show n' ≠ 0 by omega)
  have t1 := Int.emod_lt_of_pos (q * f) n'0
  have ht := Int.emod_add_mul_ediv (q * f) n'
  generalize (q * f) % n' = t at *
  have emn : m * n' = m' * n := by rw [hm', hn', Int.mul_comm g m', Int.mul_assoc]
  have b0 : 0 ≤ m * t := Int.mul_nonneg (by omega) t0
  have b1 : m * t ≤ m * (n' - 1) := Int.mul_le_mul_of_nonneg_left (by omega) (by omega)
  rw [Int.mul_sub, Int.mul_one] at b1
  refine ⟨by omega, by omega, ?_, ?_⟩
  · rw [show r + m * t - r = m * t by omega]
    exact Int.dvd_mul_right ..
  · obtain ⟨u, hu⟩ := hf
    refine ⟨-(q * u) - m' * (q * f / n'), ?_⟩
    have e1 : r + m * t - s = m * t - g * q := by omega
    have e2 : m * t = m * (q * f) - m * (n' * (q * f / n')) := by rw [← Int.mul_sub]; congr 1; omega
    have e3 : m * (n' * (q * f / n')) = n * (m' * (q * f / n')) := by rw [← Int.mul_assoc, emn, Int.mul_comm m' n, Int.mul_assoc]
    have e4 : m * (q * f) - g * q = -(q * (g - m * f)) := by
      rw [Int.mul_sub, ← Int.mul_assoc m q f, Int.mul_comm m q, Int.mul_assoc q m f, Int.mul_comm g q]
      omega
    have e5 : n * (q * u) = q * (g - m * f) := by rw [hu, ← Int.mul_assoc, Int.mul_comm n q, Int.mul_assoc]
    rw [e1, e2, e3, Int.mul_sub, Int.mul_neg, e5]
    omega
/-- one number with two remainders by two moduli: their differences divide -/
theorem crt_need {r m s n x : Int} (h1 : m ∣ x - r) (h2 : n ∣ x - s) : (Int.gcd n m : Int) ∣ s - r := by
  have a := Int.dvd_trans (Int.gcd_dvd_right n m) h1
  have b := Int.dvd_trans (Int.gcd_dvd_left n m) h2
  have c := Int.dvd_sub a b
  rw [show x - r - (x - s) = s - r by omega] at c
  exact c
/-! ### least common multiples -/
def lcmI (m n : Int) : Int := m / (Int.gcd m n : Int) * n
def lcmL (ns : List Int) : Int := ns.foldl lcmI 1
theorem lcmI_eq {m n : Int} : lcmI m n = m / (Int.gcd m n : Int) * n := rfl
theorem gcd_pos {m n : Int} (h : 0 < n) : (0 : Int) < (Int.gcd m n : Int) := by
  have : 0 < Int.gcd m n := Int.gcd_pos_of_ne_zero_right _ (by omega)
  omega
theorem lcmI_nat {m n : Int} (hm : 0 < m) (hn : 0 < n) : lcmI m n = (Nat.lcm m.toNat n.toNat : Int) := by
  obtain ⟨a, rfl⟩ := Int.eq_ofNat_of_zero_le (Int.le_of_lt hm)
  obtain ⟨b, rfl⟩ := Int.eq_ofNat_of_zero_le (Int.le_of_lt hn)
  show (a : Int) / (Nat.gcd a b : Int) * (b : Int) = (Nat.lcm a b : Int)
  rw [← Int.natCast_ediv, ← Int.natCast_mul]
  congr 1
  unfold Nat.lcm
  rw [Nat.mul_comm (a / Nat.gcd a b) b, Nat.mul_comm a b]
  exact (Nat.mul_div_assoc b (Nat.gcd_dvd_left a b)).symm
theorem lcmI_pos {m n : Int} (hm : 0 < m) (hn : 0 < n) : 0 < lcmI m n := by
  rw [lcmI_nat hm hn]
  have : 0 < Nat.lcm m.toNat n.toNat := Nat.lcm_pos (by omega) (by omega)
  omega
theorem lcmI_le {m n : Int} (hm : 0 < m) (hn : 0 < n) : (lcmI m n).natAbs ≤ m.natAbs * n.natAbs := by
  rw [lcmI_nat hm hn]
  show Nat.lcm m.toNat n.toNat ≤ _
  have h := Nat.div_le_self (m.toNat * n.toNat) (Nat.gcd m.toNat n.toNat)
  rw [show m.natAbs = m.toNat by omega, show n.natAbs = n.toNat by omega]
  exact h
theorem natCast_dvd' {m : Nat} {n : Int} : (m : Int) ∣ n ↔ m ∣ n.natAbs := Int.ofNat_dvd_left
/-! ### several remainders -/
def Sols (ps : List (Int × Int)) (y : Int) : Prop := ∀ p ∈ ps, p.2 ∣ y - p.1
theorem bez' {a m : Int} (n : Nat) : ∀ {r d f l : Int}, r.toNat < n → Euc a m r d f l → ∃ l', m ∣ (Int.gcd m a : Int) - a * l' := by
  induction n with
  | zero => intro r d f l h; omega
  | succ n ih =>
    intro r d f l h hE
    by_cases e : r = 0
    · subst e
      exact ⟨l, hE.done.2.1⟩
    · have h2 := hE.step e
      have h3 := h2.r0
      have h4 := h2.rd
      exact ih (by omega) h2
theorem bez (a : Int) {m : Int} (hm : 0 < m) : ∃ l, m ∣ (Int.gcd m a : Int) - a * l := bez' _ (Nat.lt_succ_self _) (Euc.start hm)
theorem gcd_lcm {a b c : Nat} (hc : 0 < c) : Nat.gcd a (Nat.lcm b c) ∣ Nat.lcm (Nat.gcd a b) (Nat.gcd a c) := by
  have e0 : 0 < Nat.gcd (Nat.gcd a b) (Nat.gcd a c) := Nat.gcd_pos_of_pos_right _ (Nat.gcd_pos_of_pos_right _ hc)
  refine Nat.dvd_of_mul_dvd_mul_right e0 ?_
  rw [Nat.mul_comm (Nat.lcm _ _), Nat.gcd_mul_lcm]
  generalize he : Nat.gcd (Nat.gcd a b) (Nat.gcd a c) = e
  have ea : e ∣ a := he ▸ Nat.dvd_trans (Nat.gcd_dvd_left _ _) (Nat.gcd_dvd_left _ _)
  have eb : e ∣ b := he ▸ Nat.dvd_trans (Nat.gcd_dvd_left _ _) (Nat.gcd_dvd_right _ _)
  have ec : e ∣ c := he ▸ Nat.dvd_trans (Nat.gcd_dvd_right _ _) (Nat.gcd_dvd_right _ _)
  have ga : Nat.gcd a (Nat.lcm b c) ∣ a := Nat.gcd_dvd_left _ _
  have gl : Nat.gcd a (Nat.lcm b c) ∣ Nat.lcm b c := Nat.gcd_dvd_right _ _
  generalize Nat.gcd a (Nat.lcm b c) = g at *
  have x1 : g * e ∣ a * Nat.gcd a c := by
    rw [← Nat.gcd_mul_left]
    exact Nat.dvd_gcd (Nat.mul_dvd_mul ga ea) (Nat.mul_dvd_mul ga ec)
  have x2 : g * e ∣ b * Nat.gcd a c := by
    rw [← Nat.gcd_mul_left]
    refine Nat.dvd_gcd ?_ ?_
    · rw [Nat.mul_comm b a]
      exact Nat.mul_dvd_mul ga eb
    · rw [← Nat.gcd_mul_lcm b c, Nat.mul_comm g e]
      exact Nat.mul_dvd_mul (Nat.dvd_gcd eb ec) gl
  rw [← Nat.gcd_mul_right]
  exact Nat.dvd_gcd x1 x2
theorem gcd_lcmI {a m n D : Int} (hm : 0 < m) (hn : 0 < n) (h1 : (Int.gcd a m : Int) ∣ D) (h2 : (Int.gcd a n : Int) ∣ D) : (Int.gcd a (lcmI m n) : Int) ∣ D := by
  rw [lcmI_nat hm hn]
  rw [natCast_dvd'] at h1 h2 ⊢
  have e1 : Int.gcd a m = Nat.gcd a.natAbs m.toNat := by
    show Nat.gcd a.natAbs m.natAbs = _
    rw [show m.natAbs = m.toNat by omega]
  have e2 : Int.gcd a n = Nat.gcd a.natAbs n.toNat := by
    show Nat.gcd a.natAbs n.natAbs = _
    rw [show n.natAbs = n.toNat by omega]
  rw [e1] at h1
  rw [e2] at h2
  show Nat.gcd a.natAbs (Nat.lcm m.toNat n.toNat) ∣ D.natAbs
  exact Nat.dvd_trans (gcd_lcm (by omega)) (Nat.lcm_dvd h1 h2)
theorem gcd_foldl {a D : Int} : ∀ (ns : List Int) {m : Int}, 0 < m → (∀ n ∈ ns, 0 < n) → (Int.gcd a m : Int) ∣ D → (∀ n ∈ ns, (Int.gcd a n : Int) ∣ D) → (Int.gcd a (ns.foldl lcmI m) : Int) ∣ D
  | [], _, _, _, h, _ => h
  | n :: ns, m, hm, hp, h, hs => by
    have hn := hp n (List.mem_cons_self ..)
    exact gcd_foldl ns (lcmI_pos hm hn) (fun z hz => hp z (List.mem_cons_of_mem _ hz)) (gcd_lcmI hm hn h (hs n (List.mem_cons_self ..))) fun z hz => hs z (List.mem_cons_of_mem _ hz)
theorem gcd_lcmL {a D : Int} {ns : List Int} (hp : ∀ n ∈ ns, 0 < n) (hs : ∀ n ∈ ns, (Int.gcd a n : Int) ∣ D) : (Int.gcd a (lcmL ns) : Int) ∣ D :=
  gcd_foldl ns (by decide) hp (by rw [Int.gcd_one]; exact Int.one_dvd D) hs
theorem lcmI_dvd {m n z : Int} (hm : 0 < m) (hn : 0 < n) : lcmI m n ∣ z ↔ m ∣ z ∧ n ∣ z := by
  rw [lcmI_nat hm hn, natCast_dvd', Nat.lcm_dvd_iff, ← natCast_dvd', ← natCast_dvd', Int.toNat_of_nonneg (Int.le_of_lt hm), Int.toNat_of_nonneg (Int.le_of_lt hn)]
theorem foldl_dvd {z : Int} : ∀ (ns : List Int) {m : Int}, 0 < m → (∀ n ∈ ns, 0 < n) → (ns.foldl lcmI m ∣ z ↔ m ∣ z ∧ ∀ n ∈ ns, n ∣ z)
  | [], m, _, _ => by simp
  | n :: ns, m, hm, hp => by
    have hn := hp n (List.mem_cons_self ..)
    rw [List.foldl_cons, foldl_dvd ns (lcmI_pos hm hn) (fun z hz => hp z (List.mem_cons_of_mem _ hz)), lcmI_dvd hm hn]
    simp [and_assoc]
theorem lcmL_dvd {z : Int} {ns : List Int} (hp : ∀ n ∈ ns, 0 < n) : lcmL ns ∣ z ↔ ∀ n ∈ ns, n ∣ z := by
  have h := foldl_dvd (z := z) ns (m := 1) (by decide) hp
  rw [show lcmL ns = ns.foldl lcmI 1 from rfl, h]
  exact ⟨fun x => x.2, fun x => ⟨Int.one_dvd z, x⟩⟩
theorem foldl_pos : ∀ (ns : List Int) {m : Int}, 0 < m → (∀ n ∈ ns, 0 < n) → 0 < ns.foldl lcmI m
  | [], _, h, _ => h
  | n :: ns, m, hm, hp => foldl_pos ns (lcmI_pos hm (hp n (List.mem_cons_self ..))) fun z hz => hp z (List.mem_cons_of_mem _ hz)
theorem lcmL_pos {ns : List Int} (hp : ∀ n ∈ ns, 0 < n) : 0 < lcmL ns := foldl_pos ns (by decide) hp
theorem lcmL_snoc (ns : List Int) (n : Int) : lcmL (ns ++ [n]) = lcmI (lcmL ns) n := by
  unfold lcmL
  rw [List.foldl_append]
  rfl
/-- what several remainders come to -/
structure Sol (ps : List (Int × Int)) (x M : Int) : Prop where
  x0 : 0 ≤ x
  x1 : x < M
  m : M = lcmL (ps.map Prod.snd)
  s : Sols ps x
def Good (ps : List (Int × Int)) : Prop := ∀ p ∈ ps, 0 < p.2
theorem Good.map {ps : List (Int × Int)} (h : Good ps) : ∀ n ∈ ps.map Prod.snd, 0 < n := by
  intro n hn
  obtain ⟨p, hp, rfl⟩ := List.mem_map.mp hn
  exact h p hp
theorem Sol.none : Sol [] 0 1 := ⟨by decide, by decide, rfl, fun _ h => nomatch h⟩
theorem Sol.dvd {ps : List (Int × Int)} {x M y : Int} (g : Good ps) (h : Sol ps x M) (hy : Sols ps y) : M ∣ y - x := by
  rw [h.m, lcmL_dvd g.map]
  intro n hn
  obtain ⟨p, hp, rfl⟩ := List.mem_map.mp hn
  have := Int.dvd_sub (hy p hp) (h.s p hp)
  rw [show y - p.1 - (x - p.1) = y - x by omega] at this
  exact this
theorem Sol.eq {ps : List (Int × Int)} {x M y : Int} (g : Good ps) (h : Sol ps x M) (hy : Sols ps y) : x = y.fmod M := by
  obtain ⟨q, hq⟩ := h.dvd g hy
  have := h.x0
  have := h.x1
  rw [Int.fmod_eq_emod_of_nonneg _ (by omega), show y = x + M * q by omega, Int.add_mul_emod_self_left, Int.emod_eq_of_lt h.x0 h.x1]
theorem Sol.fail {ps : List (Int × Int)} {x M : Int} {p : Int × Int} (g : Good ps) (h : Sol ps x M) (hn : ¬ (Int.gcd p.2 M : Int) ∣ p.1 - x) : ¬ ∃ y, Sols (ps ++ [p]) y := by
  rintro ⟨y, hy⟩
  exact hn (crt_need (h.dvd g fun z hz => hy z (List.mem_append_left _ hz)) (hy p (List.mem_append_right _ (List.mem_singleton.mpr rfl))))
theorem Sol.add {ps : List (Int × Int)} {x M y : Int} {p : Int × Int} (g : Good ps) (h : Sol ps x M) (y0 : 0 ≤ y) (y1 : y < M / (Int.gcd p.2 M : Int) * p.2) (d1 : M ∣ y - x) (d2 : p.2 ∣ y - p.1) :
    Sol (ps ++ [p]) y (M / (Int.gcd p.2 M : Int) * p.2) := by
  refine ⟨y0, y1, ?_, fun z hz => ?_⟩
  · rw [List.map_append, List.map_cons, List.map_nil, lcmL_snoc, ← h.m, Int.gcd_comm]
    rfl
  · rcases List.mem_append.mp hz with hz | hz
    · have h1 : z.2 ∣ M := by
        rw [h.m]
        exact (lcmL_dvd g.map).mp (Int.dvd_refl _) z.2 (List.mem_map_of_mem hz)
      have h2 := Int.dvd_add (Int.dvd_trans h1 d1) (h.s z hz)
      rw [show y - x + (x - z.1) = y - z.1 by omega] at h2
      exact h2
    · rw [List.mem_singleton.mp hz]
      exact d2
/-- one remainder bent: there is a number if it clashes with none -/
theorem bent_sol {ps : List (Int × Int)} (g : Good ps) {N b m : Int} {k : Nat} (hk : ps[k]? = some (b, m)) (ho : ∀ j p, ps[j]? = some p → j ≠ k → p.2 ∣ N - p.1 ∧ (Int.gcd m p.2 : Int) ∣ b - p.1) : ∃ y, Sols ps y := by
  have hm : 0 < m := g (b, m) (List.mem_of_getElem? hk)
  have hpos : ∀ n ∈ (ps.map Prod.snd).set k 1, 0 < n := by
    intro n hn
    rcases List.mem_or_eq_of_mem_set hn with h | h
    · exact g.map n h
    · omega
  have hL := lcmL_pos hpos
  have hd : (Int.gcd m (lcmL ((ps.map Prod.snd).set k 1)) : Int) ∣ N - b := by
    refine gcd_lcmL hpos fun n hn => ?_
    obtain ⟨j, hj⟩ := List.getElem?_of_mem hn
    rw [List.getElem?_set] at hj
    by_cases e : k = j
    · rw [if_pos e] at hj
      split at hj
      · rw [← Option.some.inj hj, Int.gcd_one]
        exact Int.one_dvd _
      · cases hj
    · rw [if_neg e, List.getElem?_map] at hj
      cases hp : ps[j]? with
      | none => rw [hp] at hj; cases hj
      | some p =>
        rw [hp] at hj
        cases hj
        obtain ⟨h1, h2⟩ := ho j p hp (fun x => e x.symm)
        have h3 := Int.dvd_sub (Int.dvd_trans (Int.gcd_dvd_right m p.2) h1) h2
        rw [show N - p.1 - (b - p.1) = N - b by omega] at h3
        exact h3
  obtain ⟨f, hf⟩ := bez (lcmL ((ps.map Prod.snd).set k 1)) hm
  -- from N on by the moduli of the others
  obtain ⟨q, hq⟩ := hd
  obtain ⟨u, hu⟩ := hf
  refine ⟨N - lcmL ((ps.map Prod.snd).set k 1) * (f * q), fun p hp => ?_⟩
  obtain ⟨j, hj⟩ := List.getElem?_of_mem hp
  by_cases e : j = k
  · subst e
    rw [hk] at hj
    cases hj
    show m ∣ _
    refine ⟨u * q, ?_⟩
    show N - lcmL ((ps.map Prod.snd).set j 1) * (f * q) - b = m * (u * q)
    rw [← Int.mul_assoc m, ← hu, Int.sub_mul, ← hq, Int.mul_assoc]
    omega
  · have h1 := (ho j p hj e).1
    have h2 : p.2 ∣ lcmL ((ps.map Prod.snd).set k 1) := by
      refine (lcmL_dvd hpos).mp (Int.dvd_refl _) p.2 ?_
      refine List.mem_of_getElem? (i := j) ?_
      rw [List.getElem?_set, if_neg (fun x => e x.symm), List.getElem?_map, hj]
      rfl
    have h3 := Int.dvd_sub h1 (Int.dvd_mul_of_dvd_left (c := f * q) h2)
    rw [show N - p.1 - lcmL ((ps.map Prod.snd).set k 1) * (f * q) = N - lcmL ((ps.map Prod.snd).set k 1) * (f * q) - p.1 by omega] at h3
    exact h3
/-! ### the program: common remainders -/
theorem pow_le2 {i : Int} {a b : Nat} (h : i.natAbs < 2 ^ a) (hab : a ≤ b) : i.natAbs < 2 ^ b := Nat.lt_of_lt_of_le h (Nat.pow_le_pow_right (by decide) hab)
theorem le_pow {i j : Int} {a : Nat} (h : i.natAbs ≤ j.natAbs) (hj : j.natAbs < 2 ^ a) : i.natAbs < 2 ^ a := Nat.lt_of_le_of_lt h hj
theorem wide_ok {i j m : Int} (hm : m.natAbs < 2 ^ 8000) (hi : i.natAbs ≤ m.natAbs) (hj : j.natAbs ≤ m.natAbs) : CMulW i j := wide_mul (le_pow hi hm) (le_pow hj hm) (by decide) (by decide) (by decide)
section
variable {P : Program} {w : World} {K : PySem.W.Frag} {mg : Str → Option Value} {base : Heap}
def sp_egcd : Sp := fun vs H Q _ => ∃ a m : Int, vs = [.int a, .int m] ∧ 0 < m ∧ m.natAbs < 2 ^ 8000 ∧
  ∀ t l H', H t = none → Same H H' → H' t = some (.tup [.int (Int.gcd m a : Int), .int l]) → m ∣ (Int.gcd m a : Int) - a * l → l.natAbs ≤ m.natAbs → Q (.ref t) H'
theorem ok_divisor_and_factor (T : Txt K mg w) : FnOk P w K mg base CX0 1 T.a_divisor_and_factor T.d_divisor_and_factor P_divisor_and_factor sp_egcd := by
  refine T.F_divisor_and_factor.ok sc_divisor_and_factor (fun vs H Q E h => ?_) (fun cdv A outer s H vs Q E hr h => ?_)
  · obtain ⟨a, m, rfl, _⟩ := h
    rfl
  · obtain ⟨a, m, rfl, m0, mb, q⟩ := h
    refine ⟨_, (pss_cons (ps_par (by rfl) sc_divisor_and_factor.nd (i := 2) (j := 3) rfl rfl (by decide) rfl rfl (pa_cons (pe_op op_modN (pv 0) (pv 1)) (pa_cons (pv 1) pa_nil)) (by rfl))
  (pss_cons (ps_asg (pe_tup (pa_cons pe_int (pa_cons pe_int pa_nil))) (k_gT (K := K) (n := 2) (pgs_cons (pg_name (i := 4) sc_divisor_and_factor.nd rfl (Or.inl rfl)) (pgs_cons (pg_name (i := 5) sc_divisor_and_factor.nd rfl (Or.inl rfl)) pgs_nil))))
  (pss_cons (ps_while PassesOwn.never (pt_cmpR op_ne (pv 2) pe_int (nomark _))
  (pss_cons (ps_set (i := 6) sc_divisor_and_factor.nd rfl (Or.inl rfl) (pe_op op_fdivW (pv 3) (pv 2)))
  (pss_cons (ps_par (by rfl) sc_divisor_and_factor.nd (i := 3) (j := 2) rfl rfl (by decide) rfl rfl (pa_cons (pv 2) (pa_cons (pe_op op_sub (pv 3) (pe_op op_mulW (pv 6) (pv 2))) pa_nil)) (by rfl))
  (pss_one (ps_par (by rfl) sc_divisor_and_factor.nd (i := 5) (j := 4) rfl rfl (by decide) rfl rfl (pa_cons (pv 4) (pa_cons (pe_op op_sub (pv 5) (pe_op op_mulW (pv 6) (pv 4))) pa_nil)) (by rfl))))))
  (pss_one (ps_ret (pe_tup (pa_cons (pv 3) (pa_cons (pv 5) pa_nil)))))))), ?_⟩
    have mne : m ≠ 0 := by omega
    refine ⟨_, rfl, _, rfl, _, _, rfl, rfl, mne, _, rfl, _, _, rfl, ?_⟩
    refine ⟨by show 2 ≤ sizeLine; decide, fun t0 nt0 => ?_⟩
    refine ⟨t0, [.int 1, .int 0], rfl, .inl (.inl upd_same), rfl, _, _, rfl, _, _, rfl, rfl, ?_⟩
    have s0 : Same H (upd H t0 (.tup [.int 1, .int 0])) := same_new nt0
    refine ⟨fun k σ' H' => ∃ r d f l y6, Euc a m r d f l ∧ d ≤ m ∧ k = r.toNat ∧ Same H H' ∧ σ' = [some (.int a), some (.int m), some (.int r), some (.int d), some (.int f), some (.int l), y6], ⟨_, _, _, _, _, none, Euc.start m0, Int.le_refl _, rfl, s0, rfl⟩, fun k σ' H' hW => ?_⟩
    obtain ⟨r, d, f, l, y6, hE, hdm, rfl, hH, rfl⟩ := hW
    have r0 := hE.r0
    have rd := hE.rd
    refine ⟨_, rfl, rfl, _, rfl, ?_⟩
    refine iteNE (fun ne => ?_) (fun e => ?_)
    · have hS := hE.step ne
      refine ⟨fun σ2 H2 => ∃ m', m' < r.toNat ∧ ∃ r d f l y6, Euc a m r d f l ∧ d ≤ m ∧ m' = r.toNat ∧ Same H H2 ∧ σ2 = [some (.int a), some (.int m), some (.int r), some (.int d), some (.int f), some (.int l), y6], fun σ2 H2 h => h, ?_⟩
      have g1 : CDivW d r := div_ok (by omega) (show r.natAbs < 2 ^ 8000 from le_pow (by omega) mb)
      have q0 : 0 ≤ d / r := Int.ediv_nonneg (by omega) r0
      have qd : (d / r).natAbs ≤ m.natAbs := by
        have := Int.natAbs_ediv_le_natAbs d r
        omega
      have fm : f.natAbs ≤ m.natAbs := by
        have h1 := hE.fd
        have h2 : f.natAbs * 1 ≤ f.natAbs * d.natAbs := Nat.mul_le_mul_left _ (by omega)
        omega
      have g2 : CMulW (d / r) r := wide_ok mb qd (by omega)
      have g3 : CMulW (d / r) f := wide_ok mb qd fm
      have lt : (d - d / r * r).toNat < r.toNat := by
        have := hS.r0
        have := hS.rd
        omega
      have rm : r ≤ m := by omega
      clear mb
      repeat first | walk_at "rdt" | walk_at "two"
      exact ⟨_, lt, _, _, _, _, _, hS, rm, rfl, hH, rfl⟩
    · subst e
      obtain ⟨e1, e2, e3⟩ := hE.done
      subst e1
      walk_at "rds"
      intro t nt
      exact q t l _ (hH.free nt) (Same.new hH nt) upd_same e2 e3
end
theorem fmod_zero {a : Int} {k : Int} (hk : 0 < k) : a.fmod k = 0 ↔ k ∣ a := by
  rw [Int.fmod_eq_emod_of_nonneg _ (by omega)]
  exact ⟨Int.dvd_of_emod_eq_zero, Int.emod_eq_zero_of_dvd⟩
section
variable {P : Program} {w : World} {K : PySem.W.Frag} {mg : Str → Option Value} {base : Heap}
def sp_both (K : PySem.W.Frag) : Sp := fun vs H Q _ => ∃ (p q : Addr) (r m s n : Int), vs = [.ref p, .ref q] ∧ SqT K H p [.int r, .int m] ∧ SqT K H q [.int s, .int n] ∧
  0 < m ∧ 0 < n ∧ 0 ≤ r ∧ r < m ∧ 0 ≤ s ∧ s < n ∧ m.natAbs < 2 ^ 4000 ∧ n.natAbs < 2 ^ 4000 ∧
  (∀ H', Same H H' → ¬ (Int.gcd n m : Int) ∣ s - r → Q .non H') ∧
  (∀ t x H', H t = none → Same H H' → H' t = some (.tup [.int x, .int (m / (Int.gcd n m : Int) * n)]) → 0 ≤ x → x < m / (Int.gcd n m : Int) * n → m ∣ x - r → n ∣ x - s → Q (.ref t) H')
theorem ok_both_remainders (T : Txt K mg w) : FnOk P w K mg base CX0 2 T.a_both_remainders T.d_both_remainders P_both_remainders (sp_both K) := by
  refine T.F_both_remainders.ok sc_both_remainders (fun vs H Q E h => ?_) (fun cdv A outer s H vs Q E hr h => ?_)
  · obtain ⟨p, q, r, m, s, n, rfl, _⟩ := h
    rfl
  · obtain ⟨p, q, r, m, u, n, rfl, hp, hq, m0, n0, r0, r1, u0, u1, mb, nb, qn, qy⟩ := h
    have G_divisor_and_factor := ok_divisor_and_factor (P := P) (w := w) (base := base) T
    refine ⟨_, (pss_cons (ps_asg (pv 0) (k_gT (K := K) (n := 2) (pgs_cons (pg_name (i := 2) sc_both_remainders.nd rfl (Or.inl rfl)) (pgs_cons (pg_name (i := 3) sc_both_remainders.nd rfl (Or.inl rfl)) pgs_nil))))
  (pss_cons (ps_asg (pv 1) (k_gT (K := K) (n := 2) (pgs_cons (pg_name (i := 4) sc_both_remainders.nd rfl (Or.inl rfl)) (pgs_cons (pg_name (i := 5) sc_both_remainders.nd rfl (Or.inl rfl)) pgs_nil))))
  (pss_cons (ps_asg (pe_call G_divisor_and_factor (hr.mono (by decide)) (by rfl) T.g_divisor_and_factor T.F_divisor_and_factor.kp T.b_divisor_and_factor .nil pass0 (pa_cons (pv 3) (pa_cons (pv 5) pa_nil))) (k_gT (K := K) (n := 2) (pgs_cons (pg_name (i := 6) sc_both_remainders.nd rfl (Or.inl rfl)) (pgs_cons (pg_name (i := 7) sc_both_remainders.nd rfl (Or.inl rfl)) pgs_nil))))
  (pss_cons (ps_if (pt_cmpR op_ne (pe_op op_modN (pe_op op_sub (pv 4) (pv 2)) (pv 6)) pe_int (nomark _))
  (pss_one (ps_ret pe_non)) pss_nil)
  (pss_cons (ps_set (i := 8) sc_both_remainders.nd rfl (Or.inl rfl) (pe_op op_modN (pe_op op_mulW (pe_op op_fdivW (pe_op op_sub (pv 4) (pv 2)) (pv 6)) (pv 7)) (pe_op op_fdivW (pv 5) (pv 6))))
  (pss_one (ps_ret (pe_tup (pa_cons (pe_op op_add (pv 2) (pe_op op_mulW (pv 3) (pv 8))) (pa_cons (pe_op op_mulW (pe_op op_fdivW (pv 3) (pv 6)) (pv 5)) pa_nil)))))))))), ?_⟩
    refine ⟨_, rfl, _, _, rfl, hp, rfl, _, _, rfl, _, _, rfl, rfl, ?_⟩
    refine ⟨_, rfl, _, _, rfl, hq, rfl, _, _, rfl, _, _, rfl, rfl, ?_⟩
    refine ⟨_, rfl, _, rfl, m, n, rfl, n0, pow_le2 nb (by decide), fun t l H1 nt s1 e1 hd hl => ?_⟩
    refine ⟨_, _, rfl, .inl (.inl e1), rfl, _, _, rfl, _, _, rfl, rfl, ?_⟩
    have g0 : (0 : Int) < (Int.gcd n m : Int) := gcd_pos m0
    have gm : ((Int.gcd n m : Int)).natAbs ≤ n.natAbs := Nat.le_of_dvd (by omega) (by
      show Int.gcd n m ∣ n.natAbs
      exact Nat.gcd_dvd_left _ _)
    have gdn : (Int.gcd n m : Int) ∣ n := Int.gcd_dvd_left ..
    have gb : ((Int.gcd n m : Int)).natAbs < 2 ^ 4000 := le_pow gm nb
    have hcrt := fun hz => crt_two m0 n0 r0 r1 hd (s := u) hz
    have gne : (Int.gcd n m : Int) ≠ 0 := by omega
    have cg : ∀ z, CDivW z (Int.gcd n m : Int) := fun z => div_ok g0 (pow_le2 gb (by decide))
    have nq : 0 < n / (Int.gcd n m : Int) := Int.ediv_pos_of_pos_of_dvd n0 (Int.le_of_lt g0) gdn
    have nqne : n / (Int.gcd n m : Int) ≠ 0 := Int.ne_of_gt nq
    have nql : (n / (Int.gcd n m : Int)).natAbs ≤ n.natAbs := Int.natAbs_ediv_le_natAbs _ _
    have mql : (m / (Int.gcd n m : Int)).natAbs ≤ m.natAbs := Int.natAbs_ediv_le_natAbs _ _
    have c2 : CMulW (m / (Int.gcd n m : Int)) n := wide_mul (le_pow mql mb) nb (by decide) (by decide) (by decide)
    have ub : ((u - r) / (Int.gcd n m : Int)).natAbs < 2 ^ 4001 := by
      refine Nat.lt_of_le_of_lt (Int.natAbs_ediv_le_natAbs _ _) ?_
      have x1 : (u - r).natAbs < m.natAbs + n.natAbs := by omega
      rw [Nat.pow_succ]
      clear gb
      generalize 2 ^ 4000 = z at *
      omega
    have c1 : CMulW ((u - r) / (Int.gcd n m : Int)) l := wide_mul ub (le_pow hl nb) (by decide) (by decide) (by decide)
    generalize (Int.gcd n m : Int) = g at *
    have c3 : CMulW m (((u - r) / g * l).fmod (n / g)) := by
      have y0 := fmod_lo ((u - r) / g * l) nq
      have y1 := fmod_hi ((u - r) / g * l) nq
      refine wide_mul mb (le_pow (j := n) ?_ nb) (by decide) (by decide) (by decide)
      clear mb nb gb ub
      omega
    clear mb nb gb ub
    repeat first | walk_at "rdt" | walk_at "two"
    refine iteNE (fun ne => ?_) (fun e => ?_)
    · refine qn _ s1 fun hdv => ne ?_
      exact (fmod_zero g0).mpr hdv
    · obtain ⟨a1, a2, a3, a4⟩ := hcrt ((fmod_zero g0).mp e)
      have cg1 := cg (u - r)
      have cg2 := cg n
      have cg3 := cg m
      repeat first | walk_at "rdt" | walk_at "two"
      intro t2 nt2
      exact qy t2 _ _ (s1.free nt2) (Same.new s1 nt2) upd_same a1 a2 a3 a4
end
section
variable {P : Program} {w : World} {K : PySem.W.Frag} {mg : Str → Option Value} {base : Heap}
/-- pairs of numbers lie in a list -/
def Prs (K : PySem.W.Frag) (H : Hp) (xs : List V) (ps : List (Int × Int)) : Prop :=
  xs.length = ps.length ∧ ∀ (i : Nat) (p : Int × Int), ps[i]? = some p → ∃ a, xs[i]? = some (.ref a) ∧ SqT K H a [.int p.1, .int p.2]
theorem Prs.same {H H' : Hp} {xs : List V} {ps : List (Int × Int)} (h : Prs K H xs ps) (e : Same H H') : Prs K H' xs ps :=
  ⟨h.1, fun i p hp => by
    obtain ⟨a, h1, h2⟩ := h.2 i p hp
    exact ⟨a, h1, Same.tup e h2⟩⟩
def Rem (ps : List (Int × Int)) : Prop := ∀ p ∈ ps, 0 < p.2 ∧ 0 ≤ p.1 ∧ p.1 < p.2
def RemP (p : Int × Int) : Prop := 0 < p.2 ∧ 0 ≤ p.1 ∧ p.1 < p.2
/-- a list or a tuple -/
def SqA (K : PySem.W.Frag) (H : Hp) (a : Addr) (xs : List V) : Prop := SqL K H a xs ∨ SqT K H a xs
def sp_commonR (K : PySem.W.Frag) (CB : Addr) : Sp := fun vs H Q E => ∃ (a : Addr) (xs : List V) (ps : List (Int × Int)) (B : Nat), vs = [.ref a] ∧ SqA K H a xs ∧ Prs K H xs ps ∧ 0 < B ∧ (∀ p ∈ ps, p.2.natAbs < 2 ^ B) ∧ ps.length * B + B + 1 ≤ 4000 ∧
  (∀ (k : Nat) (p : Int × Int) H', ps[k]? = some p → ¬ RemP p → (∀ (j : Nat) (q : Int × Int), j < k → ps[j]? = some q → RemP q) → Same H H' → Raised CB "at" "BadRemainder" (.int (k : Nat)) H' E) ∧
  (Rem ps → ∀ H', Same H H' → (¬ ∃ y, Sols ps y) → Q .non H') ∧
  (Rem ps → ∀ t x H', H t = none → Same H H' → H' t = some (.tup [.int x, .int (lcmL (ps.map Prod.snd))]) → Sol ps x (lcmL (ps.map Prod.snd)) → Q (.ref t) H')
theorem ok_common_roundsR (T : Txt K mg w) : FnOk P w K mg base (L2.CX P w) 4 T.a_common_rounds T.d_common_rounds P_common_rounds (sp_commonR K T.a_BadRemainder) := by
  have G_BadRemainder := ok_BadRemainder (P := P) (w := w) (base := base) T
  refine T.F_common_rounds.okX sc_common_rounds (fun vs H Q E h => ?_) (fun cdv A outer s H vs Q E hr h => ?_)
  · obtain ⟨a, xs, ps, B, rfl, _⟩ := h
    rfl
  · obtain ⟨a, xs, ps, B, rfl, hx, hp, b0, hB, hl, qe, qn, qy⟩ := h
    have G_both_remainders := ok_both_remainders (P := P) (w := w) (base := base) T
    refine ⟨_, (pss_cons (ps_for PassesOwn.leaving rfl (pi_or (k_enum (K := K) (pa_cons (pv 0) pa_nil) T.m_enumerate) (k_enumT (K := K) (pa_cons (pv 0) pa_nil) T.m_enumerate)) (k_gT (K := K) (n := 2) (pgs_cons (pg_name (i := 1) sc_common_rounds.nd rfl (Or.inl rfl)) (pgs_cons (k_gT (K := K) (n := 2) (pgs_cons (pg_name (i := 2) sc_common_rounds.nd rfl (Or.inl rfl)) (pgs_cons (pg_name (i := 3) sc_common_rounds.nd rfl (Or.inl rfl)) pgs_nil))) pgs_nil)))
  (pss_one (ps_if (PW.pt (pw_or (pt_cmpR op_lt (pv 3) pe_int (nomark _)) (pw_or (pt_cmpR op_lt (pv 2) pe_int (nomark _)) (pw_or1 (pt_cmpR op_ge (pv 2) (pv 3) (nomark _))))))
  (pss_one (ps_raise rfl (takes_of rfl rfl rfl rfl) (pmk_oex T.x_BadRemainder.o T.i_BadRemainder T.ti_BadRemainder G_BadRemainder (hr.mono (by decide)) T.b_BadRemainder .nil pass0 (by rfl) T.g_BadRemainder (pa_cons (pv 1) pa_nil)))) pss_nil)))
  (pss_cons (ps_set (i := 4) sc_common_rounds.nd rfl (Or.inl rfl) (pe_tup (pa_cons pe_int (pa_cons pe_int pa_nil))))
  (pss_cons (ps_for PassesOwn.leaving rfl (pi_or (k_piL (K := K) (pv 0)) (k_piT (K := K) (pv 0))) (pg_name (i := 5) sc_common_rounds.nd rfl (Or.inl rfl))
  (pss_cons (ps_set (i := 4) sc_common_rounds.nd rfl (Or.inl rfl) (pe_call G_both_remainders (hr.mono (by decide)) (by rfl) T.g_both_remainders T.F_both_remainders.kp T.b_both_remainders .nil pass0 (pa_cons (pv 4) (pa_cons (pv 5) pa_nil))))
  (pss_one (ps_if (pt_cmpR op_isN (pv 4) pe_non (nomark _))
  (pss_one (ps_ret pe_non)) pss_nil))))
  (pss_one (ps_ret (pv 4)))))), ?_⟩
    have hlen := hp.1
    rcases hx with hx | hx
    · refine .inl ⟨_, rfl, a, xs, rfl, hx, for_by (n := xs.length) (fun i σ H' => Same H H' ∧ (∀ (j : Nat) (q : Int × Int), j < i → ps[j]? = some q → RemP q) ∧ ∃ y1 y2 y3, σ = [some (.ref a), y1, y2, y3, none, none]) ⟨Same.refl H, (fun j q h => absurd h (Nat.not_lt_zero _)), none, none, none, rfl⟩
        (fun i σ H' hi hp => ⟨xs, xs[i], (hp.1).seq hx, List.getElem?_eq_getElem hi⟩) (fun σ H' hp => ⟨xs, (hp.1).seq hx, Nat.le_refl _⟩) (fun i σ H' v H2 hi hq hv => ?_) (fun σ H' hq => ?_)⟩
      · obtain ⟨t, x, rfl, nt, rfl, f1⟩ := hv
        obtain ⟨hq1, hq2, y1, y2, y3, rfl⟩ := hq
        have gx := f1 xs ((hq1).seq hx)
        have hi' : i < ps.length := by omega
        have hg := List.getElem?_eq_getElem hi'
        obtain ⟨c, hc1, hc2⟩ := hp.2 i ps[i] hg
        rw [gx] at hc1
        cases hc1
        have s2 : Same H (upd H' t (.tup [.int (i : Nat), .ref c])) := Same.new hq1 nt
        have qe' := fun (h : ¬ RemP ps[i]) => qe i ps[i] _ hg h hq2 s2
        have hnext : RemP ps[i] → ∀ (j : Nat) (q : Int × Int), j < i + 1 → ps[j]? = some q → RemP q := fun h j q hj hq => by
          by_cases e : j = i
          · subst e
            rw [hg] at hq
            cases hq
            exact h
          · exact hq2 j q (by omega) hq
        refine ⟨t, [.int (i : Nat), .ref c], rfl, .inl (.inl upd_same), rfl, _, _, rfl, _, _, rfl, ?_⟩
        refine ⟨c, _, rfl, Same.tup s2 hc2, rfl, _, _, rfl, _, _, rfl, rfl, ?_⟩
        generalize ps[i] = pp at *
        refine ⟨rfl, ?_⟩
        walk_at "rds"
        refine iteD (fun h => ?_) (fun h1 => ?_)
        · walk_at "rds"
          refine ⟨Nat.le_of_ble_eq_true rfl, ?_⟩
          exact mk_x1 (W := fun d H' => E (.ref T.a_BadRemainder) d H') (qe' (fun h2 => by have := h2.1; omega))
        walk_at "rds"
        refine iteD (fun h => ?_) (fun h2 => ?_)
        · walk_at "rds"
          refine ⟨Nat.le_of_ble_eq_true rfl, ?_⟩
          exact mk_x1 (W := fun d H' => E (.ref T.a_BadRemainder) d H') (qe' (fun h2 => by have := h2.2.1; omega))
        walk_at "rds"
        refine iteD (fun h => ?_) (fun h3 => ?_)
        · walk_at "rds"
          refine ⟨Nat.le_of_ble_eq_true rfl, ?_⟩
          exact mk_x1 (W := fun d H' => E (.ref T.a_BadRemainder) d H') (qe' (fun h2 => by have := h2.2.2; omega))
        exact ⟨s2, hnext ⟨by omega, by omega, by omega⟩, _, _, _, rfl⟩
      · obtain ⟨hq1, hq2, y1, y2, y3, rfl⟩ := hq
        have hR : Rem ps := fun p hpm => by
          obtain ⟨j, hj⟩ := List.mem_iff_getElem?.mp hpm
          exact hq2 j p (by have := (List.getElem?_eq_some_iff.mp hj).1; omega) hj
        have qn := qn hR
        have qy := qy hR
        refine ⟨by show 2 ≤ sizeLine; decide, fun t0 nt0 => ?_⟩
        have s0 := Same.new (o := .tup [.int 0, .int 1]) hq1 nt0
        refine .inl ⟨_, rfl, a, rfl, ⟨_, (s0).seq hx⟩, for_list (xs := xs) (fun i σ H2 => Same H H2 ∧ ∃ (t : Addr) (x M : Int) (z5 : Option V), H t = none ∧ H2 t = some (.tup [.int x, .int M]) ∧ Sol (ps.take i) x M ∧ M.natAbs < 2 ^ (i * B + 1) ∧ σ = [some (.ref a), y1, y2, y3, some (.ref t), z5])
          ⟨s0, t0, 0, 1, none, hq1.free nt0, upd_same, Sol.none, by rw [Nat.zero_mul]; decide, rfl⟩ (fun i σ H2 _ hz => (hz.1).seq hx) (fun i x σ H2 hi hz => ?_) (fun σ H2 hz => ?_)⟩
        · obtain ⟨h2, t, x1, M, z5, nt, ht, hS, hM, rfl⟩ := hz
          have hi1 : i < xs.length := (List.getElem?_eq_some_iff.mp hi).1
          have hi' : i < ps.length := by rw [← hp.1]; exact hi1
          have hg := List.getElem?_eq_getElem hi'
          obtain ⟨c, hc1, hc2⟩ := (hp.same h2).2 i ps[i] hg
          rw [hi] at hc1
          cases hc1
          obtain ⟨e1, e2, e3⟩ := hR ps[i] (List.getElem_mem hi')
          have eB := hB ps[i] (List.getElem_mem hi')
          have gd : Good (ps.take i) := fun p h => (hR p (List.mem_of_mem_take h)).1
          have et : ps.take (i + 1) = ps.take i ++ [ps[i]] := by rw [List.take_add_one, hg]; rfl
          generalize ps[i] = pp at *
          have x0 := hS.x0
          have x2 := hS.x1
          have M0 : 0 < M := by omega
          have ib : i * B + B ≤ ps.length * B := by
            have := Nat.mul_le_mul_right B (show i + 1 ≤ ps.length from hi')
            rw [Nat.add_mul, Nat.one_mul] at this
            exact this
          refine ⟨_, rfl, _, rfl, t, c, x1, M, pp.1, pp.2, rfl, .inl (.inl ht), hc2, M0, e1, x0, x2, e2, e3, pow_le2 hM (by omega), pow_le2 eB (by omega), fun H3 s3 hn => ?_, fun t2 y H3 nt2 s3 ht2 y0 y1 d1 d2 => ?_⟩
          · walk_at "rds"
            refine qn H3 (h2.trans s3) fun ⟨y, hy⟩ => hS.fail gd hn ⟨y, fun p hpm => hy p ?_⟩
            rw [← et] at hpm
            exact List.mem_of_mem_take hpm
          · walk_at "rds"
            refine ⟨h2.trans s3, t2, y, _, some (.ref c), h2.free nt2, ht2, et ▸ hS.add gd y0 y1 d1 d2, ?_, rfl⟩
            rw [show (i + 1) * B + 1 = (i * B + 1) + B by rw [Nat.add_mul]; omega, Nat.pow_add]
            refine Nat.lt_of_le_of_lt ?_ (Nat.mul_lt_mul'' hM eB)
            rw [Int.natAbs_mul]
            exact Nat.mul_le_mul_right _ (Int.natAbs_ediv_le_natAbs _ _)
        · obtain ⟨h2, t, x1, M, z5, nt, ht, hS, hM, rfl⟩ := hz
          rw [hp.1, List.take_length] at hS
          have eM := hS.m
          subst eM
          exact ⟨_, rfl, qy t x1 H2 nt h2 ht hS⟩

    · refine .inr ⟨_, rfl, a, xs, rfl, hx, for_by (n := xs.length) (fun i σ H' => Same H H' ∧ (∀ (j : Nat) (q : Int × Int), j < i → ps[j]? = some q → RemP q) ∧ ∃ y1 y2 y3, σ = [some (.ref a), y1, y2, y3, none, none]) ⟨Same.refl H, (fun j q h => absurd h (Nat.not_lt_zero _)), none, none, none, rfl⟩
        (fun i σ H' hi hp => ⟨xs, xs[i], Same.tup (hp.1) hx, List.getElem?_eq_getElem hi⟩) (fun σ H' hp => ⟨xs, Same.tup (hp.1) hx, Nat.le_refl _⟩) (fun i σ H' v H2 hi hq hv => ?_) (fun σ H' hq => ?_)⟩
      · obtain ⟨t, x, rfl, nt, rfl, f1⟩ := hv
        obtain ⟨hq1, hq2, y1, y2, y3, rfl⟩ := hq
        have gx := f1 xs (Same.tup (hq1) hx)
        have hi' : i < ps.length := by omega
        have hg := List.getElem?_eq_getElem hi'
        obtain ⟨c, hc1, hc2⟩ := hp.2 i ps[i] hg
        rw [gx] at hc1
        cases hc1
        have s2 : Same H (upd H' t (.tup [.int (i : Nat), .ref c])) := Same.new hq1 nt
        have qe' := fun (h : ¬ RemP ps[i]) => qe i ps[i] _ hg h hq2 s2
        have hnext : RemP ps[i] → ∀ (j : Nat) (q : Int × Int), j < i + 1 → ps[j]? = some q → RemP q := fun h j q hj hq => by
          by_cases e : j = i
          · subst e
            rw [hg] at hq
            cases hq
            exact h
          · exact hq2 j q (by omega) hq
        refine ⟨t, [.int (i : Nat), .ref c], rfl, .inl (.inl upd_same), rfl, _, _, rfl, _, _, rfl, ?_⟩
        refine ⟨c, _, rfl, Same.tup s2 hc2, rfl, _, _, rfl, _, _, rfl, rfl, ?_⟩
        generalize ps[i] = pp at *
        refine ⟨rfl, ?_⟩
        walk_at "rds"
        refine iteD (fun h => ?_) (fun h1 => ?_)
        · walk_at "rds"
          refine ⟨Nat.le_of_ble_eq_true rfl, ?_⟩
          exact mk_x1 (W := fun d H' => E (.ref T.a_BadRemainder) d H') (qe' (fun h2 => by have := h2.1; omega))
        walk_at "rds"
        refine iteD (fun h => ?_) (fun h2 => ?_)
        · walk_at "rds"
          refine ⟨Nat.le_of_ble_eq_true rfl, ?_⟩
          exact mk_x1 (W := fun d H' => E (.ref T.a_BadRemainder) d H') (qe' (fun h2 => by have := h2.2.1; omega))
        walk_at "rds"
        refine iteD (fun h => ?_) (fun h3 => ?_)
        · walk_at "rds"
          refine ⟨Nat.le_of_ble_eq_true rfl, ?_⟩
          exact mk_x1 (W := fun d H' => E (.ref T.a_BadRemainder) d H') (qe' (fun h2 => by have := h2.2.2; omega))
        exact ⟨s2, hnext ⟨by omega, by omega, by omega⟩, _, _, _, rfl⟩
      · obtain ⟨hq1, hq2, y1, y2, y3, rfl⟩ := hq
        have hR : Rem ps := fun p hpm => by
          obtain ⟨j, hj⟩ := List.mem_iff_getElem?.mp hpm
          exact hq2 j p (by have := (List.getElem?_eq_some_iff.mp hj).1; omega) hj
        have qn := qn hR
        have qy := qy hR
        refine ⟨by show 2 ≤ sizeLine; decide, fun t0 nt0 => ?_⟩
        have s0 := Same.new (o := .tup [.int 0, .int 1]) hq1 nt0
        refine .inr ⟨_, rfl, a, rfl, ⟨_, Same.tup (s0) hx⟩, for_tup (xs := xs) (fun i σ H2 => Same H H2 ∧ ∃ (t : Addr) (x M : Int) (z5 : Option V), H t = none ∧ H2 t = some (.tup [.int x, .int M]) ∧ Sol (ps.take i) x M ∧ M.natAbs < 2 ^ (i * B + 1) ∧ σ = [some (.ref a), y1, y2, y3, some (.ref t), z5])
          ⟨s0, t0, 0, 1, none, hq1.free nt0, upd_same, Sol.none, by rw [Nat.zero_mul]; decide, rfl⟩ (fun i σ H2 _ hz => Same.tup (hz.1) hx) (fun i x σ H2 hi hz => ?_) (fun σ H2 hz => ?_)⟩
        · obtain ⟨h2, t, x1, M, z5, nt, ht, hS, hM, rfl⟩ := hz
          have hi1 : i < xs.length := (List.getElem?_eq_some_iff.mp hi).1
          have hi' : i < ps.length := by rw [← hp.1]; exact hi1
          have hg := List.getElem?_eq_getElem hi'
          obtain ⟨c, hc1, hc2⟩ := (hp.same h2).2 i ps[i] hg
          rw [hi] at hc1
          cases hc1
          obtain ⟨e1, e2, e3⟩ := hR ps[i] (List.getElem_mem hi')
          have eB := hB ps[i] (List.getElem_mem hi')
          have gd : Good (ps.take i) := fun p h => (hR p (List.mem_of_mem_take h)).1
          have et : ps.take (i + 1) = ps.take i ++ [ps[i]] := by rw [List.take_add_one, hg]; rfl
          generalize ps[i] = pp at *
          have x0 := hS.x0
          have x2 := hS.x1
          have M0 : 0 < M := by omega
          have ib : i * B + B ≤ ps.length * B := by
            have := Nat.mul_le_mul_right B (show i + 1 ≤ ps.length from hi')
            rw [Nat.add_mul, Nat.one_mul] at this
            exact this
          refine ⟨_, rfl, _, rfl, t, c, x1, M, pp.1, pp.2, rfl, .inl (.inl ht), hc2, M0, e1, x0, x2, e2, e3, pow_le2 hM (by omega), pow_le2 eB (by omega), fun H3 s3 hn => ?_, fun t2 y H3 nt2 s3 ht2 y0 y1 d1 d2 => ?_⟩
          · walk_at "rds"
            refine qn H3 (h2.trans s3) fun ⟨y, hy⟩ => hS.fail gd hn ⟨y, fun p hpm => hy p ?_⟩
            rw [← et] at hpm
            exact List.mem_of_mem_take hpm
          · walk_at "rds"
            refine ⟨h2.trans s3, t2, y, _, some (.ref c), h2.free nt2, ht2, et ▸ hS.add gd y0 y1 d1 d2, ?_, rfl⟩
            rw [show (i + 1) * B + 1 = (i * B + 1) + B by rw [Nat.add_mul]; omega, Nat.pow_add]
            refine Nat.lt_of_le_of_lt ?_ (Nat.mul_lt_mul'' hM eB)
            rw [Int.natAbs_mul]
            exact Nat.mul_le_mul_right _ (Int.natAbs_ediv_le_natAbs _ _)
        · obtain ⟨h2, t, x1, M, z5, nt, ht, hS, hM, rfl⟩ := hz
          rw [hp.1, List.take_length] at hS
          have eM := hS.m
          subst eM
          exact ⟨_, rfl, qy t x1 H2 nt h2 ht hS⟩

end
/-! ### the law's choices -/
theorem But.seq {K : PySem.W.Frag} {b t : Addr} {H H' : Hp} {xs : List V} (x : But b H H') (n : t ≠ b) (h : SqL K H t xs) : SqL K H' t xs := by
  rcases h with (h | ⟨o, h⟩) | h
  · exact .inl (.inl (x _ _ n h))
  · exact .inl (.inr ⟨o, x _ _ n h⟩)
  · exact .inr h
theorem Bag.obj {H : Hp} {b l : Addr} (x : Bag H b l) : ∃ xs, H b = some (.lst xs) := by
  obtain ⟨cs, i, hh, s, y⟩ := x
  exact ⟨_, y.at_⟩
/-- tuples stay when the bag changes -/
theorem But.tup {K : PySem.W.Frag} {b l t : Addr} {H H' : Hp} {xs : List V} (x : But b H H') (hB : Bag H b l) (h : SqT K H t xs) : SqT K H' t xs := by
  obtain ⟨ys, hb⟩ := hB.obj
  rcases h with (h | ⟨o, h⟩) | h
  · exact .inl (.inl (x _ _ (ne_of h hb (by intro z; cases z)) h))
  · exact .inl (.inr ⟨o, x _ _ (ne_of h hb (by intro z; cases z)) h⟩)
  · exact .inr h
section
variable {P : Program} {w : World} {K : PySem.W.Frag} {mg : Str → Option Value} {base : Heap}
def sp_of (K : PySem.W.Frag) : Sp := fun vs H Q _ => ∃ (b l t : Addr) (xs : List V), vs = [.ref b, .ref t] ∧ Bag H b l ∧ SqL K H t xs ∧ t ≠ b ∧ 0 < xs.length ∧ xs.length ≤ 1000 ∧
  ∀ (i : Nat) (x : V) H', xs[i]? = some x → Bag H' b l → But b H H' → Q x H'
theorem ok__law_of (T : Txt K mg w) : FnOk P w K mg base CX0 2 T.a__law_of T.d__law_of P__law_of (sp_of K) := by
  have G__law_pull := ok__law_pull (P := P) (w := w) (base := base) T
  refine T.F__law_of.ok sc__law_of (fun vs H Q E h => ?_) (fun cdv A outer s H vs Q E hr h => ?_)
  · obtain ⟨b, l, t, xs, rfl, _⟩ := h
    rfl
  · obtain ⟨b, l, t, xs, rfl, hB, ht, nt, x0, x1, q⟩ := h
    refine ⟨_, (pss_one (ps_ret (pe_ix (k_ixL (K := K)) (pv 1) (pe_call G__law_pull (hr.mono (by decide)) (by rfl) T.g__law_pull T.F__law_pull.kp T.b__law_pull .nil pass0 (pa_cons (pv 0) (pa_cons (pe_callB (k_len (K := K)) (by rfl) T.m_len boot_len (pa_cons (pv 1) pa_nil)) pa_nil))) (fun _ _ => rfl)))), ?_⟩
    walk_at "rds"
    refine ⟨b, l, _, rfl, hB, by omega, Fit.of (by omega) (by omega), fun r H2 r0 r1 hB2 b2 => ?_⟩
    have hi : r.toNat < xs.length := by omega
    have hx : atI xs r = some xs[r.toNat] := at_of (j := r.toNat) (by omega) (List.getElem?_eq_getElem hi)
    exact ⟨t, xs, r, xs[r.toNat], rfl, rfl, b2.seq nt ht, hx, q r.toNat _ H2 (List.getElem?_eq_getElem hi) hB2 b2⟩
end
/-! ### the law's own reckoning -/
section
variable {P : Program} {w : World} {K : PySem.W.Frag} {mg : Str → Option Value} {base : Heap}
theorem gcd_step {x y : Int} (hx : 0 ≤ x) (hy : 0 < y) : Int.gcd y (x.fmod y) = Int.gcd x y := by
  rw [Int.fmod_eq_emod_of_nonneg _ (by omega), gcd_mod, Int.gcd_comm]
def sp_gcd : Sp := fun vs H Q _ => ∃ a b : Int, vs = [.int a, .int b] ∧ Q (.int (Int.gcd a b : Int)) H
theorem ok__law_gcd (T : Txt K mg w) : FnOk P w K mg base CX0 1 T.a__law_gcd T.d__law_gcd P__law_gcd sp_gcd := by
  refine T.F__law_gcd.ok sc__law_gcd (fun vs H Q E h => ?_) (fun cdv A outer s H vs Q E hr h => ?_)
  · obtain ⟨a, b, rfl, _⟩ := h
    rfl
  · obtain ⟨a, b, rfl, q⟩ := h
    refine ⟨_, (pss_cons (ps_par (by rfl) sc__law_gcd.nd (i := 0) (j := 1) rfl rfl (by decide) rfl rfl (pa_cons (pe_callB call_abs (by rfl) T.m_abs boot_abs (pa_cons (pv 0) pa_nil)) (pa_cons (pe_callB call_abs (by rfl) T.m_abs boot_abs (pa_cons (pv 1) pa_nil)) pa_nil)) (by rfl))
  (pss_cons (ps_while PassesOwn.never (pt_cmpR op_ne (pv 1) pe_int (nomark _))
  (pss_one (ps_par (by rfl) sc__law_gcd.nd (i := 0) (j := 1) rfl rfl (by decide) rfl rfl (pa_cons (pv 1) (pa_cons (pe_op op_modN (pe_callTy call_int1 (by rfl) T.m_int boot_int (pa_cons (pv 0) pa_nil)) (pv 1)) pa_nil)) (by rfl))))
  (pss_one (ps_ret (pv 0))))), ?_⟩
    walk_at "rds"
    walk_at "two"
    refine ⟨fun m σ' H' => ∃ x y : Int, 0 ≤ x ∧ 0 ≤ y ∧ m = y.toNat ∧ σ' = [some (.int x), some (.int y)] ∧ H' = H ∧ Int.gcd x y = Int.gcd a b,
      ⟨_, (if a < 0 then -a else a), (if b < 0 then -b else b), by split <;> omega, by split <;> omega, rfl, rfl, rfl, ?_⟩, fun m σ' H' hW => ?_⟩
    · have e1 : ∀ z : Int, (if z < 0 then -z else z).natAbs = z.natAbs := fun z => by split <;> omega
      show Nat.gcd _ _ = Nat.gcd _ _
      rw [e1, e1]
    · obtain ⟨x, y, hx, hy, rfl, rfl, rfl, hg⟩ := hW
      refine ⟨_, rfl, rfl, _, rfl, ?_⟩
      refine iteNE (fun ne => ?_) (fun e => ?_)
      · have hy' : 0 < y := by omega
        refine ⟨fun σ2 H2 => σ2 = [some (.int y), some (.int (x.fmod y))] ∧ H2 = H', fun σ2 H2 h2 => ?_, ?_⟩
        · obtain ⟨rfl, rfl⟩ := h2
          have h1 := fmod_lo x hy'
          have h2 := fmod_hi x hy'
          exact ⟨(x.fmod y).toNat, by omega, y, _, hy, h1, rfl, rfl, rfl, by rw [gcd_step hx hy', hg]⟩
        · repeat first | walk_at "rdt" | walk_at "two"
          first | exact rfl | exact ⟨rfl, rfl⟩
      · subst e
        refine ⟨_, rfl, ?_⟩
        have hx2 : (x : Int) = (Int.gcd a b : Int) := by
          rw [← hg, Int.gcd_zero_right]
          omega
        rw [hx2]
        exact q
def sp_lcm (K : PySem.W.Frag) : Sp := fun vs H Q _ => ∃ (p : Addr) (ns : List Int), vs = [.ref p] ∧ SqL K H p (ns.map V.int) ∧ (∀ n ∈ ns, 0 < n ∧ n.natAbs < 2 ^ 2000) ∧ ns.length ≤ 9 ∧ Q (.int (lcmL ns)) H
theorem lcmL_take {ns : List Int} (h : ∀ n ∈ ns, 0 < n ∧ n.natAbs < 2 ^ 2000) : ∀ i, i ≤ ns.length → 0 < lcmL (ns.take i) ∧ (lcmL (ns.take i)).natAbs < 2 ^ (2000 * i + 1)
  | 0, _ => by
    rw [List.take_zero]
    show (0 : Int) < 1 ∧ (1 : Int).natAbs < 2 ^ (0 + 1)
    exact ⟨by decide, by decide⟩
  | i + 1, hi => by
    obtain ⟨h1, h2⟩ := lcmL_take h i (by omega)
    have hi' : i < ns.length := by omega
    obtain ⟨n1, n2⟩ := h ns[i] (List.getElem_mem hi')
    have e : lcmL (ns.take (i + 1)) = lcmI (lcmL (ns.take i)) ns[i] := by
      unfold lcmL
      rw [List.take_add_one, List.getElem?_eq_getElem hi', List.foldl_append]
      rfl
    rw [e]
    refine ⟨lcmI_pos h1 n1, Nat.lt_of_le_of_lt (lcmI_le h1 n1) ?_⟩
    rw [show 2000 * (i + 1) + 1 = 2000 * i + 1 + 2000 by omega, Nat.pow_add]
    exact Nat.mul_lt_mul'' h2 n2
theorem ok__law_lcm (T : Txt K mg w) : FnOk P w K mg base CX0 2 T.a__law_lcm T.d__law_lcm P__law_lcm (sp_lcm K) := by
  refine T.F__law_lcm.ok sc__law_lcm (fun vs H Q E h => ?_) (fun cdv A outer s H vs Q E hr h => ?_)
  · obtain ⟨p, ns, rfl, _⟩ := h
    rfl
  · obtain ⟨p, ns, rfl, hS, hn, hl, q⟩ := h
    have G__law_gcd := ok__law_gcd (P := P) (w := w) (base := base) T
    refine ⟨_, (pss_cons (ps_set (i := 1) sc__law_lcm.nd rfl (Or.inl rfl) pe_int)
  (pss_cons (ps_for PassesOwn.never rfl (k_piL (K := K) (pv 0)) (pg_name (i := 2) sc__law_lcm.nd rfl (Or.inl rfl))
  (pss_one (ps_set (i := 1) sc__law_lcm.nd rfl (Or.inl rfl) (pe_op op_mulW (pe_op op_fdivW (pv 1) (pe_call G__law_gcd (hr.mono (by decide)) (by rfl) T.g__law_gcd T.F__law_gcd.kp T.b__law_gcd .nil pass0 (pa_cons (pv 1) (pa_cons (pv 2) pa_nil)))) (pv 2)))))
  (pss_one (ps_ret (pv 1))))), ?_⟩
    refine ⟨.ref p, rfl, p, rfl, ⟨_, hS⟩, for_list (xs := ns.map V.int) (fun i σ H' => H' = H ∧ ∃ y, σ = [some (.ref p), some (.int (lcmL (ns.take i))), y]) ⟨rfl, none, rfl⟩
      (fun i σ H' _ hp => by rw [hp.1]; exact hS) (fun i x σ H' hx hp => ?_) (fun σ H' hp => ?_)⟩
    · obtain ⟨rfl, y, rfl⟩ := hp
      rw [List.getElem?_map] at hx
      cases hg : ns[i]? with
      | none =>
        rw [hg] at hx
        cases hx
      | some n =>
        rw [hg] at hx
        have ex : V.int n = x := Option.some.inj hx
        subst ex
        have hi : i < ns.length := (List.getElem?_eq_some_iff.mp hg).1
        obtain ⟨c1, c2⟩ := lcmL_take hn i (Nat.le_of_lt hi)
        obtain ⟨n1, n2⟩ := hn n (List.mem_of_getElem? hg)
        have e : lcmL (ns.take (i + 1)) = lcmI (lcmL (ns.take i)) n := by
          unfold lcmL
          rw [List.take_add_one, hg, List.foldl_append]
          rfl
        have g1 := gcd_pos (m := lcmL (ns.take i)) n1
        have g2 : ((Int.gcd (lcmL (ns.take i)) n : Int)).natAbs < 2 ^ 2000 := Nat.lt_of_le_of_lt (Nat.le_of_dvd (by omega) (by
          show Int.gcd (lcmL (ns.take i)) n ∣ n.natAbs
          exact Nat.gcd_dvd_right _ _)) n2
        refine ⟨_, rfl, _, rfl, _, rfl, _, _, rfl, _, _, rfl, rfl, wide_div g1 g2 (by decide) (by decide), _, rfl, _, _, rfl, rfl, ?_, ?_⟩
        · refine wide_mul (a := 2000 * i + 1) (b := 2000) (Nat.lt_of_le_of_lt ?_ c2) n2 (by omega) (by decide) (by omega)
          exact Int.natAbs_ediv_le_natAbs _ _
        · refine ⟨rfl, some (.int n), ?_⟩
          rw [e]
          rfl
    · obtain ⟨rfl, y, rfl⟩ := hp
      rw [List.length_map, List.take_length]
      exact ⟨_, rfl, q⟩
end
/-- the end of a body, by a name -/
theorem gen_ends {tb : TS} {D : Ends} {σ : L2.St} {H : Hp} (h : ∀ DD : Ends, (∀ σ H, D.nx σ H → DD.nx σ H) → tb DD σ H) : tb D σ H := h D fun _ _ x => x
/-! ### pairs of the law -/
def mkp (n : Int) (ms : List Int) : List (Int × Int) := ms.map fun m => (n.fmod m, m)
theorem mkp_snd (n : Int) (ms : List Int) : (mkp n ms).map Prod.snd = ms := by
  unfold mkp
  rw [List.map_map]
  exact List.map_id' _
theorem mkp_len (n : Int) (ms : List Int) : (mkp n ms).length = ms.length := List.length_map ..
theorem mkp_get {n m : Int} {ms : List Int} {i : Nat} (h : ms[i]? = some m) : (mkp n ms)[i]? = some (n.fmod m, m) := by
  unfold mkp
  rw [List.getElem?_map, h]
  rfl
theorem mkp_mem {n : Int} {ms : List Int} {p : Int × Int} (h : p ∈ mkp n ms) : ∃ m, m ∈ ms ∧ p = (n.fmod m, m) := by
  obtain ⟨m, h1, h2⟩ := List.mem_map.mp h
  exact ⟨m, h1, h2.symm⟩
theorem fmod_dvd {n m : Int} (h : 0 < m) : m ∣ n - n.fmod m := by
  rw [Int.fmod_eq_emod_of_nonneg _ (by omega)]
  exact Int.dvd_self_sub_emod
theorem mkp_rem {n : Int} {ms : List Int} (h : ∀ m ∈ ms, 0 < m) : Rem (mkp n ms) := by
  intro p hp
  obtain ⟨m, hm, rfl⟩ := mkp_mem hp
  exact ⟨h m hm, fmod_lo n (h m hm), fmod_hi n (h m hm)⟩
theorem mkp_sols {n : Int} {ms : List Int} (h : ∀ m ∈ ms, 0 < m) : Sols (mkp n ms) n := by
  intro p hp
  obtain ⟨m, hm, rfl⟩ := mkp_mem hp
  exact fmod_dvd (h m hm)
theorem Rem.good {ps : List (Int × Int)} (h : Rem ps) : Good ps := fun p hp => (h p hp).1
theorem sqt_upd {K : PySem.W.Frag} {H : Hp} {t D : Addr} {xs old : List V} {o : HO} (h : SqT K H t xs) (hD : H D = some (.lst old)) : SqT K (upd H D o) t xs := by
  rcases h with (h | ⟨u, h⟩) | h
  · exact .inl (.inl (by rw [upd_ne (ne_of h hD (by intro z; cases z))]; exact h))
  · exact .inl (.inr ⟨u, by rw [upd_ne (ne_of h hD (by intro z; cases z))]; exact h⟩)
  · exact .inr h
theorem Prs.snoc {K : PySem.W.Frag} {H : Hp} {D a : Addr} {xs old : List V} {ps : List (Int × Int)} {p : Int × Int} {o : HO} (h : Prs K H xs ps) (hD : H D = some (.lst old)) (ha : SqT K H a [.int p.1, .int p.2]) : Prs K (upd H D o) (xs ++ [.ref a]) (ps ++ [p]) := by
  refine ⟨by rw [List.length_append, List.length_append, h.1]; rfl, fun i q hq => ?_⟩
  by_cases hi : i < ps.length
  · rw [List.getElem?_append_left hi] at hq
    obtain ⟨c, h1, h2⟩ := h.2 i q hq
    exact ⟨c, by rw [List.getElem?_append_left (by rw [h.1]; exact hi)]; exact h1, sqt_upd h2 hD⟩
  · rw [List.getElem?_append_right (by omega)] at hq
    have e : i - ps.length = 0 := by
      have := (List.getElem?_eq_some_iff.mp hq).1
      rw [List.length_singleton] at this
      omega
    rw [e] at hq
    cases hq
    exact ⟨a, by rw [List.getElem?_append_right (by rw [h.1]; omega), h.1, e]; rfl, sqt_upd ha hD⟩
theorem Prs.set {K : PySem.W.Frag} {H : Hp} {D a : Addr} {xs old : List V} {ps : List (Int × Int)} {p : Int × Int} {o : HO} {k : Nat} (h : Prs K H xs ps) (hD : H D = some (.lst old)) (ha : SqT K H a [.int p.1, .int p.2]) : Prs K (upd H D o) (xs.set k (.ref a)) (ps.set k p) := by
  refine ⟨by rw [List.length_set, List.length_set, h.1], fun i q hq => ?_⟩
  rw [List.getElem?_set] at hq
  by_cases e : k = i
  · subst e
    rw [if_pos rfl] at hq
    split at hq
    · cases hq
      rename_i hl
      exact ⟨a, by rw [List.getElem?_set, if_pos rfl, if_pos (by rw [h.1]; exact hl)], sqt_upd ha hD⟩
    · cases hq
  · rw [if_neg e] at hq
    obtain ⟨c, h1, h2⟩ := h.2 i q hq
    exact ⟨c, by rw [List.getElem?_set, if_neg e]; exact h1, sqt_upd h2 hD⟩
theorem Prs.but {K : PySem.W.Frag} {H H' : Hp} {b l : Addr} {xs : List V} {ps : List (Int × Int)} (h : Prs K H xs ps) (hB : Bag H b l) (e : But b H H') : Prs K H' xs ps :=
  ⟨h.1, fun i p hp => by
    obtain ⟨a, h1, h2⟩ := h.2 i p hp
    exact ⟨a, h1, But.tup e hB h2⟩⟩
theorem flat_rep {v : V} : ∀ n : Nat, (List.replicate n [v]).flatten = List.replicate n v
  | 0 => rfl
  | n + 1 => by
    rw [List.replicate_succ, List.flatten_cons, flat_rep n, List.replicate_succ]
    rfl
theorem ixN_of {n : Nat} {k : Int} (h0 : 0 ≤ k) (h : k < n) : ixN n k = some k.toNat := by
  unfold ixN
  rw [if_pos h0, if_pos h]
theorem set_self {α : Type} {xs : List α} {k : Nat} {x : α} (h : xs[k]? = some x) : xs.set k x = xs := by
  refine List.ext_getElem? fun i => ?_
  rw [List.getElem?_set]
  by_cases e : k = i
  · subst e
    rw [if_pos rfl, if_pos (List.getElem?_eq_some_iff.mp h).1, h]
  · rw [if_neg e]
/-- the clashes -/
def NoClash (ps : List (Int × Int)) (b m : Int) (i : Nat) : Prop := ∀ (j : Nat) (p : Int × Int), j < i → ps[j]? = some p → (Int.gcd m p.2 : Int) ∣ b - p.1
theorem NoClash.zero (ps : List (Int × Int)) (b m : Int) : NoClash ps b m 0 := fun _ _ h => absurd h (Nat.not_lt_zero _)
theorem NoClash.succ {ps : List (Int × Int)} {b m : Int} {i : Nat} {p : Int × Int} (h : NoClash ps b m i) (hp : ps[i]? = some p) (hd : (Int.gcd m p.2 : Int) ∣ b - p.1) : NoClash ps b m (i + 1) := fun j q hj hq => by
  by_cases e : j = i
  · subst e
    rw [hp] at hq
    cases hq
    exact hd
  · exact h j q (by omega) hq
theorem NoClash.less {ps : List (Int × Int)} {b m : Int} {i : Nat} (h : NoClash ps b m (i + 1)) : NoClash ps b m i := fun j q hj hq => h j q (by omega) hq
/-- two tuples of the same two numbers -/
theorem sm_two {K : PySem.W.Frag} {H : Hp} {s t : Addr} {x y : Int} (d : Nat) (h1 : SqT K H s [.int x, .int y]) (h2 : SqT K H t [.int x, .int y]) : Sm K H (d + 1) (.ref s) (.ref t) := by
  refine .tup h1 h2 rfl (by simp) fun i y z e1 e2 => ?_
  have e : y = z := Option.some.inj (e1.symm.trans e2)
  subst e
  match i, e1 with
  | 0, e1 => cases e1; exact .int _ _
  | 1, e1 => cases e1; exact .int _ _
  | n + 2, e1 => cases e1
/-! data for == -/
def intsD (zs : List Int) : PyData := .list (zs.map .int)
theorem dp_ints {K : PySem.W.Frag} {H : Hp} {a : Addr} {zs : List Int} (ha : SqL K H a (zs.map V.int)) : Dp K H (.ref a) (intsD zs) := by
  refine .lst ha ?_
  clear ha
  induction zs with
  | nil => exact .nil
  | cons z r ih => exact .cons (.int _) ih
theorem shaped_ints (zs : List Int) : SeqAt.shaped (intsD zs) = true := by
  have h1 : PyData.canLayAll0 (zs.map .int) = true := by
    induction zs with
    | nil => rfl
    | cons c r ih =>
      show (PyData.canLay0 (.int c) && PyData.canLayAll0 (r.map .int)) = true
      rw [ih]
      rfl
  have h2 : PyData.depthAll (zs.map .int) ≤ 0 := by
    clear h1
    induction zs with
    | nil => exact Nat.zero_le _
    | cons c r ih =>
      show max (PyData.depth (.int c)) (PyData.depthAll (r.map .int)) ≤ 0
      have e : PyData.depth (.int c) = 0 := rfl
      rw [e]
      omega
  show (PyData.canLayAll0 (zs.map .int) && decide (PyData.depthAll (zs.map .int) + 1 ≤ 64)) = true
  rw [h1, decide_eq_true (by omega)]
  rfl
theorem eqv_ints (zs : List Int) : PyData.eqv (intsD zs) (intsD zs) = true := by
  show PyData.eqvAll (zs.map .int) (zs.map .int) = true
  induction zs with
  | nil => rfl
  | cons c r ih =>
    show (PyData.eqv (.int c) (.int c) && PyData.eqvAll (r.map .int) (r.map .int)) = true
    rw [ih]
    show (c == c && true) = true
    simp
/-- pairs of pairs of numbers -/
def quadD (q : (Int × Int) × (Int × Int)) : PyData := .tuple [.tuple [.int q.1.1, .int q.1.2], .tuple [.int q.2.1, .int q.2.2]]
def quadsD (qs : List ((Int × Int) × (Int × Int))) : PyData := .list (qs.map quadD)
/-- a list of pairs of pairs -/
inductive QL (K : PySem.W.Frag) (H : Hp) : List V → List ((Int × Int) × (Int × Int)) → Prop where
  | nil : QL K H [] []
  | cons {t a b : Addr} {vs : List V} {qs : List ((Int × Int) × (Int × Int))} {q : (Int × Int) × (Int × Int)} (h : SqT K H t [.ref a, .ref b]) (ha : SqT K H a [.int q.1.1, .int q.1.2]) (hb : SqT K H b [.int q.2.1, .int q.2.2]) (r : QL K H vs qs) : QL K H (.ref t :: vs) (q :: qs)
theorem QL.same {K : PySem.W.Frag} {H H' : Hp} {vs : List V} {qs : List ((Int × Int) × (Int × Int))} (h : QL K H vs qs) (e : Same H H') : QL K H' vs qs := by
  induction h with
  | nil => exact .nil
  | cons h ha hb _ ih => exact .cons (Same.tup e h) (Same.tup e ha) (Same.tup e hb) ih
theorem QL.upd {K : PySem.W.Frag} {H : Hp} {D : Addr} {old : List V} {o : HO} {vs : List V} {qs : List ((Int × Int) × (Int × Int))} (h : QL K H vs qs) (hD : H D = some (.lst old)) : QL K (L2.upd H D o) vs qs := by
  induction h with
  | nil => exact .nil
  | cons h ha hb _ ih => exact .cons (sqt_upd h hD) (sqt_upd ha hD) (sqt_upd hb hD) ih
theorem QL.snoc {K : PySem.W.Frag} {H : Hp} {vs : List V} {qs : List ((Int × Int) × (Int × Int))} {t a b : Addr} {q : (Int × Int) × (Int × Int)} (h : QL K H vs qs) (h1 : SqT K H t [.ref a, .ref b]) (ha : SqT K H a [.int q.1.1, .int q.1.2]) (hb : SqT K H b [.int q.2.1, .int q.2.2]) : QL K H (vs ++ [.ref t]) (qs ++ [q]) := by
  induction h with
  | nil => exact .cons h1 ha hb .nil
  | cons h ha hb _ ih => exact .cons h ha hb ih
theorem QL.dps {K : PySem.W.Frag} {H : Hp} {vs : List V} {qs : List ((Int × Int) × (Int × Int))} (h : QL K H vs qs) : DpAll K H vs (qs.map quadD) := by
  induction h with
  | nil => exact .nil
  | cons h ha hb _ ih => exact .cons (.tup h (.cons (.tup ha (.cons (.int _) (.cons (.int _) .nil))) (.cons (.tup hb (.cons (.int _) (.cons (.int _) .nil))) .nil))) ih
theorem QL.dp {K : PySem.W.Frag} {H : Hp} {a : Addr} {vs : List V} {qs : List ((Int × Int) × (Int × Int))} (h : QL K H vs qs) (ha : SqL K H a vs) : Dp K H (.ref a) (quadsD qs) := .lst ha h.dps
theorem shaped_quads (qs : List ((Int × Int) × (Int × Int))) : SeqAt.shaped (quadsD qs) = true := by
  have h1 : PyData.canLayAll0 (qs.map quadD) = true := by
    induction qs with
    | nil => rfl
    | cons c r ih =>
      show (PyData.canLay0 (quadD c) && PyData.canLayAll0 (r.map quadD)) = true
      rw [ih]
      rfl
  have h2 : PyData.depthAll (qs.map quadD) ≤ 2 := by
    clear h1
    induction qs with
    | nil => exact Nat.zero_le _
    | cons c r ih =>
      show max (PyData.depth (quadD c)) (PyData.depthAll (r.map quadD)) ≤ 2
      have e : PyData.depth (quadD c) = 2 := rfl
      rw [e]
      omega
  show (PyData.canLayAll0 (qs.map quadD) && decide (PyData.depthAll (qs.map quadD) + 1 ≤ 64)) = true
  rw [h1, decide_eq_true (by omega)]
  rfl
theorem eqv_quads (qs : List ((Int × Int) × (Int × Int))) : PyData.eqv (quadsD qs) (intsD []) = decide (qs = []) := by
  cases qs with
  | nil => rfl
  | cons c r => rfl
theorem sol_fmod {x r m : Int} (h0 : 0 ≤ r) (h1 : r < m) (h : m ∣ x - r) : x.fmod m = r := by
  obtain ⟨q, hq⟩ := h
  rw [Int.fmod_eq_emod_of_nonneg _ (by omega), show x = r + m * q by omega, Int.add_mul_emod_self_left, Int.emod_eq_of_lt h0 h1]
theorem big_add {G r : Int} (h0 : 0 < G) (h1 : G.natAbs < 2 ^ 1299) (r0 : 0 ≤ r) (r1 : r < 10 ^ (9 : Int).toNat) : 0 < G + r ∧ (G + r).natAbs < 2 ^ 1300 := by
  have h2 : r.natAbs < 2 ^ 1299 := Nat.lt_of_lt_of_le (show r.natAbs < 2 ^ 30 by
    have e : (10 : Int) ^ (9 : Int).toNat = 1000000000 := rfl
    omega) (Nat.pow_le_pow_right (by decide) (by decide))
  refine ⟨by omega, Nat.lt_of_le_of_lt (Int.natAbs_add_le G r) ?_⟩
  rw [show (2 : Nat) ^ 1300 = 2 ^ 1299 * 2 from Nat.pow_succ ..]
  generalize (2 : Nat) ^ 1299 = Z at *
  omega
def okAt (ps : List (Int × Int)) (k : Nat) : Bool := ps.all fun p => decide (((k : Nat) : Int).fmod p.2 = p.1)
def fnd (ps : List (Int × Int)) (n : Nat) : List Int := ((List.range n).filter (okAt ps)).map fun k => ((k : Nat) : Int)
theorem fnd_yes {ps : List (Int × Int)} {n : Nat} (h : okAt ps n = true) : fnd ps (n + 1) = fnd ps n ++ [(n : Int)] := by
  unfold fnd
  rw [List.range_succ, List.filter_append, List.map_append]
  simp [h]
theorem fnd_no {ps : List (Int × Int)} {n : Nat} (h : okAt ps n = false) : fnd ps (n + 1) = fnd ps n := by
  unfold fnd
  rw [List.range_succ, List.filter_append, List.map_append]
  simp [h]
theorem fnd_len (ps : List (Int × Int)) (n : Nat) : (fnd ps n).length ≤ n := by
  unfold fnd
  rw [List.length_map]
  exact Nat.le_trans (List.length_filter_le ..) (by rw [List.length_range]; exact Nat.le_refl _)
theorem okAt_sols {ps : List (Int × Int)} (hR : Rem ps) (k : Nat) : okAt ps k = true ↔ Sols ps (k : Int) := by
  unfold okAt
  rw [List.all_eq_true]
  refine forall_congr' fun p => imp_congr_right fun hp => ?_
  obtain ⟨h1, h2, h3⟩ := hR p hp
  rw [decide_eq_true_eq]
  constructor
  · intro e
    have := fmod_dvd (n := (k : Int)) h1
    rwa [e] at this
  · intro e
    exact sol_fmod h2 h3 e
theorem fnd_none {ps : List (Int × Int)} (hR : Rem ps) (h : ¬ ∃ y, Sols ps y) (n : Nat) : fnd ps n = [] := by
  unfold fnd
  rw [List.map_eq_nil_iff, List.filter_eq_nil_iff]
  intro k _ e
  exact h ⟨_, (okAt_sols hR k).mp e⟩
theorem fnd_some {ps : List (Int × Int)} {x M : Int} (hR : Rem ps) (g : Good ps) (h : Sol ps x M) : ∃ r, fnd ps M.toNat = x :: r := by
  have x0 := h.x0
  have x1 := h.x1
  have hm : x ∈ fnd ps M.toNat := by
    unfold fnd
    refine List.mem_map.mpr ⟨x.toNat, List.mem_filter.mpr ⟨List.mem_range.mpr (by omega), (okAt_sols hR _).mpr ?_⟩, by omega⟩
    rw [Int.toNat_of_nonneg x0]
    exact h.s
  have he : ∀ y ∈ fnd ps M.toNat, y = x := by
    intro y hy
    unfold fnd at hy
    obtain ⟨k, hk, rfl⟩ := List.mem_map.mp hy
    obtain ⟨k1, k2⟩ := List.mem_filter.mp hk
    have k1 := List.mem_range.mp k1
    have e := h.eq g ((okAt_sols hR k).mp k2)
    rw [Int.fmod_eq_emod_of_nonneg _ (by omega), Int.emod_eq_of_lt (by omega) (by omega)] at e
    exact e.symm
  generalize fnd ps M.toNat = L at *
  match L, hm, he with
  | y :: r, _, he => exact ⟨r, by rw [he y (List.mem_cons_self ..)]⟩
theorem foldl9 : ∀ (ns : List Int) {m : Int} {B : Nat}, 0 < m → m.natAbs ≤ B → (∀ n ∈ ns, 0 < n ∧ n ≤ 9) → 0 < ns.foldl lcmI m ∧ (ns.foldl lcmI m).natAbs ≤ B * 9 ^ ns.length
  | [], m, B, h0, h1, _ => by
    show 0 < m ∧ m.natAbs ≤ B * 9 ^ 0
    exact ⟨h0, by omega⟩
  | n :: r, m, B, h0, h1, h => by
    obtain ⟨n0, n9⟩ := h n (List.mem_cons_self ..)
    have h2 := lcmI_le h0 n0
    have h3 : (lcmI m n).natAbs ≤ B * 9 := Nat.le_trans h2 (Nat.mul_le_mul h1 (by omega))
    have := foldl9 r (lcmI_pos h0 n0) h3 (fun x hx => h x (List.mem_cons_of_mem _ hx))
    rw [List.foldl_cons, List.length_cons, Nat.pow_succ]
    refine ⟨this.1, ?_⟩
    have e := this.2
    rw [Nat.mul_assoc, Nat.mul_comm 9] at e
    exact e
theorem lcm9 {ns : List Int} (hl : ns.length ≤ 4) (h : ∀ n ∈ ns, 0 < n ∧ n ≤ 9) : 0 < lcmL ns ∧ lcmL ns ≤ 6561 := by
  obtain ⟨h1, h2⟩ := foldl9 ns (m := 1) (B := 1) (by decide) (by decide) h
  refine ⟨h1, ?_⟩
  have h3 : 9 ^ ns.length ≤ 9 ^ 4 := Nat.pow_le_pow_right (by decide) hl
  have h4 : (lcmL ns).natAbs ≤ 1 * 9 ^ ns.length := h2
  have : (9 : Nat) ^ 4 = 6561 := rfl
  omega
theorem no_two : ¬ ∃ y, Sols [(1, 2), (0, 4)] y := by
  rintro ⟨y, hy⟩
  obtain ⟨a, ha⟩ := hy (1, 2) (List.mem_cons_self ..)
  obtain ⟨c, hc⟩ := hy (0, 4) (List.mem_cons_of_mem _ (List.mem_cons_self ..))
  simp only at ha hc
  omega
theorem sol_of {ps : List (Int × Int)} {y M : Int} (g : Good ps) (hM : lcmL (ps.map Prod.snd) = M) (M0 : 0 < M) (h : Sols ps y) : ∃ x, Sol ps x M := by
  refine ⟨y.fmod M, fmod_lo y M0, fmod_hi y M0, hM.symm, fun p hp => ?_⟩
  have h1 : lcmL (ps.map Prod.snd) ∣ y - y.fmod M := by
    rw [hM]
    exact fmod_dvd M0
  have h2 := (lcmL_dvd g.map).mp h1 p.2 (List.mem_map.mpr ⟨p, hp, rfl⟩)
  have h3 := Int.dvd_sub (h p hp) h2
  rwa [show y - p.1 - (y - y.fmod M) = y.fmod M - p.1 by omega] at h3
theorem all_ok {ps : List (Int × Int)} {k : Nat} : (ps.map fun p => decide ((0 + ((k : Nat) : Int)).fmod p.2 = p.1)).all id = okAt ps k := by
  unfold okAt
  rw [List.all_map, Int.zero_add]
  rfl
theorem bent_at {ps rs : List (Int × Int)} {p : Int × Int} {k : Nat} (h : k ≤ ps.length) : (ps.take k ++ [p] ++ ps.drop k ++ rs)[k]? = some p := by
  have hl : (ps.take k).length = k := by rw [List.length_take]; omega
  rw [List.append_assoc, List.append_assoc, List.getElem?_append_right (by omega), hl, Nat.sub_self]
  rfl
theorem bent_lo {ps rs : List (Int × Int)} {p q : Int × Int} {j k : Nat} (h : k ≤ ps.length) (hj : j < k) (e : (ps.take k ++ [p] ++ ps.drop k ++ rs)[j]? = some q) : q ∈ ps := by
  have hl : (ps.take k).length = k := by rw [List.length_take]; omega
  rw [List.append_assoc, List.append_assoc, List.getElem?_append_left (by omega)] at e
  exact List.mem_of_mem_take (List.mem_of_getElem? e)
theorem bent_mem {ps : List (Int × Int)} {p q z : Int × Int} {k r : Nat} (h : q ∈ ps.take k ++ [p] ++ ps.drop k ++ List.replicate r z) : q ∈ ps ∨ q = p ∨ q = z := by
  rcases List.mem_append.mp h with h | h
  · rcases List.mem_append.mp h with h | h
    · rcases List.mem_append.mp h with h | h
      · exact .inl (List.mem_of_mem_take h)
      · exact .inr (.inl (List.mem_singleton.mp h))
    · exact .inl (List.mem_of_mem_drop h)
  · exact .inr (.inr (List.mem_replicate.mp h).2)
/-! ### heaps of the law -/
theorem But.mut {b p : Addr} {H H' : Hp} {o : HO} (x : But b H H') (h : H p = none) : But b H (L2.upd H' p o) := fun a u n ha => by
  rw [upd_ne (ne_of_none ha h)]
  exact x a u n ha
theorem Tabs.but {b l : Addr} {T : List (Addr × Str)} {H H' : Hp} (t : LamX.Tabs T H) (hB : Bag H b l) (e : But b H H') : LamX.Tabs T H' := fun p hp => by
  obtain ⟨ys, hb⟩ := hB.obj
  obtain ⟨ps, h1, h2, h3⟩ := t p hp
  refine ⟨ps, e _ _ (ne_of h1 hb (by intro z; cases z)) h1, h2, fun pos cv hc => ?_⟩
  obtain ⟨c, e1, e2⟩ := h3 pos cv hc
  exact ⟨c, e1, e _ _ (ne_of e2 hb (by intro z; unfold LamX.CodeO at z; cases z)) e2⟩
theorem ExtN.bag {b l : Addr} {H H' : Hp} (e : LamX.ExtN H H') (hB : Bag H b l) : Bag H' b l := by
  obtain ⟨cs, i, h, s, x⟩ := hB
  exact ⟨cs, i, h, s, e _ _ x.at_ (fun ps z => by cases z), e _ _ x.cells (fun ps z => by cases z), x.ne, x.len, x.i0, x.h0, x.s0, x.s1⟩
theorem ExtN.tup {K : PySem.W.Frag} {H H' : Hp} {a : Addr} {xs : List V} (e : LamX.ExtN H H') (h : SqT K H a xs) : SqT K H' a xs := by
  rcases h with (h | ⟨o, h⟩) | h
  · exact .inl (.inl (e _ _ h (fun ps z => by cases z)))
  · exact .inl (.inr ⟨o, e _ _ h (fun ps z => by cases z)⟩)
  · exact .inr h
theorem Prs.ext {K : PySem.W.Frag} {H H' : Hp} {xs : List V} {ps : List (Int × Int)} (h : Prs K H xs ps) (e : LamX.ExtN H H') : Prs K H' xs ps :=
  ⟨h.1, fun i p hp => by
    obtain ⟨a, h1, h2⟩ := h.2 i p hp
    exact ⟨a, h1, ExtN.tup e h2⟩⟩
theorem Prs.app {K : PySem.W.Frag} {H : Hp} {xs ys : List V} {ps qs : List (Int × Int)} (h : Prs K H xs ps) (h' : Prs K H ys qs) : Prs K H (xs ++ ys) (ps ++ qs) := by
  refine ⟨by rw [List.length_append, List.length_append, h.1, h'.1], fun i p hp => ?_⟩
  by_cases hi : i < ps.length
  · rw [List.getElem?_append_left hi] at hp
    rw [List.getElem?_append_left (by rw [h.1]; exact hi)]
    exact h.2 i p hp
  · rw [List.getElem?_append_right (by omega)] at hp
    rw [List.getElem?_append_right (by rw [h.1]; omega), h.1]
    exact h'.2 _ p hp
theorem Prs.take {K : PySem.W.Frag} {H : Hp} {xs : List V} {ps : List (Int × Int)} (h : Prs K H xs ps) (k : Nat) : Prs K H (xs.take k) (ps.take k) := by
  refine ⟨by rw [List.length_take, List.length_take, h.1], fun i p hp => ?_⟩
  rw [List.getElem?_take] at hp ⊢
  by_cases hi : i < k
  · rw [if_pos hi] at hp ⊢
    exact h.2 i p hp
  · rw [if_neg hi] at hp
    cases hp
theorem Prs.drop {K : PySem.W.Frag} {H : Hp} {xs : List V} {ps : List (Int × Int)} (h : Prs K H xs ps) (k : Nat) : Prs K H (xs.drop k) (ps.drop k) := by
  refine ⟨by rw [List.length_drop, List.length_drop, h.1], fun i p hp => ?_⟩
  rw [List.getElem?_drop] at hp ⊢
  exact h.2 _ p hp
theorem Prs.rep {K : PySem.W.Frag} {H : Hp} {t : Addr} {x y : Int} (h : SqT K H t [.int x, .int y]) (r : Nat) : Prs K H (List.replicate r (.ref t)) (List.replicate r (x, y)) := by
  refine ⟨by rw [List.length_replicate, List.length_replicate], fun i p hp => ?_⟩
  rw [List.getElem?_replicate] at hp ⊢
  by_cases hi : i < r
  · rw [if_pos hi] at hp ⊢
    cases hp
    exact ⟨t, rfl, h⟩
  · rw [if_neg hi] at hp
    cases hp
theorem cut_lo (zs : List V) (n : Int) (h0 : 0 ≤ n) (h1 : n ≤ zs.length) : cutV zs (some n) none = zs.drop n.toNat := by
  obtain ⟨k, rfl⟩ := Int.eq_ofNat_of_zero_le h0
  unfold cutV
  rw [HT.sIx_nat, HT.sIx_none, Nat.min_eq_left (by omega), Int.toNat_natCast]
  exact List.take_of_length_le (by rw [List.length_drop]; exact Nat.le_refl _)
theorem cut_hi (zs : List V) (n : Int) (h0 : 0 ≤ n) (h1 : n ≤ zs.length) : cutV zs none (some n) = zs.take n.toNat := by
  obtain ⟨k, rfl⟩ := Int.eq_ofNat_of_zero_le h0
  unfold cutV
  rw [HT.sIx_nat, HT.sIx_none, Nat.min_eq_left (by omega), Int.toNat_natCast]
  rfl
/-! ### what is due -/
theorem dI {a b : Int} : decide (V.int a = V.int b) = decide (a = b) := decide_eq_decide.mpr ⟨fun h => V.int.inj h, fun h => by rw [h]⟩
theorem eqv_nil (zs : List Int) : PyData.eqv (intsD zs) (intsD []) = decide (zs = []) := by
  cases zs <;> rfl
theorem shaped_one {x : Str} (h : PyData.strOk x = true) (i : Int) : SeqAt.shaped (.tuple [.str x, .int i]) = true := by
  show ((PyData.strOk x && (true && true)) && true) = true
  rw [h]
  rfl
theorem eqv_one (z : Str) (i : Int) : PyData.eqv (.tuple [.str z, .int i]) (.tuple [.str z, .int i]) = true := by
  show ((z == z) && ((i == i) && true)) = true
  simp
def DueOk (K : PySem.W.Frag) (H : Hp) (ps : List (Int × Int)) (W : Int) (v : V) : Prop := (v = .non ∧ ¬ ∃ y, Sols ps y) ∨ ∃ (d : Addr) (x : Int), v = .ref d ∧ SqT K H d [.int x, .int W] ∧ Sol ps x W
theorem DueOk.same {K : PySem.W.Frag} {H H' : Hp} {ps : List (Int × Int)} {W : Int} {v : V} (h : DueOk K H ps W v) (e : Same H H') : DueOk K H' ps W v := by
  rcases h with h | ⟨d, x, h1, h2, h3⟩
  · exact .inl h
  · exact .inr ⟨d, x, h1, Same.tup e h2, h3⟩
theorem DueOk.sm {K : PySem.W.Frag} {H : Hp} {ps : List (Int × Int)} {W : Int} {u v : V} (g : Good ps) (h1 : DueOk K H ps W u) (h2 : DueOk K H ps W v) : Sm K H 1 u v := by
  rcases h1 with ⟨rfl, n1⟩ | ⟨d, x, rfl, t1, s1⟩
  · rcases h2 with ⟨rfl, n2⟩ | ⟨e, y, rfl, t2, s2⟩
    · exact .non _
    · exact absurd ⟨y, s2.s⟩ n1
  · rcases h2 with ⟨rfl, n2⟩ | ⟨e, y, rfl, t2, s2⟩
    · exact absurd ⟨x, s1.s⟩ n2
    · have exy : x = y := by rw [s1.eq g s2.s, ← s2.eq g s2.s]
      rw [exy] at t1
      exact sm_two 0 t1 t2
section
variable {K : PySem.W.Frag} {mg : Str → Option Value} {w : World}
theorem common_ok {CB a : Addr} {H : Hp} {Q : VK} {E : XK} {xs : List V} {ps : List (Int × Int)} (B : Nat) (hx : SqA K H a xs) (hp : Prs K H xs ps) (hR : Rem ps) (b0 : 0 < B) (hB : ∀ p ∈ ps, p.2.natAbs < 2 ^ B) (hl : ps.length * B + B + 1 ≤ 4000)
    (h : ∀ u H', Same H H' → DueOk K H' ps (lcmL (ps.map Prod.snd)) u → Q u H') : sp_commonR K CB [.ref a] H Q E := by
  refine ⟨a, xs, ps, B, rfl, hx, hp, b0, hB, hl, fun k p H' hk hb _ _ => absurd (hR p (List.mem_of_getElem? hk)) hb, fun _ H' s hn => h _ H' s (.inl ⟨rfl, hn⟩), fun _ t x H' nt s ht hS => h _ H' s (.inr ⟨t, x, rfl, .inl (.inl ht), hS⟩)⟩
theorem ask_common (T : Txt K mg w) {tl : XK → Hp → VK → Prop} {a : Addr} {xs : List V} {ps : List (Int × Int)} {k : Nat} {p : Int × Int} {H : Hp} {Q : VK} (B : Nat) (hx : SqA K H a xs) (hp : Prs K H xs ps) (b0 : 0 < B) (hB : ∀ p ∈ ps, p.2.natAbs < 2 ^ B) (hl : ps.length * B + B + 1 ≤ 4000)
    (hk : ps[k]? = some p) (hb : ¬ RemP p) (hg : ∀ (j : Nat) (q : Int × Int), j < k → ps[j]? = some q → RemP q)
    (htl : ∀ E Q', sp_commonR K T.a_BadRemainder [.ref a] H Q' E → tl E H Q')
    (h : ∀ (t : Addr) H2, Same H H2 → H2 t = some (.tup [.str "BadRemainder", .int (k : Nat)]) → Q (.ref t) H2) : TTry K T.a_PileError tl H Q := by
  have hno : Rem ps → False := fun hR => hb (hR p (List.mem_of_getElem? hk))
  refine htl _ _ ⟨a, xs, ps, B, rfl, hx, hp, b0, hB, hl, fun k' p' H' h1 h2 h3 s => ?_, fun hR => (hno hR).elim, fun hR => (hno hR).elim⟩
  have ek : k' = k := by
    rcases Nat.lt_trichotomy k' k with e | e | e
    · exact absurd (hg k' p' e h1) h2
    · exact e
    · exact absurd (h3 k p e hk) hb
  subst ek
  refine raised_of T.x_BadRemainder (List.mem_cons_self ..) (List.mem_cons_of_mem _ (List.mem_cons_self ..)) (by decide +kernel) (by decide +kernel) fun t H2 nt s2 et => h t H2 (s.trans s2) et
end
/-! ### the law -/
local macro_rules | `(tactic| walk_at "nst") => `(tactic| try dsimp only [List.set_cons_succ, List.set_cons_zero, wipe, List.map_cons, List.map_nil, List.foldl_cons, List.foldl_nil])
def spLawT (K : PySem.W.Frag) (P : Addr) : Sp := fun vs H Q _ => ∃ (a : Addr) (ns : List Int), vs = [.ref a] ∧ SqL K H a (ns.map V.int) ∧ ns.length ≤ 63 ∧ LamX.Tabs [(P, qLam)] H ∧ ∀ H', Q (.bl true) H'
section
variable {P : Program} {w : World} {K : PySem.W.Frag} {mg : Str → Option Value} {base : Heap}
theorem ok_law (T : Txt K mg w) (TB : LamX.TabB base mg T.c_law T.p_law) : FnOk P w K mg base CX0 9 T.a_law T.d_law P_law (spLawT K T.p_law) := by
  have G__law_bag := ok__law_bag (P := P) (w := w) (base := base) T
  have G__law_pull := ok__law_pull (P := P) (w := w) (base := base) T
  have G__law_of := ok__law_of (P := P) (w := w) (base := base) T
  have G__law_lcm := ok__law_lcm (P := P) (w := w) (base := base) T
  have G__law_same := ok_same (P := P) (w := w) (base := base) T 1
  have G_common_rounds := ok_common_roundsR (P := P) (w := w) (base := base) T
  obtain ⟨ocT, odT, kVT, docT, pmT, anT, cdT, ctT, oslT, eT, lkTry, hcTry⟩ := T.F__law_try.ex
  have bTry := T.b__law_try
  rw [eT] at lkTry bTry
  refine T.C_law.ok sc_law (fun vs H Q E h => ?_) (fun A outer s H vs Q E hr h => ?_)
  · obtain ⟨a, ns, rfl, _⟩ := h
    rfl
  · obtain ⟨a, ns, rfl, hS, hlen, hT0, q⟩ := h
    refine ⟨_, (pss_cons (ps_set (i := 1) sc_law.nd rfl (Or.inr rfl) (pe_call G__law_bag (hr.mono (by decide)) (by rfl) T.g__law_bag T.F__law_bag.kp T.b__law_bag .nil pass0 (pa_cons (pv 0) pa_nil)))
  (pss_cons (ps_for PassesOwn.never rfl (pi_range1 rfl T.m_range (pa_cons pe_int pa_nil)) (pg_name (i := 2) sc_law.nd rfl (Or.inl rfl))
  (pss_cons (ps_setLc (i := 3) (own := [("_law_k", 13)]) rfl sc_law.nd rfl rfl (sw_true rfl rfl rfl (by decide +kernel)) (pi_range1 rfl T.m_range (pa_cons (pe_call G__law_pull (hr.mono (by decide)) (by rfl) T.g__law_pull T.F__law_pull.kp T.b__law_pull .nil pass0 (pa_cons (pv 1) (pa_cons pe_int pa_nil))) pa_nil)) (blkOk_by (N := N_law) (sc := defScope s_law) (by decide +kernel)) (fun _ _ _ _ _ => (pg_name (i := 13) sc_law.nd rfl (Or.inl rfl))) (fun _ _ _ _ _ => pts_nil) (fun _ _ _ _ _ => (pe_op op_add pe_int (pe_call G__law_pull (hr.mono (by decide)) (by rfl) T.g__law_pull T.F__law_pull.kp T.b__law_pull .nil pass0 (pa_cons (pv 1) (pa_cons pe_int pa_nil))))))
  (pss_cons (ps_asg (pe_tup (pa_cons (pe_call G__law_pull (hr.mono (by decide)) (by rfl) T.g__law_pull T.F__law_pull.kp T.b__law_pull .nil pass0 (pa_cons (pv 1) (pa_cons pe_int pa_nil))) (pa_cons (pe_call G__law_pull (hr.mono (by decide)) (by rfl) T.g__law_pull T.F__law_pull.kp T.b__law_pull .nil pass0 (pa_cons (pv 1) (pa_cons pe_int pa_nil))) pa_nil))) (k_gT (K := K) (n := 2) (pgs_cons (pg_name (i := 4) sc_law.nd rfl (Or.inr rfl)) (pgs_cons (pg_name (i := 5) sc_law.nd rfl (Or.inr rfl)) pgs_nil))))
  (pss_cons (ps_set (i := 6) sc_law.nd rfl (Or.inr rfl) (pe_lc (own := [("_law_m", 14)]) rfl sc_law.nd (k_piL (K := K) (pv 3)) (blkOk_by (N := N_law) (sc := defScope s_law) (by decide +kernel)) (fun _ _ _ _ _ => (pg_name (i := 14) sc_law.nd rfl (Or.inl rfl))) (fun _ _ _ _ _ => pts_nil) (fun _ _ _ _ _ => (pe_tup (pa_cons (pe_ifExp (pt_cmpR op_gt (pv 5) pe_int (nomark _)) (pe_op op_modN (pe_callTy call_int1 (by rfl) T.m_int boot_int (pa_cons (pv 4) pa_nil)) (pv 14)) (pe_call G__law_pull (hr.mono (by decide)) (by rfl) T.g__law_pull T.F__law_pull.kp T.b__law_pull .nil pass0 (pa_cons (pv 1) (pa_cons (pv 14) pa_nil)))) (pa_cons (pv 14) pa_nil))))))
  (pss_cons (ps_set (i := 7) sc_law.nd rfl (Or.inl rfl) (pe_call G__law_lcm (hr.mono (by decide)) (by rfl) T.g__law_lcm T.F__law_lcm.kp T.b__law_lcm .nil pass0 (pa_cons (pv 3) pa_nil)))
  (pss_cons (ps_setLc (i := 8) (own := [("_law_k", 13)]) rfl sc_law.nd rfl rfl (sw_true rfl rfl rfl (by decide +kernel)) (pi_range1 rfl T.m_range (pa_cons (pv 7) pa_nil)) (blkOk_by (N := N_law) (sc := defScope s_law) (by decide +kernel)) (fun _ _ _ _ _ => (pg_name (i := 13) sc_law.nd rfl (Or.inr rfl))) (fun _ _ _ _ _ => (pts_one (pt_val (pe_callB (k_all (K := K)) (by rfl) T.m_all boot_all (pa_cons (pe_lc (own := [("_law_r", 15), ("_law_m", 14)]) rfl sc_law.nd (k_piL (K := K) (pv 6)) (blkOk_by (by rfl)) (fun _ _ _ _ _ => (k_gT (K := K) (n := 2) (pgs_cons (pg_name (i := 15) sc_law.nd rfl (Or.inl rfl)) (pgs_cons (pg_name (i := 14) sc_law.nd rfl (Or.inl rfl)) pgs_nil)))) (fun _ _ _ _ _ => pts_nil) (fun _ _ _ _ _ => (pe_cmpR op_eq (pe_op op_modN (pe_callTy call_int1 (by rfl) T.m_int boot_int (pa_cons (pv 13) pa_nil)) (pv 14)) (pv 15) (nomark _)))) pa_nil))))) (fun _ _ _ _ _ => (pv 13)))
  (Evl.pss_cut (ps_set (i := 9) sc_law.nd rfl (Or.inl rfl) (pe_ifExp (pt_cmpR (k_neD (K := K) hr.units) (pv 8) (pe_lst pa_nil) (nomark _)) (pe_tup (pa_cons (pe_ix (k_ixL (K := K)) (pv 8) pe_int (fun _ _ => rfl)) (pa_cons (pv 7) pa_nil))) pe_non))
  (pss_cons (ps_if (PW.pt (pw_or (pt_not (pt_val (pe_call G__law_same (hr.mono (by decide)) (by rfl) T.g__law_same T.F__law_same.kp T.b__law_same .nil pass0 (pa_cons (pe_call G_common_rounds (hr.mono (by decide)) (by rfl) T.g_common_rounds T.F_common_rounds.kp T.b_common_rounds .nil passL (pa_cons (pv 6) pa_nil)) (pa_cons (pv 9) pa_nil))))) (pw_or1 (pt_not (pt_val (pe_call G__law_same (hr.mono (by decide)) (by rfl) T.g__law_same T.F__law_same.kp T.b__law_same .nil pass0 (pa_cons (pe_call G_common_rounds (hr.mono (by decide)) (by rfl) T.g_common_rounds T.F_common_rounds.kp T.b_common_rounds .nil passL (pa_cons (pe_callTy (k_tuple (K := K)) (by rfl) T.m_tuple boot_tuple (pa_cons (pv 6) pa_nil)) pa_nil)) (pa_cons (pv 9) pa_nil))))))))
  (pss_one (ps_ret pe_bl)) pss_nil)
  (pss_cons (ps_set (i := 10) sc_law.nd rfl (Or.inl rfl) (pe_call G__law_pull (hr.mono (by decide)) (by rfl) T.g__law_pull T.F__law_pull.kp T.b__law_pull .nil pass0 (pa_cons (pv 1) (pa_cons (pe_op op_add (pe_callB (k_len (K := K)) (by rfl) T.m_len boot_len (pa_cons (pv 6) pa_nil)) pe_int) pa_nil))))
  (pss_cons (ps_set (i := 11) sc_law.nd rfl (Or.inl rfl) (pe_call G__law_of (hr.mono (by decide)) (by rfl) T.g__law_of T.F__law_of.kp T.b__law_of .nil pass0 (pa_cons (pv 1) (pa_cons (pe_lst (pa_cons (pe_tup (pa_cons pe_int (pa_cons pe_int pa_nil))) (pa_cons (pe_tup (pa_cons pe_int (pa_cons pe_int pa_nil))) (pa_cons (pe_tup (pa_cons (pe_un un_neg pe_int) (pa_cons pe_int pa_nil))) (pa_cons (pe_tup (pa_cons pe_int (pa_cons (pe_un un_neg pe_int) pa_nil))) (pa_cons (pe_tup (pa_cons pe_int (pa_cons pe_int pa_nil))) (pa_cons (pe_tup (pa_cons pe_int (pa_cons pe_int pa_nil))) pa_nil))))))) pa_nil))))
  (pss_cons (ps_set (i := 12) sc_law.nd rfl (Or.inr rfl) (pe_op op_cat (pe_op op_cat (pe_op op_cat (pe_slice (k_slL (K := K)) (pv 6) po_none (po_some (pv 10))) (pe_lst (pa_cons (pv 11) pa_nil))) (pe_slice (k_slL (K := K)) (pv 6) (po_some (pv 10)) po_none)) (pe_op op_rep (pe_lst (pa_cons (pe_tup (pa_cons pe_int (pa_cons pe_int pa_nil))) pa_nil)) (pe_call G__law_pull (hr.mono (by decide)) (by rfl) T.g__law_pull T.F__law_pull.kp T.b__law_pull .nil pass0 (pa_cons (pv 1) (pa_cons pe_int pa_nil))))))
  (pss_one (ps_if (pt_cmpR (k_neD (K := K) hr.units) (LamX.pe_lamcall (k := 6) (T := [(T.p_law, qLam)]) (a := "_law_ask") rfl T.g__law_try T.F__law_try.kp lkTry hcTry bTry sc__law_try rfl (by first | exact Or.inl rfl | exact Or.inr (Or.inl rfl)) (gives_try T rfl rfl rfl rfl rfl (hr.mono (by decide))) TB rfl (List.mem_cons_self ..) (fun p hp _ => by rw [List.mem_singleton.mp hp] <;> rfl) (hr.mono (by decide)) (LamX.lamS_by (by show LamX.lamSB (defScope s_law) _ = true; decide +kernel)) rfl (fun _ _ _ _ _ => rfl) (fun A2 outer2 s2 H2 E2 f2 c2 hr => (pe_call G_common_rounds (hr.mono (by decide)) (by rfl) T.g_common_rounds T.F_common_rounds.kp T.b_common_rounds .nil (passes_call (takes_of rfl rfl rfl rfl) fun _ _ _ _ h => h) (pa_cons (pv 12) pa_nil)))) (pe_tup (pa_cons pe_str (pa_cons (pv 10) pa_nil))) (nomark _))
  (pss_one (ps_ret pe_bl)) pss_nil)))))))))))))
  (pss_one (ps_ret (pe_and (pe_cmpR (k_eqD (K := K) hr.units) (pe_call G_common_rounds (hr.mono (by decide)) (by rfl) T.g_common_rounds T.F_common_rounds.kp T.b_common_rounds .nil passL (pa_cons (pe_lst pa_nil) pa_nil)) (pe_tup (pa_cons pe_int (pa_cons pe_int pa_nil))) (nomark _)) (pe_one (pe_cmpR op_isN (pe_call G_common_rounds (hr.mono (by decide)) (by rfl) T.g_common_rounds T.F_common_rounds.kp T.b_common_rounds .nil passL (pa_cons (pe_lst (pa_cons (pe_tup (pa_cons pe_int (pa_cons pe_int pa_nil))) (pa_cons (pe_tup (pa_cons pe_int (pa_cons pe_int pa_nil))) pa_nil))) pa_nil)) pe_non (nomark _)))))))), ?_⟩
    refine ⟨.ref a, rfl, a, ns, rfl, hS, hlen, fun b l H1 nb nl s1 hB1 => ?_⟩
    refine ⟨4, rfl, by decide, by decide, for_range (fun i σ H' => (Bag H' b l ∧ LamX.Tabs [(T.p_law, qLam)] H') ∧ ∃ y2 y3 y4 y5 y6 y7 y8 y9 y10 y11 y12, σ = [some (.ref a), some (.ref b), y2, y3, y4, y5, y6, y7, y8, y9, y10, y11, y12, none, none, none])
      ⟨⟨hB1, hT0.ext s1⟩, none, none, none, none, none, none, none, none, none, none, none, rfl⟩ (fun i σ H2 hi hp => ?_) (fun σ H2 hp => ?_)⟩
    · obtain ⟨⟨hB2, hT2⟩, y2, y3, y4, y5, y6, y7, y8, y9, y10, y11, y12, rfl⟩ := hp
      refine gen_ends (tb := tSeq _ _) (fun DD hDD => ?_)
      walk_at "nst"
      walk_at "rds"
      walk_at "pull"
      intro c H3 c0 c1 hB3 b3
      walk_at "nst"
      walk_at "rds"
      intro D hD
      have nDb := hB3.ne hD
      have nDl := hB3.nl hD
      refine lc_by (n := c.toNat) (fun i H' => Bag H' b l ∧ But b H3 H' ∧ ∃ ms : List Int, H' D = some (.lst (ms.map V.int)) ∧ ms.length = i ∧ ∀ m ∈ ms, 0 < m ∧ m ≤ 9) ⟨hB3.same (same_new hD), Same.but (same_new hD), [], upd_same, rfl, fun _ h => nomatch h⟩
        (fun i H' hi _ => by show i < c.toNat; omega) (fun H' _ => by show c.toNat ≤ _; omega) (fun i H' x H2' hi hw hy => ?_) (fun H5 hw => ?_)
      · obtain ⟨rfl, rfl⟩ := hy
        obtain ⟨hBi, bi, ms, hDi, hml, hms⟩ := hw
        refine ⟨rfl, ?_⟩
        walk_at "nst"
        walk_at "rds"
        walk_at "pull"
        intro r H6 r0 r1 hB6 b6
        walk_at "rds"
        refine ⟨_, b6.get nDb hDi, by rw [List.length_map, hml]; exact lt_line (by omega), hB6.mut nDb nDl, But.mut (bi.trans b6) hD, ms ++ [1 + r], by rw [upd_same, List.map_append]; rfl, by rw [List.length_append, hml]; rfl, fun m hm => ?_⟩
        rcases List.mem_append.mp hm with hm | hm
        · exact hms m hm
        · rw [List.mem_singleton.mp hm]
          exact ⟨by omega, by omega⟩
      obtain ⟨hB5, b5, ms, hD5, hml, hms⟩ := hw
      have ml1 : ms.length ≤ 4 := by omega
      have hT5 := Tabs.but hT2 hB2 (b3.trans b5)
      clear b3 b5 hB3 hB2 hT2 c0 c1 hml hB1 hT0 hS s1
      walk_at "nst"
      walk_at "rds"
      walk_at "pull"
      intro n H6 n0 n1 hB6 b6
      walk_at "rds"
      walk_at "pull"
      intro pk H7 p0 p1 hB7 b7
      have hD7 := b7.get nDb (b6.get nDb hD5)
      have hT7 := Tabs.but hT5 hB5 (b6.trans b7)
      clear hT5 hB5 b6 b7 hB6 hD5
      walk_at "nst"
      walk_at "rds"
      intro t1 nt1
      have s7 := same_new (o := .tup [.int n, .int pk]) nt1
      refine ⟨t1, _, rfl, .inl (.inl upd_same), rfl, _, _, rfl, _, _, rfl, rfl, ?_⟩
      have hB8 := hB7.same s7
      have hT8 := hT7.ext s7
      have hD8 := s7 _ _ hD7
      clear hB7 hT7 hD7 s7
      generalize upd H7 t1 (.tup [.int n, .int pk]) = H8 at *
      walk_at "nst"
      walk_at "rds"
      refine ⟨⟨_, .inl (.inl hD8)⟩, fun D2 hD2 => ?_⟩
      have nD2b := hB8.ne hD2
      have nD2l := hB8.nl hD2
      refine lc_list (xs := ms.map V.int) (fun i H' => Bag H' b l ∧ But b H8 H' ∧ ∃ xs ps, H' D2 = some (.lst xs) ∧ Prs K H' xs ps ∧ Rem ps ∧ ps.map Prod.snd = ms.take i) ⟨hB8.same (same_new hD2), Same.but (same_new hD2), [], [], upd_same, ⟨rfl, fun _ _ h => nomatch h⟩, (fun _ h => nomatch h), rfl⟩
        (fun i H' hi hp => .inl (.inl (hp.2.1.get nDb hD8))) (fun i x H' hx hw => ?_) (fun H9 hw => ?_)
      · obtain ⟨hBi, bi, xs, ps, hDi, hxs, hRi, hsnd⟩ := hw
        rw [List.getElem?_map] at hx
        obtain ⟨m, hm, rfl⟩ := Option.map_eq_some_iff.mp hx
        obtain ⟨m0, m9⟩ := hms m (List.mem_of_getElem? hm)
        have mne : m ≠ 0 := by omega
        have fin : ∀ (H'' : Hp) (r : Int) (t : Addr), Bag H'' b l → But b H' H'' → H'' t = none → 0 ≤ r → r < m → ∃ acc, upd H'' t (.tup [.int r, .int m]) D2 = some (.lst acc) ∧ acc.length < sizeLine ∧
            (Bag (upd (upd H'' t (.tup [.int r, .int m])) D2 (.lst (acc ++ [.ref t]))) b l ∧ But b H8 (upd (upd H'' t (.tup [.int r, .int m])) D2 (.lst (acc ++ [.ref t]))) ∧
              ∃ xs ps, upd (upd H'' t (.tup [.int r, .int m])) D2 (.lst (acc ++ [.ref t])) D2 = some (.lst xs) ∧ Prs K (upd (upd H'' t (.tup [.int r, .int m])) D2 (.lst (acc ++ [.ref t]))) xs ps ∧ Rem ps ∧ ps.map Prod.snd = ms.take (i + 1)) := by
          intro H'' r t hB'' b'' nt r0 r1
          have hD'' := b''.get nD2b hDi
          have hx'' := hxs.but hBi b''
          have s3 := same_new (o := .tup [.int r, .int m]) nt
          refine ⟨xs, s3 _ _ hD'', lt_line ?_, (hB''.same s3).mut nD2b nD2l, But.mut ((bi.trans b'').trans (Same.but s3)) hD2, xs ++ [.ref t], ps ++ [(r, m)], upd_same, (hx''.same s3).snoc (s3 _ _ hD'') (.inl (.inl upd_same)), fun p hp => ?_, ?_⟩
          · have h1 := hxs.1
            have h2 := congrArg List.length hsnd
            rw [List.length_map, List.length_take] at h2
            omega
          · rcases List.mem_append.mp hp with hp | hp
            · exact hRi p hp
            · rw [List.mem_singleton.mp hp]
              exact ⟨m0, r0, r1⟩
          · rw [List.map_append, hsnd, List.take_add_one, hm]
            rfl
        refine ⟨rfl, ?_⟩
        walk_at "nst"
        walk_at "rds"
        refine iteD (fun hpk => ?_) (fun hpk => ?_)
        · walk_at "rds"
          intro t nt
          exact fin H' _ t hBi (But.refl b H') nt (fmod_lo n m0) (fmod_hi n m0)
        · walk_at "rds"
          walk_at "pull"
          intro r H'' r0 r1 hB'' b''
          walk_at "rds"
          intro t nt
          exact fin H'' r t hB'' b'' nt r0 r1
      obtain ⟨hB9, b9, xs, ps, hD9, hxs, hR, hsnd⟩ := hw
      rw [List.length_map, List.take_length] at hsnd
      have hM9 := b9.get nDb hD8
      have hT9 := Tabs.but hT8 hB8 b9
      clear hB8 hT8 hD8 b9 hD2 n0 n1 p0 p1 nt1
      walk_at "nst"
      walk_at "rds"
      refine ⟨D, ms, rfl, .inl (.inl hM9), fun m hm => ⟨(hms m hm).1, small_pow (a := 4) (by have := hms m hm; show m.natAbs < 16; omega) (by decide)⟩, by omega, ?_⟩
      obtain ⟨W0, W1⟩ := lcm9 ml1 hms
      have xl : xs.length = ps.length := hxs.1
      have pl : ps.length ≤ 4 := by
        have h2 := congrArg List.length hsnd
        rw [List.length_map] at h2
        omega
      have hpb : ∀ p ∈ ps, p.2.natAbs < 2 ^ 100 := fun p hp => by
        have h := hms p.2 (by rw [← hsnd]; exact List.mem_map.mpr ⟨p, hp, rfl⟩)
        exact small_pow (a := 4) (by show p.2.natAbs < 16; omega) (by decide)
      have hlc : lcmL (ps.map Prod.snd) = lcmL ms := by rw [hsnd]
      have gd : Good ps := hR.good
      generalize hWe : lcmL ms = W at *
      clear hWe hms hsnd ml1 hM9
      walk_at "nst"
      walk_at "rds"
      intro D3 hD3
      refine lc_by (n := W.toNat) (fun i H' => Same H9 H' ∧ H' D3 = some (.lst ((fnd ps i).map V.int))) ⟨same_new hD3, upd_same⟩
        (fun i H' hi _ => by show i < W.toNat; exact hi) (fun H' _ => by show W.toNat ≤ _; omega) (fun k H' x H2' hk hw hy => ?_) (fun H10 hw => ?_)
      · obtain ⟨rfl, rfl⟩ := hy
        obtain ⟨si, hDi⟩ := hw
        have hL := si _ _ hD9
        have hxi := hxs.same si
        refine ⟨rfl, ?_⟩
        walk_at "nst"
        walk_at "rds"
        refine ⟨⟨_, .inl (.inl hL)⟩, fun D4 hD4 => ?_⟩
        refine lc_list (xs := xs) (fun j H' => Same H2' H' ∧ H' D4 = some (.lst ((((ps.take j).map fun p => decide ((0 + (k : Int)).fmod p.2 = p.1))).map V.bl))) ⟨same_new hD4, upd_same⟩
          (fun j H' hj hp => hp.1.seq (.inl (.inl hL))) (fun j v H' hv hp => ?_) (fun H'' hp => ?_)
        · obtain ⟨s2, hDj⟩ := hp
          have hj1 : j < xs.length := (List.getElem?_eq_some_iff.mp hv).1
          have hjp : j < ps.length := by omega
          have hgp := List.getElem?_eq_getElem hjp
          obtain ⟨cj, hcj, hcj2⟩ := hxi.2 _ _ hgp
          rw [hv] at hcj
          cases hcj
          have hr := hR _ (List.getElem_mem hjp)
          generalize hpi : ps[j] = p at *
          obtain ⟨pr, pm⟩ := p
          have pne : pm ≠ 0 := by
            have h : 0 < pm := hr.1
            omega
          have hc := Same.tup s2 hcj2
          have e2 : ((ps.take (j + 1)).map fun p => decide ((0 + (k : Int)).fmod p.2 = p.1)).map V.bl = ((ps.take j).map fun p => decide ((0 + (k : Int)).fmod p.2 = p.1)).map V.bl ++ [V.bl (decide (V.int ((0 + (k : Int)).fmod pm) = V.int pr))] := by
            rw [List.take_add_one, hgp, dI]
            simp
          refine ⟨cj, _, rfl, hc, rfl, _, _, rfl, _, _, rfl, rfl, rfl, ?_⟩
          walk_at "nst"
          walk_at "rds"
          refine ⟨_, hDj, ?_, Same.mut s2 hD4, by rw [upd_same, e2]⟩
          rw [List.length_map, List.length_map, List.length_take]
          exact lt_line (by omega)
        · obtain ⟨s2, hD4'⟩ := hp
          rw [xl, List.take_length] at hD4'
          have hDk := s2 _ _ hDi
          have s9 := si.trans s2
          refine ⟨D4, _, rfl, .inl (.inl hD4'), ?_⟩
          rw [all_ok]
          refine ⟨_, rfl, iteC (fun e => ?_) (fun e => ?_)⟩
          · walk_at "rds"
            refine ⟨_, hDk, ?_, Same.mut s9 hD3, ?_⟩
            · rw [List.length_map]
              exact Nat.lt_of_le_of_lt (fnd_len ps k) (Nat.lt_of_lt_of_le (show k < 10000 by omega) (by decide))
            · rw [upd_same, fnd_yes e, List.map_append, Int.zero_add]
              rfl
          · rw [fnd_no e]
            exact ⟨s9, hDk⟩
      obtain ⟨s10, hD10⟩ := hw
      clear hD3
      walk_at "nst"
      refine ⟨fun σ' H' => Same H9 H' ∧ ∃ v, σ' = [some (.ref a), some (.ref b), some (.int (0 + (i : Int))), some (.ref D), some (.int n), some (.int pk), some (.ref D2), some (.int W), some (.ref D3), some v, y10, y11, y12, none, none, none] ∧ DueOk K H' ps W v, ?_, fun σ1 H11 hM => ?_⟩
      · walk_at "rds"
        intro D5 nD5
        have s11 := same_new (o := .lst []) nD5
        refine ⟨intsD (fnd ps W.toNat), intsD [], dp_ints (.inl (.inl (s11 _ _ hD10))), dp_ints (.inl (.inl upd_same)), shaped_ints _, shaped_ints _, ?_⟩
        rw [eqv_nil]
        by_cases hy : ∃ y, Sols ps y
        · obtain ⟨y, hy⟩ := hy
          obtain ⟨x, hS⟩ := sol_of gd hlc W0 hy
          obtain ⟨r, hr⟩ := fnd_some hR gd hS
          rw [hr] at hD10 ⊢
          rw [decide_eq_false (List.cons_ne_nil _ _)]
          have hD11 := s11 _ _ hD10
          walk_at "rds"
          intro p np
          exact ⟨(s10.trans s11).trans (same_new np), _, rfl, .inr ⟨p, x, rfl, .inl (.inl upd_same), hS⟩⟩
        · rw [fnd_none hR hy, decide_eq_true rfl]
          walk_at "rds"
          exact ⟨s10.trans s11, _, rfl, .inl ⟨rfl, hy⟩⟩
      obtain ⟨s11, v, rfl, hv⟩ := hM
      have hL11 := s11 _ _ hD9
      have hx11 := hxs.same s11
      have hB11 := hB9.same s11
      have hT11 := hT9.ext s11
      clear hD9 hxs hB9 hT9 s11 s10 hD10
      walk_at "nst"
      walk_at "rds"
      dsimp only [tNil]
      show sp_commonR K T.a_BadRemainder [.ref D2] H11 _ _
      refine common_ok 100 (.inl (.inl (.inl hL11))) hx11 hR (by decide) hpb (by omega) (fun u H12 s12 hu => ?_)
      rw [hlc] at hu
      walk_at "rds"
      refine ⟨_, _, rfl, hu.sm gd (hv.same s12), fun H13 s13 => ?_⟩
      have s13' := s12.trans s13
      have hv13 := hv.same s13'
      have hL13 := s13' _ _ hL11
      have hx13 := hx11.same s13'
      have hB13 := hB11.same s13'
      have hT13 := hT11.ext s13'
      clear hv hL11 hx11 hB11 hT11 hu s12 s13 s13'
      walk_at "rds"
      refine ⟨D2, xs, rfl, .inl ⟨.inl (.inl hL13), fun t nt => ?_⟩⟩
      have s14 := same_new (o := .tup xs) nt
      dsimp only [tNil]
      show sp_commonR K T.a_BadRemainder [.ref t] _ _ _
      refine common_ok 100 (.inr (.inl (.inl upd_same))) (hx13.same s14) hR (by decide) hpb (by omega) (fun u H15 s15 hu => ?_)
      rw [hlc] at hu
      have s15' := s14.trans s15
      walk_at "rds"
      refine ⟨_, _, rfl, hu.sm gd (hv13.same s15'), fun H16 s16 => ?_⟩
      have sz := s15'.trans s16
      have hL16 := sz _ _ hL13
      have hx16 := hx13.same sz
      have hB16 := hB13.same sz
      have hT16 := hT13.ext sz
      clear hv13 hL13 hx13 hB13 hT13 hu s14 s15 s16 s15' sz
      walk_at "nst"
      walk_at "rds"
      refine ⟨b, l, _, rfl, hB16, by omega, Fit.of (by omega) (by omega), fun k H17 k0 k1 hB17 b17 => ?_⟩
      have hL17 := b17.get nD2b hL16
      have hx17 := hx16.but hB16 b17
      have hT17 := Tabs.but hT16 hB16 b17
      clear hL16 hx16 hB16 hT16 b17
      walk_at "nst"
      walk_at "rds"
      intro p1 n1
      walk_at "nst"
      walk_at "rds"
      intro p2 n2
      walk_at "nst"
      walk_at "rds"
      intro p3 n3
      walk_at "nst"
      walk_at "rds"
      intro p4 n4
      walk_at "nst"
      walk_at "rds"
      intro p5 n5
      walk_at "nst"
      walk_at "rds"
      intro p6 n6
      walk_at "nst"
      walk_at "rds"
      intro D5 nD5
      have t1 := same_new (o := .tup [.int 0, .int 0]) n1
      have t2 := same_new (o := .tup [.int 3, .int 3]) n2
      have t3 := same_new (o := .tup [.int (-1), .int 5]) n3
      have t4 := same_new (o := .tup [.int 0, .int (-4)]) n4
      have t5 := same_new (o := .tup [.int 1, .int 1]) n5
      have t6 := same_new (o := .tup [.int 7, .int 2]) n6
      have t7 := same_new (o := .lst [.ref p1, .ref p2, .ref p3, .ref p4, .ref p5, .ref p6]) nD5
      have nD5b := (hB17.same (t1.trans (t2.trans (t3.trans (t4.trans (t5.trans t6)))))).ne nD5
      have u6 := t6.trans t7
      have u5 := t5.trans u6
      have u4 := t4.trans u5
      have u3 := t3.trans u4
      have u2 := t2.trans u3
      have u1 := t1.trans u2
      have e1 := u2 _ _ (upd_same (H := H17) (a := p1) (o := .tup [.int 0, .int 0]))
      have e2 := u3 _ _ upd_same
      have e3 := u4 _ _ upd_same
      have e4 := u5 _ _ upd_same
      have e5 := u6 _ _ upd_same
      have e6 := t7 _ _ upd_same
      have hB18 := hB17.same u1
      have hL18 := u1 _ _ hL17
      have hx18 := hx17.same u1
      have hT18 := hT17.ext u1
      refine ⟨b, l, D5, _, rfl, hB18, .inl (.inl upd_same), nD5b, Nat.zero_lt_succ _, Nat.le_of_ble_eq_true rfl, fun j x H19 hx hB19 b19 => ?_⟩
      have hpair : ∃ (p : Addr) (x1 x2 : Int), x = .ref p ∧ SqT K H19 p [.int x1, .int x2] ∧ ¬ RemP (x1, x2) ∧ x2.natAbs < 16 := by
        match j, hx with
        | 0, hx => cases hx; exact ⟨_, _, _, rfl, But.tup b19 hB18 (.inl (.inl e1)), by unfold RemP; decide, by decide⟩
        | 1, hx => cases hx; exact ⟨_, _, _, rfl, But.tup b19 hB18 (.inl (.inl e2)), by unfold RemP; decide, by decide⟩
        | 2, hx => cases hx; exact ⟨_, _, _, rfl, But.tup b19 hB18 (.inl (.inl e3)), by unfold RemP; decide, by decide⟩
        | 3, hx => cases hx; exact ⟨_, _, _, rfl, But.tup b19 hB18 (.inl (.inl e4)), by unfold RemP; decide, by decide⟩
        | 4, hx => cases hx; exact ⟨_, _, _, rfl, But.tup b19 hB18 (.inl (.inl e5)), by unfold RemP; decide, by decide⟩
        | 5, hx => cases hx; exact ⟨_, _, _, rfl, But.tup b19 hB18 (.inl (.inl e6)), by unfold RemP; decide, by decide⟩
        | n + 6, hx => cases hx
      obtain ⟨pb, x1, x2, rfl, hpb2, hnr, hx2⟩ := hpair
      have hL19 := b19.get nD2b hL18
      have hx19 := hx18.but hB18 b19
      have hT19 := Tabs.but hT18 hB18 b19
      clear e1 e2 e3 e4 e5 e6 u1 u2 u3 u4 u5 u6 t1 t2 t3 t4 t5 t6 t7 n1 n2 n3 n4 n5 n6 nD5 nD5b hB17 hL17 hx17 hT17 hB18 hL18 hx18 hT18 hx b19
      walk_at "nst"
      walk_at "rds"
      have hkl : k.toNat ≤ ps.length := by omega
      refine ⟨D2, xs, rfl, .inl (.inl hL19), fun S1 nS1 => ?_⟩
      rw [cut_hi xs k k0 (by omega)]
      have sA := same_new (o := .lst (xs.take k.toNat)) nS1
      have hS1 : upd H19 S1 (.lst (xs.take k.toNat)) S1 = some (.lst (xs.take k.toNat)) := upd_same
      generalize upd H19 S1 (.lst (xs.take k.toNat)) = Ha at *
      walk_at "rds"
      intro B1 nB1
      have q1 := same_new (o := .lst [.ref pb]) nB1
      have hS1 := q1 _ _ hS1
      have hb1 : upd Ha B1 (.lst [.ref pb]) B1 = some (.lst [.ref pb]) := upd_same
      have sA := sA.trans q1
      generalize upd Ha B1 (.lst [.ref pb]) = Hb at *
      refine ⟨S1, B1, _, _, rfl, rfl, hS1, hb1, le_line (by rw [List.length_take]; show _ + 1 ≤ 1000; omega), fun C1 nC1 => ?_⟩
      have q2 := same_new (o := .lst (xs.take k.toNat ++ [.ref pb])) nC1
      have hc1 : upd Hb C1 (.lst (xs.take k.toNat ++ [.ref pb])) C1 = some (.lst (xs.take k.toNat ++ [.ref pb])) := upd_same
      have sA := sA.trans q2
      generalize upd Hb C1 (.lst (xs.take k.toNat ++ [.ref pb])) = Hc at *
      walk_at "rds"
      refine ⟨D2, xs, rfl, .inl (.inl (sA _ _ hL19)), fun S2 nS2 => ?_⟩
      rw [cut_lo xs k k0 (by omega)]
      have q3 := same_new (o := .lst (xs.drop k.toNat)) nS2
      have hc1 := q3 _ _ hc1
      have hS2 : upd Hc S2 (.lst (xs.drop k.toNat)) S2 = some (.lst (xs.drop k.toNat)) := upd_same
      have sA := sA.trans q3
      generalize upd Hc S2 (.lst (xs.drop k.toNat)) = Hd at *
      refine ⟨C1, S2, _, _, rfl, rfl, hc1, hS2, le_line (by rw [List.length_append, List.length_take, List.length_drop]; show _ + 1 + _ ≤ 1000; omega), fun C2 nC2 => ?_⟩
      have q4 := same_new (o := .lst (xs.take k.toNat ++ [.ref pb] ++ xs.drop k.toNat)) nC2
      have hc2 : upd Hd C2 (.lst (xs.take k.toNat ++ [.ref pb] ++ xs.drop k.toNat)) C2 = some (.lst (xs.take k.toNat ++ [.ref pb] ++ xs.drop k.toNat)) := upd_same
      have nC2b := (hB19.same sA).ne nC2
      have sA := sA.trans q4
      generalize upd Hd C2 (.lst (xs.take k.toNat ++ [.ref pb] ++ xs.drop k.toNat)) = He at *
      clear q1 q2 q3 q4 hS1 hb1 hc1 hS2 nS1 nB1 nC1 nS2 nC2
      walk_at "nst"
      walk_at "rds"
      intro t5 nt5
      have q5 := same_new (o := .tup [.int 5, .int 5]) nt5
      have hc2 := q5 _ _ hc2
      have ht5 : upd He t5 (.tup [.int 5, .int 5]) t5 = some (.tup [.int 5, .int 5]) := upd_same
      have sA := sA.trans q5
      generalize upd He t5 (.tup [.int 5, .int 5]) = Hf at *
      walk_at "rds"
      intro L5 nL5
      have q6 := same_new (o := .lst [.ref t5]) nL5
      have hc2 := q6 _ _ hc2
      have ht5 := q6 _ _ ht5
      have hL5 : upd Hf L5 (.lst [.ref t5]) L5 = some (.lst [.ref t5]) := upd_same
      have nL5b := (hB19.same sA).ne nL5
      have sA := sA.trans q6
      generalize upd Hf L5 (.lst [.ref t5]) = Hg at *
      have hB20 := hB19.same sA
      have hT20 := hT19.ext sA
      have hx20 := hx19.same sA
      have hp20 := Same.tup sA hpb2
      clear q5 q6 nt5 nL5 hB19 hT19 hx19 hpb2 sA hL19
      walk_at "rds"
      walk_at "pull"
      intro r H21 r0 r1 hB21 b21
      have hT21 := Tabs.but hT20 hB20 b21
      have hx21 := hx20.but hB20 b21
      have hp21 := But.tup b21 hB20 hp20
      have ht21 := But.tup (K := K) b21 hB20 (.inl (.inl ht5))
      have hc21 := b21.get nC2b hc2
      have hl21 := b21.get nL5b hL5
      clear hB20 hT20 hx20 hp20 ht5 hc2 hL5 b21
      refine ⟨L5, r, [.ref t5], rfl, rfl, hl21, by omega, by omega, ?_, fun R nR => ?_⟩
      · show 1 * _ ≤ sizeLine
        exact le_line (by omega)
      rw [flat_rep]
      have q7 := same_new (o := .lst (List.replicate r.toNat (.ref t5))) nR
      have hc22 := q7 _ _ hc21
      have hR22 : upd H21 R (.lst (List.replicate r.toNat (.ref t5))) R = some (.lst (List.replicate r.toNat (.ref t5))) := upd_same
      generalize upd H21 R (.lst (List.replicate r.toNat (.ref t5))) = H22 at *
      refine ⟨C2, R, _, _, rfl, rfl, hc22, hR22, le_line (by rw [List.length_append, List.length_append, List.length_take, List.length_drop, List.length_replicate]; show _ + 1 + _ + _ ≤ 1000; omega), fun C3 nC3 => ?_⟩
      have q8 := q7.trans (same_new (o := .lst (xs.take k.toNat ++ [.ref pb] ++ xs.drop k.toNat ++ List.replicate r.toNat (.ref t5))) nC3)
      have hL23 : upd H22 C3 (.lst (xs.take k.toNat ++ [.ref pb] ++ xs.drop k.toNat ++ List.replicate r.toNat (.ref t5))) C3 = some (.lst (xs.take k.toNat ++ [.ref pb] ++ xs.drop k.toNat ++ List.replicate r.toNat (.ref t5))) := upd_same
      generalize upd H22 C3 (.lst (xs.take k.toNat ++ [.ref pb] ++ xs.drop k.toNat ++ List.replicate r.toNat (.ref t5))) = H23 at *
      have hB23 := hB21.same q8
      have hT23 := hT21.ext q8
      have hx23 := hx21.same q8
      have hp23 := Same.tup q8 hp21
      have ht23 := Same.tup q8 ht21
      have hone : Prs K H23 [.ref pb] [(x1, x2)] := Prs.rep hp23 1
      have hX23 := (((hx23.take k.toNat).app hone).app (hx23.drop k.toNat)).app (Prs.rep ht23 r.toNat)
      generalize (xs.take k.toNat ++ [.ref pb] ++ xs.drop k.toNat ++ List.replicate r.toNat (.ref t5)) = L at *
      clear q7 q8 hc22 hR22 nR nC3 hB21 hT21 hx21 hp21 ht21 hc21 hl21 hx23 hp23 ht23 hone
      walk_at "nst"
      refine ⟨hT23, fun H24 e24 hT24 => ?_⟩
      have hX24 := hX23.ext e24
      have hB24 := ExtN.bag e24 hB23
      have hL24 := e24 _ _ hL23 (fun ps z => by cases z)
      clear hT23 hX23 hB23 hL23 e24
      refine ask_common T 100 (.inl (.inl (.inl hL24))) hX24 (by decide) (fun p hp => ?_) ?_ (bent_at hkl) hnr (fun j p hj hp => hR p (bent_lo hkl hj hp)) (fun E Q' hq => ⟨_, rfl, hq⟩) (fun t H25 s25 ht => ?_)
      · rcases bent_mem hp with h | h | h
        · exact hpb p h
        · rw [h]
          exact small_pow (a := 4) hx2 (by decide)
        · rw [h]
          exact small_pow (a := 4) (show ((5 : Int)).natAbs < 16 by decide) (by decide)
      · rw [List.length_append, List.length_append, List.length_append, List.length_take, List.length_drop, List.length_replicate]
        show (_ + 1 + _ + _) * 100 + 100 + 1 ≤ 4000
        omega
      have hkk : ((k.toNat : Nat) : Int) = k := by omega
      rw [hkk] at ht
      have hB25 := hB24.same s25
      have hT25 := hT24.ext s25
      clear hB24 hT24 hX24 hL24 s25
      walk_at "nst"
      walk_at "rds"
      intro t6 nt6
      have s26 := same_new (o := .tup [.str "BadRemainder", .int k]) nt6
      refine ⟨.tuple [.str "BadRemainder", .int k], .tuple [.str "BadRemainder", .int k], .tup (.inl (.inl (s26 _ _ ht))) (.cons (.str _) (.cons (.int _) .nil)), .tup (.inl (.inl upd_same)) (.cons (.str _) (.cons (.int _) .nil)), shaped_one (by decide +kernel) _, shaped_one (by decide +kernel) _, ?_⟩
      rw [eqv_one]
      walk_at "rds"
      exact hDD _ _ ⟨⟨hB25.same s26, hT25.ext s26⟩, _, _, _, _, _, _, _, _, _, _, _, rfl⟩
    · obtain ⟨⟨hB2, hT2⟩, y2, y3, y4, y5, y6, y7, y8, y9, y10, y11, y12, rfl⟩ := hp
      walk_at "nst"
      walk_at "rds"
      intro D hD
      dsimp only [tNil]
      show sp_commonR K T.a_BadRemainder [.ref D] _ _ _
      refine common_ok 1 (xs := []) (ps := []) (.inl (.inl (.inl upd_same))) ⟨rfl, fun _ _ h => nomatch h⟩ (fun _ h => nomatch h) (by decide) (fun _ h => nomatch h) (by decide) (fun u H3 s3 hu => ?_)
      rcases hu with ⟨rfl, hn⟩ | ⟨d, x, rfl, hd, hS⟩
      · exact absurd ⟨0, fun _ h => nomatch h⟩ hn
      have x0 := hS.x0
      have x1 : x < 1 := hS.x1
      have ex : x = 0 := by omega
      subst ex
      have hd : SqT K H3 d [.int 0, .int 1] := hd
      walk_at "rds"
      intro t nt
      have s4 := same_new (o := .tup [.int 0, .int 1]) nt
      refine ⟨.tuple [.int 0, .int 1], .tuple [.int 0, .int 1], .tup (Same.tup s4 hd) (.cons (.int _) (.cons (.int _) .nil)), .tup (.inl (.inl upd_same)) (.cons (.int _) (.cons (.int _) .nil)), by decide +kernel, by decide +kernel, ?_⟩
      rw [show PyData.eqv (.tuple [.int 0, .int 1]) (.tuple [.int 0, .int 1]) = true by decide +kernel]
      walk_at "rds"
      intro p1 n1
      have h1 : upd (upd H3 t (.tup [.int 0, .int 1])) p1 (.tup [.int 1, .int 2]) p1 = some (.tup [.int 1, .int 2]) := upd_same
      generalize upd (upd H3 t (.tup [.int 0, .int 1])) p1 (.tup [.int 1, .int 2]) = H4 at *
      walk_at "rds"
      intro p2 n2
      have h1 := same_new (o := .tup [.int 0, .int 4]) n2 _ _ h1
      have h2 : upd H4 p2 (.tup [.int 0, .int 4]) p2 = some (.tup [.int 0, .int 4]) := upd_same
      generalize upd H4 p2 (.tup [.int 0, .int 4]) = H5 at *
      walk_at "rds"
      intro D2 nD2
      have s6 := same_new (o := .lst [.ref p1, .ref p2]) nD2
      have hP : Prs K (upd H5 D2 (.lst [.ref p1, .ref p2])) [.ref p1, .ref p2] [(1, 2), (0, 4)] := (Prs.rep (.inl (.inl (s6 _ _ h1))) 1).app (Prs.rep (.inl (.inl (s6 _ _ h2))) 1)
      dsimp only [tNil]
      show sp_commonR K T.a_BadRemainder [.ref D2] _ _ _
      refine common_ok 3 (.inl (.inl (.inl upd_same))) hP (fun p hp => ?_) (by decide) (fun p hp => ?_) (by decide) (fun u H6 s6 hu => ?_)
      · rcases List.mem_cons.mp hp with rfl | hp
        · exact ⟨by decide, by decide, by decide⟩
        · rw [List.mem_singleton.mp hp]
          exact ⟨by decide, by decide, by decide⟩
      · rcases List.mem_cons.mp hp with rfl | hp
        · decide
        · rw [List.mem_singleton.mp hp]
          decide
      rcases hu with ⟨rfl, hn⟩ | ⟨d, x, rfl, hd, hS⟩
      · walk_at "rds"
        exact q _
      · exact absurd ⟨x, hS.s⟩ no_two
end
theorem all_mk {w : World} {K : PySem.W.Frag} {h : Heap} {mg : Str → Option Value} {fa : Addr} (X : K.In h) (G : h.Ns mainGlobals mg) (hfa : mg "law" = some (.ref fa))
    {f0 f1 f2 f3 f4 f5 f6 f7 f8 f9 f10 f11 : Addr} {od0 an0 od1 an1 od2 an2 od3 an3 od4 an4 od5 an5 od6 an6 od7 an7 od8 an8 od9 an9 od10 an10 od11 an11 : Option Addr} {sl0 sl1 sl2 sl3 sl4 sl5 sl6 sl7 sl8 sl9 sl10 sl11 : Array (Option Value)} {oc0 kV0 dc0 pm0 cd0 ct0 oc1 kV1 dc1 pm1 cd1 ct1 oc2 kV2 dc2 pm2 cd2 ct2 oc3 kV3 dc3 pm3 cd3 ct3 oc4 kV4 dc4 pm4 cd4 ct4 oc5 kV5 dc5 pm5 cd5 ct5 oc6 kV6 dc6 pm6 cd6 ct6 oc7 kV7 dc7 pm7 cd7 ct7 oc8 kV8 dc8 pm8 cd8 ct8 oc9 kV9 dc9 pm9 cd9 ct9 oc10 kV10 dc10 pm10 cd10 ct10 oc11 kV11 dc11 pm11 cd11 ct11 : Value} {aX_PileError : Addr} {fX_PileError : Addr} {odX_PileError anX_PileError ddX_PileError : Option Addr} {slX_PileError : Array (Option Value)} {ocX_PileError kVX_PileError dcX_PileError pmX_PileError cdX_PileError ctX_PileError : Value} {TX_PileError : Addr} {smX_PileError : Array (Option Value)} {uX_PileError : Tok} {mX_PileError : Nat} {aX_BadRemainder : Addr} {fX_BadRemainder : Addr} {odX_BadRemainder anX_BadRemainder ddX_BadRemainder : Option Addr} {slX_BadRemainder : Array (Option Value)} {ocX_BadRemainder kVX_BadRemainder dcX_BadRemainder pmX_BadRemainder cdX_BadRemainder ctX_BadRemainder : Value} {nmX_BadRemainder qX_BadRemainder : Str} {NX_BadRemainder : Addr} {bsX_BadRemainder bmX_BadRemainder subX_BadRemainder : List Value} {snX_BadRemainder : List Str} {abX_BadRemainder : Bool} {colX_BadRemainder : Option Bool} {k0X_BadRemainder k1X_BadRemainder k2X_BadRemainder k3X_BadRemainder k5X_BadRemainder : Option Value} {aX_Missing : Addr} {cLaw pLaw : Addr} {oCo : Option Addr} {vsCo : Array Value} {slCo : Array (Option Value)}
    (a0 : PySem.W.nsIn K mainGlobals "common_rounds" = some (some (.ref f0))) (l0 : K.lookup f0 = some ⟨oc0, od0, .func (PySem.W.fnOf "common_rounds" "common_rounds" (defArgs s_common_rounds) (defBody s_common_rounds) (defScope s_common_rounds) .none kV0 dc0 pm0 an0 cd0 ct0), sl0⟩) (c0 : PySem.W.codeIn K cd0 "common_rounds" = true) (k0 : PySem.W.keepIn K (.ref f0) = true)
    (a1 : PySem.W.nsIn K mainGlobals "both_remainders" = some (some (.ref f1))) (l1 : K.lookup f1 = some ⟨oc1, od1, .func (PySem.W.fnOf "both_remainders" "both_remainders" (defArgs s_both_remainders) (defBody s_both_remainders) (defScope s_both_remainders) .none kV1 dc1 pm1 an1 cd1 ct1), sl1⟩) (c1 : PySem.W.codeIn K cd1 "both_remainders" = true) (k1 : PySem.W.keepIn K (.ref f1) = true)
    (a2 : PySem.W.nsIn K mainGlobals "divisor_and_factor" = some (some (.ref f2))) (l2 : K.lookup f2 = some ⟨oc2, od2, .func (PySem.W.fnOf "divisor_and_factor" "divisor_and_factor" (defArgs s_divisor_and_factor) (defBody s_divisor_and_factor) (defScope s_divisor_and_factor) .none kV2 dc2 pm2 an2 cd2 ct2), sl2⟩) (c2 : PySem.W.codeIn K cd2 "divisor_and_factor" = true) (k2 : PySem.W.keepIn K (.ref f2) = true)
    (a3 : PySem.W.nsIn K mainGlobals "_law_bag" = some (some (.ref f3))) (l3 : K.lookup f3 = some ⟨oc3, od3, .func (PySem.W.fnOf "_law_bag" "_law_bag" (defArgs s__law_bag) (defBody s__law_bag) (defScope s__law_bag) .none kV3 dc3 pm3 an3 cd3 ct3), sl3⟩) (c3 : PySem.W.codeIn K cd3 "_law_bag" = true) (k3 : PySem.W.keepIn K (.ref f3) = true)
    (a4 : PySem.W.nsIn K mainGlobals "_law_pull" = some (some (.ref f4))) (l4 : K.lookup f4 = some ⟨oc4, od4, .func (PySem.W.fnOf "_law_pull" "_law_pull" (defArgs s__law_pull) (defBody s__law_pull) (defScope s__law_pull) .none kV4 dc4 pm4 an4 cd4 ct4), sl4⟩) (c4 : PySem.W.codeIn K cd4 "_law_pull" = true) (k4 : PySem.W.keepIn K (.ref f4) = true)
    (a5 : PySem.W.nsIn K mainGlobals "_law_of" = some (some (.ref f5))) (l5 : K.lookup f5 = some ⟨oc5, od5, .func (PySem.W.fnOf "_law_of" "_law_of" (defArgs s__law_of) (defBody s__law_of) (defScope s__law_of) .none kV5 dc5 pm5 an5 cd5 ct5), sl5⟩) (c5 : PySem.W.codeIn K cd5 "_law_of" = true) (k5 : PySem.W.keepIn K (.ref f5) = true)
    (a6 : PySem.W.nsIn K mainGlobals "_law_same" = some (some (.ref f6))) (l6 : K.lookup f6 = some ⟨oc6, od6, .func (PySem.W.fnOf "_law_same" "_law_same" (defArgs s__law_same) (defBody s__law_same) (defScope s__law_same) .none kV6 dc6 pm6 an6 cd6 ct6), sl6⟩) (c6 : PySem.W.codeIn K cd6 "_law_same" = true) (k6 : PySem.W.keepIn K (.ref f6) = true)
    (a7 : PySem.W.nsIn K mainGlobals "_law_field" = some (some (.ref f7))) (l7 : K.lookup f7 = some ⟨oc7, od7, .func (PySem.W.fnOf "_law_field" "_law_field" (defArgs s__law_field) (defBody s__law_field) (defScope s__law_field) .none kV7 dc7 pm7 an7 cd7 ct7), sl7⟩) (c7 : PySem.W.codeIn K cd7 "_law_field" = true) (k7 : PySem.W.keepIn K (.ref f7) = true)
    (a8 : PySem.W.nsIn K mainGlobals "_law_try" = some (some (.ref f8))) (l8 : K.lookup f8 = some ⟨oc8, od8, .func (PySem.W.fnOf "_law_try" "_law_try" (defArgs s__law_try) (defBody s__law_try) (defScope s__law_try) .none kV8 dc8 pm8 an8 cd8 ct8), sl8⟩) (c8 : PySem.W.codeIn K cd8 "_law_try" = true) (k8 : PySem.W.keepIn K (.ref f8) = true)
    (a9 : PySem.W.nsIn K mainGlobals "_law_gcd" = some (some (.ref f9))) (l9 : K.lookup f9 = some ⟨oc9, od9, .func (PySem.W.fnOf "_law_gcd" "_law_gcd" (defArgs s__law_gcd) (defBody s__law_gcd) (defScope s__law_gcd) .none kV9 dc9 pm9 an9 cd9 ct9), sl9⟩) (c9 : PySem.W.codeIn K cd9 "_law_gcd" = true) (k9 : PySem.W.keepIn K (.ref f9) = true)
    (a10 : PySem.W.nsIn K mainGlobals "_law_lcm" = some (some (.ref f10))) (l10 : K.lookup f10 = some ⟨oc10, od10, .func (PySem.W.fnOf "_law_lcm" "_law_lcm" (defArgs s__law_lcm) (defBody s__law_lcm) (defScope s__law_lcm) .none kV10 dc10 pm10 an10 cd10 ct10), sl10⟩) (c10 : PySem.W.codeIn K cd10 "_law_lcm" = true) (k10 : PySem.W.keepIn K (.ref f10) = true)
    (a11 : PySem.W.nsIn K mainGlobals "law" = some (some (.ref f11))) (l11 : K.lookup f11 = some ⟨oc11, od11, .func (PySem.W.fnOf "law" "law" (defArgs s_law) (defBody s_law) (defScope s_law) .none kV11 dc11 pm11 an11 cd11 ct11), sl11⟩) (c11 : PySem.W.codeIn K cd11 "law" = true) (k11 : PySem.W.keepIn K (.ref f11) = true)
    (z_abs : PySem.W.nsIn K mainGlobals "abs" = some none)
    (z_all : PySem.W.nsIn K mainGlobals "all" = some none)
    (z_bool : PySem.W.nsIn K mainGlobals "bool" = some none)
    (z_dict : PySem.W.nsIn K mainGlobals "dict" = some none)
    (z_enumerate : PySem.W.nsIn K mainGlobals "enumerate" = some none)
    (z_int : PySem.W.nsIn K mainGlobals "int" = some none)
    (z_isinstance : PySem.W.nsIn K mainGlobals "isinstance" = some none)
    (z_len : PySem.W.nsIn K mainGlobals "len" = some none)
    (z_list : PySem.W.nsIn K mainGlobals "list" = some none)
    (z_range : PySem.W.nsIn K mainGlobals "range" = some none)
    (z_str : PySem.W.nsIn K mainGlobals "str" = some none)
    (z_tuple : PySem.W.nsIn K mainGlobals "tuple" = some none)
    (z_zip : PySem.W.nsIn K mainGlobals "zip" = some none)
    (gX_PileError : PySem.W.nsIn K mainGlobals "PileError" = some (some (.ref aX_PileError)))
    (iX_PileError : PySem.W.findCls K (.ref aX_PileError) (.type "type") "__init__" = some (.val (.ref fX_PileError)))
    (rX_PileError : PySem.W.readsIn K aX_PileError (.type "type") = true)
    (sX_PileError : PySem.W.specialIn K (.ref aX_PileError) "__getattribute__" = some (some (.builtin "type.__getattribute__")))
    (lX_PileError : K.lookup fX_PileError = some ⟨ocX_PileError, odX_PileError, .func (PySem.W.fnOf "__init__" "PileError.__init__" (defArgs s_PileError) (defBody s_PileError) (defScope s_PileError) (.ref TX_PileError) kVX_PileError dcX_PileError pmX_PileError anX_PileError cdX_PileError ctX_PileError), slX_PileError⟩)
    (tX_PileError : K.lookup TX_PileError = some ⟨.type "tuple", ddX_PileError, .seq #[.str "PileError" uX_PileError] mX_PileError, smX_PileError⟩)
    (cX_PileError : PySem.W.codeIn K cdX_PileError "PileError.__init__" = true)
    (wX_PileError : PySem.W.keepIn K (.ref fX_PileError) = true)
    (gX_BadRemainder : PySem.W.nsIn K mainGlobals "BadRemainder" = some (some (.ref aX_BadRemainder)))
    (oX_BadRemainder : K.lookup aX_BadRemainder = some (excClassObj nmX_BadRemainder qX_BadRemainder aX_BadRemainder NX_BadRemainder bsX_BadRemainder bmX_BadRemainder true snX_BadRemainder subX_BadRemainder abX_BadRemainder colX_BadRemainder ddX_BadRemainder k0X_BadRemainder k1X_BadRemainder k2X_BadRemainder k3X_BadRemainder k5X_BadRemainder "ValueError.__new__"))
    (vX_BadRemainder : PySem.HandSPX.refsVE bmX_BadRemainder = true)
    (sX_BadRemainder : PySem.W.findIn K (.ref aX_BadRemainder) "__setattr__" = some (some (.builtin "object.__setattr__")))
    (xX_BadRemainder : PySem.W.subIn K (.ref aX_BadRemainder) (.type "BaseException") = some true)
    (yX_BadRemainder : PySem.W.typeIn K (.ref aX_BadRemainder) = some (.type "type"))
    (kX_BadRemainder : PySem.W.keepIn K (.ref aX_BadRemainder) = true)
    (bX_BadRemainder : xfB K aX_BadRemainder = true)
    (nX_code_BadRemainder : PySem.W.findIn K (.ref aX_BadRemainder) "code" = some none)
    (nX_at_BadRemainder : PySem.W.findIn K (.ref aX_BadRemainder) "at" = some none)
    (iX_BadRemainder : PySem.W.findIn K (.ref aX_BadRemainder) "__init__" = some (some (.ref fX_BadRemainder)))
    (tX_BadRemainder : PySem.W.typeIn K (.ref fX_BadRemainder) = some (.type "function"))
    (lX_BadRemainder : K.lookup fX_BadRemainder = some ⟨ocX_BadRemainder, odX_BadRemainder, .func (PySem.W.fnOf "__init__" "BadRemainder.__init__" (defArgs s_BadRemainder) (defBody s_BadRemainder) (defScope s_BadRemainder) .none kVX_BadRemainder dcX_BadRemainder pmX_BadRemainder anX_BadRemainder cdX_BadRemainder ctX_BadRemainder), slX_BadRemainder⟩)
    (eX_BadRemainder : PySem.W.exmOne K (.ref aX_BadRemainder) (.ref aX_PileError) = some true)
    (cX_BadRemainder : PySem.W.codeIn K cdX_BadRemainder "BadRemainder.__init__" = true)
    (wX_BadRemainder : PySem.W.keepIn K (.ref fX_BadRemainder) = true)
    (gX_Missing : PySem.W.nsIn K mainGlobals "Missing" = some (some (.ref aX_Missing)))
    (zc0 : cd11 = .ref cLaw)
    (zc1 : K.lookup cLaw = some ⟨.type "code", oCo, .fields vsCo, slCo⟩)
    (zc2 : vsCo[11]? = some (.ref pLaw))
    (zc3 : PySem.W.codeHdIn K cLaw pLaw = true)
    (zc4 : K.lookup pLaw = none)
    (zc5 : h.get? pLaw = some { cls := .none, data := .fields #[] })
    : LamX.LawAtS PySem.Challenge.rw_pileports_k33_common_remainders w K CX0 9 63 "_law_script" mg fa h := by
  subst zc0
  have e := hfa.symm.trans (PySem.W.mg_of X G a11)
  cases e
  have F0 := fun_mk (st := s_common_rounds) l0 c0 k0
  have F1 := fun_mk (st := s_both_remainders) l1 c1 k1
  have F2 := fun_mk (st := s_divisor_and_factor) l2 c2 k2
  have F3 := fun_mk (st := s__law_bag) l3 c3 k3
  have F4 := fun_mk (st := s__law_pull) l4 c4 k4
  have F5 := fun_mk (st := s__law_of) l5 c5 k5
  have F6 := fun_mk (st := s__law_same) l6 c6 k6
  have F7 := fun_mk (st := s__law_field) l7 c7 k7
  have F8 := fun_mk (st := s__law_try) l8 c8 k8
  have F9 := fun_mk (st := s__law_gcd) l9 c9 k9
  have F10 := fun_mk (st := s__law_lcm) l10 c10 k10
  have F11 := fun_mk (st := s_law) l11 c11 k11
  have FX_PileError : FunD K "__init__" "PileError.__init__" (defArgs s_PileError) (defBody s_PileError) (defScope s_PileError) [.str "PileError"] [] fX_PileError _ := ⟨⟨_, _, _, _, _, _, _, _, _, _, rfl, lX_PileError, cX_PileError, .inr ⟨List.cons_ne_nil _ _, _, _, _, _, rfl, tX_PileError, rfl, .cons ⟨_, rfl⟩ .nil⟩, .inl rfl⟩, wX_PileError⟩
  have FX_BadRemainder := fun_mk (st := s_BadRemainder) lX_BadRemainder cX_BadRemainder wX_BadRemainder
  let T : Txt K mg w := {
    a_common_rounds := _,
    d_common_rounds := _,
    F_common_rounds := F0,
    g_common_rounds := PySem.W.mg_of X G a0,
    b_common_rounds := F0.binds (ps := P_common_rounds) fun _ _ _ _ _ _ us hl => match us, hl with | [_], _ => rfl,
    a_both_remainders := _,
    d_both_remainders := _,
    F_both_remainders := F1,
    g_both_remainders := PySem.W.mg_of X G a1,
    b_both_remainders := F1.binds (ps := P_both_remainders) fun _ _ _ _ _ _ us hl => match us, hl with | [_, _], _ => rfl,
    a_divisor_and_factor := _,
    d_divisor_and_factor := _,
    F_divisor_and_factor := F2,
    g_divisor_and_factor := PySem.W.mg_of X G a2,
    b_divisor_and_factor := F2.binds (ps := P_divisor_and_factor) fun _ _ _ _ _ _ us hl => match us, hl with | [_, _], _ => rfl,
    a__law_bag := _,
    d__law_bag := _,
    F__law_bag := F3,
    g__law_bag := PySem.W.mg_of X G a3,
    b__law_bag := F3.binds (ps := P__law_bag) fun _ _ _ _ _ _ us hl => match us, hl with | [_], _ => rfl,
    a__law_pull := _,
    d__law_pull := _,
    F__law_pull := F4,
    g__law_pull := PySem.W.mg_of X G a4,
    b__law_pull := F4.binds (ps := P__law_pull) fun _ _ _ _ _ _ us hl => match us, hl with | [_, _], _ => rfl,
    a__law_of := _,
    d__law_of := _,
    F__law_of := F5,
    g__law_of := PySem.W.mg_of X G a5,
    b__law_of := F5.binds (ps := P__law_of) fun _ _ _ _ _ _ us hl => match us, hl with | [_, _], _ => rfl,
    a__law_same := _,
    d__law_same := _,
    F__law_same := F6,
    g__law_same := PySem.W.mg_of X G a6,
    b__law_same := F6.binds (ps := P__law_same) fun _ _ _ _ _ _ us hl => match us, hl with | [_, _], _ => rfl,
    a__law_field := _,
    d__law_field := _,
    F__law_field := F7,
    g__law_field := PySem.W.mg_of X G a7,
    b__law_field := F7.binds (ps := P__law_field) fun _ _ _ _ _ _ us hl => match us, hl with | [_], _ => rfl,
    a__law_try := _,
    d__law_try := _,
    F__law_try := F8,
    g__law_try := PySem.W.mg_of X G a8,
    b__law_try := F8.binds (ps := P__law_try) fun _ _ _ _ _ _ us hl => match us, hl with | [_], _ => rfl,
    a__law_gcd := _,
    d__law_gcd := _,
    F__law_gcd := F9,
    g__law_gcd := PySem.W.mg_of X G a9,
    b__law_gcd := F9.binds (ps := P__law_gcd) fun _ _ _ _ _ _ us hl => match us, hl with | [_, _], _ => rfl,
    a__law_lcm := _,
    d__law_lcm := _,
    F__law_lcm := F10,
    g__law_lcm := PySem.W.mg_of X G a10,
    b__law_lcm := F10.binds (ps := P__law_lcm) fun _ _ _ _ _ _ us hl => match us, hl with | [_], _ => rfl,
    a_law := _,
    d_law := _,
    F_law := F11,
    g_law := PySem.W.mg_of X G a11,
    a_PileError := _,
    g_PileError := PySem.W.mg_of X G gX_PileError,
    f_PileError := _,
    d_PileError := _,
    F_PileError := FX_PileError,
    b_PileError := binds_pe FX_PileError,
    r_PileError := ⟨rX_PileError, sX_PileError⟩,
    v_PileError := ⟨iX_PileError, rfl⟩,
    a_BadRemainder := _,
    g_BadRemainder := PySem.W.mg_of X G gX_BadRemainder,
    x_BadRemainder := ⟨⟨⟨_, _, _, _, _, _, _, _, _, _, _, _, _, _, _, oX_BadRemainder, vX_BadRemainder⟩, sX_BadRemainder, xX_BadRemainder, yX_BadRemainder, kX_BadRemainder⟩, xfB_ok bX_BadRemainder, (List.forall_mem_cons.mpr ⟨nX_code_BadRemainder, (List.forall_mem_cons.mpr ⟨nX_at_BadRemainder, (fun _ h => nomatch h)⟩)⟩), eX_BadRemainder⟩,
    f_BadRemainder := _,
    d_BadRemainder := _,
    F_BadRemainder := FX_BadRemainder,
    b_BadRemainder := FX_BadRemainder.binds (ps := P_BadRemainder) fun _ _ _ _ _ _ us hl => match us, hl with | [_, _], _ => rfl,
    i_BadRemainder := iX_BadRemainder,
    ti_BadRemainder := tX_BadRemainder,
    a_Missing := _,
    g_Missing := PySem.W.mg_of X G gX_Missing,
    c_law := cLaw,
    p_law := pLaw,
    C_law := ⟨⟨_, _, _, _, _, _, _, _, rfl, l11, c11⟩, k11⟩,
    m_abs := PySem.W.mg_none_of X G z_abs,
    m_all := PySem.W.mg_none_of X G z_all,
    m_bool := PySem.W.mg_none_of X G z_bool,
    m_dict := PySem.W.mg_none_of X G z_dict,
    m_enumerate := PySem.W.mg_none_of X G z_enumerate,
    m_int := PySem.W.mg_none_of X G z_int,
    m_isinstance := PySem.W.mg_none_of X G z_isinstance,
    m_len := PySem.W.mg_none_of X G z_len,
    m_list := PySem.W.mg_none_of X G z_list,
    m_range := PySem.W.mg_none_of X G z_range,
    m_str := PySem.W.mg_none_of X G z_str,
    m_tuple := PySem.W.mg_none_of X G z_tuple,
    m_zip := PySem.W.mg_none_of X G z_zip }
  exact ⟨_, [(cLaw, pLaw)], spLawT K pLaw, fun p hp => by rw [List.mem_singleton.mp hp]; exact zc5, fun p hp => by rw [List.mem_singleton.mp hp]; exact zc4, fun p hp => by rw [List.mem_singleton.mp hp]; exact PySem.W.codeHd_of_K X zc3, fun s v => .of_eq rfl, fun H a ns h1 _ h3 h4 => ⟨a, ns, rfl, h4, h1, tabs_nil (h3 _ List.mem_cons_self), fun _ => rfl⟩, fun base _ _ TB => ok_law T (TB _ List.mem_cons_self)⟩
end Z
open PySem PySem.W PyProof.Rows
set_option maxHeartbeats 0 in
theorem PySem.Challenge.cw_pileports_k33_common_remainders_holds : PySem.Challenge.rw_pileports_k33_common_remainders.Holds := by
  w_on; o_law; k_head; (case hw => w_witness2)
  k_fill
  refine LamX.walk_ofTs (l := PySem.Challenge.rw_pileports_k33_common_remainders) (n := 63) (k := 9) (x := "_law_script") (CX := fun _ => L2.CX0) rfl (by decide) rfl ⟨rfl, by decide, by decide⟩ (fun w h Y => PySem.W.km_in_of Y) ?F (fun _ _ _ _ _ h => h)
  case F =>
    intro w mg fa h Y KX G hmg
    refine' Z.all_mk KX G hmg ?a0 ?l0 ?c0 ?k0 ?a1 ?l1 ?c1 ?k1 ?a2 ?l2 ?c2 ?k2 ?a3 ?l3 ?c3 ?k3 ?a4 ?l4 ?c4 ?k4 ?a5 ?l5 ?c5 ?k5 ?a6 ?l6 ?c6 ?k6 ?a7 ?l7 ?c7 ?k7 ?a8 ?l8 ?c8 ?k8 ?a9 ?l9 ?c9 ?k9 ?a10 ?l10 ?c10 ?k10 ?a11 ?l11 ?c11 ?k11 ?z_abs ?z_all ?z_bool ?z_dict ?z_enumerate ?z_int ?z_isinstance ?z_len ?z_list ?z_range ?z_str ?z_tuple ?z_zip ?gX_PileError ?iX_PileError ?rX_PileError ?sX_PileError ?lX_PileError ?tX_PileError ?cX_PileError ?wX_PileError ?gX_BadRemainder ?oX_BadRemainder ?vX_BadRemainder ?sX_BadRemainder ?xX_BadRemainder ?yX_BadRemainder ?kX_BadRemainder ?bX_BadRemainder ?nX_code_BadRemainder ?nX_at_BadRemainder ?iX_BadRemainder ?tX_BadRemainder ?lX_BadRemainder ?eX_BadRemainder ?cX_BadRemainder ?wX_BadRemainder ?gX_Missing ?zc0 ?zc1 ?zc2 ?zc3 ?zc4 ?zc5
    (case a0 => k_is); (case l0 => k_is); (case c0 => k_is); (case k0 => k_is); (case a1 => k_is); (case l1 => k_is); (case c1 => k_is); (case k1 => k_is); (case a2 => k_is); (case l2 => k_is); (case c2 => k_is); (case k2 => k_is); (case a3 => k_is); (case l3 => k_is); (case c3 => k_is); (case k3 => k_is); (case a4 => k_is); (case l4 => k_is); (case c4 => k_is); (case k4 => k_is); (case a5 => k_is); (case l5 => k_is); (case c5 => k_is); (case k5 => k_is); (case a6 => k_is); (case l6 => k_is); (case c6 => k_is); (case k6 => k_is); (case a7 => k_is); (case l7 => k_is); (case c7 => k_is); (case k7 => k_is); (case a8 => k_is); (case l8 => k_is); (case c8 => k_is); (case k8 => k_is); (case a9 => k_is); (case l9 => k_is); (case c9 => k_is); (case k9 => k_is); (case a10 => k_is); (case l10 => k_is); (case c10 => k_is); (case k10 => k_is); (case a11 => k_is); (case l11 => k_is); (case c11 => k_is); (case k11 => k_is); (case z_abs => k_is); (case z_all => k_is); (case z_bool => k_is); (case z_dict => k_is); (case z_enumerate => k_is); (case z_int => k_is); (case z_isinstance => k_is); (case z_len => k_is); (case z_list => k_is); (case z_range => k_is); (case z_str => k_is); (case z_tuple => k_is); (case z_zip => k_is); (case gX_PileError => (first | k_is | decide +kernel | rfl)); (case iX_PileError => (first | k_is | decide +kernel | rfl)); (case rX_PileError => (first | k_is | decide +kernel | rfl)); (case sX_PileError => (first | k_is | decide +kernel | rfl)); (case lX_PileError => (first | k_is | decide +kernel | rfl)); (case tX_PileError => (first | k_is | decide +kernel | rfl)); (case cX_PileError => (first | k_is | decide +kernel | rfl)); (case wX_PileError => (first | k_is | decide +kernel | rfl)); (case gX_BadRemainder => (first | k_is | decide +kernel | rfl)); (case oX_BadRemainder => (first | k_is | decide +kernel | rfl)); (case vX_BadRemainder => (first | k_is | decide +kernel | rfl)); (case sX_BadRemainder => (first | k_is | decide +kernel | rfl)); (case xX_BadRemainder => (first | k_is | decide +kernel | rfl)); (case yX_BadRemainder => (first | k_is | decide +kernel | rfl)); (case kX_BadRemainder => (first | k_is | decide +kernel | rfl)); (case bX_BadRemainder => (first | k_is | decide +kernel | rfl)); (case nX_code_BadRemainder => (first | k_is | decide +kernel | rfl)); (case nX_at_BadRemainder => (first | k_is | decide +kernel | rfl)); (case iX_BadRemainder => (first | k_is | decide +kernel | rfl)); (case tX_BadRemainder => (first | k_is | decide +kernel | rfl)); (case lX_BadRemainder => (first | k_is | decide +kernel | rfl)); (case eX_BadRemainder => (first | k_is | decide +kernel | rfl)); (case cX_BadRemainder => (first | k_is | decide +kernel | rfl)); (case wX_BadRemainder => (first | k_is | decide +kernel | rfl)); (case gX_Missing => (first | k_is | decide +kernel | rfl)); (case zc0 => (first | rfl | k_is)); (case zc1 => k_is); (case zc2 => (first | rfl | k_is)); (case zc3 => (first | kernel_rfl | decide +kernel | rfl)); (case zc4 => (first | kernel_rfl | decide +kernel | rfl)); (case zc5 => exact PySem.W.km_tabs_of Y _ (by first | decide | simp))
