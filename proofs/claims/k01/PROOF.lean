import PyProof.Rows.All
import Wide.All
import OpenK.AllK
import Wide.FinOn
import PySem.Challenge.RW_pileports_k01_end_places
import HandS.ForMost
import HandS.Wide
import HandS.WideMore
import HandS.IsInst
import HandS.Star
import HandS.NoneIn
import HandS.Zip
import HandS.Defaults
import HandS.Evl
import HandS.WrittenGet
import HandS.CallLocal
import HandS.TupAny
import HandS.Style
import HandS.More
import HandS.ExcInit
import HandS.ExcField
import HandS.ExcIs
import HandS.WordsExc
import HandS.ClsMeth
import HandS.HotCalls
import HandS.Lambda
import HandS.EndTab
import HandS.Deep
import KE.KNestM
import KE.GoesEnum
import KE.GoesMore
set_option Elab.async false
set_option linter.all false
set_option maxRecDepth 100000
set_option maxHeartbeats 8000000
namespace Z
open PySem PySem.Spec PyProof.Rows L2
def topS (i : Nat) : Stmt := PySem.Challenge.pw_pileports_k01_end_places.main.body.getD i (.Pass ⟨0, 0, 0, 0⟩)
abbrev s_PileError : Stmt := inClass (topS 1) 0
abbrev N_PileError : List Str := ["self", "code"]
abbrev P_PileError : List Str := ["self", "code"]
theorem sc_PileError : FnScope N_PileError P_PileError (defScope s_PileError) := ⟨rfl, rfl, rfl, by decide +kernel, rfl, by decide +kernel, by decide +kernel⟩
abbrev s_BadPlace : Stmt := inClass (topS 2) 0
abbrev N_BadPlace : List Str := ["self", "place"]
abbrev P_BadPlace : List Str := ["self", "place"]
theorem sc_BadPlace : FnScope N_BadPlace P_BadPlace (defScope s_BadPlace) := ⟨rfl, rfl, rfl, by decide +kernel, rfl, by decide +kernel, by decide +kernel⟩
abbrev s_BadText : Stmt := inClass (topS 3) 0
abbrev N_BadText : List Str := ["self", "at"]
abbrev P_BadText : List Str := ["self", "at"]
theorem sc_BadText : FnScope N_BadText P_BadText (defScope s_BadText) := ⟨rfl, rfl, rfl, by decide +kernel, rfl, by decide +kernel, by decide +kernel⟩
abbrev s_BadSize : Stmt := inClass (topS 4) 0
abbrev N_BadSize : List Str := ["self", "size"]
abbrev P_BadSize : List Str := ["self", "size"]
theorem sc_BadSize : FnScope N_BadSize P_BadSize (defScope s_BadSize) := ⟨rfl, rfl, rfl, by decide +kernel, rfl, by decide +kernel, by decide +kernel⟩
abbrev s_NoPlace : Stmt := inClass (topS 5) 0
abbrev N_NoPlace : List Str := ["self", "place"]
abbrev P_NoPlace : List Str := ["self", "place"]
theorem sc_NoPlace : FnScope N_NoPlace P_NoPlace (defScope s_NoPlace) := ⟨rfl, rfl, rfl, by decide +kernel, rfl, by decide +kernel, by decide +kernel⟩
abbrev s_is_number : Stmt := topS 9
abbrev N_is_number : List Str := ["value"]
abbrev P_is_number : List Str := ["value"]
theorem sc_is_number : FnScope N_is_number P_is_number (defScope s_is_number) := ⟨rfl, rfl, rfl, by decide +kernel, rfl, by decide +kernel, by decide +kernel⟩
abbrev s_read_number : Stmt := topS 10
abbrev N_read_number : List Str := ["text", "digits", "digit"]
abbrev P_read_number : List Str := ["text"]
theorem sc_read_number : FnScope N_read_number P_read_number (defScope s_read_number) := ⟨rfl, rfl, rfl, by decide +kernel, rfl, by decide +kernel, by decide +kernel⟩
abbrev s_is_end : Stmt := topS 15
abbrev N_is_end : List Str := ["value"]
abbrev P_is_end : List Str := ["value"]
theorem sc_is_end : FnScope N_is_end P_is_end (defScope s_is_end) := ⟨rfl, rfl, rfl, by decide +kernel, rfl, by decide +kernel, by decide +kernel⟩
abbrev s_is_end_place : Stmt := topS 16
abbrev N_is_end_place : List Str := ["value"]
abbrev P_is_end_place : List Str := ["value"]
theorem sc_is_end_place : FnScope N_is_end_place P_is_end_place (defScope s_is_end_place) := ⟨rfl, rfl, rfl, by decide +kernel, rfl, by decide +kernel, by decide +kernel⟩
abbrev s_check_size : Stmt := topS 17
abbrev N_check_size : List Str := ["size"]
abbrev P_check_size : List Str := ["size"]
theorem sc_check_size : FnScope N_check_size P_check_size (defScope s_check_size) := ⟨rfl, rfl, rfl, by decide +kernel, rfl, by decide +kernel, by decide +kernel⟩
abbrev s_resolve : Stmt := topS 18
abbrev N_resolve : List Str := ["end_place", "size", "end", "depth"]
abbrev P_resolve : List Str := ["end_place", "size"]
theorem sc_resolve : FnScope N_resolve P_resolve (defScope s_resolve) := ⟨rfl, rfl, rfl, by decide +kernel, rfl, by decide +kernel, by decide +kernel⟩
abbrev s_end_text : Stmt := topS 19
abbrev N_end_text : List Str := ["end"]
abbrev P_end_text : List Str := ["end"]
theorem sc_end_text : FnScope N_end_text P_end_text (defScope s_end_text) := ⟨rfl, rfl, rfl, by decide +kernel, rfl, by decide +kernel, by decide +kernel⟩
abbrev s_read_end : Stmt := topS 20
abbrev N_read_end : List Str := ["text"]
abbrev P_read_end : List Str := ["text"]
theorem sc_read_end : FnScope N_read_end P_read_end (defScope s_read_end) := ⟨rfl, rfl, rfl, by decide +kernel, rfl, by decide +kernel, by decide +kernel⟩
abbrev s_place_text : Stmt := topS 21
abbrev N_place_text : List Str := ["end_place", "end", "depth"]
abbrev P_place_text : List Str := ["end_place"]
theorem sc_place_text : FnScope N_place_text P_place_text (defScope s_place_text) := ⟨rfl, rfl, rfl, by decide +kernel, rfl, by decide +kernel, by decide +kernel⟩
abbrev s_parse_place : Stmt := topS 22
abbrev N_parse_place : List Str := ["text", "end_place"]
abbrev P_parse_place : List Str := ["text"]
theorem sc_parse_place : FnScope N_parse_place P_parse_place (defScope s_parse_place) := ⟨rfl, rfl, rfl, by decide +kernel, rfl, by decide +kernel, by decide +kernel⟩
abbrev s__law_bag : Stmt := topS 24
abbrev N__law_bag : List Str := ["_law_script", "_law_salt", "_law_cell"]
abbrev P__law_bag : List Str := ["_law_script"]
theorem sc__law_bag : FnScope N__law_bag P__law_bag (defScope s__law_bag) := ⟨rfl, rfl, rfl, by decide +kernel, rfl, by decide +kernel, by decide +kernel⟩
abbrev s__law_pull : Stmt := topS 25
abbrev N__law_pull : List Str := ["_law_bag_here", "_law_amount", "_law_cell", "_law_got", "_law_seed"]
abbrev P__law_pull : List Str := ["_law_bag_here", "_law_amount"]
theorem sc__law_pull : FnScope N__law_pull P__law_pull (defScope s__law_pull) := ⟨rfl, rfl, rfl, by decide +kernel, rfl, by decide +kernel, by decide +kernel⟩
abbrev s__law_of : Stmt := topS 26
abbrev N__law_of : List Str := ["_law_bag_here", "_law_things"]
abbrev P__law_of : List Str := ["_law_bag_here", "_law_things"]
theorem sc__law_of : FnScope N__law_of P__law_of (defScope s__law_of) := ⟨rfl, rfl, rfl, by decide +kernel, rfl, by decide +kernel, by decide +kernel⟩
abbrev s__law_same : Stmt := topS 27
abbrev N__law_same : List Str := ["_law_found", "_law_due", "_law_one", "_law_other", "_law_key"]
abbrev P__law_same : List Str := ["_law_found", "_law_due"]
theorem sc__law_same : FnScope N__law_same P__law_same (defScope s__law_same) := ⟨rfl, rfl, rfl, by decide +kernel, rfl, by decide +kernel, by decide +kernel⟩
abbrev s__law_field : Stmt := topS 28
abbrev N__law_field : List Str := ["_law_e"]
abbrev P__law_field : List Str := ["_law_e"]
theorem sc__law_field : FnScope N__law_field P__law_field (defScope s__law_field) := ⟨rfl, rfl, rfl, by decide +kernel, rfl, by decide +kernel, by decide +kernel⟩
abbrev s__law_try : Stmt := topS 29
abbrev N__law_try : List Str := ["_law_ask", "_law_e"]
abbrev P__law_try : List Str := ["_law_ask"]
theorem sc__law_try : FnScope N__law_try P__law_try (defScope s__law_try) := ⟨rfl, rfl, rfl, by decide +kernel, rfl, by decide +kernel, by decide +kernel⟩
abbrev s__law_end_text : Stmt := topS 30
abbrev N__law_end_text : List Str := ["_law_end_place"]
abbrev P__law_end_text : List Str := ["_law_end_place"]
theorem sc__law_end_text : FnScope N__law_end_text P__law_end_text (defScope s__law_end_text) := ⟨rfl, rfl, rfl, by decide +kernel, rfl, by decide +kernel, by decide +kernel⟩
abbrev s_law : Stmt := topS 31
abbrev N_law : List Str := ["_law_script", "_law_bag_here", "_law_turn", "_law_depth", "_law_pair", "_law_size", "_law_due", "_law_is_good", "_law_told", "_law_bad"]
abbrev P_law : List Str := ["_law_script"]
theorem sc_law : FnScope N_law P_law (defScope s_law) := ⟨rfl, rfl, rfl, by decide +kernel, rfl, by decide +kernel, by decide +kernel⟩
/-! ### rules whose reading names the written part by its own letter -/
section
variable {X : Cx} {K : PySem.W.Frag}
def rLenQ (K : PySem.W.Frag) : List V → Hp → VK → Prop := fun vs H Q => ∃ a us, vs = [.ref a] ∧ (SqL K H a us ∨ SqT K H a us) ∧ Q (.int us.length) H
def rListQ (K : PySem.W.Frag) : List V → Hp → VK → Prop := fun vs H Q => ∃ a us, vs = [.ref a] ∧ (SqL K H a us ∨ SqT K H a us) ∧ ∀ n, H n = none → Q (.ref n) (upd H n (.lst us))
def rTupleQ (K : PySem.W.Frag) : List V → Hp → VK → Prop := fun vs H Q => ∃ a us, vs = [.ref a] ∧ ((SqL K H a us ∧ ∀ n, H n = none → Q (.ref n) (upd H n (.tup us))) ∨ (SqT K H a us ∧ Q (.ref a) H))
theorem k_ixL (h : X.K = K := by rfl) : IxR X (rIxL K) := h ▸ ix_list
theorem k_ixT (h : X.K = K := by rfl) : IxR X (rIxT K) := h ▸ ix_tup
theorem k_slL (h : X.K = K := by rfl) : SlR X (rSlL K) := h ▸ sl_list
theorem k_len (h : X.K = K := by rfl) : CallR X (.builtin "len") (rLenQ K) := h ▸ call_len_seq
theorem k_list (h : X.K = K := by rfl) : CallR X (.type "list") (rListQ K) := h ▸ call_list_of
theorem k_tuple (h : X.K = K := by rfl) : CallR X (.type "tuple") (rTupleQ K) := h ▸ call_tuple_of
theorem k_max (hc : X.calm = true := by rfl) (h : X.K = K := by rfl) : CallR X (.builtin "max") (rMax K) := h ▸ cr_max hc
theorem k_min (hc : X.calm = true := by rfl) (h : X.K = K := by rfl) : CallR X (.builtin "min") (rMin K) := h ▸ cr_min hc
theorem k_all (hc : X.calm = true := by rfl) (h : X.K = K := by rfl) : CallR X (.builtin "all") (rAll K) := h ▸ cr_all hc
theorem k_isi (h : X.K = K := by rfl) : CallR X (.builtin "isinstance") (rIsi K) := h ▸ call_isi
theorem k_in (h : X.K = K := by rfl) : OpR X (compareOp .In) (rIn K false) := h ▸ op_in_seq
theorem k_notIn (h : X.K = K := by rfl) : OpR X (compareOp .NotIn) (rIn K true) := h ▸ op_notIn_seq
theorem k_eqD (hu : X.A.units + 64 < cLine) (h : X.K = K := by rfl) : OpR X (compareOp .Eq) (rEqD K) := h ▸ op_eqD hu
theorem k_neD (hu : X.A.units + 64 < cLine) (h : X.K = K := by rfl) : OpR X (compareOp .NotEq) (rNeD K) := h ▸ op_neD hu
theorem k_piL {tg l : Expr} {tl : TE} (hl : PE X l tl) (h : X.K = K := by rfl) : PI X tg l (iList K tl) := h ▸ pi_list hl
theorem k_piT {tg l : Expr} {tl : TE} (hl : PE X l tl) (h : X.K = K := by rfl) : PI X tg l (iTup K tl) := h ▸ pi_tup hl
theorem k_gT {es : List Expr} {k : Nat} {t : TGs} {n : Nat} {pos : Pos} (pt : PGs X es t) (hc : X.calm = true := by rfl) (hn : (assignEach es X.env).length = n := by rfl)
    (hst : (assignEach es X.env).findIdx? (·.1) = none := by rfl) (h : X.K = K := by rfl) : PG X (.Tuple es k pos) (gTup K n t) := h ▸ pg_tup hc pt hn hst
theorem k_gL {es : List Expr} {k : Nat} {t : TGs} {n : Nat} {pos : Pos} (pt : PGs X es t) (hc : X.calm = true := by rfl) (hn : (assignEach es X.env).length = n := by rfl)
    (hst : (assignEach es X.env).findIdx? (·.1) = none := by rfl) (h : X.K = K := by rfl) : PG X (.Tuple es k pos) (gUnl K n t) := h ▸ pg_unl hc pt hn hst
theorem k_zip {a b : Expr} {ta : TA} {p pos tpos : Pos} {elts : List Expr} {kk : Nat} (ha : PA X [a, b] ta) (hm : X.mg "zip" = none) (hg : Gl X "zip" := by rfl)
    (h1 : starEach [a, b] X.env = (false, eval a X.env) :: starEach [b] X.env := by rfl) (h2 : (backTo pos (starEach [b] X.env)).any (·.1) = false := by rfl) (h : X.K = K := by rfl) :
    PI X (.Tuple elts kk tpos) (.Call (.Name "zip" p) [a, b] [] pos) (RZ.iZipA K ta) := h ▸ RZ.pi_zipA hg hm ha h1 h2
theorem k_enum {e : Expr} {ta : TA} {p pos tpos : Pos} {elts : List Expr} {kk : Nat} (ha : PA X [e] ta) (hm : X.mg "enumerate" = none) (hg : Gl X "enumerate" := by rfl) (h1 : starEach [e] X.env = [(false, eval e X.env)] := by rfl) (h : X.K = K := by rfl) :
    PI X (.Tuple elts kk tpos) (.Call (.Name "enumerate" p) [e] [] pos) (iEnum K ta) := h ▸ pi_enum hg hm ha h1
end
/-! ### dicts of the module -/
section
variable {X : Cx} {K : PySem.W.Frag} {w : World}
theorem k_slT (h : X.K = K := by rfl) : SlR X (rSlT K) := h ▸ sl_tup
theorem k_ixK (h : X.K = K := by rfl) (h2 : X.w = w := by rfl) : IxR X (rIxD K w) := h ▸ h2 ▸ ix_kdict
def KD (K : PySem.W.Frag) (w : World) (a : Addr) : Prop := ∃ es n, K.lookup a = some ⟨.type "dict", none, .dict es n, #[]⟩ ∧ PySem.W.KeysLit w.params es.toList ∧ (a == sysModules) = false
def tKGet (K : PySem.W.Frag) (w : World) (a : Addr) (te : TE) : TE := fun σ H Q => te σ H fun y H2 => ∃ z, y = .str z ∧ ((∃ v, KDct K w a z v ∧ Q v H2) ∨ (KMiss K w a z ∧ Q .non H2))
theorem pe_kget {a : Addr} {o e : Expr} {apos cpos : Pos} {te : TE} (ho : PE X o (tC (.ref a))) (kd : KD K w a) (he : PE X e te) (m : M1 X o "get" apos e cpos) (h : X.K = K := by rfl) (h2 : X.w = w := by rfl) :
    PE X (.Call (.Attribute o "get" apos) [e] [] cpos) (tKGet K w a te) := by
  subst h h2
  obtain ⟨es, n, hl, hkl, low⟩ := kd
  constructor
  intro pins s σ H Q I hq
  refine wpAny_Call_method m.base m.few m.line PySem.F.plainAttrs_dict PySem.F.slot_dict_get PySem.F.type_dict_get (thn (ho.run pins s σ H (fun x H1 => x = .ref a ∧ H1 = H) I ⟨rfl, rfl⟩) fun u s1 ⟨x, H1, I1, rx, ex, eH⟩ => ?_)
  subst ex eH
  obtain rfl : u = Value.ref a := rx
  have hm := PySem.W.mapOf_K (prog := X.prog) (w := X.w) I1.kIn hl hkl
  refine ⟨hm.typeIs, ?_, ?_⟩
  · intro b eb
    cases eb
    exact ⟨_, I1.kIn _ _ hl, rfl⟩
  rw [m.trees]
  refine Calls.callWith_builtin rfl (Calls.evalArgs_plain (Calls.spliced_cons (thn (he.run pins s1 σ _ _ I1 hq) fun iv s2 ⟨y, H2, I2, ry, z, ey, q2⟩ => Calls.spliced_nil ?_)))
  subst ey
  obtain ⟨t, rfl⟩ := (show ∃ t, iv = Value.str z t from ry)
  have hm2 := PySem.W.mapOf_K (prog := X.prog) (w := X.w) I2.kIn hl hkl
  refine call_meetsIn PySem.F.slot_dict_get hm2.typeIs PySem.F.entry_dict_get (PySem.F.args_dict_get_2 _ _) (meets_dict_get (strKind X.prog X.w) a (strKind_is X.prog X.w z t) low) ⟨_, hm2, ?_⟩
  rcases q2 with ⟨v, ⟨es', n', u0, hl', hk', e, ru⟩, q⟩ | ⟨⟨es', n', hl', hk', low', e⟩, q⟩
  · rw [PySem.W.find_K hl e]
    exact ⟨v, H2, I2.tok _, ru, q⟩
  · rw [PySem.W.find_K hl e]
    exact ⟨.non, H2, I2.tok _, rfl, q⟩
end
/-! ### a def that stands in a class, called by the class's name -/
section
variable {X : Cx}
def tFnC (sp : Sp) (E : XK) (t : TA) : TE := fun σ H Q => t σ H fun vs H1 => sp vs H1 Q E
theorem pe_clsfn {CX : CXT} {k : Nat} {C g : Addr} {mc : Value} {fd : FuncData} {ps : List Str} {sp : Sp} {E : XK} {x m : Str} {e : Expr} {es : List Expr} {t : TA} {p1 p2 pos : Pos} {pl : Sem Bool}
    (hg : Gl X x) (hm : X.mg x = some (.ref C)) (r : ClX.CRead X.K C mc) (c : ClX.CVal X.K C mc m (.ref g) (.ref g)) (F : FnOk X.prog X.w X.K X.mg X.base CX k g fd ps sp) (hr : Room k X.A) (hk : PySem.W.keepIn X.K (.ref g) = true) (hb : Binds X.K fd ps []) (hx : Passes CX X E) (ha : PA X (e :: es) t)
    (hdb : (x == ("__debug__" : Str)) = false := by decide)
    (hst : starEach (e :: es) X.env = (false, eval e X.env) :: starEach es X.env := by rfl) (hpl : (backTo pos (starEach es X.env)).any (·.1) = false := by rfl)
    (ht : eval (.Call (.Attribute (.Name x p1) m p2) (e :: es) [] pos) X.env = (do
      let ov ← eval (.Name x p1) X.env
      standAt p2.atName
      let (f, first) ← holding [ov] (getMethod ov m pl)
      callWith pos f first (backTo pos (starEach (e :: es) X.env)) (backToKw pos (keywordEach [] X.env))) := by rfl) :
    PE X (.Call (.Attribute (.Name x p1) m p2) (e :: es) [] pos) (tFnC sp E t) := by
  refine ⟨fun pins s σ H Q I h => ?_⟩
  refine PySem.W.methodCall_KW (pl := pl) (ld_glob I hg hm ?_ hdb) ht
  refine PySem.W.method_cls I.kIn r.ga (ClX.getcval_ok I r c fun s2 I2 => ?_)
  refine PySem.W.callWith_K (h₀ := X.base) I2.ok.mod.kin hk (thn (ha.run pos pins s2 σ H _ I2 h) fun us s3 ⟨vs, H2, I3, rv, q2⟩ => ⟨I3.kIn, ?_⟩) hst hpl
  have q3 : sp (vs ++ []) H2 Q E := by rw [List.append_nil]; exact q2
  exact run_fn F hr hb .nil hx I3 rv q3
end
/-! ### a field of the exception that is pinned -/
/-- what the written part says of an exception's class: its field f is read -/
structure XRd (K : PySem.W.Frag) (C : Addr) (f : Str) : Prop where
  cls : XfC K C
  no : PySem.W.findIn K (.ref C) f = some none
def tXg (K : PySem.W.Frag) (a : Addr) (cls : Value) (d : Option Addr) (f : Str) (te : TE) : TE := fun σ H Q => te σ H fun x H1 => x = .ref a ∧ ∃ (C dd : Addr) (fs : List (Str × V)) (v : V), cls = .ref C ∧ d = some dd ∧ XRd K C f ∧ H1 dd = some (.xd fs) ∧ fs.lookup f = some v ∧ Q v H1
theorem pe_xg {X : Cx} {p : Addr × Obj} {cls : Value} {d : Option Addr} {e : Expr} {te : TE} {pos : Pos} {n : Str} (hp : p ∈ X.pn) (hz : Zc cls d p.2) (hf : ∃ vs, p.2.data = .fields vs) (he : PE X e te) (hb : attributeBase e n X.env (eval e X.env) = eval e X.env := by rfl) : PE X (.Attribute e n pos) (tXg X.K p.1 cls d n te) := by
  refine ⟨fun pins s σ H Q I h => ?_⟩
  refine attr_of hb (thn (he.run pins s σ H _ I h) fun u s1 hh => ?_)
  obtain ⟨x, H1, I1, rx, ex, C, dd, fs, v, hc0, hd0, T, ea, l, q⟩ := hh
  obtain ⟨vs, hd⟩ := hf
  have hc : p.2.cls = .ref C := hz.1.trans hc0
  have hdd : p.2.dict = some dd := hz.2.trans hd0
  subst ex
  obtain rfl : u = Value.ref p.1 := rx
  obtain ⟨ha, _⟩ := I1.pin p (List.mem_append_left _ hp)
  have hx : ObjOk X.prog X.w H1 s1.heap dd (.xd fs) := I1.hok dd _ ea
  obtain ⟨mA, hns, hr⟩ := hx
  obtain ⟨od, ho, hl⟩ := lookIn_ns hns
  obtain ⟨u, hu, ru⟩ := RelO.some_of (v := v) (o := mA n) (by rw [← l]; exact hr n)
  have J : PySem.W.InstAt s1.heap p.1 p.2 C (some od) := ⟨ha, hc, by unfold PySem.W.notCls; rw [hd] <;> rfl, by rw [hdd]; exact ho⟩
  exact HandSPX.exc_get I1.kIn J T.cls.ga T.cls.gg T.cls.exC (PySem.W.findObj_own T.cls.hdC T.no rfl (by rw [hl, hu])) (handed_of ru) ⟨v, H1, I1.tok _, ru, q⟩
theorem k_xg {K : PySem.W.Frag} {X : Cx} {p : Addr × Obj} {cls : Value} {d : Option Addr} {e : Expr} {te : TE} {pos : Pos} {n : Str} (hp : p ∈ X.pn) (hz : Zc cls d p.2) (hf : ∃ vs, p.2.data = .fields vs) (he : PE X e te) (hb : attributeBase e n X.env (eval e X.env) = eval e X.env := by rfl) (h : X.K = K := by rfl) : PE X (.Attribute e n pos) (tXg K p.1 cls d n te) := h ▸ pe_xg hp hz hf he hb
/-! ### a def called while the exception p is pinned -/
structure FnP (P : Program) (w : World) (K : PySem.W.Frag) (mg : Str → Option Value) (base : Heap) (k : Nat) (f : Addr) (fd : FuncData) (ps : List Str) (sp : Addr → Value → Option Addr → Sp) : Prop where
  len : ∀ a cls d vs H Q E, sp a cls d vs H Q E → vs.length = ps.length
  run : ∀ (A : Around) (outer : List Env) (s : Shared) (H : Hp) (args : Args) (us : List Value) (vs : List V) (Q : VK) (p : Addr × Obj) (cls : Value) (d : Option Addr), Zc cls d p.2 → (∃ vs, p.2.data = .fields vs) → L2H.RoomH k A → L2H.PinOk outer H s p → Env0 P w K mg base A outer s H → BindsTo s fd args (ps.zip us) → Vals vs us → sp p.1 cls d vs H Q E0 →
    codeAny (model P w) A (.call (.ref f) args) (CR CX0 outer P w H s Q E0) s
theorem fn_ofP {P : Program} {w : World} {K : PySem.W.Frag} {mg : Str → Option Value} {base : Heap} {k : Nat} {f : Addr} {name qual : Str} {params : Arguments} {body : List Stmt} {scope : Scope} {dV kV doc pm cdv ct oc : Value} {an od : Option Addr}
    {osl : Array (Option Value)} {N ps : List Str} {sp : Addr → Value → Option Addr → Sp} (lk : K.lookup f = some ⟨oc, od, .func (PySem.W.fnOf name qual params body scope dV kV doc pm an cdv ct), osl⟩) (hcd : PySem.W.codeIn K cdv qual = true) (S : FnScope N ps scope)
    (len : ∀ a cls d vs H Q E, sp a cls d vs H Q E → vs.length = ps.length)
    (hbody : ∀ (A : Around) (outer : List Env) (s : Shared) (H : Hp) (vs : List V) (Q : VK) (p : Addr × Obj) (cls : Value) (d : Option Addr), Zc cls d p.2 → (∃ vs, p.2.data = .fields vs) → L2H.RoomH k (A.deeper (envOfC qual scope s.heap.objs.size f cdv)) → sp p.1 cls d vs H Q E0 →
      ∃ t, PSs (L2H.cxH CX0 P w K mg base N qual scope f cdv A outer s H E0 p).nox body t ∧ t { nx := fun _ H' => Q .non H', rt := Q } (L2.start N vs) H) :
    FnP P w K mg base (k + 1) f (PySem.W.fnOf name qual params body scope dV kV doc pm an cdv ct) ps sp := by
  refine ⟨len, fun A outer s H args us vs Q p cls d hz hf hr hpin e0 hb r hsp => ?_⟩
  have hl := len _ _ _ _ _ _ _ hsp
  have KX : K.In s.heap := e0.mod.kin.keeps fun b o e => (e0.bs b o e).1
  have lim : s.heap.NoLimit := e0.mod.nolimit.keeps fun b o e => (e0.bs b o e).1
  have hkind : ∀ y ∈ ps.zip us, scope.names.lookup y.1 = some .local ∨ (scope.names.lookup y.1 = some .cell ∧ ((cellsFrom (s.heap.objs.size + 1) scope.names []).lookup y.1).isSome = true) := fun ⟨n, v⟩ hy => by
    rcases S.par n (List.of_mem_zip hy).1 with q | q
    · exact .inl q
    · exact .inr ⟨q, PySem.W.cellsFrom_some _ _ _ (.inl q)⟩
  refine codeAny_call_function hr.depth (KX _ _ lk) rfl S.co S.gen rfl (PySem.W.codeRec_of KX hcd) (hb _ _ _ _ ?_)
  refine wpAny_newFunctionEnv_cells S.kind hkind fun env he s1 x => ?_
  subst he
  refine ⟨lim.keeps x.toInCall.keep, codeAny_func ?_⟩
  obtain ⟨t, ht0, hq⟩ := hbody A outer s H vs Q p cls d hz hf (hr.deeper _) hsp
  have ht := ht0.nox
  have I : Inv (L2H.cxH CX0 P w K mg base N qual scope f cdv A outer s H E0 p) [] (L2.start N vs) H s1 := L2H.inv_startH S hpin e0 hl r x
  refine wpAny_mono (ht.run [] s1 (L2.start N vs) H _ I hq) (fun fl s' hs => ?_) fun e s' hs => hs
  have fin : ∀ {σ' : L2.St} {H' : Hp} {v : V} {u : Value}, Inv (L2H.cxH CX0 P w K mg base N qual scope f cdv A outer s H E0 p) [] σ' H' s' → RelV v u → Q v H' → CE outer P w H s Q u s' :=
    fun {σ' H' v u} J rv q => ⟨v, H', J.os, J.bare, J.base, J.hok, rv, q⟩
  cases fl with
  | ret u =>
    obtain ⟨v, σ', H', J, rv, q⟩ := hs
    exact fin J rv q
  | next =>
    obtain ⟨σ', H', J, q⟩ := hs
    exact fin (v := V.non) (u := Value.none) J rfl q
  | brk =>
    obtain ⟨_, _, _, q⟩ := hs
    exact False.elim q
  | cont =>
    obtain ⟨_, _, _, q⟩ := hs
    exact False.elim q
def tCallP (sp : Addr → Value → Option Addr → Sp) (a : Addr) (cls : Value) (d : Option Addr) (t : TA) : TE := fun σ H Q => t σ H fun vs H1 => sp a cls d vs H1 Q E0
theorem pe_callP {X : Cx} {k : Nat} {f : Addr} {fd : FuncData} {ps : List Str} {sp : Addr → Value → Option Addr → Sp} {x : Str} {q pos : Pos} {e : Expr} {es : List Expr} {t : TA} {p : Addr × Obj} {cls : Value} {d : Option Addr} (hp : p ∈ X.pn) (hz : Zc cls d p.2) (hf : ∃ vs, p.2.data = .fields vs) (F : FnP X.prog X.w X.K X.mg X.base k f fd ps sp) (hr : L2H.RoomH k X.A)
    (hg : Gl X x) (hm : X.mg x = some (.ref f)) (hk : PySem.W.keepIn X.K (.ref f) = true) (hb : Binds X.K fd ps [])
    (ha : PA X (e :: es) t) (hdb : (x == ("__debug__" : Str)) = false := by decide) (he : starEach (e :: es) X.env = (false, eval e X.env) :: starEach es X.env := by rfl) (hpl : (backTo pos (starEach es X.env)).any (·.1) = false := by rfl) :
    PE X (.Call (.Name x q) (e :: es) [] pos) (tCallP sp p.1 cls d t) := by
  refine ⟨fun pins s σ H Q I h => ?_⟩
  refine wpAny_Call_Name_kw (ld_glob I hg hm ?_ hdb)
  refine PySem.W.callWith_K (h₀ := X.base) I.ok.mod.kin hk (thn (ha.run pos pins s σ H _ I h) fun us s1 ⟨vs, H1, I1, r, q1⟩ => ⟨I1.kIn, ?_⟩) he hpl
  have hl : us.length = ps.length := by rw [← r.length]; exact F.len _ _ _ _ _ _ _ q1
  have b := hb s1 us I1.kIn (by rw [List.append_nil]; exact hl)
  rw [List.append_nil] at b
  have P1 := I1.pin p (List.mem_append_left _ hp)
  have hpin : L2H.PinOk X.stack H1 s1 p := ⟨P1.1, P1.2.1, fun hm => (List.mem_cons.mp (I1.stkSub p.1 hm)).elim P1.2.2.1 P1.2.2.2.1, P1.2.2.2.2⟩
  refine wpAny_call (codeAny_mono (F.run X.A X.stack s1 H1 ⟨us, []⟩ us vs Q p cls d hz hf hr hpin I1.env0 b r q1) fun r s' hq => ?_)
  cases r with
  | error e => exact (show False from hq).elim
  | ok fl =>
    cases fl with
    | ret u => exact I1.after hq
    | next => exact False.elim hq
    | brk => exact False.elim hq
    | cont => exact False.elim hq
/-! ### several except clauses with names -/
def wManyA (K : PySem.W.Frag) (n : Nat) (Wout : WX) (D : Ends) : List (Value × Nat × (Addr → Value → Option Addr → TS)) → WX
  | [] => Wout
  | (c, i, ts) :: r => fun cls d σ H => ∃ b, PySem.W.exmOne K cls c = some b ∧
      (b = true → ∀ a, H a = none → σ.length = n → ts a cls d { nx := fun σ' H' => D.nx (σ'.set i none) H', rt := D.rt, bk := fun σ' H' => D.bk (σ'.set i none) H', ct := fun σ' H' => D.ct (σ'.set i none) H' } (σ.set i (some (.ref a))) H) ∧
      (b = false → wManyA K n Wout D r cls d σ H)
inductive HdsA (X : Cx) : List ExceptHandler → List (Value × Nat × (Addr → Value → Option Addr → TS)) → Prop
  | nil : HdsA X [] []
  | cons {x n : Str} {c : Value} {i : Nat} {ts : Addr → Value → Option Addr → TS} {b₀ : Stmt} {suite : List Stmt} {np pos' : Pos} {hds : List ExceptHandler} {l : List (Value × Nat × (Addr → Value → Option Addr → TS))} (hc : Names X x c) (hi : X.N[i]? = some n) (hln : X.env.kindOf n = some .local)
      (hsu : ∀ (a : Addr) (oe : Obj) (cls : Value) (d : Option Addr) (pn : List (Addr × Obj)), Zc cls d oe → (∃ vs, oe.data = .fields vs) → PSs (X.suite a ((a, oe) :: pn)) (b₀ :: suite) (ts a cls d)) (r : HdsA X hds l) :
      HdsA X (.ExceptHandler (some (.Name x np)) (some n) (b₀ :: suite) pos' :: hds) ((c, i, ts) :: l)
section
variable {X : Cx} {body : List Stmt} {h₀ : ExceptHandler} {hds : List ExceptHandler} {l : List (Value × Nat × (Addr → Value → Option Addr → TS))} {pos : Pos} {tb : WX → TS} {Wout : WX}
theorem ps_try_manyA (hs : X.stack = X.env :: X.outer) (hf : X.env.frame = some X.env.locals) (hN : X.N.Nodup) (tk : Takes X Wout)
    (hb : ∀ (W : WX) (pn : List (Addr × Obj)) (xe : Value → Shared → Prop), Takes (X.tr pn xe) W → PassesOwn (model X.prog X.w) X.A X.env xe → PSs (X.tr pn xe) body (tb W))
    (hh : HdsA X (h₀ :: hds) l) : PS X (.Try body (h₀ :: hds) [] [] pos) (fun D σ H => tb (wManyA X.K X.N.length Wout D l) D σ H) := by
  refine ⟨fun pins s σ H D I h => ?_⟩
  have ok := I.ok
  have hfr : X.A.frames = some (X.env :: X.outer) := by rw [ok.frames, hs]
  refine wpAny_Try_except ?_
  refine wpAny_mono ((hb (wManyA X.K X.N.length Wout D l) (X.pn ++ pins) (fun e s₁ => wpAny (model X.prog X.w) X.A (noteFrame e X.env) (fun _ s₂ => wpAny (model X.prog X.w) X.A (setFlight e none) (fun _ s₃ =>
    wpAny (model X.prog X.w) X.A (handleBy e X.env (h₀ :: hds)) (SP X pins D) X.xe s₃) X.xe s₂) X.xe s₁) (fun u s' xx => ?_) PassesOwn.looking).run [] s σ H D (I.toTry _) h) (fun f s1 hsp => ?_) (fun e s1 he => he)
  · -- the catch
    obtain ⟨a, B, sI, pins', σ', H', cls, d, rfl, J', nb, up, sky, na, os, ag, w⟩ := xx
    have J : Inv X pins σ' H' sI := J'.ofTry ok
    have sky' : Sky B (X.env :: X.outer) a (Zc cls d) X.env.locals s'.heap := by rw [← hs]; exact sky
    show wpAny (model X.prog X.w) X.A (noteFrame (.ref a) X.env) _ _ _
    refine Sky.land Zc.steady hfr hf sky' fun h3 fl3 up3 => ?_
    have J3 : Inv X pins σ' H' { s' with heap := h3 } := J.landed nb fl3.1 (up.trans up3) os ag
    obtain ⟨oe3, vs3, he3, hz3, hd3⟩ := fl3.there
    have notFr : ∀ {h : Heap} {o : Obj} {vs : Array Value}, h.FunFrames B (X.env :: X.outer) → h.get? a = some o → o.data = .fields vs → a ∉ frs (X.env :: X.outer) := fun {h o vs} ff e dd hm => by
      obtain ⟨_, o', e', hnf⟩ := ff.mem hm
      rw [e] at e'; cases e'
      exact hnf _ dd
    have nfr := notFr fl3.2.2.1 he3 hd3
    have nL : a ≠ X.env.locals := fun z => nfr (List.mem_filterMap.mpr ⟨X.env, List.mem_cons_self, by rw [hf, z]⟩)
    have nF : a ∉ X.fs := fun hm => by
      obtain ⟨e, he, q⟩ := List.mem_filterMap.mp hm
      exact nfr (List.mem_filterMap.mpr ⟨e, List.mem_cons_of_mem _ he, q⟩)
    have S3 := J3.suite he3 hd3 na nL nF
    have go : ∀ {hds' : List ExceptHandler} {l' : List (Value × Nat × (Addr → Value → Option Addr → TS))}, HdsA X hds' l' → wManyA X.K X.N.length Wout D l' cls d σ' H' →
        wpAny (model X.prog X.w) X.A (handleBy (.ref a) X.env hds') (SP X pins D) X.xe { s' with heap := h3 } := by
      intro hds' l' hk
      induction hk with
      | nil =>
        intro w
        refine wpAny_handleBy_nil ?_
        obtain ⟨k1, k2, k3, oe, vs, T, oT, ts', he, hz, hd, h1, hr⟩ := id fl3
        unfold PySem.passOn
        refine wpAny_bind (wpAny_field he hd h1 ?_)
        rw [if_neg (show ¬ ((Value.ref T == Value.none) = true) from by simp)]
        have fin : wpAny (model X.prog X.w) X.A (setFlight (.ref a) X.env.frame) (fun _ s4 => wpAny (model X.prog X.w) X.A (throw (.ref a) : Sem Flow) (SP X pins D) X.xe s4) X.xe { s' with heap := h3 } := by
          rw [hf]
          refine HandSPX.setFlight_upZ fl3 fun h4 hh4 up4 => wpAny_throw (tk _ _ ?_)
          exact ⟨a, B, sI, pins, σ', H', cls, d, rfl, J, nb, (up.trans up3).trans up4, .inr (.inr (by rw [hs]; exact hh4)), na, os, ag, w⟩
        first
          | exact wpAny_bind (wpAny_pure (wpAny_bind fin))
          | exact wpAny_bind fin
      | @cons x n c i ts b₀ suite np pos' hds2 l2 hc hi hln hsu r ih =>
        intro w
        obtain ⟨b, hb1, hyes, hno⟩ := w
        have hloc : Loc X.env.scope n := .inl hln
        refine wpAny_handleBy_cons (codeAny_handlers_test ?_) (by intro q; cases q)
        have LT : PySem.W.Looks (model X.prog X.w) h3 (typeOf (.ref a)) cls := fun A Q E s k q => wpAny_typeOf_ref (k _ _ he3) (by rw [hz3.1]; exact q)
        have LM := PySem.W.exm_one (M := model X.prog X.w) (J3.kIn) LT hb1
        have test : ∀ {Q : Value → Shared → Prop} {E : Value → Shared → Prop}, Q c { s' with heap := h3 } → wpAny (model X.prog X.w) (X.A.mark (some (.ref a))) (eval (.Name x np) X.env) Q E { s' with heap := h3 } := fun {Q E} q => by
          obtain ⟨hg, hdbg, hm | ⟨hm, hv, hnn⟩⟩ := hc
          · exact ld_glob (X := X.suite a ((a, oe3) :: (X.pn ++ pins))) S3 hg hm q hdbg
          · exact ld_blt (X := X.suite a ((a, oe3) :: (X.pn ++ pins))) S3 hg hm hv q hnn hdbg
        refine test (LM.here ?_)
        cases b with
        | true =>
          refine codeAny_handlers_suite_as ?_
          refine HandSPX.lands_againZ fl3 fun h4 fl4 up4 => ?_
          have J4 : Inv X pins σ' H' { s' with heap := h4 } := J.landed nb fl4.1 ((up.trans up3).trans up4) os ag
          obtain ⟨oe4, vs4, he4, hz4, hd4⟩ := fl4.there
          have S4 := J4.suite he4 hd4 na nL nF
          refine store_ok (X := X.suite a ((a, oe4) :: (X.pn ++ pins))) (v := .ref a) S4 hN hi hloc rfl (fun s5 S5 => ?_) (.inr hln)
          refine wpAny_mono ((hsu a oe4 cls d (X.pn ++ pins) hz4 ⟨_, hd4⟩).run [] s5 _ H' _ S5 (hyes rfl a na J.len)) (fun f s6 hsp => ?_) (fun _ _ z => False.elim z)
          have end_ : ∀ {σ6 : L2.St} {H6 : Hp} {Q : Shared → Prop}, Inv (X.suite a ((a, oe4) :: (X.pn ++ pins))) [] σ6 H6 s6 → (∀ s7, Inv X pins (σ6.set i none) H6 s7 → Q s7) →
              wpAny (model X.prog X.w) X.A (do bindName X.env n .none; unbindBehindTheSuite X.env n pos') (fun _ s7 => Q s7) X.xe s6 := fun {σ6 H6 Q} S6 hq => gone_ok (S6.unsuite ok) hN hi hln hq
          cases f with
          | next =>
            obtain ⟨σ6, H6, S6, q6⟩ := hsp
            exact end_ S6 fun s7 J7 => ⟨_, _, J7, q6⟩
          | brk =>
            obtain ⟨σ6, H6, S6, q6⟩ := hsp
            exact end_ S6 fun s7 J7 => ⟨_, _, J7, q6⟩
          | cont =>
            obtain ⟨σ6, H6, S6, q6⟩ := hsp
            exact end_ S6 fun s7 J7 => ⟨_, _, J7, q6⟩
          | ret u =>
            obtain ⟨v6, σ6, H6, S6, r6, q6⟩ := hsp
            exact end_ S6 fun s7 J7 => ⟨_, _, _, J7, r6, q6⟩
        | false =>
          show wpAny _ X.A (handleBy (.ref a) X.env hds2) _ _ _
          exact ih (hno rfl)
    exact go hh w
  · cases f with
    | next =>
      obtain ⟨σ', H', J', q⟩ := hsp
      exact wpAny_execs_nil ⟨σ', H', J'.ofTry ok, q⟩
    | brk =>
      obtain ⟨σ', H', J', q⟩ := hsp
      exact ⟨σ', H', J'.ofTry ok, q⟩
    | cont =>
      obtain ⟨σ', H', J', q⟩ := hsp
      exact ⟨σ', H', J'.ofTry ok, q⟩
    | ret u =>
      obtain ⟨v, σ', H', J', r, q⟩ := hsp
      exact ⟨v, σ', H', J'.ofTry ok, r, q⟩
end
/-! ### what the written part says of the classes of errors, of the law's code -/
structure FunC (K : PySem.W.Frag) (x qual : Str) (st : Stmt) (f : Addr) (fd : FuncData) (c : Addr) : Prop where
  ex : ∃ (oc : Value) (od : Option Addr) (kV doc pm : Value) (an : Option Addr) (ct : Value) (osl : Array (Option Value)),
    fd = PySem.W.fnOf x qual (defArgs st) (defBody st) (defScope st) .none kV doc pm an (.ref c) ct ∧ K.lookup f = some ⟨oc, od, .func fd, osl⟩ ∧ PySem.W.codeIn K (.ref c) qual = true
  kp : PySem.W.keepIn K (.ref f) = true
theorem FunC.ok {P : Program} {w : World} {K : PySem.W.Frag} {mg : Str → Option Value} {base : Heap} {x qual : Str} {st : Stmt} {f c : Addr} {fd : FuncData} {N ps : List Str} {k : Nat} {sp : Sp} (F : FunC K x qual st f fd c) (S : FnScope N ps (defScope st)) (len : ∀ vs H Q E, sp vs H Q E → vs.length = ps.length)
    (hbody : ∀ (A : Around) (outer : List Env) (s : Shared) (H : Hp) (vs : List V) (Q : VK) (E : XK), Room k (A.deeper (envOfC qual (defScope st) s.heap.objs.size f (.ref c))) → sp vs H Q E →
      ∃ t, PSs (cxOf CX0 P w K mg base N qual (defScope st) f (.ref c) A outer s H E).nox (defBody st) t ∧ t { nx := fun _ H' => Q .non H', rt := Q } (start N vs) H) : FnOk P w K mg base CX0 (k + 1) f fd ps sp := by
  obtain ⟨oc, od, kV, doc, pm, an, ct, osl, rfl, lk, hcd⟩ := F.ex
  refine fn_of lk hcd S len fun A outer s H vs Q E hr hsp => ?_
  obtain ⟨t, h, q⟩ := hbody A outer s H vs Q E hr hsp
  exact ⟨t, h.nox, q⟩
structure ExcT (K : PySem.W.Frag) (C PE : Addr) (fs : List Str) : Prop where
  o : OexC K C
  x : XfC K C
  no : ∀ f ∈ fs, PySem.W.findIn K (.ref C) f = some none
  e : PySem.W.exmOne K (.ref C) (.ref PE) = some true
theorem ExcT.rd {K : PySem.W.Frag} {C PE : Addr} {fs : List Str} (T : ExcT K C PE fs) {f : Str} (h : f ∈ fs) : XRd K C f := ⟨T.x, T.no f h⟩
theorem binds_pe {K : PySem.W.Frag} {f : Addr} {fd : FuncData} (F : FunD K "__init__" "PileError.__init__" (defArgs s_PileError) (defBody s_PileError) (defScope s_PileError) [.str "PileError"] [] f fd) : Binds K fd P_PileError [] := by
  obtain ⟨ds, h1, h2⟩ := F.binds1 (ps := P_PileError) 2 1 (List.cons_ne_nil _ _) rfl (fun T kV doc pm an cdv ct us its hu hi => match us, hu, its, hi with | [_, _], _, [_], _ => ⟨_, rfl, rfl⟩)
  cases h1
  exact h2
theorem tabs_nil {H : Hp} {P : Addr} {q : Str} (h : H P = some (.tbl #[])) : LamX.Tabs [(P, q)] H := fun p hp => by
  rw [List.mem_singleton.mp hp]
  exact LamX.TabS.nil h
/-! ### a dict of the module that has no such key -/
def keysIn (ks : List Str) (es : List DictEntry) : Bool := es.all fun e => !e.refKey && (match e.key with | .str y _ => ks.contains y | _ => false)
theorem miss_of {K : PySem.W.Frag} {w : World} {a : Addr} {es : Array DictEntry} {n : Nat} {ks : List Str} (hl : K.lookup a = some ⟨.type "dict", none, .dict es n, #[]⟩) (hk : PySem.W.KeysLit w.params es.toList) (hs : (a == sysModules) = false)
    (h : keysIn ks es.toList = true) (z : Str) (hz : z ∉ ks) : KMiss K w a z := by
  refine ⟨es, n, hl, hk, hs, ?_⟩
  unfold PySem.W.nsIn
  rw [hl]
  have h' := List.all_eq_true.mp h
  have e1 : es.toList.find? (·.key.isStr z) = none := by
    refine List.find?_eq_none.mpr fun e he q => ?_
    obtain ⟨_, h2⟩ := Bool.and_eq_true_iff.mp (h' e he)
    split at h2
    · rename_i y t ey
      rw [ey] at q
      have : y = z := by
        first
          | exact eq_of_beq q
          | simpa [Value.isStr] using q
      rw [this] at h2
      exact hz (List.contains_iff_mem.mp h2)
    · cases h2
  have e2 : es.toList.any (·.refKey) = false := by
    refine Bool.eq_false_iff.mpr fun q => ?_
    obtain ⟨e, he, q⟩ := List.any_eq_true.mp q
    obtain ⟨h1, _⟩ := Bool.and_eq_true_iff.mp (h' e he)
    rw [q] at h1
    cases h1
  dsimp only
  rw [e1, e2]
  rfl
structure Txt (K : PySem.W.Frag) (mg : Str → Option Value) (w : World) where
  a_is_number : Addr
  d_is_number : FuncData
  F_is_number : Fun K "is_number" "is_number" s_is_number a_is_number d_is_number
  g_is_number : mg "is_number" = some (.ref a_is_number)
  b_is_number : Binds K d_is_number P_is_number []
  a_read_number : Addr
  d_read_number : FuncData
  F_read_number : Fun K "read_number" "read_number" s_read_number a_read_number d_read_number
  g_read_number : mg "read_number" = some (.ref a_read_number)
  b_read_number : Binds K d_read_number P_read_number []
  a_is_end : Addr
  d_is_end : FuncData
  F_is_end : Fun K "is_end" "is_end" s_is_end a_is_end d_is_end
  g_is_end : mg "is_end" = some (.ref a_is_end)
  b_is_end : Binds K d_is_end P_is_end []
  a_is_end_place : Addr
  d_is_end_place : FuncData
  F_is_end_place : Fun K "is_end_place" "is_end_place" s_is_end_place a_is_end_place d_is_end_place
  g_is_end_place : mg "is_end_place" = some (.ref a_is_end_place)
  b_is_end_place : Binds K d_is_end_place P_is_end_place []
  a_check_size : Addr
  d_check_size : FuncData
  F_check_size : Fun K "check_size" "check_size" s_check_size a_check_size d_check_size
  g_check_size : mg "check_size" = some (.ref a_check_size)
  b_check_size : Binds K d_check_size P_check_size []
  a_resolve : Addr
  d_resolve : FuncData
  F_resolve : Fun K "resolve" "resolve" s_resolve a_resolve d_resolve
  g_resolve : mg "resolve" = some (.ref a_resolve)
  b_resolve : Binds K d_resolve P_resolve []
  a_end_text : Addr
  d_end_text : FuncData
  F_end_text : Fun K "end_text" "end_text" s_end_text a_end_text d_end_text
  g_end_text : mg "end_text" = some (.ref a_end_text)
  b_end_text : Binds K d_end_text P_end_text []
  a_read_end : Addr
  d_read_end : FuncData
  F_read_end : Fun K "read_end" "read_end" s_read_end a_read_end d_read_end
  g_read_end : mg "read_end" = some (.ref a_read_end)
  b_read_end : Binds K d_read_end P_read_end []
  a_place_text : Addr
  d_place_text : FuncData
  F_place_text : Fun K "place_text" "place_text" s_place_text a_place_text d_place_text
  g_place_text : mg "place_text" = some (.ref a_place_text)
  b_place_text : Binds K d_place_text P_place_text []
  a_parse_place : Addr
  d_parse_place : FuncData
  F_parse_place : Fun K "parse_place" "parse_place" s_parse_place a_parse_place d_parse_place
  g_parse_place : mg "parse_place" = some (.ref a_parse_place)
  b_parse_place : Binds K d_parse_place P_parse_place []
  a__law_bag : Addr
  d__law_bag : FuncData
  F__law_bag : Fun K "_law_bag" "_law_bag" s__law_bag a__law_bag d__law_bag
  g__law_bag : mg "_law_bag" = some (.ref a__law_bag)
  b__law_bag : Binds K d__law_bag P__law_bag []
  a__law_pull : Addr
  d__law_pull : FuncData
  F__law_pull : Fun K "_law_pull" "_law_pull" s__law_pull a__law_pull d__law_pull
  g__law_pull : mg "_law_pull" = some (.ref a__law_pull)
  b__law_pull : Binds K d__law_pull P__law_pull []
  a__law_of : Addr
  d__law_of : FuncData
  F__law_of : Fun K "_law_of" "_law_of" s__law_of a__law_of d__law_of
  g__law_of : mg "_law_of" = some (.ref a__law_of)
  b__law_of : Binds K d__law_of P__law_of []
  a__law_same : Addr
  d__law_same : FuncData
  F__law_same : Fun K "_law_same" "_law_same" s__law_same a__law_same d__law_same
  g__law_same : mg "_law_same" = some (.ref a__law_same)
  b__law_same : Binds K d__law_same P__law_same []
  a__law_field : Addr
  d__law_field : FuncData
  F__law_field : Fun K "_law_field" "_law_field" s__law_field a__law_field d__law_field
  g__law_field : mg "_law_field" = some (.ref a__law_field)
  b__law_field : Binds K d__law_field P__law_field []
  a__law_try : Addr
  d__law_try : FuncData
  F__law_try : Fun K "_law_try" "_law_try" s__law_try a__law_try d__law_try
  g__law_try : mg "_law_try" = some (.ref a__law_try)
  b__law_try : Binds K d__law_try P__law_try []
  a__law_end_text : Addr
  d__law_end_text : FuncData
  F__law_end_text : Fun K "_law_end_text" "_law_end_text" s__law_end_text a__law_end_text d__law_end_text
  g__law_end_text : mg "_law_end_text" = some (.ref a__law_end_text)
  b__law_end_text : Binds K d__law_end_text P__law_end_text []
  a_law : Addr
  d_law : FuncData
  F_law : Fun K "law" "law" s_law a_law d_law
  g_law : mg "law" = some (.ref a_law)
  c_law : Addr
  p_law : Addr
  C_law : FunC K "law" "law" s_law a_law d_law c_law
  a_PileError : Addr
  g_PileError : mg "PileError" = some (.ref a_PileError)
  f_PileError : Addr
  d_PileError : FuncData
  F_PileError : FunD K "__init__" "PileError.__init__" (defArgs s_PileError) (defBody s_PileError) (defScope s_PileError) [.str "PileError"] [] f_PileError d_PileError
  b_PileError : Binds K d_PileError P_PileError []
  r_PileError : ClX.CRead K a_PileError (.type "type")
  v_PileError : ClX.CVal K a_PileError (.type "type") "__init__" (.ref f_PileError) (.ref f_PileError)
  a_BadPlace : Addr
  g_BadPlace : mg "BadPlace" = some (.ref a_BadPlace)
  x_BadPlace : ExcT K a_BadPlace a_PileError ["code", "place"]
  f_BadPlace : Addr
  d_BadPlace : FuncData
  F_BadPlace : Fun K "__init__" "BadPlace.__init__" s_BadPlace f_BadPlace d_BadPlace
  b_BadPlace : Binds K d_BadPlace P_BadPlace []
  i_BadPlace : PySem.W.findIn K (.ref a_BadPlace) "__init__" = some (some (.ref f_BadPlace))
  ti_BadPlace : PySem.W.typeIn K (.ref f_BadPlace) = some (.type "function")
  a_BadText : Addr
  g_BadText : mg "BadText" = some (.ref a_BadText)
  x_BadText : ExcT K a_BadText a_PileError ["code", "at"]
  f_BadText : Addr
  d_BadText : FuncData
  F_BadText : Fun K "__init__" "BadText.__init__" s_BadText f_BadText d_BadText
  b_BadText : Binds K d_BadText P_BadText []
  i_BadText : PySem.W.findIn K (.ref a_BadText) "__init__" = some (some (.ref f_BadText))
  ti_BadText : PySem.W.typeIn K (.ref f_BadText) = some (.type "function")
  a_BadSize : Addr
  g_BadSize : mg "BadSize" = some (.ref a_BadSize)
  x_BadSize : ExcT K a_BadSize a_PileError ["code", "size"]
  f_BadSize : Addr
  d_BadSize : FuncData
  F_BadSize : Fun K "__init__" "BadSize.__init__" s_BadSize f_BadSize d_BadSize
  b_BadSize : Binds K d_BadSize P_BadSize []
  i_BadSize : PySem.W.findIn K (.ref a_BadSize) "__init__" = some (some (.ref f_BadSize))
  ti_BadSize : PySem.W.typeIn K (.ref f_BadSize) = some (.type "function")
  a_NoPlace : Addr
  g_NoPlace : mg "NoPlace" = some (.ref a_NoPlace)
  x_NoPlace : ExcT K a_NoPlace a_PileError ["code", "place"]
  f_NoPlace : Addr
  d_NoPlace : FuncData
  F_NoPlace : Fun K "__init__" "NoPlace.__init__" s_NoPlace f_NoPlace d_NoPlace
  b_NoPlace : Binds K d_NoPlace P_NoPlace []
  i_NoPlace : PySem.W.findIn K (.ref a_NoPlace) "__init__" = some (some (.ref f_NoPlace))
  ti_NoPlace : PySem.W.typeIn K (.ref f_NoPlace) = some (.type "function")
  a_Missing : Addr
  g_Missing : mg "Missing" = some (.ref a_Missing)
  m_all : mg "all" = none
  m_bool : mg "bool" = none
  m_dict : mg "dict" = none
  m_int : mg "int" = none
  m_isinstance : mg "isinstance" = none
  m_len : mg "len" = none
  m_list : mg "list" = none
  m_min : mg "min" = none
  m_range : mg "range" = none
  m_str : mg "str" = none
  m_tuple : mg "tuple" = none
  m_zip : mg "zip" = none
  t_MOST_DIGITS : Tok
  c_MOST_DIGITS : mg "MOST_DIGITS" = some (.int 31 t_MOST_DIGITS)
  t_MOST_DEPTH : Tok
  c_MOST_DEPTH : mg "MOST_DEPTH" = some (.int 399 t_MOST_DEPTH)
  t_MOST_CARDS : Tok
  c_MOST_CARDS : mg "MOST_CARDS" = some (.int 1000000000000000000000000000000 t_MOST_CARDS)
  a_ENDS : Addr
  c_ENDS : mg "ENDS" = some (.ref a_ENDS)
  d_ENDS : KD K w a_ENDS
  x_ENDS : ∀ z : Str, z ∉ (["t", "b"] : List Str) → KMiss K w a_ENDS z
  e_ENDS_t : KDct K w a_ENDS "t" (.str "top")
  e_ENDS_b : KDct K w a_ENDS "b" (.str "bottom")
/-! ### calls without arguments, by keywords alone, of a starred def -/
section
variable {X : Cx} {CX : CXT} {k : Nat} {f : Addr} {fd : FuncData} {ps ks : List Str} {sp : Sp} {E : XK} {x : Str} {p pos : Pos} {e : Expr} {es : List Expr} {kws : List Keyword} {t tk : TA}
def tR (sp : Sp) (E : XK) (t : TA) : TE := fun σ H Q => t σ H fun vs H1 => sp vs H1 Q E
theorem pe_callR (F : FnR X.prog X.w X.K X.mg X.base CX k f sp) (hr : Room k X.A) (hk : PySem.W.keepIn X.K (.ref f) = true) (hg : Gl X x) (hm : X.mg x = some (.ref f)) (hx : Passes CX X E)
    (args : PA X (e :: es) t) (no_dbg : (x == ("__debug__" : Str)) = false := by decide) (h1 : starEach (e :: es) X.env = (false, eval e X.env) :: starEach es X.env := by rfl)
    (h2 : (backTo pos (starEach es X.env)).any (·.1) = false := by rfl) : PE X (.Call (.Name x p) (e :: es) [] pos) (tR sp E t) :=
  ⟨fun pins s σ H Q I h => wpAny_Call_Name_kw (ld_glob I hg hm (PySem.W.callWith_K (h₀ := X.base) I.ok.mod.kin hk
    (thn (args.run pos pins s σ H _ I h) fun us s1 ⟨vs, H1, I1, r, q⟩ => ⟨I1.kIn, wpAny_call (run_fnR F hr hx I1 r q)⟩) h1 h2) no_dbg)⟩
theorem pe_callR0 (F : FnR X.prog X.w X.K X.mg X.base CX k f sp) (hr : Room k X.A) (hk : PySem.W.keepIn X.K (.ref f) = true) (hg : Gl X x) (hm : X.mg x = some (.ref f)) (hx : Passes CX X E)
    (no_dbg : (x == ("__debug__" : Str)) = false := by decide) : PE X (.Call (.Name x p) [] [] pos) (tR sp E tNil) :=
  ⟨fun pins s σ H Q I h => wpAny_Call_Name_kw (ld_glob I hg hm (PySem.W.callWith_K0 I.kIn hk (wpAny_call (run_fnR (us := []) F hr hx I .nil h))) no_dbg)⟩
theorem pe_callK0 {g : List Value → List Value → List Value} {gV : List V → List V → List V} (F : FnOk X.prog X.w X.K X.mg X.base CX k f fd ps sp) (hr : Room k X.A) (hg : Gl X x) (hm : X.mg x = some (.ref f))
    (hk : PySem.W.keepIn X.K (.ref f) = true) (hb : KBinds X.K fd ps ks g gV) (hx : Passes CX X E) (hkw : PK X kws tk) (hall : (backToKw pos (keywordEach kws X.env)).all (·.1.isSome) = true := by rfl)
    (hks : (backToKw pos (keywordEach kws X.env)).filterMap (·.1) = ks := by rfl) (no_dbg : (x == ("__debug__" : Str)) = false := by decide)
    (hpl : ((backTo pos (starEach [] X.env)).any (·.1) || (backToKw pos (keywordEach kws X.env)).any (·.1.isNone)) = false := by rfl) : PE X (.Call (.Name x p) [] kws pos) (tCallK sp gV E tNil tk) := by
  constructor
  intro pins s σ H Q I h
  refine wpAny_Call_Name_kw (ld_glob I hg hm (PySem.W.callWith_KW0 (h₀ := X.base) I.ok.mod.kin hk hall (thn (hkw.run pos pins s σ H _ I h) fun ws s2 ⟨zs, H2, I2, rz, q2⟩ => ⟨I2.kIn, ?_⟩) hpl) no_dbg)
  rw [hks]
  exact run_fnk (us := []) F hr hb hx I2 .nil rz q2
end
/-! ### tests -/
theorem iteD {p : Prop} [Decidable p] {A B : Prop} (h1 : p → A) (h2 : ¬ p → B) : if decide p = true then A else B := by
  by_cases h : p
  · simp only [h, decide_true, if_true]; exact h1 h
  · simp only [h, decide_false, Bool.false_eq_true, if_false]; exact h2 h
theorem iteND {p : Prop} [Decidable p] {A B : Prop} (h1 : ¬ p → A) (h2 : p → B) : if (!decide p) = true then A else B := by
  by_cases h : p
  · simp only [h, decide_true, Bool.not_true, Bool.false_eq_true, if_false]; exact h2 h
  · simp only [h, decide_false, Bool.not_false, if_true]; exact h1 h
theorem iteE {i j : Int} {A B : Prop} (h1 : i = j → A) (h2 : i ≠ j → B) : if decide (V.int i = V.int j) = true then A else B :=
  iteD (fun h => h1 (V.int.inj h)) fun h => h2 fun e => h (by rw [e])
theorem iteNE {i j : Int} {A B : Prop} (h1 : i ≠ j → A) (h2 : i = j → B) : if (!decide (V.int i = V.int j)) = true then A else B :=
  iteND (fun h => h1 fun e => h (by rw [e])) fun h => h2 (V.int.inj h)
/-! ### the bag of drawn numbers -/
theorem same_new {H : Hp} {p : Addr} {o : HO} (h : H p = none) : Same H (upd H p o) := fun b x e => by rw [upd_ne (ne_of_none e h)]; exact e
def But (b : Addr) (H H' : Hp) : Prop := ∀ a o, a ≠ b → H a = some o → H' a = some o
theorem But.refl (b : Addr) (H : Hp) : But b H H := fun _ _ _ h => h
theorem But.trans {b : Addr} {H H1 H2 : Hp} (x : But b H H1) (y : But b H1 H2) : But b H H2 := fun a o n h => y a o n (x a o n h)
theorem But.upd {b : Addr} {H H' : Hp} {o : HO} (x : But b H H') : But b H (upd H' b o) := fun a u n h => by rw [upd_ne n]; exact x a u n h
theorem Same.but {b : Addr} {H H' : Hp} (x : Same H H') : But b H H' := fun a o _ h => x a o h
theorem But.new {b p : Addr} {H H' : Hp} {o : HO} (x : But b H H') (h : H' p = none) : But b H (L2.upd H' p o) := x.trans (Same.but (same_new h))
theorem But.get {b a : Addr} {H H' : Hp} {o : HO} (x : But b H H') (n : a ≠ b) (h : H a = some o) : H' a = some o := x a o n h
/-- the bag stands at b: its cells at l, the place, what is held, the seed -/
structure BagAt (H : Hp) (b l : Addr) (cs : List Int) (i h s : Int) : Prop where
  at_ : H b = some (.lst [.ref l, .int i, .int h, .int s])
  cells : H l = some (.lst (cs.map V.int))
  ne : l ≠ b
  len : cs.length ≤ 63
  i0 : 0 ≤ i
  h0 : 0 ≤ h
  s0 : 0 ≤ s
  s1 : s < 2147483647
def Bag (H : Hp) (b l : Addr) : Prop := ∃ cs i h s, BagAt H b l cs i h s
theorem BagAt.same {H H' : Hp} {b l : Addr} {cs : List Int} {i h s : Int} (x : BagAt H b l cs i h s) (e : Same H H') : BagAt H' b l cs i h s := ⟨e _ _ x.at_, e _ _ x.cells, x.ne, x.len, x.i0, x.h0, x.s0, x.s1⟩
theorem Bag.same {H H' : Hp} {b l : Addr} (x : Bag H b l) (e : Same H H') : Bag H' b l := by
  obtain ⟨cs, i, h, s, y⟩ := x
  exact ⟨cs, i, h, s, y.same e⟩
theorem Bag.ne {H : Hp} {a b l : Addr} (x : Bag H b l) (h : H a = none) : a ≠ b := by
  obtain ⟨cs, i, hh, s, y⟩ := x
  exact (ne_of_none y.at_ h).symm
theorem Bag.nl {H : Hp} {a b l : Addr} (x : Bag H b l) (h : H a = none) : a ≠ l := by
  obtain ⟨cs, i, hh, s, y⟩ := x
  exact (ne_of_none y.cells h).symm
theorem Bag.mut {H : Hp} {a b l : Addr} {o : HO} (x : Bag H b l) (h1 : a ≠ b) (h2 : a ≠ l) : Bag (upd H a o) b l := by
  obtain ⟨cs, i, hh, s, y⟩ := x
  exact ⟨cs, i, hh, s, by rw [upd_ne h1.symm]; exact y.at_, by rw [upd_ne h2.symm]; exact y.cells, y.ne, y.len, y.i0, y.h0, y.s0, y.s1⟩
theorem BagAt.set {H : Hp} {b l : Addr} {cs : List Int} {i h s i' h' s' : Int} {o : List V} (x : BagAt H b l cs i h s) (e : o = [.ref l, .int i', .int h', .int s']) (a1 : 0 ≤ i') (a2 : 0 ≤ h') (a3 : 0 ≤ s') (a4 : s' < 2147483647) :
    BagAt (upd H b (.lst o)) b l cs i' h' s' := ⟨by rw [upd_same, e], by rw [upd_ne x.ne]; exact x.cells, x.ne, x.len, a1, a2, a3, a4⟩
theorem bag_set {H : Hp} {b l : Addr} {cs : List Int} {i h s i' h' s' k : Int} {j : Nat} {v : V} {Q : Hp → Prop} (x : BagAt H b l cs i h s) (hj : ixN 4 k = some j)
    (e : ([.ref l, .int i, .int h, .int s] : List V).set j v = [.ref l, .int i', .int h', .int s']) (a1 : 0 ≤ i') (a2 : 0 ≤ h') (a3 : 0 ≤ s') (a4 : s' < 2147483647)
    (q : ∀ H', BagAt H' b l cs i' h' s' → But b H H' → Q H') : rSetL (.ref b) (.int k) v H Q :=
  ⟨b, _, k, j, rfl, rfl, x.at_, hj, q _ (x.set e a1 a2 a3 a4) (But.refl b H).upd⟩
theorem fmod_lo (a : Int) {m : Int} (h : 0 < m) : 0 ≤ a.fmod m := by rw [Int.fmod_eq_emod_of_nonneg _ (by omega)]; exact Int.emod_nonneg _ (by omega)
theorem fmod_hi (a : Int) {m : Int} (h : 0 < m) : a.fmod m < m := by rw [Int.fmod_eq_emod_of_nonneg _ (by omega)]; exact Int.emod_lt_of_pos _ h
theorem nat_lt {z : Int} {n : Nat} (h0 : 0 ≤ z) (h1 : z < 2 ^ n) : z.natAbs < 2 ^ n := by
  have : ((z.natAbs : Int)) < ((2 ^ n : Nat) : Int) := by rw [Int.natAbs_of_nonneg h0]; rw [Int.natCast_pow]; exact h1
  omega
def sp_bag (K : PySem.W.Frag) : Sp := fun vs H Q _ => ∃ (a : Addr) (ns : List Int), vs = [.ref a] ∧ SqL K H a (ns.map V.int) ∧ ns.length ≤ 63 ∧ ∀ b l H', H b = none → H l = none → Same H H' → Bag H' b l → Q (.ref b) H'
/-- an amount that // takes -/
def Fit (n : Int) : Prop := n.natAbs < 2 ^ 8000
theorem Fit.of {n : Int} (h0 : 0 ≤ n) (h : n < 1000000000000000000000000000000000000000000) : Fit n := Nat.lt_of_lt_of_le (show n.natAbs < 2 ^ 140 by omega) (Nat.pow_le_pow_right (by decide) (by decide))
def sp_pull : Sp := fun vs H Q _ => ∃ (b l : Addr) (n : Int), vs = [.ref b, .int n] ∧ Bag H b l ∧ 0 < n ∧ Fit n ∧ ∀ r H', 0 ≤ r → r < n → Bag H' b l → But b H H' → Q (.int r) H'
/-! ### steps of a reading -/
theorem mul_ok {i j : Int} (h1 : i.natAbs < 2 ^ 20000) (h2 : j.natAbs < 2 ^ 20000) : CMulW i j := wide_mul h1 h2 (by decide) (by decide) (by decide)
theorem small_pow {i : Int} {a b : Nat} (h : i.natAbs < 2 ^ a) (hab : a ≤ b) : i.natAbs < 2 ^ b := Nat.lt_of_lt_of_le h (Nat.pow_le_pow_right (by decide) hab)
theorem small_abs {i : Int} (h : i.natAbs < 1000000000000000000000000000000000000000000) : i.natAbs < 2 ^ 20000 := small_pow (a := 140) (Nat.lt_of_lt_of_le h (by decide)) (by decide)
theorem div_ok {i j : Int} (h : 0 < j) (h1 : Fit j) : CDivW i j := wide_div h h1 (by decide) (by decide)
theorem div_small {i j : Int} (h : 0 < j) (h1 : j < 1000000000000000000000000000000) : CDivW i j := div_ok h (Fit.of (by omega) (by omega))
theorem le_line {n : Nat} (h : n ≤ 1000) : n ≤ sizeLine := Nat.le_trans h (by decide)
theorem lt_line {n : Nat} (h : n < 1000) : n < sizeLine := Nat.lt_of_lt_of_le h (by decide)
theorem at0 {a b c d : V} : atI [a, b, c, d] 0 = some a := rfl
theorem at1 {a b c d : V} : atI [a, b, c, d] 1 = some b := rfl
theorem at2 {a b c d : V} : atI [a, b, c, d] 2 = some c := rfl
theorem at3 {a b c d : V} : atI [a, b, c, d] 3 = some d := rfl
/-! ### isinstance of built-in kinds -/
theorem kb_int_list : kitB "int" "list" = some false := by decide +kernel
theorem kb_int_tuple : kitB "int" "tuple" = some false := by decide +kernel
theorem kb_int_dict : kitB "int" "dict" = some false := by decide +kernel
theorem kb_int_bool : kitB "int" "bool" = some false := by decide +kernel
theorem kb_int_int : kitB "int" "int" = some true := by decide +kernel
theorem kb_int_str : kitB "int" "str" = some false := by decide +kernel
theorem kb_str_list : kitB "str" "list" = some false := by decide +kernel
theorem kb_str_tuple : kitB "str" "tuple" = some false := by decide +kernel
theorem kb_str_dict : kitB "str" "dict" = some false := by decide +kernel
theorem kb_str_bool : kitB "str" "bool" = some false := by decide +kernel
theorem kb_str_int : kitB "str" "int" = some false := by decide +kernel
theorem kb_str_str : kitB "str" "str" = some true := by decide +kernel
theorem kb_bool_list : kitB "bool" "list" = some false := by decide +kernel
theorem kb_bool_tuple : kitB "bool" "tuple" = some false := by decide +kernel
theorem kb_bool_dict : kitB "bool" "dict" = some false := by decide +kernel
theorem kb_bool_bool : kitB "bool" "bool" = some true := by decide +kernel
theorem kb_bool_int : kitB "bool" "int" = some true := by decide +kernel
theorem kb_bool_str : kitB "bool" "str" = some false := by decide +kernel
theorem kb_NoneType_list : kitB "NoneType" "list" = some false := by decide +kernel
theorem kb_NoneType_tuple : kitB "NoneType" "tuple" = some false := by decide +kernel
theorem kb_NoneType_dict : kitB "NoneType" "dict" = some false := by decide +kernel
theorem kb_NoneType_bool : kitB "NoneType" "bool" = some false := by decide +kernel
theorem kb_NoneType_int : kitB "NoneType" "int" = some false := by decide +kernel
theorem kb_NoneType_str : kitB "NoneType" "str" = some false := by decide +kernel
theorem kb_list_list : kitB "list" "list" = some true := by decide +kernel
theorem kb_list_tuple : kitB "list" "tuple" = some false := by decide +kernel
theorem kb_list_dict : kitB "list" "dict" = some false := by decide +kernel
theorem kb_list_bool : kitB "list" "bool" = some false := by decide +kernel
theorem kb_list_int : kitB "list" "int" = some false := by decide +kernel
theorem kb_list_str : kitB "list" "str" = some false := by decide +kernel
theorem kb_tuple_list : kitB "tuple" "list" = some false := by decide +kernel
theorem kb_tuple_tuple : kitB "tuple" "tuple" = some true := by decide +kernel
theorem kb_tuple_dict : kitB "tuple" "dict" = some false := by decide +kernel
theorem kb_tuple_bool : kitB "tuple" "bool" = some false := by decide +kernel
theorem kb_tuple_int : kitB "tuple" "int" = some false := by decide +kernel
theorem kb_tuple_str : kitB "tuple" "str" = some false := by decide +kernel
theorem tyL {K : PySem.W.Frag} {H : Hp} {a : Addr} {xs : List V} (h : SqL K H a xs) : TyX K H (.ref a) (.type "list") := by
  rcases h with (h | ⟨o, h⟩) | ⟨o, its, n, h1, h2, _⟩
  · exact .base (.lst h)
  · exact .base (.frz h)
  · exact .kList h1 h2
theorem tyT {K : PySem.W.Frag} {H : Hp} {a : Addr} {xs : List V} (h : SqT K H a xs) : TyX K H (.ref a) (.type "tuple") := by
  rcases h with (h | ⟨o, h⟩) | ⟨o, its, n, h1, h2, _⟩
  · exact .base (.tup h)
  · exact .fTuple h
  · exact .kTuple h1 h2
/-! ### loops over anything -/
theorem lc_by {J : It} {n : Nat} {g : TG} {tt : TT} {te : TE} {vs : List Nat} {σ : L2.St} {H1 : Hp} {D : Addr} {Qd : Hp → Prop} (Pv : Nat → Hp → Prop) (h0 : Pv 0 (upd H1 D (.lst []))) (hgo : ∀ i H, i < n → Pv i H → J.go i H) (hstop : ∀ H, Pv n H → J.stop n H)
    (hs : ∀ i H x H', i < n → Pv i H → J.yld i H x H' → g x (wipe σ vs) H' fun σ2 H2 => wipe σ2 vs = wipe σ vs ∧ tt σ2 H2 fun b H3 =>
      if b = true then te σ2 H3 fun y H4 => ∃ acc, H4 D = some (.lst acc) ∧ acc.length < sizeLine ∧ Pv (i + 1) (upd H4 D (.lst (acc ++ [y]))) else Pv (i + 1) H3) (hd : ∀ H, Pv n H → Qd H) :
    ∃ W : Nat → Nat → Hp → Prop, (∃ m, W 0 m (upd H1 D (.lst []))) ∧ ∀ i m H, W i m H →
      (J.stop i H ∧ Qd H) ∨ (J.go i H ∧ ∃ Nx : Hp → Prop, (∀ H', Nx H' → ∃ m', m' < m ∧ W (i + 1) m' H') ∧ ∀ x H', J.yld i H x H' → g x (wipe σ vs) H' fun σ2 H2 => wipe σ2 vs = wipe σ vs ∧ tt σ2 H2 fun b H3 =>
        if b = true then te σ2 H3 fun y H4 => ∃ acc, H4 D = some (.lst acc) ∧ acc.length < sizeLine ∧ Nx (upd H4 D (.lst (acc ++ [y]))) else Nx H3) := by
  refine ⟨fun i m H => m = n - i ∧ i ≤ n ∧ Pv i H, ⟨n, by simp, Nat.zero_le _, h0⟩, ?_⟩
  rintro i m H ⟨em, hi, pv⟩
  by_cases hlt : i < n
  · exact .inr ⟨hgo i H hlt pv, Pv (i + 1), fun H' p' => ⟨n - (i + 1), by omega, rfl, hlt, p'⟩, fun x H' y => hs i H x H' hlt pv y⟩
  · have e : i = n := by omega
    rw [e] at pv ⊢
    exact .inl ⟨hstop H pv, hd H pv⟩
theorem for_by {J : It} {n : Nat} {g : TG} {tb : TS} {D : Ends} {σ : L2.St} {H : Hp} (Pv : Nat → L2.St → Hp → Prop) (h0 : Pv 0 σ H) (hgo : ∀ i σ H, i < n → Pv i σ H → J.go i H) (hstop : ∀ σ H, Pv n σ H → J.stop n H)
    (hs : ∀ i σ H x H', i < n → Pv i σ H → J.yld i H x H' → g x σ H' fun σ2 H2 => tb { D with nx := Pv (i + 1), ct := Pv (i + 1), bk := D.nx } σ2 H2) (hd : ∀ σ H, Pv n σ H → D.nx σ H) :
    ∃ W : Nat → Nat → L2.St → Hp → Prop, (∃ m, W 0 m σ H) ∧ ∀ i m σ H, W i m σ H →
      (J.stop i H ∧ D.nx σ H) ∨ (J.go i H ∧ ∃ N : L2.St → Hp → Prop, (∀ σ' H', N σ' H' → ∃ m', m' < m ∧ W (i + 1) m' σ' H') ∧ ∀ x H', J.yld i H x H' → g x σ H' fun σ2 H2 => tb { D with nx := N, ct := N, bk := D.nx } σ2 H2) := by
  refine ⟨fun i m σ H => m = n - i ∧ i ≤ n ∧ Pv i σ H, ⟨n, by simp, Nat.zero_le _, h0⟩, ?_⟩
  rintro i m σ H ⟨em, hi, pv⟩
  by_cases hlt : i < n
  · exact .inr ⟨hgo i σ H hlt pv, Pv (i + 1), fun σ' H' p' => ⟨n - (i + 1), by omega, rfl, hlt, p'⟩, fun x H' y => hs i σ H x H' hlt pv y⟩
  · have e : i = n := by omega
    rw [e] at pv ⊢
    exact .inl ⟨hstop σ H pv, hd σ H pv⟩
theorem at_zero {α : Type} {x : α} {xs : List α} : atI (x :: xs) 0 = some x := by
  show atI (x :: xs) ((0 : Nat) : Int) = some x
  exact atI_nat rfl
theorem Same.mut {H H' : Hp} {p : Addr} {o : HO} (e : Same H H') (h : H p = none) : Same H (upd H' p o) := fun a u ha => by
  rw [upd_ne (ne_of_none ha h)]
  exact e a u ha
theorem Same.new {H H' : Hp} {p : Addr} {o : HO} (e : Same H H') (h : H' p = none) : Same H (upd H' p o) := Same.trans e (same_new h)
theorem Same.tup {K : PySem.W.Frag} {H H' : Hp} {a : Addr} {xs : List V} (e : Same H H') (h : SqT K H a xs) : SqT K H' a xs := by
  rcases h with (h | ⟨o, h⟩) | h
  · exact .inl (.inl (e _ _ h))
  · exact .inl (.inr ⟨o, e _ _ h⟩)
  · exact .inr h
-- what stands at an address
local macro_rules | `(tactic| walk_at "hp") => `(tactic| first | assumption | exact upd_same | exact BagAt.at_ (by assumption) | exact BagAt.cells (by assumption) | fail "hp")
local macro_rules | `(tactic| walk_at "sq") => `(tactic| first | assumption | (refine Or.inl (Or.inl ?_); walk_at "hp") | (apply Same.seq <;> assumption))
-- bounds
local macro_rules | `(tactic| walk_at "num") => `(tactic| first
  | exact rfl | decide | exact le_line (Nat.le_of_ble_eq_true rfl) | exact lt_line (Nat.le_of_ble_eq_true rfl)
  | (exact mul_ok (small_abs (by omega)) (small_abs (by omega)))
  | (exact div_small (by omega) (by omega))
  | (exact div_ok (by omega) (by assumption))
  | (refine ⟨?_, ?_⟩ <;> omega) | omega
  | (show (_ : Int) ≠ 0; omega) | (show CPow _ _; unfold CPow; decide))
-- one step
local macro_rules | `(tactic| walk_at "rd") => `(tactic| first
  | (refine Exists.intro _ (And.intro rfl ?_))
  | (refine Exists.intro _ (Exists.intro _ (And.intro rfl (And.intro rfl ?_))))
  | (refine Or.inl (Exists.intro _ (And.intro rfl ?_)))
  | (refine Or.inr (Exists.intro _ (And.intro rfl ?_)))
  | (with_reducible refine iteF ?_) | (with_reducible refine iteT ?_)
  | (refine And.intro ?cc ?_; (case cc => walk_at "num"))
  | (refine' Exists.intro _ (Exists.intro _ (Exists.intro _ (Exists.intro _ (And.intro rfl (And.intro rfl (And.intro ?sq (And.intro ?ha ?k))))))); (case sq => walk_at "sq"); (case ha => first | exact rfl | assumption | exact at_zero))
  | (refine' Exists.intro _ (Exists.intro _ (And.intro rfl (And.intro (Or.inl ?sq) ?k))); (case sq => walk_at "sq")))
local macro_rules | `(tactic| walk_at "sqt") => `(tactic| first | assumption | (refine Or.inl (Or.inl ?_); walk_at "hp") | (apply Same.tup <;> assumption))
local macro_rules | `(tactic| walk_at "rdt") => `(tactic| first
  | walk_at "rd"
  | (refine' Exists.intro _ (Exists.intro _ (And.intro rfl (And.intro (Or.inr ?sq) ?k))); (case sq => walk_at "sqt"))
  | (refine' Exists.intro _ (Exists.intro _ (Exists.intro _ (Exists.intro _ (And.intro rfl (And.intro rfl (And.intro ?sq (And.intro ?ha ?k))))))); (case sq => walk_at "sqt"); (case ha => first | exact rfl | assumption | exact at_zero))
  | (refine iteF ?_) | (refine iteT ?_))
local macro_rules | `(tactic| walk_at "rds") => `(tactic| repeat walk_at "rdt")
local macro_rules | `(tactic| walk_at "pull") => `(tactic| (refine' Exists.intro _ (Exists.intro _ (Exists.intro _ (And.intro rfl (And.intro ?bag (And.intro ?pos (And.intro ?fit ?kk)))))); (case bag => assumption); (case pos => first | decide | omega); (case fit => exact Fit.of (by first | decide | omega) (by first | decide | omega))))
local macro_rules | `(tactic| walk_at "two") => `(tactic| refine Exists.intro _ (Exists.intro _ (And.intro rfl ?_)))
/-! ### the law's own draws -/
section
variable {P : Program} {w : World} {K : PySem.W.Frag} {mg : Str → Option Value} {base : Heap}
theorem tail_take {xs : List V} (h : xs.length ≤ 63) : cutV xs none (some 63) = xs := by
  unfold cutV
  have e1 : HT.sIx xs.length 0 none = 0 := HT.sIx_none _ _
  have e2 : HT.sIx xs.length xs.length (some 63) = xs.length := by
    have := HT.sIx_nat xs.length xs.length 63
    rw [show ((63 : Nat) : Int) = 63 from rfl] at this
    rw [this]
    omega
  rw [e1, e2, List.drop_zero, Nat.sub_zero]
  exact List.take_length
theorem ne_zero {i : Int} (h : 0 < i) : i ≠ 0 := by omega
theorem ok__law_bag (T : Txt K mg w) : FnOk P w K mg base CX0 1 T.a__law_bag T.d__law_bag P__law_bag (sp_bag K) := by
  refine T.F__law_bag.ok sc__law_bag (fun vs H Q E h => ?_) (fun cdv A outer s H vs Q E hr h => ?_)
  · obtain ⟨a, ns, rfl, _⟩ := h
    rfl
  · obtain ⟨a, ns, rfl, hS, hlen, q⟩ := h
    refine ⟨_, (pss_cons (ps_set (i := 1) sc__law_bag.nd rfl (Or.inl rfl) pe_int)
  (pss_cons (ps_for PassesOwn.never rfl (k_piL (K := K) (pe_slice (k_slL (K := K)) (pv 0) po_none (po_some pe_int))) (pg_name (i := 2) sc__law_bag.nd rfl (Or.inl rfl))
  (pss_one (ps_set (i := 1) sc__law_bag.nd rfl (Or.inl rfl) (pe_op op_modN (pe_callTy call_int1 (by rfl) T.m_int boot_int (pa_cons (pe_op op_add (pe_op op_add (pe_op op_mulW (pv 1) pe_int) (pe_op op_modN (pe_callTy call_int1 (by rfl) T.m_int boot_int (pa_cons (pv 2) pa_nil)) pe_int)) pe_int) pa_nil)) pe_int))))
  (pss_one (ps_ret (pe_lst (pa_cons (pe_callTy (k_list (K := K)) (by rfl) T.m_list boot_list (pa_cons (pe_slice (k_slL (K := K)) (pv 0) po_none (po_some pe_int)) pa_nil)) (pa_cons pe_int (pa_cons pe_int (pa_cons (pv 1) pa_nil))))))))), ?_⟩
    refine ⟨.ref a, rfl, 63, rfl, a, ns.map V.int, rfl, hS, fun c nc => ?_⟩
    rw [tail_take (by rw [List.length_map]; exact hlen)]
    have s1 : Same H (upd H c (.lst (ns.map V.int))) := same_new nc
    have hC : SqL K (upd H c (.lst (ns.map V.int))) c (ns.map V.int) := .inl (.inl upd_same)
    refine ⟨c, rfl, ⟨_, hC⟩, for_list (xs := ns.map V.int) (fun i σ H' => H' = upd H c (.lst (ns.map V.int)) ∧ ∃ salt y, σ = [some (.ref a), some (.int salt), y] ∧ 0 ≤ salt ∧ salt < 2147483647)
      ⟨rfl, 3817, none, rfl, by omega, by omega⟩ (fun i σ H' _ hp => by rw [hp.1]; exact hC) (fun i x σ H' hx hp => ?_) (fun σ H' hp => ?_)⟩
    · obtain ⟨rfl, salt, y, rfl, b1, b2⟩ := hp
      obtain ⟨n, -, rfl⟩ : ∃ n, n ∈ ns ∧ V.int n = x := by simpa using List.mem_of_getElem? hx
      have c1 := fmod_lo n (m := 2147483579) (by decide)
      have c2 := fmod_hi n (m := 2147483579) (by decide)
      refine ⟨_, rfl, _, _, rfl, rfl, mul_ok (small_abs (by omega)) (small_abs (by omega)), ?_⟩
      refine ⟨_, rfl, .inl ⟨_, rfl, ?_⟩⟩
      refine ⟨_, _, rfl, rfl, ne_zero (by decide), _, _, rfl, rfl, _, _, rfl, rfl, .inl ⟨_, rfl, ?_⟩⟩
      refine ⟨_, _, rfl, rfl, ne_zero (by decide), rfl, _, _, rfl, ?_, ?_⟩
      · exact fmod_lo _ (by decide)
      · exact fmod_hi _ (by decide)
    · obtain ⟨rfl, salt, y, rfl, b1, b2⟩ := hp
      refine ⟨.ref a, rfl, 63, rfl, a, ns.map V.int, rfl, s1.seq hS, fun c2 nc2 => ?_⟩
      rw [tail_take (by rw [List.length_map]; exact hlen)]
      refine ⟨c2, _, rfl, .inl (.inl (.inl upd_same)), fun l nl => ?_⟩
      refine ⟨_, rfl, by show 4 ≤ sizeLine; decide, fun b nb => ?_⟩
      have s2 := (s1.trans (same_new nc2)).trans (same_new (o := .lst (ns.map V.int)) nl)
      have s3 := s2.trans (same_new (o := .lst [.ref l, .int 0, .int 0, .int salt]) nb)
      have nlb : l ≠ b := fun e => by
        rw [← e, upd_same] at nb
        cases nb
      refine q b l _ (s2.free nb) ((s1.trans (same_new nc2)).free nl) s3 ⟨ns, 0, 0, salt, ⟨upd_same, ?_, nlb, hlen, by omega, by omega, b1, b2⟩⟩
      rw [upd_ne nlb]
      exact upd_same
theorem ok__law_pull (T : Txt K mg w) : FnOk P w K mg base CX0 1 T.a__law_pull T.d__law_pull P__law_pull sp_pull := by
  refine T.F__law_pull.ok sc__law_pull (fun vs H Q E h => ?_) (fun cdv A outer s H vs Q E hr h => ?_)
  · obtain ⟨a, l, n, rfl, _⟩ := h
    rfl
  · obtain ⟨b, l, n, rfl, ⟨cs, i, hd, s, hB⟩, n0, n1, q⟩ := h
    refine ⟨_, (Evl.pss_cut (ps_if (PW.pt (pw_and (pt_cmpR op_eq (pe_ix (k_ixL (K := K)) (pv 0) pe_int (fun _ _ => rfl)) pe_int (nomark _)) (pw_and1 (pt_cmpR op_lt (pe_ix (k_ixL (K := K)) (pv 0) pe_int (fun _ _ => rfl)) (pe_callB (k_len (K := K)) (by rfl) T.m_len boot_len (pa_cons (pe_ix (k_ixL (K := K)) (pv 0) pe_int (fun _ _ => rfl)) pa_nil)) (nomark _)))))
  (pss_cons (ps_set (i := 2) sc__law_pull.nd rfl (Or.inl rfl) (pe_ix (k_ixL (K := K)) (pe_ix (k_ixL (K := K)) (pv 0) pe_int (fun _ _ => rfl)) (pe_ix (k_ixL (K := K)) (pv 0) pe_int (fun _ _ => rfl)) (fun _ _ => rfl)))
  (pss_cons (ps_asg (pe_op op_add (pe_ix (k_ixL (K := K)) (pv 0) pe_int (fun _ _ => rfl)) pe_int) (pg_sub (pv 0) pe_int set_list))
  (pss_one (ps_if (pt_cmpR op_ge (pv 2) (pe_op op_pow pe_int pe_int) (nomark _))
  (pss_one (ps_asg (pv 2) (pg_sub (pv 0) pe_int set_list))) (pss_one (ps_asg (pe_op op_modN (pe_callTy call_int1 (by rfl) T.m_int boot_int (pa_cons (pe_op op_add (pe_op op_add (pe_op op_mulW (pe_ix (k_ixL (K := K)) (pv 0) pe_int (fun _ _ => rfl)) pe_int) (pe_op op_mulW (pe_op op_modN (pe_callTy call_int1 (by rfl) T.m_int boot_int (pa_cons (pv 2) pa_nil)) pe_int) pe_int)) pe_int) pa_nil)) pe_int) (pg_sub (pv 0) pe_int set_list))))))) pss_nil)
  (pss_cons (ps_if (pt_cmpR op_gt (pe_ix (k_ixL (K := K)) (pv 0) pe_int (fun _ _ => rfl)) pe_int (nomark _))
  (pss_cons (ps_set (i := 3) sc__law_pull.nd rfl (Or.inl rfl) (pe_op op_modN (pe_callTy call_int1 (by rfl) T.m_int boot_int (pa_cons (pe_ix (k_ixL (K := K)) (pv 0) pe_int (fun _ _ => rfl)) pa_nil)) (pv 1)))
  (pss_cons (ps_asg (pe_op op_fdivW (pe_ix (k_ixL (K := K)) (pv 0) pe_int (fun _ _ => rfl)) (pv 1)) (pg_sub (pv 0) pe_int set_list))
  (pss_one (ps_ret (pv 3))))) pss_nil)
  (pss_cons (ps_set (i := 4) sc__law_pull.nd rfl (Or.inl rfl) (pe_ix (k_ixL (K := K)) (pv 0) pe_int (fun _ _ => rfl)))
  (pss_cons (ps_asg (pe_op op_modN (pe_callTy call_int1 (by rfl) T.m_int boot_int (pa_cons (pe_op op_add (pe_op op_add (pe_op op_mulW (pv 4) (pv 4)) (pe_op op_mulW (pv 4) pe_int)) pe_int) pa_nil)) pe_int) (pg_sub (pv 0) pe_int set_list))
  (pss_one (ps_ret (pe_op op_modN (pe_callTy call_int1 (by rfl) T.m_int boot_int (pa_cons (pe_op op_add (pe_op op_fdivW (pe_ix (k_ixL (K := K)) (pv 0) pe_int (fun _ _ => rfl)) pe_int) (pe_op op_mulW (pe_op op_modN (pe_callTy call_int1 (by rfl) T.m_int boot_int (pa_cons (pe_ix (k_ixL (K := K)) (pv 0) pe_int (fun _ _ => rfl)) pa_nil)) pe_int) pe_int)) pa_nil)) (pv 1)))))))), ?_⟩
    have i0 := hB.i0
    have hd0 := hB.h0
    have s0 := hB.s0
    have s1 := hB.s1
    refine ⟨fun σ' H' => ∃ i' hd' s' y2, BagAt H' b l cs i' hd' s' ∧ But b H H' ∧ σ' = [some (.ref b), some (.int n), y2, none, none], ?_, fun σ' H' hM => ?_⟩
    · walk_at "rds"
      refine iteE (fun h0 => ?_) (fun h0 => ?_)
      · walk_at "rds"
        refine iteD (fun h1 => ?_) (fun h1 => ?_)
        · have hl : i.toNat < cs.length := by
            rw [List.length_map] at h1
            omega
          have hat : atI (cs.map V.int) i = some (.int cs[i.toNat]) := by
            exact at_of (j := i.toNat) (by omega) (by rw [List.getElem?_map, List.getElem?_eq_getElem hl]; rfl)
          walk_at "rds"
          refine bag_set hB rfl rfl (by omega) hd0 s0 s1 (fun H2 hB2 b2 => ?_)
          walk_at "rds"
          refine iteD (fun h2 => ?_) (fun h2 => ?_)
          · have h3 : (0 : Int) ≤ cs[i.toNat] := Int.le_trans (by decide) h2
            walk_at "rds"
            exact bag_set hB2 rfl rfl (by omega) h3 s0 s1 fun H3 hB3 b3 => ⟨_, _, _, _, hB3, b2.trans b3, rfl⟩
          · have c1 := fmod_lo cs[i.toNat] (m := 2147483579) (by decide)
            have c2 := fmod_hi cs[i.toNat] (m := 2147483579) (by decide)
            walk_at "rds"
            exact bag_set hB2 rfl rfl (by omega) hd0 (fmod_lo _ (by decide)) (fmod_hi _ (by decide)) fun H3 hB3 b3 => ⟨_, _, _, _, hB3, b2.trans b3, rfl⟩
        · exact ⟨_, _, _, _, hB, But.refl _ _, rfl⟩
      · walk_at "rds"
        exact ⟨_, _, _, _, hB, But.refl _ _, rfl⟩
    · obtain ⟨i', hd', s', y2, hB', hb', rfl⟩ := hM
      have i0 := hB'.i0
      have hd0 := hB'.h0
      have s0 := hB'.s0
      have s1 := hB'.s1
      walk_at "rds"
      refine iteD (fun h0 => ?_) (fun h0 => ?_)
      · have nn : n ≠ 0 := by omega
        walk_at "rds"
        refine bag_set hB' rfl rfl i0 (Int.ediv_nonneg hd0 (by omega)) s0 s1 (fun H2 hB2 b2 => ?_)
        walk_at "rds"
        exact q _ _ (fmod_lo _ n0) (fmod_hi _ n0) ⟨_, _, _, _, hB2⟩ (hb'.trans b2)
      · have nn : n ≠ 0 := by omega
        walk_at "rds"
        refine bag_set hB' rfl rfl i0 hd0 (fmod_lo _ (by decide)) (fmod_hi _ (by decide)) (fun H2 hB2 b2 => ?_)
        have c1 := hB2.s0
        have c2 := hB2.s1
        generalize (s' * s' + s' * 48271 + 1013904223).fmod 2147483647 = z at hB2 c1 c2
        have c3 := fmod_lo z (m := 8191) (by decide)
        have c4 := fmod_hi z (m := 8191) (by decide)
        walk_at "rds"
        exact q _ _ (fmod_lo _ n0) (fmod_hi _ n0) ⟨_, _, _, _, hB2⟩ (hb'.trans b2)
end
local macro_rules | `(tactic| walk_at "isi") => `(tactic| (refine' Exists.intro _ (Exists.intro _ (Exists.intro _ (Exists.intro _ (Exists.intro _ (And.intro rfl (And.intro (ClsV.ty _) (And.intro ?tt (And.intro (kit_ty ?ee) ?kk)))))))); (case tt => assumption); (case ee => first | exact kb_int_list | exact kb_int_tuple | exact kb_int_dict | exact kb_int_bool | exact kb_int_int | exact kb_int_str | exact kb_str_list | exact kb_str_tuple | exact kb_str_dict | exact kb_str_bool | exact kb_str_int | exact kb_str_str | exact kb_bool_list | exact kb_bool_tuple | exact kb_bool_dict | exact kb_bool_bool | exact kb_bool_int | exact kb_bool_str | exact kb_NoneType_list | exact kb_NoneType_tuple | exact kb_NoneType_dict | exact kb_NoneType_bool | exact kb_NoneType_int | exact kb_NoneType_str | exact kb_list_list | exact kb_list_tuple | exact kb_list_dict | exact kb_list_bool | exact kb_list_int | exact kb_list_str | exact kb_tuple_list | exact kb_tuple_tuple | exact kb_tuple_dict | exact kb_tuple_bool | exact kb_tuple_int | exact kb_tuple_str)))
-- one step
local macro_rules | `(tactic| walk_at "same") => `(tactic| repeat first | walk_at "rdt" | walk_at "isi")
/-! ### the law's comparison -/
/-- equal data, at most d deep -/
inductive Sm (K : PySem.W.Frag) (H : Hp) : Nat → V → V → Prop where
  | int (d : Nat) (i : Int) : Sm K H d (.int i) (.int i)
  | str (d : Nat) (z : Str) : Sm K H d (.str z) (.str z)
  | bl (d : Nat) (b : Bool) : Sm K H d (.bl b) (.bl b)
  | non (d : Nat) : Sm K H d .non .non
  | lst {d : Nat} {a b : Addr} {xs ys : List V} (hx : SqL K H a xs) (hy : SqL K H b ys) (hl : xs.length = ys.length) (hz : xs.length < 1000) (h : ∀ (i : Nat) (x y : V), xs[i]? = some x → ys[i]? = some y → Sm K H d x y) : Sm K H (d + 1) (.ref a) (.ref b)
  | tup {d : Nat} {a b : Addr} {xs ys : List V} (hx : SqT K H a xs) (hy : SqT K H b ys) (hl : xs.length = ys.length) (hz : xs.length < 1000) (h : ∀ (i : Nat) (x y : V), xs[i]? = some x → ys[i]? = some y → Sm K H d x y) : Sm K H (d + 1) (.ref a) (.ref b)
theorem Sm.same {K : PySem.W.Frag} {H H' : Hp} {d : Nat} {x y : V} (h : Sm K H d x y) (e : Same H H') : Sm K H' d x y := by
  induction h with
  | int d i => exact .int d i
  | str d z => exact .str d z
  | bl d b => exact .bl d b
  | non d => exact .non d
  | lst hx hy hl hz _ ih => exact .lst (e.seq hx) (e.seq hy) hl hz ih
  | tup hx hy hl hz _ ih => exact .tup (Same.tup e hx) (Same.tup e hy) hl hz ih
def sp_same (K : PySem.W.Frag) (d : Nat) : Sp := fun vs H Q _ => ∃ x y : V, vs = [x, y] ∧ Sm K H d x y ∧ ∀ H', Same H H' → Q (.bl true) H'
theorem all_true (n : Nat) : (List.replicate n true).all id = true := by
  rw [List.all_eq_true]
  intro b hb
  exact (List.mem_replicate.mp hb).2
section
variable {P : Program} {w : World} {K : PySem.W.Frag} {mg : Str → Option Value} {base : Heap}
theorem ok_same_step (T : Txt K mg w) {k : Nat} {spr : Sp} (G__law_same : FnOk P w K mg base CX0 k T.a__law_same T.d__law_same P__law_same spr) (d : Nat) (hspr : ∀ e, d = e + 1 → ∀ x y H (Q : VK) E, Sm K H e x y → (∀ H', Same H H' → Q (.bl true) H') → spr [x, y] H Q E) :
    FnOk P w K mg base CX0 (k + 1) T.a__law_same T.d__law_same P__law_same (sp_same K d) := by
  refine T.F__law_same.ok sc__law_same (fun vs H Q E h => ?_) (fun cdv A outer s H vs Q E hr h => ?_)
  · obtain ⟨x, y, rfl, _⟩ := h
    rfl
  · obtain ⟨x, y, rfl, hS, q⟩ := h
    refine ⟨_, (pss_cons (ps_if (PW.pt (pw_or (pt_val (pe_callB (k_isi (K := K)) (by rfl) T.m_isinstance boot_isinstance (pa_cons (pv 1) (pa_cons (pe_bltn (v := .ty "list") (by rfl) T.m_list boot_list rfl) pa_nil)))) (pw_or1 (pt_val (pe_callB (k_isi (K := K)) (by rfl) T.m_isinstance boot_isinstance (pa_cons (pv 1) (pa_cons (pe_bltn (v := .ty "tuple") (by rfl) T.m_tuple boot_tuple rfl) pa_nil)))))))
  (pss_cons (ps_if (PW.pt (pw_or (pt_cmpR op_ne (pe_callB (k_isi (K := K)) (by rfl) T.m_isinstance boot_isinstance (pa_cons (pv 0) (pa_cons (pe_bltn (v := .ty "list") (by rfl) T.m_list boot_list rfl) pa_nil))) (pe_callB (k_isi (K := K)) (by rfl) T.m_isinstance boot_isinstance (pa_cons (pv 1) (pa_cons (pe_bltn (v := .ty "list") (by rfl) T.m_list boot_list rfl) pa_nil))) (nomark _)) (pw_or1 (pt_cmpR op_ne (pe_callB (k_isi (K := K)) (by rfl) T.m_isinstance boot_isinstance (pa_cons (pv 0) (pa_cons (pe_bltn (v := .ty "tuple") (by rfl) T.m_tuple boot_tuple rfl) pa_nil))) (pe_callB (k_isi (K := K)) (by rfl) T.m_isinstance boot_isinstance (pa_cons (pv 1) (pa_cons (pe_bltn (v := .ty "tuple") (by rfl) T.m_tuple boot_tuple rfl) pa_nil))) (nomark _)))))
  (pss_one (ps_ret pe_bl)) pss_nil)
  (pss_one (ps_ret (pe_and (pe_cmpR op_eq (pe_callB (k_len (K := K)) (by rfl) T.m_len boot_len (pa_cons (pv 0) pa_nil)) (pe_callB (k_len (K := K)) (by rfl) T.m_len boot_len (pa_cons (pv 1) pa_nil)) (nomark _)) (pe_one (pe_callB (k_all (K := K)) (by rfl) T.m_all boot_all (pa_cons (pe_lc (own := [("_law_one", 2), ("_law_other", 3)]) rfl sc__law_same.nd (k_zip (K := K) (pa_cons (pv 0) (pa_cons (pv 1) pa_nil)) T.m_zip) (blkOk_by (N := N__law_same) (sc := defScope s__law_same) (by decide +kernel)) (fun _ _ _ _ _ => (k_gT (K := K) (n := 2) (pgs_cons (pg_name (i := 2) sc__law_same.nd rfl (Or.inl rfl)) (pgs_cons (pg_name (i := 3) sc__law_same.nd rfl (Or.inl rfl)) pgs_nil)))) (fun _ _ _ _ _ => pts_nil) (fun _ _ _ _ _ => (pe_call G__law_same hr (by rfl) T.g__law_same T.F__law_same.kp T.b__law_same .nil pass0 (pa_cons (pv 2) (pa_cons (pv 3) pa_nil))))) pa_nil))))))) pss_nil)
  (pss_cons (ps_if (pt_val (pe_callB (k_isi (K := K)) (by rfl) T.m_isinstance boot_isinstance (pa_cons (pv 1) (pa_cons (pe_bltn (v := .ty "dict") (by rfl) T.m_dict boot_dict rfl) pa_nil))))
  (pss_one ps_never) pss_nil)
  (pss_cons (ps_if (PW.pt (pw_or (pt_cmpR op_isN (pv 1) pe_non (nomark _)) (pw_or1 (pt_cmpR op_isN (pv 0) pe_non (nomark _)))))
  (pss_one (ps_ret (pe_and (pe_cmpR op_isN (pv 1) pe_non (nomark _)) (pe_one (pe_cmpR op_isN (pv 0) pe_non (nomark _)))))) pss_nil)
  (pss_cons (ps_if (PW.pt (pw_or (pt_cmpR op_ne (pe_callB (k_isi (K := K)) (by rfl) T.m_isinstance boot_isinstance (pa_cons (pv 0) (pa_cons (pe_bltn (v := .ty "bool") (by rfl) T.m_bool boot_bool rfl) pa_nil))) (pe_callB (k_isi (K := K)) (by rfl) T.m_isinstance boot_isinstance (pa_cons (pv 1) (pa_cons (pe_bltn (v := .ty "bool") (by rfl) T.m_bool boot_bool rfl) pa_nil))) (nomark _)) (pw_or1 (pt_cmpR op_ne (pe_callB (k_isi (K := K)) (by rfl) T.m_isinstance boot_isinstance (pa_cons (pv 0) (pa_cons (pe_bltn (v := .ty "int") (by rfl) T.m_int boot_int rfl) pa_nil))) (pe_callB (k_isi (K := K)) (by rfl) T.m_isinstance boot_isinstance (pa_cons (pv 1) (pa_cons (pe_bltn (v := .ty "int") (by rfl) T.m_int boot_int rfl) pa_nil))) (nomark _)))))
  (pss_one (ps_ret pe_bl)) pss_nil)
  (pss_one (ps_ret (pe_and (pe_cmpR op_eq (pe_callB (k_isi (K := K)) (by rfl) T.m_isinstance boot_isinstance (pa_cons (pv 0) (pa_cons (pe_bltn (v := .ty "str") (by rfl) T.m_str boot_str rfl) pa_nil))) (pe_callB (k_isi (K := K)) (by rfl) T.m_isinstance boot_isinstance (pa_cons (pv 1) (pa_cons (pe_bltn (v := .ty "str") (by rfl) T.m_str boot_str rfl) pa_nil))) (nomark _)) (pe_one (pe_cmpR op_eq (pv 0) (pv 1) (nomark _)))))))))), ?_⟩
    cases hS with
    | int _ i =>
      have tx : TyX K H (.int i) (.type "int") := .base (.int i)
      walk_at "same"
      show Q (V.bl (decide (V.int i = V.int i))) H
      rw [decide_eq_true rfl]
      exact q H (Same.refl H)
    | str _ z =>
      have tx : TyX K H (.str z) (.type "str") := .base (.str z)
      walk_at "same"
      show Q (V.bl (decide (V.str z = V.str z))) H
      rw [decide_eq_true rfl]
      exact q H (Same.refl H)
    | bl _ b =>
      have tx : TyX K H (.bl b) (.type "bool") := .base (.bl b)
      walk_at "same"
      show Q (V.bl (decide (V.bl b = V.bl b))) H
      rw [decide_eq_true rfl]
      exact q H (Same.refl H)
    | non =>
      have tx : TyX K H .non (.type "NoneType") := .base .non
      walk_at "same"
      exact q H (Same.refl H)
    | @lst _ a b xs ys hx hy hl hz hh =>
      have tx := tyL hx
      have ty := tyL hy
      walk_at "same"
      refine iteE (fun _ => ?_) (fun e => absurd (by rw [hl]) e)
      refine ⟨.ref a, rfl, .ref b, rfl, a, b, xs, ys, rfl, .inl ⟨hx, hy, fun D hD => ?_⟩⟩
      have s0 : Same H (upd H D (.lst [])) := same_new hD
      refine lc_by (n := xs.length) (fun i H' => Same H H' ∧ H' D = some (.lst ((List.replicate i true).map V.bl))) ⟨s0, upd_same⟩
        (fun i H' hi hp => ⟨xs, ys, xs[i], ys[i]'(hl ▸ hi), hp.1.seq hx, hp.1.seq hy, List.getElem?_eq_getElem hi, List.getElem?_eq_getElem (hl ▸ hi)⟩)
        (fun H' hp => ⟨xs, ys, hp.1.seq hx, hp.1.seq hy, .inl (Nat.le_refl _)⟩) (fun i H' v H2 hi hp hv => ?_) (fun H' hp => ?_)
      · obtain ⟨t, x, y, rfl, nt, rfl, f1, f2⟩ := hv
        obtain ⟨hp1, hp2⟩ := hp
        have gx := f1 xs (hp1.seq hx)
        have gy := f2 ys (hp1.seq hy)
        have s2 : Same H (upd H' t (.tup [x, y])) := Same.new hp1 nt
        refine ⟨t, [x, y], rfl, .inl (.inl upd_same), rfl, x, [y], rfl, y, [], rfl, rfl, rfl, x, rfl, y, rfl, ?_⟩
        refine hspr _ rfl x y _ _ _ ((hh i x y gx gy).same s2) fun H3 s3 => ⟨_, s3 _ _ (same_new nt _ _ hp2), ?_, Same.mut (s2.trans s3) hD, ?_⟩
        · rw [List.length_map, List.length_replicate]
          exact lt_line (by omega)
        · rw [upd_same, List.replicate_succ']
          simp
      · refine ⟨D, _, rfl, .inl (.inl hp.2), ?_⟩
        rw [all_true]
        exact q H' hp.1
    | @tup _ a b xs ys hx hy hl hz hh =>
      have tx := tyT hx
      have ty := tyT hy
      walk_at "same"
      refine iteE (fun _ => ?_) (fun e => absurd (by rw [hl]) e)
      refine ⟨.ref a, rfl, .ref b, rfl, a, b, xs, ys, rfl, .inr ⟨hx, hy, fun D hD => ?_⟩⟩
      have s0 : Same H (upd H D (.lst [])) := same_new hD
      refine lc_by (n := xs.length) (fun i H' => Same H H' ∧ H' D = some (.lst ((List.replicate i true).map V.bl))) ⟨s0, upd_same⟩
        (fun i H' hi hp => ⟨xs, ys, xs[i], ys[i]'(hl ▸ hi), Same.tup hp.1 hx, Same.tup hp.1 hy, List.getElem?_eq_getElem hi, List.getElem?_eq_getElem (hl ▸ hi)⟩)
        (fun H' hp => ⟨xs, ys, Same.tup hp.1 hx, Same.tup hp.1 hy, .inl (Nat.le_refl _)⟩) (fun i H' v H2 hi hp hv => ?_) (fun H' hp => ?_)
      · obtain ⟨t, x, y, rfl, nt, rfl, f1, f2⟩ := hv
        obtain ⟨hp1, hp2⟩ := hp
        have gx := f1 xs (Same.tup hp1 hx)
        have gy := f2 ys (Same.tup hp1 hy)
        have s2 : Same H (upd H' t (.tup [x, y])) := Same.new hp1 nt
        refine ⟨t, [x, y], rfl, .inl (.inl upd_same), rfl, x, [y], rfl, y, [], rfl, rfl, rfl, x, rfl, y, rfl, ?_⟩
        refine hspr _ rfl x y _ _ _ ((hh i x y gx gy).same s2) fun H3 s3 => ⟨_, s3 _ _ (same_new nt _ _ hp2), ?_, Same.mut (s2.trans s3) hD, ?_⟩
        · rw [List.length_map, List.length_replicate]
          exact lt_line (by omega)
        · rw [upd_same, List.replicate_succ']
          simp
      · refine ⟨D, _, rfl, .inl (.inl hp.2), ?_⟩
        rw [all_true]
        exact q H' hp.1
theorem ok_same (T : Txt K mg w) (d : Nat) : FnOk P w K mg base CX0 (d + 1) T.a__law_same T.d__law_same P__law_same (sp_same K d) := by
  induction d with
  | zero =>
    have z : FnOk P w K mg base CX0 0 T.a__law_same T.d__law_same P__law_same (fun _ _ _ _ => False) := ⟨fun _ _ _ _ h => h.elim, fun _ _ _ _ _ _ _ _ _ _ _ _ _ h => h.elim⟩
    exact ok_same_step T z 0 fun e h => nomatch h
  | succ d ih => exact ok_same_step T ih (d + 1) fun e he x y H Q E h q => ⟨x, y, rfl, (Nat.succ.inj he) ▸ h, q⟩
end
/-! ### errors are made -/
/-- an error is raised: its class, its field, its code, what it holds -/
def Raised (C : Addr) (fld code : Str) (v : V) (H : Hp) (E : XK) : Prop := ∀ dd, H dd = none → E (.ref C) (some dd) (upd H dd (.xd [(fld, v), ("code", .str code)]))
def sp_pe (K : PySem.W.Frag) : Sp := fun vs H Q _ => ∃ (a C : Addr) (z : Str), vs = [.ref a, .str z] ∧ OexC K C ∧ PySem.W.findIn K (.ref C) "code" = some none ∧ H a = some (exo a C none) ∧ ∀ dx, H dx = none → dx ≠ a → Q .non (upd (upd H dx (exd dx [("code", .str z)])) a (exo a C (some dx)))
def sp_x1 (K : PySem.W.Frag) (C : Addr) (fld z : Str) : Sp := fun vs H Q _ => ∃ (a : Addr) (v : V), vs = [.ref a, v] ∧ H a = some (exo a C none) ∧ ∀ dx H', H dx = none → dx ≠ a → H' a = some (exo a C (some dx)) → H' dx = some (exd dx [(fld, v), ("code", .str z)]) → (∀ b, b ≠ a → b ≠ dx → H' b = H b) → Q .non H'
theorem mk_x1 {K : PySem.W.Frag} {C : Addr} {fld z : Str} {H1 : Hp} {v : V} {W : Option Addr → Hp → Prop} (h : ∀ d, H1 d = none → W (some d) (upd H1 d (.xd [(fld, v), ("code", .str z)]))) :
    ∀ a, H1 a = none → sp_x1 K C fld z (.ref a :: ([v] ++ [])) (upd H1 a (exo a C none)) (fun y H2 => y = .non ∧ ∃ (d : Addr) (fs : List (Str × V)), H2 a = some (exo a C (some d)) ∧ H2 d = some (exd d fs) ∧ H1 d = none ∧ W (some d) (upd (del H2 a) d (.xd fs))) (fun _ _ _ => False) := by
  intro a na
  refine ⟨a, v, rfl, upd_same, fun dx H' n ne e1 e2 e3 => ⟨rfl, dx, _, e1, e2, by rwa [upd_ne ne] at n, ?_⟩⟩
  have e : upd (del H' a) dx (.xd [(fld, v), ("code", .str z)]) = upd H1 dx (.xd [(fld, v), ("code", .str z)]) := by
    funext b
    by_cases h1 : b = dx
    · rw [h1, upd_same, upd_same]
    · rw [upd_ne h1, upd_ne h1]
      by_cases h2 : b = a
      · rw [h2, del_same, na]
      · rw [del_ne h2, e3 b h2 h1, upd_ne h2]
  rw [e]
  exact h dx (by rwa [upd_ne ne] at n)
section
variable {P : Program} {w : World} {K : PySem.W.Frag} {mg : Str → Option Value} {base : Heap}
theorem ok_PileError (T : Txt K mg w) : FnOk P w K mg base CX0 1 T.f_PileError T.d_PileError P_PileError (sp_pe K) := by
  refine T.F_PileError.ok (CX := CX0) sc_PileError (fun vs H Q E h => ?_) (fun cdv A outer s H vs Q E hr h => ?_)
  · obtain ⟨a, C, z, rfl, _⟩ := h
    rfl
  · obtain ⟨a, C, z, rfl, hO, hn, ha, q⟩ := h
    refine ⟨_, pss_one (ps_ost (pv 0) (pv 1)), ?_⟩
    exact ⟨_, rfl, _, rfl, a, C, rfl, hO, hn, .inl ⟨ha, fun dx n ne => q dx n ne⟩⟩
theorem ok_BadPlace (T : Txt K mg w) : FnOk P w K mg base CX0 2 T.f_BadPlace T.d_BadPlace P_BadPlace (sp_x1 K T.a_BadPlace "place" "BadPlace") := by
  have G_PE := ok_PileError (P := P) (w := w) (base := base) T
  refine T.F_BadPlace.ok sc_BadPlace (fun vs H Q E h => ?_) (fun cdv A outer s H vs Q E hr h => ?_)
  · obtain ⟨a, v, rfl, _⟩ := h
    rfl
  · obtain ⟨a, v, rfl, ha, q⟩ := h
    refine ⟨_, pss_cons (ps_expr (pe_clsfn (by rfl) T.g_PileError T.r_PileError T.v_PileError G_PE (hr.mono (by decide)) T.F_PileError.kp T.b_PileError pass0 (pa_cons (pv 0) (pa_cons pe_str pa_nil)))) (pss_one (ps_ost (pv 0) (pv 1))), ?_⟩
    refine ⟨_, rfl, a, T.a_BadPlace, _, rfl, T.x_BadPlace.o, T.x_BadPlace.no _ (List.mem_cons_self ..), ha, fun dx n ne => ?_⟩
    refine ⟨_, rfl, _, rfl, a, T.a_BadPlace, rfl, T.x_BadPlace.o, T.x_BadPlace.no _ (List.mem_cons_of_mem _ (List.mem_cons_self ..)), .inr ⟨dx, _, upd_same, by rw [upd_ne ne, upd_same], by decide, ?_⟩⟩
    exact q dx _ n ne (by rw [upd_ne (Ne.symm ne), upd_same]) upd_same fun b h1 h2 => by rw [upd_ne h2, upd_ne h1, upd_ne h2]
theorem ok_BadText (T : Txt K mg w) : FnOk P w K mg base CX0 2 T.f_BadText T.d_BadText P_BadText (sp_x1 K T.a_BadText "at" "BadText") := by
  have G_PE := ok_PileError (P := P) (w := w) (base := base) T
  refine T.F_BadText.ok sc_BadText (fun vs H Q E h => ?_) (fun cdv A outer s H vs Q E hr h => ?_)
  · obtain ⟨a, v, rfl, _⟩ := h
    rfl
  · obtain ⟨a, v, rfl, ha, q⟩ := h
    refine ⟨_, pss_cons (ps_expr (pe_clsfn (by rfl) T.g_PileError T.r_PileError T.v_PileError G_PE (hr.mono (by decide)) T.F_PileError.kp T.b_PileError pass0 (pa_cons (pv 0) (pa_cons pe_str pa_nil)))) (pss_one (ps_ost (pv 0) (pv 1))), ?_⟩
    refine ⟨_, rfl, a, T.a_BadText, _, rfl, T.x_BadText.o, T.x_BadText.no _ (List.mem_cons_self ..), ha, fun dx n ne => ?_⟩
    refine ⟨_, rfl, _, rfl, a, T.a_BadText, rfl, T.x_BadText.o, T.x_BadText.no _ (List.mem_cons_of_mem _ (List.mem_cons_self ..)), .inr ⟨dx, _, upd_same, by rw [upd_ne ne, upd_same], by decide, ?_⟩⟩
    exact q dx _ n ne (by rw [upd_ne (Ne.symm ne), upd_same]) upd_same fun b h1 h2 => by rw [upd_ne h2, upd_ne h1, upd_ne h2]
theorem ok_BadSize (T : Txt K mg w) : FnOk P w K mg base CX0 2 T.f_BadSize T.d_BadSize P_BadSize (sp_x1 K T.a_BadSize "size" "BadSize") := by
  have G_PE := ok_PileError (P := P) (w := w) (base := base) T
  refine T.F_BadSize.ok sc_BadSize (fun vs H Q E h => ?_) (fun cdv A outer s H vs Q E hr h => ?_)
  · obtain ⟨a, v, rfl, _⟩ := h
    rfl
  · obtain ⟨a, v, rfl, ha, q⟩ := h
    refine ⟨_, pss_cons (ps_expr (pe_clsfn (by rfl) T.g_PileError T.r_PileError T.v_PileError G_PE (hr.mono (by decide)) T.F_PileError.kp T.b_PileError pass0 (pa_cons (pv 0) (pa_cons pe_str pa_nil)))) (pss_one (ps_ost (pv 0) (pv 1))), ?_⟩
    refine ⟨_, rfl, a, T.a_BadSize, _, rfl, T.x_BadSize.o, T.x_BadSize.no _ (List.mem_cons_self ..), ha, fun dx n ne => ?_⟩
    refine ⟨_, rfl, _, rfl, a, T.a_BadSize, rfl, T.x_BadSize.o, T.x_BadSize.no _ (List.mem_cons_of_mem _ (List.mem_cons_self ..)), .inr ⟨dx, _, upd_same, by rw [upd_ne ne, upd_same], by decide, ?_⟩⟩
    exact q dx _ n ne (by rw [upd_ne (Ne.symm ne), upd_same]) upd_same fun b h1 h2 => by rw [upd_ne h2, upd_ne h1, upd_ne h2]
theorem ok_NoPlace (T : Txt K mg w) : FnOk P w K mg base CX0 2 T.f_NoPlace T.d_NoPlace P_NoPlace (sp_x1 K T.a_NoPlace "place" "NoPlace") := by
  have G_PE := ok_PileError (P := P) (w := w) (base := base) T
  refine T.F_NoPlace.ok sc_NoPlace (fun vs H Q E h => ?_) (fun cdv A outer s H vs Q E hr h => ?_)
  · obtain ⟨a, v, rfl, _⟩ := h
    rfl
  · obtain ⟨a, v, rfl, ha, q⟩ := h
    refine ⟨_, pss_cons (ps_expr (pe_clsfn (by rfl) T.g_PileError T.r_PileError T.v_PileError G_PE (hr.mono (by decide)) T.F_PileError.kp T.b_PileError pass0 (pa_cons (pv 0) (pa_cons pe_str pa_nil)))) (pss_one (ps_ost (pv 0) (pv 1))), ?_⟩
    refine ⟨_, rfl, a, T.a_NoPlace, _, rfl, T.x_NoPlace.o, T.x_NoPlace.no _ (List.mem_cons_self ..), ha, fun dx n ne => ?_⟩
    refine ⟨_, rfl, _, rfl, a, T.a_NoPlace, rfl, T.x_NoPlace.o, T.x_NoPlace.no _ (List.mem_cons_of_mem _ (List.mem_cons_self ..)), .inr ⟨dx, _, upd_same, by rw [upd_ne ne, upd_same], by decide, ?_⟩⟩
    exact q dx _ n ne (by rw [upd_ne (Ne.symm ne), upd_same]) upd_same fun b h1 h2 => by rw [upd_ne h2, upd_ne h1, upd_ne h2]
end
/-! ### the law's question of an error -/
def fieldOf (z : Str) : Option Str :=
  if inV (.str z) [.str "BadPlace", .str "NoPlace"] = true then some "place"
  else if inV (.str z) [.str "BadMove", .str "BadText", .str "BadRemainder", .str "BadDeed"] = true then some "at"
  else if inV (.str z) [.str "TooLong", .str "TooWide", .str "TooGreat", .str "TooSmall", .str "Full"] = true then some "limit"
  else if inV (.str z) [.str "BadName", .str "Taken", .str "NoWord", .str "NoPile", .str "NoMark"] = true then some "name"
  else if inV (.str z) [.str "InUse", .str "NoWatch"] = true then some "number"
  else if decide (V.str z = .str "BadSize") = true then some "size"
  else if decide (V.str z = .str "BadRounds") = true then some "rounds"
  else if decide (V.str z = .str "BadCapacity") = true then some "value"
  else if decide (V.str z = .str "BadPage") = true then some "row" else none
/-- an error: its class, its code, what it is asked for -/
def ErrAt (K : PySem.W.Frag) (H : Hp) (cls : Value) (d : Option Addr) (z : Str) (v : V) : Prop := ∃ (C dd : Addr) (fs : List (Str × V)), cls = .ref C ∧ d = some dd ∧ XRd K C "code" ∧ H dd = some (.xd fs) ∧ fs.lookup ("code" : Str) = some (.str z) ∧
  (∀ f, fieldOf z = some f → XRd K C f ∧ fs.lookup f = some v) ∧ (fieldOf z = none → v = .non)
def sp_field (K : PySem.W.Frag) : Addr → Value → Option Addr → Sp := fun a cls d vs H Q _ => vs = [.ref a] ∧ ∃ (z : Str) (v : V), ErrAt K H cls d z v ∧ ∀ H', Same H H' → Q v H'
theorem iteC {c : Bool} {A B : Prop} (h1 : c = true → A) (h2 : c = false → B) : if c = true then A else B := by
  cases c
  · exact iteF (h2 rfl)
  · exact iteT (h1 rfl)
section
variable {P : Program} {w : World} {K : PySem.W.Frag} {mg : Str → Option Value} {base : Heap}
theorem ok_field (T : Txt K mg w) : FnP P w K mg base 2 T.a__law_field T.d__law_field P__law_field (sp_field K) := by
  obtain ⟨oc, od, kV, doc, pm, an, cdv, ct, osl, e, lk, hcd⟩ := T.F__law_field.ex
  rw [e] at lk ⊢
  refine fn_ofP lk hcd sc__law_field (fun a cls d vs H Q E h => ?_) (fun A outer s H vs Q p cls d hz hf hr h => ?_)
  · rw [h.1]
    rfl
  · obtain ⟨rfl, z, v, hE, q⟩ := h
    refine ⟨_, (pss_cons (ps_if (pt_cmpR (k_in (K := K)) (k_xg (K := K) List.mem_cons_self hz hf (pv 0)) (pe_lst (pa_cons pe_str (pa_cons pe_str pa_nil))) (by rfl))
  (pss_one (ps_ret (k_xg (K := K) List.mem_cons_self hz hf (pv 0)))) pss_nil)
  (pss_cons (ps_if (pt_cmpR (k_in (K := K)) (k_xg (K := K) List.mem_cons_self hz hf (pv 0)) (pe_lst (pa_cons pe_str (pa_cons pe_str (pa_cons pe_str (pa_cons pe_str pa_nil))))) (by rfl))
  (pss_one (ps_ret (k_xg (K := K) List.mem_cons_self hz hf (pv 0)))) pss_nil)
  (pss_cons (ps_if (pt_cmpR (k_in (K := K)) (k_xg (K := K) List.mem_cons_self hz hf (pv 0)) (pe_lst (pa_cons pe_str (pa_cons pe_str (pa_cons pe_str (pa_cons pe_str (pa_cons pe_str pa_nil)))))) (by rfl))
  (pss_one (ps_ret (k_xg (K := K) List.mem_cons_self hz hf (pv 0)))) pss_nil)
  (pss_cons (ps_if (pt_cmpR (k_in (K := K)) (k_xg (K := K) List.mem_cons_self hz hf (pv 0)) (pe_lst (pa_cons pe_str (pa_cons pe_str (pa_cons pe_str (pa_cons pe_str (pa_cons pe_str pa_nil)))))) (by rfl))
  (pss_one (ps_ret (k_xg (K := K) List.mem_cons_self hz hf (pv 0)))) pss_nil)
  (pss_cons (ps_if (pt_cmpR (k_in (K := K)) (k_xg (K := K) List.mem_cons_self hz hf (pv 0)) (pe_lst (pa_cons pe_str (pa_cons pe_str pa_nil))) (by rfl))
  (pss_one (ps_ret (k_xg (K := K) List.mem_cons_self hz hf (pv 0)))) pss_nil)
  (pss_cons (ps_if (pt_cmpR op_eq (k_xg (K := K) List.mem_cons_self hz hf (pv 0)) pe_str (nomark _))
  (pss_one (ps_ret (k_xg (K := K) List.mem_cons_self hz hf (pv 0)))) pss_nil)
  (pss_cons (ps_if (pt_cmpR op_eq (k_xg (K := K) List.mem_cons_self hz hf (pv 0)) pe_str (nomark _))
  (pss_one (ps_ret (k_xg (K := K) List.mem_cons_self hz hf (pv 0)))) pss_nil)
  (pss_cons (ps_if (pt_cmpR op_eq (k_xg (K := K) List.mem_cons_self hz hf (pv 0)) pe_str (nomark _))
  (pss_one (ps_ret (k_xg (K := K) List.mem_cons_self hz hf (pv 0)))) pss_nil)
  (pss_one (ps_ret (pe_ifExp (pt_cmpR op_eq (k_xg (K := K) List.mem_cons_self hz hf (pv 0)) pe_str (nomark _)) (k_xg (K := K) List.mem_cons_self hz hf (pv 0)) pe_non))))))))))), ?_⟩
    obtain ⟨C, dd, fs, rfl, rfl, hC, hH, hl, hf1, hf0⟩ := hE
    have s0 : Same H H := Same.refl H
    refine ⟨_, rfl, rfl, C, dd, fs, .str z, rfl, rfl, hC, s0 _ _ hH, hl, ?_⟩
    walk_at "rds"
    intro D1 nD1
    have s1 := Same.new s0 (o := .lst [.str "BadPlace", .str "NoPlace"]) nD1
    refine ⟨D1, _, rfl, .inl (.inl (.inl upd_same)), rfl, rfl, _, rfl, iteC (fun e => ?_) (fun e1 => ?_)⟩
    · change inV _ _ = true at e
      obtain ⟨h1, h2⟩ := hf1 "place" (by unfold fieldOf; rw [if_pos e])
      exact ⟨_, rfl, rfl, C, dd, fs, v, rfl, rfl, h1, s1 _ _ hH, h2, q _ s1⟩
    change inV _ _ = false at e1
    refine ⟨_, rfl, rfl, C, dd, fs, .str z, rfl, rfl, hC, s1 _ _ hH, hl, ?_⟩
    walk_at "rds"
    intro D2 nD2
    have s2 := Same.new s1 (o := .lst [.str "BadMove", .str "BadText", .str "BadRemainder", .str "BadDeed"]) nD2
    refine ⟨D2, _, rfl, .inl (.inl (.inl upd_same)), rfl, rfl, _, rfl, iteC (fun e => ?_) (fun e2 => ?_)⟩
    · change inV _ _ = true at e
      obtain ⟨h1, h2⟩ := hf1 "at" (by unfold fieldOf; rw [if_neg (by rw [e1]; decide)]; rw [if_pos e])
      exact ⟨_, rfl, rfl, C, dd, fs, v, rfl, rfl, h1, s2 _ _ hH, h2, q _ s2⟩
    change inV _ _ = false at e2
    refine ⟨_, rfl, rfl, C, dd, fs, .str z, rfl, rfl, hC, s2 _ _ hH, hl, ?_⟩
    walk_at "rds"
    intro D3 nD3
    have s3 := Same.new s2 (o := .lst [.str "TooLong", .str "TooWide", .str "TooGreat", .str "TooSmall", .str "Full"]) nD3
    refine ⟨D3, _, rfl, .inl (.inl (.inl upd_same)), rfl, rfl, _, rfl, iteC (fun e => ?_) (fun e3 => ?_)⟩
    · change inV _ _ = true at e
      obtain ⟨h1, h2⟩ := hf1 "limit" (by unfold fieldOf; rw [if_neg (by rw [e1]; decide)]; rw [if_neg (by rw [e2]; decide)]; rw [if_pos e])
      exact ⟨_, rfl, rfl, C, dd, fs, v, rfl, rfl, h1, s3 _ _ hH, h2, q _ s3⟩
    change inV _ _ = false at e3
    refine ⟨_, rfl, rfl, C, dd, fs, .str z, rfl, rfl, hC, s3 _ _ hH, hl, ?_⟩
    walk_at "rds"
    intro D4 nD4
    have s4 := Same.new s3 (o := .lst [.str "BadName", .str "Taken", .str "NoWord", .str "NoPile", .str "NoMark"]) nD4
    refine ⟨D4, _, rfl, .inl (.inl (.inl upd_same)), rfl, rfl, _, rfl, iteC (fun e => ?_) (fun e4 => ?_)⟩
    · change inV _ _ = true at e
      obtain ⟨h1, h2⟩ := hf1 "name" (by unfold fieldOf; rw [if_neg (by rw [e1]; decide)]; rw [if_neg (by rw [e2]; decide)]; rw [if_neg (by rw [e3]; decide)]; rw [if_pos e])
      exact ⟨_, rfl, rfl, C, dd, fs, v, rfl, rfl, h1, s4 _ _ hH, h2, q _ s4⟩
    change inV _ _ = false at e4
    refine ⟨_, rfl, rfl, C, dd, fs, .str z, rfl, rfl, hC, s4 _ _ hH, hl, ?_⟩
    walk_at "rds"
    intro D5 nD5
    have s5 := Same.new s4 (o := .lst [.str "InUse", .str "NoWatch"]) nD5
    refine ⟨D5, _, rfl, .inl (.inl (.inl upd_same)), rfl, rfl, _, rfl, iteC (fun e => ?_) (fun e5 => ?_)⟩
    · change inV _ _ = true at e
      obtain ⟨h1, h2⟩ := hf1 "number" (by unfold fieldOf; rw [if_neg (by rw [e1]; decide)]; rw [if_neg (by rw [e2]; decide)]; rw [if_neg (by rw [e3]; decide)]; rw [if_neg (by rw [e4]; decide)]; rw [if_pos e])
      exact ⟨_, rfl, rfl, C, dd, fs, v, rfl, rfl, h1, s5 _ _ hH, h2, q _ s5⟩
    change inV _ _ = false at e5
    refine ⟨_, rfl, rfl, C, dd, fs, .str z, rfl, rfl, hC, s5 _ _ hH, hl, ?_⟩
    walk_at "rds"
    refine iteC (fun e => ?_) (fun e6 => ?_)
    · obtain ⟨h1, h2⟩ := hf1 "size" (by unfold fieldOf; rw [if_neg (by rw [e1]; decide)]; rw [if_neg (by rw [e2]; decide)]; rw [if_neg (by rw [e3]; decide)]; rw [if_neg (by rw [e4]; decide)]; rw [if_neg (by rw [e5]; decide)]; rw [if_pos e])
      exact ⟨_, rfl, rfl, C, dd, fs, v, rfl, rfl, h1, s5 _ _ hH, h2, q _ s5⟩
    refine ⟨_, rfl, rfl, C, dd, fs, .str z, rfl, rfl, hC, s5 _ _ hH, hl, ?_⟩
    walk_at "rds"
    refine iteC (fun e => ?_) (fun e7 => ?_)
    · obtain ⟨h1, h2⟩ := hf1 "rounds" (by unfold fieldOf; rw [if_neg (by rw [e1]; decide)]; rw [if_neg (by rw [e2]; decide)]; rw [if_neg (by rw [e3]; decide)]; rw [if_neg (by rw [e4]; decide)]; rw [if_neg (by rw [e5]; decide)]; rw [if_neg (by rw [e6]; decide)]; rw [if_pos e])
      exact ⟨_, rfl, rfl, C, dd, fs, v, rfl, rfl, h1, s5 _ _ hH, h2, q _ s5⟩
    refine ⟨_, rfl, rfl, C, dd, fs, .str z, rfl, rfl, hC, s5 _ _ hH, hl, ?_⟩
    walk_at "rds"
    refine iteC (fun e => ?_) (fun e8 => ?_)
    · obtain ⟨h1, h2⟩ := hf1 "value" (by unfold fieldOf; rw [if_neg (by rw [e1]; decide)]; rw [if_neg (by rw [e2]; decide)]; rw [if_neg (by rw [e3]; decide)]; rw [if_neg (by rw [e4]; decide)]; rw [if_neg (by rw [e5]; decide)]; rw [if_neg (by rw [e6]; decide)]; rw [if_neg (by rw [e7]; decide)]; rw [if_pos e])
      exact ⟨_, rfl, rfl, C, dd, fs, v, rfl, rfl, h1, s5 _ _ hH, h2, q _ s5⟩
    refine ⟨_, rfl, rfl, C, dd, fs, .str z, rfl, rfl, hC, s5 _ _ hH, hl, ?_⟩
    walk_at "rds"
    refine iteC (fun e => ?_) (fun e9 => ?_)
    · obtain ⟨h1, h2⟩ := hf1 "row" (by unfold fieldOf; rw [if_neg (by rw [e1]; decide)]; rw [if_neg (by rw [e2]; decide)]; rw [if_neg (by rw [e3]; decide)]; rw [if_neg (by rw [e4]; decide)]; rw [if_neg (by rw [e5]; decide)]; rw [if_neg (by rw [e6]; decide)]; rw [if_neg (by rw [e7]; decide)]; rw [if_neg (by rw [e8]; decide)]; rw [if_pos e])
      exact ⟨_, rfl, rfl, C, dd, fs, v, rfl, rfl, h1, s5 _ _ hH, h2, q _ s5⟩
    have hv := hf0 (by unfold fieldOf; rw [if_neg (by rw [e1]; decide)]; rw [if_neg (by rw [e2]; decide)]; rw [if_neg (by rw [e3]; decide)]; rw [if_neg (by rw [e4]; decide)]; rw [if_neg (by rw [e5]; decide)]; rw [if_neg (by rw [e6]; decide)]; rw [if_neg (by rw [e7]; decide)]; rw [if_neg (by rw [e8]; decide)]; rw [if_neg (by rw [e9]; decide)])
    rw [hv] at q
    exact q _ s5
end
/-! ### the law asks: a value, or what the error tells -/
/-- tl: the reading of what is asked; PE_: the class PileError -/
def TTry (K : PySem.W.Frag) (PE_ : Addr) : (XK → Hp → VK → Prop) → Hp → VK → Prop := fun tl H Q =>
  tl (fun cls d H' => PySem.W.exmOne K cls (.ref PE_) = some true ∧ ∃ (z : Str) (v : V), ErrAt K H' cls d z v ∧ ∀ (t : Addr) H2, H' t = none → Same H' H2 → H2 t = some (.tup [.str z, v]) → Q (.ref t) H2)
    H (fun v H' => [V.str "value", v].length ≤ sizeLine ∧ ∀ p : Addr, H' p = none → Q (.ref p) (upd H' p (.tup [.str "value", v])))
abbrev qLam : Str := "law.<locals>.<lambda>"
theorem ErrAt.code {K : PySem.W.Frag} {H : Hp} {cls : Value} {d : Option Addr} {z : Str} {v : V} (h : ErrAt K H cls d z v) : ∃ (C dd : Addr) (fs : List (Str × V)), cls = .ref C ∧ d = some dd ∧ XRd K C "code" ∧ H dd = some (.xd fs) ∧ fs.lookup ("code" : Str) = some (.str z) := by
  obtain ⟨C, dd, fs, h1, h2, h3, h4, h5, _⟩ := h
  exact ⟨C, dd, fs, h1, h2, h3, h4, h5⟩
theorem raised_of {K : PySem.W.Frag} {C PE : Addr} {fs : List Str} {fld code : Str} {v : V} {H : Hp} {Q : VK} (X : ExcT K C PE fs) (hc : ("code" : Str) ∈ fs) (hf : fld ∈ fs) (hn : (("code" : Str) == fld) = false) (ho : fieldOf code = some fld)
    (h : ∀ (t : Addr) H2, H t = none → Same H H2 → H2 t = some (.tup [.str code, v]) → Q (.ref t) H2) :
    Raised C fld code v H (fun cls d H' => PySem.W.exmOne K cls (.ref PE) = some true ∧ ∃ (z : Str) (v : V), ErrAt K H' cls d z v ∧ ∀ (t : Addr) H2, H' t = none → Same H' H2 → H2 t = some (.tup [.str z, v]) → Q (.ref t) H2) := by
  intro dd nd
  refine ⟨X.e, code, v, ⟨C, dd, _, rfl, rfl, X.rd hc, upd_same, ?_, fun f e => ?_, fun e => ?_⟩, fun t H2 nt s e => h t H2 ?_ ((same_new nd).trans s) e⟩
  · simp [List.lookup, hn]
  · rw [ho] at e
    cases e
    refine ⟨X.rd hf, ?_⟩
    simp [List.lookup]
  · rw [ho] at e
    cases e
  · by_cases e : t = dd
    · rw [e, upd_same] at nt
      cases nt
    · rwa [upd_ne e] at nt
theorem roomP {A : Around} {o : Option Value} (h : L2H.RoomH 3 A) : L2H.RoomH 2 (A.mark o) := ⟨(h.mono (j := 2) (by decide)).dp, (h.mono (j := 2) (by decide)).un⟩
section
variable {K : PySem.W.Frag} {mg : Str → Option Value} {w : World}
theorem gives_try (T : Txt K mg w) {X : Cx} {sg : Scope} {bg : List Stmt} {cdg : Value} {q : Str} (hK : X.K = K) (hmg : X.mg = mg) (hw : X.w = w) (hs : sg = defScope s__law_try) (hb : bg = defBody s__law_try) (hr : Room 6 X.A) :
    LamX.GivesTo X N__law_try "_law_try" sg T.a__law_try cdg bg "_law_ask" q (TTry K T.a_PileError) := by
  subst hs hb hK hmg hw
  have F := ok_field (P := X.prog) (base := X.base) T
  intro f c' s H Q tl act hc h
  have hr2 : L2H.RoomH 3 (X.A.deeper (envOfC "_law_try" (defScope s__law_try) s.heap.objs.size T.a__law_try cdg)) := L2H.roomH_of ((hr.mono (by decide)).deeper _)
  refine ⟨_, pss_one (ps_try_manyA (X := (cxOf C8.CX0 X.prog X.w X.K X.mg X.base N__law_try "_law_try" (defScope s__law_try) T.a__law_try cdg X.A X.stack s H C8.E0).nox)
    (l := [(.ref T.a_PileError, 1, fun a cls d => tRet (tTup (tCons (tXg X.K a cls d "code" (tVar 1)) (tCons (tCallP (sp_field X.K) a cls d (tCons (tVar 1) tNil)) tNil)))), (.ref T.a_Missing, 1, fun a cls d => tRet (tTup (tCons (tXg X.K a cls d "code" (tVar 1)) (tCons (tCallP (sp_field X.K) a cls d (tCons (tVar 1) tNil)) tNil))))])
    (tb := fun W D σ H => ∃ Ech : XK, (∀ cls d σ' H', Ech cls d H' → W cls d σ' H') ∧ σ[0]? = some (some (.ref f)) ∧ H c' = some (LamX.CodeO c' q) ∧ tl Ech H (fun v H' => [V.str "value", v].length ≤ sizeLine ∧ ∀ p : Addr, H' p = none → D.rt (.ref p) (upd H' p (.tup [.str "value", v]))))
    rfl rfl sc__law_try.nd takes0 (fun W pn xe tk _ => ?_)
    (.cons ⟨rfl, rfl, .inl T.g_PileError⟩ rfl rfl (fun a oe cls d pn hz hf => ?_) (.cons ⟨rfl, rfl, .inl T.g_Missing⟩ rfl rfl (fun a oe cls d pn hz hf => ?_) .nil))), ?_⟩
  · refine ⟨fun pins s' σ H' D I h' => ?_⟩
    obtain ⟨Ech, hW, h1, h2, h3⟩ := h'
    exact (pss_one (ps_ret (pe_tup (pa_cons pe_str (pa_cons (act W pn xe Ech _ _ tk hW) pa_nil))))).run pins s' σ H' D I ⟨h1, h2, h3⟩
  · exact pss_one (ps_ret (pe_tup (pa_cons (k_xg (p := (a, oe)) (K := X.K) List.mem_cons_self hz hf (pv 1)) (pa_cons (pe_callP (p := (a, oe)) List.mem_cons_self hz hf F (roomP hr2) (by rfl) T.g__law_field T.F__law_field.kp T.b__law_field (pa_cons (pv 1) pa_nil)) pa_nil))))
  · exact pss_one (ps_ret (pe_tup (pa_cons (k_xg (p := (a, oe)) (K := X.K) List.mem_cons_self hz hf (pv 1)) (pa_cons (pe_callP (p := (a, oe)) List.mem_cons_self hz hf F (roomP hr2) (by rfl) T.g__law_field T.F__law_field.kp T.b__law_field (pa_cons (pv 1) pa_nil)) pa_nil))))
  · refine ⟨fun cls d H' => PySem.W.exmOne X.K cls (.ref T.a_PileError) = some true ∧ ∃ (z : Str) (v : V), ErrAt X.K H' cls d z v ∧ ∀ (t : Addr) H2, H' t = none → Same H' H2 → H2 t = some (.tup [.str z, v]) → Q (.ref t) H2, fun cls d σ' H' hE => ?_, rfl, hc, h⟩
    obtain ⟨he, z, v, hA, hq⟩ := hE
    refine ⟨true, he, fun _ a na hl => ?_, fun e => nomatch e⟩
    obtain ⟨C, dd, fs, rfl, rfl, h3, h4, h5⟩ := hA.code
    have e1 : (σ'.set 1 (some (.ref a)))[1]? = some (some (.ref a)) := by
      rw [List.getElem?_set, if_pos rfl, if_pos (by rw [hl]; exact Nat.lt_succ_self 1)]
    refine ⟨_, e1, rfl, C, dd, fs, .str z, rfl, rfl, h3, h4, h5, _, e1, rfl, z, v, hA, fun H2 s2 => ⟨le_line (Nat.le_of_ble_eq_true rfl), fun p hp => hq p _ (s2.free hp) (Same.new s2 hp) upd_same⟩⟩
end
/-! ### texts and numbers -/
theorem op_mul_str {X : Cx} : OpR X (binaryOp .Mult) (fun x y H Q => ∃ z n, x = .str z ∧ y = .int n ∧ MulOk z n ∧ Q (.str (Txt.mul z n)) H) := by
  intro pins s σ H x y v u Q I rx ry h
  obtain ⟨z, n, rfl, rfl, hz, q⟩ := h
  obtain ⟨t, rfl⟩ := rx
  obtain ⟨t', rfl⟩ := ry
  exact PySem.SB.mul hz fun t' tk => ⟨.str (Txt.mul z n), H, I.tok _, ⟨_, rfl⟩, q⟩
theorem str_len (z : Str) : z.length = z.cps.toList.length := by simp [Str.length]
theorem str_ext {y z : Str} (h : y.cps.toList = z.cps.toList) : y = z := by
  obtain ⟨a⟩ := y
  obtain ⟨b⟩ := z
  congr 1
  exact Array.toList_inj.mp h
theorem starts_one {y : Str} {c : Nat} (hy : y.cps.toList = [c]) (z : Str) : Txt.startswith z y = decide (z.cps.toList.head? = some c) := by
  unfold Txt.startswith
  rw [PySem.StrLaws.subAt_eq, str_len, str_len, hy]
  cases h : z.cps.toList with
  | nil => rfl
  | cons a l =>
    have e : (decide (0 + [c].length ≤ (a :: l).length)) = true := by simp
    rw [e, Bool.true_and]
    show ([a] == [c]) = _
    rw [Bool.eq_iff_iff]
    simp
theorem cut_tail (z : Str) : (cutS z (some 1) none).cps.toList = z.cps.toList.tail := by
  unfold cutS
  rw [str_len]
  show (z.cps.toList.drop (HT.sIx z.cps.toList.length 0 (some ((1 : Nat) : Int)))).take (HT.sIx z.cps.toList.length z.cps.toList.length none - HT.sIx z.cps.toList.length 0 (some ((1 : Nat) : Int))) = _
  rw [HT.sIx_nat, HT.sIx_none]
  cases z.cps.toList with
  | nil => rfl
  | cons a l =>
    show ((a :: l).drop (min 1 (l.length + 1))).take (l.length + 1 - min 1 (l.length + 1)) = l
    rw [show min 1 (l.length + 1) = 1 by omega]
    show l.take l.length = l
    exact List.take_length
theorem cut_head (z : Str) : (cutS z none (some 1)).cps.toList = z.cps.toList.take 1 := by
  unfold cutS
  rw [str_len]
  show (z.cps.toList.drop (HT.sIx z.cps.toList.length 0 none)).take (HT.sIx z.cps.toList.length z.cps.toList.length (some ((1 : Nat) : Int)) - HT.sIx z.cps.toList.length 0 none) = _
  rw [HT.sIx_nat, HT.sIx_none]
  cases z.cps.toList with
  | nil => rfl
  | cons a l =>
    show (a :: l).take (min 1 (l.length + 1) - 0) = [a]
    rw [show min 1 (l.length + 1) - 0 = 1 by omega]
    rfl
/-- what read_number makes of a text -/
def isDig (c : Nat) : Bool := decide (c ∈ ("0123456789" : Str).cps.toList)
theorem isDig_iff {c : Nat} : isDig c = true ↔ 48 ≤ c ∧ c ≤ 57 := by
  unfold isDig
  rw [decide_eq_true_eq, show ("0123456789" : Str).cps.toList = [48, 49, 50, 51, 52, 53, 54, 55, 56, 57] by decide +kernel]
  constructor
  · intro h
    simp only [List.mem_cons, List.not_mem_nil, or_false] at h
    omega
  · intro h
    simp only [List.mem_cons, List.not_mem_nil, or_false]
    omega
def digL (l : List Nat) : List Nat := if l.head? = some 45 then l.tail else l
def rdL (l : List Nat) : Option Int :=
  if (digL l).length = 0 ∨ 31 < (digL l).length then none else if (digL l).all isDig = false then none else if (digL l).head? = some 48 ∧ l ≠ [48] then none
  else some (if l.head? = some 45 then -((NumText.digitsVal (digL l) : Nat) : Int) else ((NumText.digitsVal (digL l) : Nat) : Int))
def numV : Option Int → V
  | none => .non
  | some i => .int i
theorem all_dig {l : List Nat} (h : l.all isDig = true) : NumText.AllDigits l := fun c hc => isDig_iff.mp (List.all_eq_true.mp h c hc)
theorem rd_text {z : Str} (hl : (digL z.cps.toList).length ≠ 0) (h31 : ¬ 31 < (digL z.cps.toList).length) (ha : (digL z.cps.toList).all isDig = true) :
    intText? z = some (if z.cps.toList.head? = some 45 then -((NumText.digitsVal (digL z.cps.toList) : Nat) : Int) else ((NumText.digitsVal (digL z.cps.toList) : Nat) : Int)) ∧ z.length ≤ 640 := by
  have hd := all_dig ha
  unfold digL at *
  by_cases h : z.cps.toList.head? = some 45
  · rw [if_pos h] at *
    cases e : z.cps.toList with
    | nil => rw [e] at h; cases h
    | cons a l =>
      rw [e] at h hl h31 hd
      cases h
      have l1 : z.length = l.length + 1 := by rw [str_len, e]; rfl
      have l2 : ¬ 31 < l.length := h31
      refine ⟨?_, by omega⟩
      show intText? z = some (-((NumText.digitsVal l : Nat) : Int))
      exact PySem.intText_neg e hd (fun z => hl (by rw [show ((45 : Nat) :: l).tail = l from rfl, z]; rfl)) (by omega)
  · rw [if_neg h] at hl h31 ha hd
    rw [if_neg h, if_neg h]
    have l1 := str_len z
    exact ⟨PySem.intText_digits hd (fun e => hl (by rw [e]; rfl)) (by omega), by omega⟩
/-- texts told apart -/
theorem iteS {z : Str} {A B : Prop} (h : A) : if decide (V.str z = V.str z) = true then A else B := iteD (fun _ => h) fun e => absurd rfl e
theorem iteSN {y z : Str} {A B : Prop} (h : decide (y = z) = false) (q : B) : if decide (V.str y = V.str z) = true then A else B := iteD (fun e => absurd (V.str.inj e) (of_decide_eq_false h)) fun _ => q
theorem dS {z : Str} : decide (V.str z = V.str z) = true := decide_eq_true rfl
theorem dSN {y z : Str} (h : decide (y = z) = false) : decide (V.str y = V.str z) = false := decide_eq_false fun e => of_decide_eq_false h (V.str.inj e)
local macro_rules | `(tactic| walk_at "strs") => `(tactic| repeat first
  | walk_at "rdt" | walk_at "isi" | refine iteS ?_ | (refine iteSN (by assumption) ?_) | (refine iteSN (by decide +kernel) ?_))
local macro_rules | `(tactic| walk_at "qd") => `(tactic| first | assumption | (rw [dS]; assumption) | (rw [decide_eq_true rfl]; assumption))
section
variable {P : Program} {w : World} {K : PySem.W.Frag} {mg : Str → Option Value} {base : Heap}
def sp_rdnum : Sp := fun vs H Q _ => ∃ z : Str, vs = [.str z] ∧ z.length ≤ 1000 ∧ Q (numV (rdL z.cps.toList)) H
theorem ok_read_number (T : Txt K mg w) : FnOk P w K mg base CX0 1 T.a_read_number T.d_read_number P_read_number sp_rdnum := by
  refine T.F_read_number.ok sc_read_number (fun vs H Q E h => ?_) (fun cdv A outer s H vs Q E hr h => ?_)
  · obtain ⟨z, rfl, _⟩ := h
    rfl
  · obtain ⟨z, rfl, hz, q⟩ := h
    refine ⟨_, (pss_cons (ps_set (i := 1) sc_read_number.nd rfl (Or.inl rfl) (pe_ifExp (pt_val (pe_m1 PySem.F.slot_str_startswith PySem.F.type_str_startswith mt_startswith (pv 0) pe_str)) (pe_slice sl_str (pv 0) (po_some pe_int) po_none) (pv 0)))
  (pss_cons (ps_if (PW.pt (pw_or (pt_cmpR op_eq (pe_callB call_len_str (by rfl) T.m_len boot_len (pa_cons (pv 1) pa_nil)) pe_int (nomark _)) (pw_or1 (pt_cmpR op_gt (pe_callB call_len_str (by rfl) T.m_len boot_len (pa_cons (pv 1) pa_nil)) (pe_glob (v := .int 31) rfl T.c_MOST_DIGITS ⟨_, rfl⟩) (nomark _)))))
  (pss_one (ps_ret pe_non)) pss_nil)
  (pss_cons (ps_for PassesOwn.never rfl (pi_str (pv 1)) (pg_name (i := 2) sc_read_number.nd rfl (Or.inl rfl))
  (pss_one (ps_if (pt_cmpR op_notIn_sign (pv 2) pe_str (by rfl))
  (pss_one (ps_ret pe_non)) pss_nil)))
  (pss_cons (ps_if (PW.pt (pw_and (pt_val (pe_m1 PySem.F.slot_str_startswith PySem.F.type_str_startswith mt_startswith (pv 1) pe_str)) (pw_and1 (pt_cmpR op_ne (pv 0) pe_str (nomark _)))))
  (pss_one (ps_ret pe_non)) pss_nil)
  (pss_one (ps_ret (pe_callTy call_int_str (by rfl) T.m_int boot_int (pa_cons (pv 0) pa_nil)))))))), ?_⟩
    have hsl : z.length ≤ sizeLine := le_line hz
    have h1 := starts_one (y := "-") (c := 45) (by decide +kernel) z
    have hct := cut_tail z
    refine ⟨_, rfl, ⟨_, rfl⟩, z, "-", rfl, rfl, ?_⟩
    refine ⟨_, rfl, ?_⟩
    rw [h1]
    refine iteC (fun e => ?_) (fun e => ?_)
    · have hdl : (cutS z (some 1) none).cps.toList = digL z.cps.toList := by
        unfold digL
        rw [if_pos (of_decide_eq_true e), hct]
      have hds : (cutS z (some 1) none).length ≤ sizeLine := by
        rw [str_len, hct]
        refine Nat.le_trans ?_ hsl
        rw [str_len z]
        cases z.cps.toList with
        | nil => exact Nat.le_refl _
        | cons a l => exact Nat.le_succ _
      walk_at "rds"
      generalize cutS z (some 1) none = d at *
      have nn : (d.length : Int) = ((digL z.cps.toList).length : Int) := congrArg Int.ofNat ((str_len _).trans (congrArg List.length hdl))
      refine iteE (fun e0 => ?_) (fun e0 => ?_)
      · walk_at "rds"
        have e1 : rdL z.cps.toList = none := by
          unfold rdL
          rw [if_pos (.inl (by omega))]
        rw [e1] at q
        exact q
      walk_at "rds"
      refine iteD (fun e1 => ?_) (fun e1 => ?_)
      · walk_at "rds"
        have e2 : rdL z.cps.toList = none := by
          unfold rdL
          rw [if_pos (.inr (by omega))]
        rw [e2] at q
        exact q
      walk_at "rds"
      have hno : ¬ ((digL z.cps.toList).length = 0 ∨ 31 < (digL z.cps.toList).length) := by omega
      refine for_by (n := d.cps.size) (fun i σ H' => H' = H ∧ (∀ c ∈ d.cps.toList.take i, isDig c = true) ∧ ∃ y, σ = [some (.str z), some (.str d), y]) ⟨rfl, (fun c h => absurd h List.not_mem_nil), none, rfl⟩
        (fun i σ H' hi _ => hi) (fun σ H' _ => show _ ≤ _ from Nat.le_refl _) (fun i σ H' v H2 hi hp hv => ?_) (fun σ H' hp => ?_)
      · obtain ⟨rfl, c, hc, rfl⟩ := hv
        obtain ⟨rfl, ha, y, rfl⟩ := hp
        walk_at "rds"
        have hcl : d.cps.toList[i]? = some c := by rw [Array.getElem?_toList]; exact hc
        change if (!isDig c) = true then _ else _
        refine iteC (fun e => ?_) (fun e => ?_)
        · walk_at "rds"
          have e3 : rdL z.cps.toList = none := by
            unfold rdL
            rw [if_neg hno, if_pos]
            rw [← hdl]
            refine Bool.eq_false_iff.mpr fun h => ?_
            rw [List.all_eq_true.mp h c (List.mem_of_getElem? hcl)] at e
            cases e
          rw [e3] at q
          exact q
        · refine ⟨rfl, fun x hx => ?_, _, rfl⟩
          rw [List.take_add_one, hcl] at hx
          rcases List.mem_append.mp hx with h | h
          · exact ha x h
          · rw [List.mem_singleton.mp h]
            cases hi2 : isDig c with
            | false =>
              rw [hi2] at e
              cases e
            | true => rfl
      · obtain ⟨rfl, ha, y, rfl⟩ := hp
        walk_at "rds"
        have hall : (digL z.cps.toList).all isDig = true := by
          rw [← hdl]
          refine List.all_eq_true.mpr fun c hc => ha c ?_
          rw [List.take_of_length_le (by simp)]
          exact hc
        obtain ⟨t1, t2⟩ := rd_text (z := z) (by omega) (by omega) hall
        refine ⟨⟨_, rfl⟩, d, "0", rfl, rfl, ?_⟩
        refine ⟨_, rfl, ?_⟩
        rw [starts_one (y := "0") (c := 48) (by decide +kernel), show d.cps.toList = digL z.cps.toList from hdl]
        refine iteC (fun e => ?_) (fun e => ?_)
        · have e48 := of_decide_eq_true e
          walk_at "rds"
          refine iteND (fun e2 => ?_) (fun e2 => ?_)
          · walk_at "rds"
            have hn : z.cps.toList ≠ [48] := fun h => e2 (congrArg V.str (str_ext (by rw [h]; decide +kernel)))
            have e4 : rdL z.cps.toList = none := by
              unfold rdL
              rw [if_neg hno, if_neg (by rw [hall]; decide), if_pos ⟨e48, hn⟩]
            rw [e4] at q
            exact q
          · walk_at "rds"
            have ez : z = ("0" : Str) := V.str.inj e2
            refine ⟨_, _, rfl, t1, t2, ?_⟩
            have e4 : rdL z.cps.toList = some (if z.cps.toList.head? = some 45 then -((NumText.digitsVal (digL z.cps.toList) : Nat) : Int) else ((NumText.digitsVal (digL z.cps.toList) : Nat) : Int)) := by
              unfold rdL
              rw [if_neg hno, if_neg (by rw [hall]; decide), if_neg (fun h => h.2 (by rw [ez]; decide +kernel))]
            rw [e4] at q
            exact q
        · walk_at "rds"
          refine ⟨_, _, rfl, t1, t2, ?_⟩
          have e4 : rdL z.cps.toList = some (if z.cps.toList.head? = some 45 then -((NumText.digitsVal (digL z.cps.toList) : Nat) : Int) else ((NumText.digitsVal (digL z.cps.toList) : Nat) : Int)) := by
            unfold rdL
            rw [if_neg hno, if_neg (by rw [hall]; decide), if_neg (fun h => absurd h.1 (of_decide_eq_false e))]
          rw [e4] at q
          exact q
    · have hdl : z.cps.toList = digL z.cps.toList := by
        unfold digL
        rw [if_neg (of_decide_eq_false e)]
      have hds := hsl
      walk_at "rds"
      have nn : (z.length : Int) = ((digL z.cps.toList).length : Int) := congrArg Int.ofNat ((str_len _).trans (congrArg List.length hdl))
      refine iteE (fun e0 => ?_) (fun e0 => ?_)
      · walk_at "rds"
        have e1 : rdL z.cps.toList = none := by
          unfold rdL
          rw [if_pos (.inl (by omega))]
        rw [e1] at q
        exact q
      walk_at "rds"
      refine iteD (fun e1 => ?_) (fun e1 => ?_)
      · walk_at "rds"
        have e2 : rdL z.cps.toList = none := by
          unfold rdL
          rw [if_pos (.inr (by omega))]
        rw [e2] at q
        exact q
      walk_at "rds"
      have hno : ¬ ((digL z.cps.toList).length = 0 ∨ 31 < (digL z.cps.toList).length) := by omega
      refine for_by (n := z.cps.size) (fun i σ H' => H' = H ∧ (∀ c ∈ z.cps.toList.take i, isDig c = true) ∧ ∃ y, σ = [some (.str z), some (.str z), y]) ⟨rfl, (fun c h => absurd h List.not_mem_nil), none, rfl⟩
        (fun i σ H' hi _ => hi) (fun σ H' _ => show _ ≤ _ from Nat.le_refl _) (fun i σ H' v H2 hi hp hv => ?_) (fun σ H' hp => ?_)
      · obtain ⟨rfl, c, hc, rfl⟩ := hv
        obtain ⟨rfl, ha, y, rfl⟩ := hp
        walk_at "rds"
        have hcl : z.cps.toList[i]? = some c := by rw [Array.getElem?_toList]; exact hc
        change if (!isDig c) = true then _ else _
        refine iteC (fun e => ?_) (fun e => ?_)
        · walk_at "rds"
          have e3 : rdL z.cps.toList = none := by
            unfold rdL
            rw [if_neg hno, if_pos]
            rw [← hdl]
            refine Bool.eq_false_iff.mpr fun h => ?_
            rw [List.all_eq_true.mp h c (List.mem_of_getElem? hcl)] at e
            cases e
          rw [e3] at q
          exact q
        · refine ⟨rfl, fun x hx => ?_, _, rfl⟩
          rw [List.take_add_one, hcl] at hx
          rcases List.mem_append.mp hx with h | h
          · exact ha x h
          · rw [List.mem_singleton.mp h]
            cases hi2 : isDig c with
            | false =>
              rw [hi2] at e
              cases e
            | true => rfl
      · obtain ⟨rfl, ha, y, rfl⟩ := hp
        walk_at "rds"
        have hall : (digL z.cps.toList).all isDig = true := by
          rw [← hdl]
          refine List.all_eq_true.mpr fun c hc => ha c ?_
          rw [List.take_of_length_le (by simp)]
          exact hc
        obtain ⟨t1, t2⟩ := rd_text (z := z) (by omega) (by omega) hall
        refine ⟨⟨_, rfl⟩, z, "0", rfl, rfl, ?_⟩
        refine ⟨_, rfl, ?_⟩
        rw [starts_one (y := "0") (c := 48) (by decide +kernel), show z.cps.toList = digL z.cps.toList from hdl]
        refine iteC (fun e => ?_) (fun e => ?_)
        · have e48 := of_decide_eq_true e
          walk_at "rds"
          refine iteND (fun e2 => ?_) (fun e2 => ?_)
          · walk_at "rds"
            have hn : z.cps.toList ≠ [48] := fun h => e2 (congrArg V.str (str_ext (by rw [h]; decide +kernel)))
            have e4 : rdL z.cps.toList = none := by
              unfold rdL
              rw [if_neg hno, if_neg (by rw [hall]; decide), if_pos ⟨e48, hn⟩]
            rw [e4] at q
            exact q
          · walk_at "rds"
            have ez : z = ("0" : Str) := V.str.inj e2
            refine ⟨_, _, rfl, t1, t2, ?_⟩
            have e4 : rdL z.cps.toList = some (if z.cps.toList.head? = some 45 then -((NumText.digitsVal (digL z.cps.toList) : Nat) : Int) else ((NumText.digitsVal (digL z.cps.toList) : Nat) : Int)) := by
              unfold rdL
              rw [if_neg hno, if_neg (by rw [hall]; decide), if_neg (fun h => h.2 (by rw [ez]; decide +kernel))]
            rw [e4] at q
            exact q
        · walk_at "rds"
          refine ⟨_, _, rfl, t1, t2, ?_⟩
          have e4 : rdL z.cps.toList = some (if z.cps.toList.head? = some 45 then -((NumText.digitsVal (digL z.cps.toList) : Nat) : Int) else ((NumText.digitsVal (digL z.cps.toList) : Nat) : Int)) := by
            unfold rdL
            rw [if_neg hno, if_neg (by rw [hall]; decide), if_neg (fun h => absurd h.1 (of_decide_eq_false e))]
          rw [e4] at q
          exact q
end
/-! ### end places of any kind -/
def isTB (v : V) : Bool := decide (v = .str "top") || decide (v = .str "bottom")
def isN0 : V → Bool
  | .int i => decide (0 ≤ i)
  | _ => false
def iep (e d : V) : Bool := isTB e && isN0 d
section
variable {P : Program} {w : World} {K : PySem.W.Frag} {mg : Str → Option Value} {base : Heap}
def sp_isnumA : Sp := fun vs H Q _ => ∃ (v : V) (b : Bool), vs = [v] ∧ (v = .non ∧ b = false ∨ ∃ i, v = .int i ∧ b = true) ∧ Q (.bl b) H
theorem ok_is_numberA (T : Txt K mg w) : FnOk P w K mg base CX0 1 T.a_is_number T.d_is_number P_is_number sp_isnumA := by
  refine T.F_is_number.ok sc_is_number (fun vs H Q E h => ?_) (fun cdv A outer s H vs Q E hr h => ?_)
  · obtain ⟨v, b, rfl, _⟩ := h
    rfl
  · obtain ⟨v, b, rfl, h, q⟩ := h
    refine ⟨_, (pss_one (ps_ret (pe_and (pe_callB (k_isi (K := K)) (by rfl) T.m_isinstance boot_isinstance (pa_cons (pv 0) (pa_cons (pe_bltn (v := .ty "int") (by rfl) T.m_int boot_int rfl) pa_nil))) (pe_one (pe_not (pe_callB (k_isi (K := K)) (by rfl) T.m_isinstance boot_isinstance (pa_cons (pv 0) (pa_cons (pe_bltn (v := .ty "bool") (by rfl) T.m_bool boot_bool rfl) pa_nil)))))))), ?_⟩
    rcases h with ⟨rfl, rfl⟩ | ⟨i, rfl, rfl⟩
    · have tx : TyX K H .non (.type "NoneType") := .base .non
      walk_at "strs"
      exact q
    · have tx : TyX K H (.int i) (.type "int") := .base (.int i)
      walk_at "strs"
      exact q
def sp_isendA : Sp := fun vs H Q _ => ∃ v : V, vs = [v] ∧ (v = .non ∨ ∃ z, v = .str z) ∧ Q (.bl (isTB v)) H
theorem ok_is_endA (T : Txt K mg w) : FnOk P w K mg base CX0 1 T.a_is_end T.d_is_end P_is_end sp_isendA := by
  refine T.F_is_end.ok sc_is_end (fun vs H Q E h => ?_) (fun cdv A outer s H vs Q E hr h => ?_)
  · obtain ⟨v, rfl, _⟩ := h
    rfl
  · obtain ⟨v, rfl, h, q⟩ := h
    refine ⟨_, (pss_one (ps_ret (pe_or (pe_cmpR op_eq (pv 0) pe_str (nomark _)) (pe_one (pe_cmpR op_eq (pv 0) pe_str (nomark _)))))), ?_⟩
    have s1 : scal v (.str "top") = true := by rcases h with rfl | ⟨z, rfl⟩ <;> rfl
    have s2 : scal v (.str "bottom") = true := by rcases h with rfl | ⟨z, rfl⟩ <;> rfl
    refine ⟨_, rfl, s1, ?_⟩
    by_cases e : v = .str "top"
    · have e2 : isTB v = true := by unfold isTB; rw [decide_eq_true e]; rfl
      rw [e2] at q
      rw [decide_eq_true e]
      walk_at "strs"
      exact q
    · rw [decide_eq_false e]
      have e2 : isTB v = decide (v = .str "bottom") := by unfold isTB; rw [decide_eq_false e]; rfl
      rw [e2] at q
      walk_at "strs"
      exact q
def sp_iepA (K : PySem.W.Frag) : Sp := fun vs H Q _ => ∃ (p : Addr) (e d : V), vs = [.ref p] ∧ SqT K H p [e, d] ∧ (e = .non ∨ ∃ z, e = .str z) ∧ (d = .non ∨ ∃ i, d = .int i) ∧ Q (.bl (iep e d)) H
theorem ok_is_end_placeA (T : Txt K mg w) : FnOk P w K mg base CX0 2 T.a_is_end_place T.d_is_end_place P_is_end_place (sp_iepA K) := by
  have G_is_number := ok_is_numberA (P := P) (w := w) (base := base) T
  have G_is_end := ok_is_endA (P := P) (w := w) (base := base) T
  refine T.F_is_end_place.ok sc_is_end_place (fun vs H Q E h => ?_) (fun cdv A outer s H vs Q E hr h => ?_)
  · obtain ⟨p, e, d, rfl, _⟩ := h
    rfl
  · obtain ⟨p, e, d, rfl, hp, he, hd, q⟩ := h
    refine ⟨_, (pss_cons (ps_if (PW.pt (pw_or (pt_not (pt_val (pe_callB (k_isi (K := K)) (by rfl) T.m_isinstance boot_isinstance (pa_cons (pv 0) (pa_cons (pe_bltn (v := .ty "tuple") (by rfl) T.m_tuple boot_tuple rfl) pa_nil))))) (pw_or1 (pt_cmpR op_ne (pe_callB (k_len (K := K)) (by rfl) T.m_len boot_len (pa_cons (pv 0) pa_nil)) pe_int (nomark _)))))
  (pss_one (ps_ret pe_bl)) pss_nil)
  (pss_one (ps_ret (pe_and (pe_call G_is_end (hr.mono (by decide)) (by rfl) T.g_is_end T.F_is_end.kp T.b_is_end .nil pass0 (pa_cons (pe_ix (k_ixT (K := K)) (pv 0) pe_int (fun _ _ => rfl)) pa_nil)) (pe_and (pe_call G_is_number (hr.mono (by decide)) (by rfl) T.g_is_number T.F_is_number.kp T.b_is_number .nil pass0 (pa_cons (pe_ix (k_ixT (K := K)) (pv 0) pe_int (fun _ _ => rfl)) pa_nil)) (pe_one (pe_cmpR op_ge (pe_ix (k_ixT (K := K)) (pv 0) pe_int (fun _ _ => rfl)) pe_int (nomark _)))))))), ?_⟩
    have tx := tyT hp
    walk_at "strs"
    refine iteC (fun e1 => ?_) (fun e1 => ?_)
    · walk_at "strs"
      rcases hd with rfl | ⟨i, rfl⟩
      · refine ⟨_, _, rfl, .inl ⟨rfl, rfl⟩, ?_⟩
        walk_at "strs"
        have e2 : iep e .non = false := by unfold iep isN0; rw [Bool.and_false]
        rw [e2] at q
        exact q
      · refine ⟨_, _, rfl, .inr ⟨i, rfl, rfl⟩, ?_⟩
        walk_at "strs"
        have e2 : iep e (.int i) = decide (0 ≤ i) := by unfold iep isN0; rw [e1, Bool.true_and]
        rw [e2] at q
        exact q
    · walk_at "strs"
      have e2 : iep e d = false := by unfold iep; rw [e1, Bool.false_and]
      rw [e2] at q
      exact q
def sp_csize (C : Addr) : Sp := fun vs H Q E => ∃ n : Int, vs = [.int n] ∧ (n < 0 ∨ 1000000000000000000000000000000 < n → Raised C "size" "BadSize" (.int n) H E) ∧ (¬ (n < 0 ∨ 1000000000000000000000000000000 < n) → Q .non H)
theorem ok_check_sizeR (T : Txt K mg w) : FnOk P w K mg base (L2.CX P w) 4 T.a_check_size T.d_check_size P_check_size (sp_csize T.a_BadSize) := by
  have G_BadSize := ok_BadSize (P := P) (w := w) (base := base) T
  refine T.F_check_size.okX sc_check_size (fun vs H Q E h => ?_) (fun cdv A outer s H vs Q E hr h => ?_)
  · obtain ⟨n, rfl, _⟩ := h
    rfl
  · obtain ⟨n, rfl, h1, h2⟩ := h
    refine ⟨_, (pss_one (ps_if (PW.pt (pw_or (pt_cmpR op_lt (pv 0) pe_int (nomark _)) (pw_or1 (pt_cmpR op_gt (pv 0) (pe_glob (v := .int 1000000000000000000000000000000) rfl T.c_MOST_CARDS ⟨_, rfl⟩) (nomark _)))))
  (pss_one (ps_raise rfl (takes_of rfl rfl rfl rfl) (pmk_oex T.x_BadSize.o T.i_BadSize T.ti_BadSize G_BadSize (hr.mono (by decide)) T.b_BadSize .nil pass0 (by rfl) T.g_BadSize (pa_cons (pv 0) pa_nil)))) pss_nil)), ?_⟩
    walk_at "strs"
    refine iteD (fun e => ?_) (fun e => ?_)
    · refine ⟨_, rfl, Nat.le_of_ble_eq_true rfl, ?_⟩
      exact mk_x1 (W := fun d H' => E (.ref T.a_BadSize) d H') (h1 (.inl e))
    walk_at "strs"
    refine iteD (fun e2 => ?_) (fun e2 => ?_)
    · refine ⟨_, rfl, Nat.le_of_ble_eq_true rfl, ?_⟩
      exact mk_x1 (W := fun d H' => E (.ref T.a_BadSize) d H') (h1 (.inr e2))
    walk_at "strs"
    exact h2 (by omega)
def sp_resolveA (K : PySem.W.Frag) (CB CS CN : Addr) : Sp := fun vs H Q E => ∃ (p : Addr) (z : Str) (i n : Int), vs = [.ref p, .int n] ∧ SqT K H p [.str z, .int i] ∧
  (iep (.str z) (.int i) = false → Raised CB "place" "BadPlace" (.ref p) H E) ∧
  (iep (.str z) (.int i) = true → (n < 0 ∨ 1000000000000000000000000000000 < n) → Raised CS "size" "BadSize" (.int n) H E) ∧
  (iep (.str z) (.int i) = true → ¬ (n < 0 ∨ 1000000000000000000000000000000 < n) → n ≤ i → Raised CN "place" "NoPlace" (.ref p) H E) ∧
  (iep (.str z) (.int i) = true → ¬ (n < 0 ∨ 1000000000000000000000000000000 < n) → i < n → Q (.int (if V.str z = .str "top" then i else n - 1 - i)) H)
theorem ok_resolveA (T : Txt K mg w) : FnOk P w K mg base (L2.CX P w) 6 T.a_resolve T.d_resolve P_resolve (sp_resolveA K T.a_BadPlace T.a_BadSize T.a_NoPlace) := by
  have G_BadPlace := ok_BadPlace (P := P) (w := w) (base := base) T
  have G_NoPlace := ok_NoPlace (P := P) (w := w) (base := base) T
  have G_is_end_place := ok_is_end_placeA (P := P) (w := w) (base := base) T
  have G_check_size := ok_check_sizeR (P := P) (w := w) (base := base) T
  refine T.F_resolve.okX sc_resolve (fun vs H Q E h => ?_) (fun cdv A outer s H vs Q E hr h => ?_)
  · obtain ⟨p, z, i, n, rfl, _⟩ := h
    rfl
  · obtain ⟨p, z, i, n, rfl, hp, h1, h2, h3, h4⟩ := h
    refine ⟨_, (pss_cons (ps_if (pt_not (pt_val (pe_call G_is_end_place (hr.mono (by decide)) (by rfl) T.g_is_end_place T.F_is_end_place.kp T.b_is_end_place .nil pass0 (pa_cons (pv 0) pa_nil))))
  (pss_one (ps_raise rfl (takes_of rfl rfl rfl rfl) (pmk_oex T.x_BadPlace.o T.i_BadPlace T.ti_BadPlace G_BadPlace (hr.mono (by decide)) T.b_BadPlace .nil pass0 (by rfl) T.g_BadPlace (pa_cons (pv 0) pa_nil)))) pss_nil)
  (pss_cons (ps_expr (pe_call G_check_size (hr.mono (by decide)) (by rfl) T.g_check_size T.F_check_size.kp T.b_check_size .nil (passes_call (takes_of rfl rfl rfl rfl) fun _ _ _ _ h => h) (pa_cons (pv 1) pa_nil)))
  (pss_cons (ps_asg (pv 0) (k_gT (K := K) (n := 2) (pgs_cons (pg_name (i := 2) sc_resolve.nd rfl (Or.inl rfl)) (pgs_cons (pg_name (i := 3) sc_resolve.nd rfl (Or.inl rfl)) pgs_nil))))
  (pss_cons (ps_if (pt_cmpR op_ge (pv 3) (pv 1) (nomark _))
  (pss_one (ps_raise rfl (takes_of rfl rfl rfl rfl) (pmk_oex T.x_NoPlace.o T.i_NoPlace T.ti_NoPlace G_NoPlace (hr.mono (by decide)) T.b_NoPlace .nil pass0 (by rfl) T.g_NoPlace (pa_cons (pv 0) pa_nil)))) pss_nil)
  (pss_one (ps_ret (pe_ifExp (pt_cmpR op_eq (pv 2) pe_str (nomark _)) (pv 3) (pe_op op_sub (pe_op op_sub (pv 1) pe_int) (pv 3))))))))), ?_⟩
    walk_at "strs"
    refine ⟨p, _, _, rfl, hp, .inr ⟨z, rfl⟩, .inr ⟨i, rfl⟩, ?_⟩
    cases e : iep (.str z) (.int i) with
    | false =>
      walk_at "strs"
      refine ⟨Nat.le_of_ble_eq_true rfl, ?_⟩
      exact mk_x1 (W := fun d H' => E (.ref T.a_BadPlace) d H') (h1 e)
    | true =>
      walk_at "strs"
      refine ⟨fun e2 => h2 e e2, fun e2 => ?_⟩
      walk_at "strs"
      refine ⟨p, _, rfl, hp, rfl, _, _, rfl, _, _, rfl, rfl, ?_⟩
      walk_at "strs"
      refine iteD (fun e3 => ?_) (fun e3 => ?_)
      · walk_at "strs"
        refine ⟨Nat.le_of_ble_eq_true rfl, ?_⟩
        exact mk_x1 (W := fun d H' => E (.ref T.a_NoPlace) d H') (h3 e e2 e3)
      walk_at "strs"
      have q := h4 e e2 (by omega)
      by_cases e4 : V.str z = .str "top"
      · rw [if_pos e4] at q
        rw [decide_eq_true e4]
        walk_at "strs"
        exact q
      · rw [if_neg e4] at q
        rw [decide_eq_false e4]
        walk_at "strs"
        exact q
def endLtr (v : V) : Str := if v = .str "top" then "t" else "b"
def sp_endtext : Sp := fun vs H Q _ => ∃ z : Str, vs = [.str z] ∧ Q (.str (endLtr (.str z))) H
theorem ok_end_text (T : Txt K mg w) : FnOk P w K mg base CX0 1 T.a_end_text T.d_end_text P_end_text sp_endtext := by
  refine T.F_end_text.ok sc_end_text (fun vs H Q E h => ?_) (fun cdv A outer s H vs Q E hr h => ?_)
  · obtain ⟨z, rfl, _⟩ := h
    rfl
  · obtain ⟨z, rfl, q⟩ := h
    refine ⟨_, (pss_one (ps_ret (pe_ifExp (pt_cmpR op_eq (pv 0) pe_str (nomark _)) pe_str pe_str))), ?_⟩
    unfold endLtr at q
    walk_at "strs"
    by_cases e4 : V.str z = .str "top"
    · rw [if_pos e4] at q
      rw [decide_eq_true e4]
      walk_at "strs"
      exact q
    · rw [if_neg e4] at q
      rw [decide_eq_false e4]
      walk_at "strs"
      exact q
/-- what read_end makes of a text -/
def endOf (z : Str) : V := if z = "t" then .str "top" else if z = "b" then .str "bottom" else .non
def sp_rdend : Sp := fun vs H Q _ => ∃ z : Str, vs = [.str z] ∧ Q (endOf z) H
theorem ok_read_end (T : Txt K mg w) : FnOk P w K mg base CX0 1 T.a_read_end T.d_read_end P_read_end sp_rdend := by
  refine T.F_read_end.ok sc_read_end (fun vs H Q E h => ?_) (fun cdv A outer s H vs Q E hr h => ?_)
  · obtain ⟨z, rfl, _⟩ := h
    rfl
  · obtain ⟨z, rfl, q⟩ := h
    refine ⟨_, (pss_one (ps_ret (pe_kget (K := K) (w := w) (pe_glob (v := .ref T.a_ENDS) rfl T.c_ENDS rfl) T.d_ENDS (pv 0) ⟨rfl, rfl, rfl, rfl⟩))), ?_⟩
    refine ⟨_, rfl, z, rfl, ?_⟩
    unfold endOf at q
    by_cases h1 : z = "t"
    · subst h1
      rw [if_pos rfl] at q
      exact .inl ⟨_, T.e_ENDS_t, q⟩
    · rw [if_neg h1] at q
      by_cases h2 : z = "b"
      · subst h2
        rw [if_pos rfl] at q
        exact .inl ⟨_, T.e_ENDS_b, q⟩
      · rw [if_neg h2] at q
        refine .inr ⟨T.x_ENDS z (fun h => ?_), q⟩
        rcases List.mem_cons.mp h with h | h
        · exact h1 h
        · exact h2 (List.mem_singleton.mp h)
def sp_ptext (K : PySem.W.Frag) (CB : Addr) : Sp := fun vs H Q E => ∃ (p : Addr) (z : Str) (i : Int), vs = [.ref p] ∧ SqT K H p [.str z, .int i] ∧
  (iep (.str z) (.int i) = false → Raised CB "place" "BadPlace" (.ref p) H E) ∧
  (iep (.str z) (.int i) = true → i.natAbs.log2 < 1920 ∧ (endLtr (.str z)).length + (Str.ofString (toString i)).length ≤ sizeLine ∧ Q (.str (endLtr (.str z) ++ Str.ofString (toString i))) H)
theorem ok_place_text (T : Txt K mg w) : FnOk P w K mg base (L2.CX P w) 6 T.a_place_text T.d_place_text P_place_text (sp_ptext K T.a_BadPlace) := by
  have G_BadPlace := ok_BadPlace (P := P) (w := w) (base := base) T
  have G_is_end_place := ok_is_end_placeA (P := P) (w := w) (base := base) T
  have G_end_text := ok_end_text (P := P) (w := w) (base := base) T
  refine T.F_place_text.okX sc_place_text (fun vs H Q E h => ?_) (fun cdv A outer s H vs Q E hr h => ?_)
  · obtain ⟨p, z, i, rfl, _⟩ := h
    rfl
  · obtain ⟨p, z, i, rfl, hp, h1, h2⟩ := h
    refine ⟨_, (pss_cons (ps_if (pt_not (pt_val (pe_call G_is_end_place (hr.mono (by decide)) (by rfl) T.g_is_end_place T.F_is_end_place.kp T.b_is_end_place .nil pass0 (pa_cons (pv 0) pa_nil))))
  (pss_one (ps_raise rfl (takes_of rfl rfl rfl rfl) (pmk_oex T.x_BadPlace.o T.i_BadPlace T.ti_BadPlace G_BadPlace (hr.mono (by decide)) T.b_BadPlace .nil pass0 (by rfl) T.g_BadPlace (pa_cons (pv 0) pa_nil)))) pss_nil)
  (pss_cons (ps_asg (pv 0) (k_gT (K := K) (n := 2) (pgs_cons (pg_name (i := 1) sc_place_text.nd rfl (Or.inl rfl)) (pgs_cons (pg_name (i := 2) sc_place_text.nd rfl (Or.inl rfl)) pgs_nil))))
  (pss_one (ps_ret (pe_op op_add_str (pe_call G_end_text (hr.mono (by decide)) (by rfl) T.g_end_text T.F_end_text.kp T.b_end_text .nil pass0 (pa_cons (pv 1) pa_nil)) (pe_callTy call_str_int (by rfl) T.m_str boot_str (pa_cons (pv 2) pa_nil))))))), ?_⟩
    walk_at "strs"
    refine ⟨p, _, _, rfl, hp, .inr ⟨z, rfl⟩, .inr ⟨i, rfl⟩, ?_⟩
    cases e : iep (.str z) (.int i) with
    | false =>
      walk_at "strs"
      refine ⟨Nat.le_of_ble_eq_true rfl, ?_⟩
      exact mk_x1 (W := fun d H' => E (.ref T.a_BadPlace) d H') (h1 e)
    | true =>
      obtain ⟨h3, h4, q⟩ := h2 e
      walk_at "strs"
      refine ⟨p, _, rfl, hp, rfl, _, _, rfl, _, _, rfl, rfl, ?_⟩
      walk_at "strs"
      exact q
def pE (z : Str) : V := endOf (cutS z none (some 1))
def pD (z : Str) : V := numV (rdL z.cps.toList.tail)
theorem pE_flat (z : Str) : pE z = .non ∨ ∃ y, pE z = .str y := by
  unfold pE endOf
  split
  · exact .inr ⟨_, rfl⟩
  · split
    · exact .inr ⟨_, rfl⟩
    · exact .inl rfl
theorem pD_flat (z : Str) : pD z = .non ∨ ∃ i, pD z = .int i := by
  unfold pD
  cases rdL z.cps.toList.tail with
  | none => exact .inl rfl
  | some i => exact .inr ⟨i, rfl⟩
def sp_parse (CT : Addr) : Sp := fun vs H Q E => ∃ z : Str, vs = [.str z] ∧ z.length ≤ 1000 ∧ ∀ t, H t = none →
  (iep (pE z) (pD z) = false → Raised CT "at" "BadText" (.int 0) (upd H t (.tup [pE z, pD z])) E) ∧ (iep (pE z) (pD z) = true → Q (.ref t) (upd H t (.tup [pE z, pD z])))
theorem ok_parse_place (T : Txt K mg w) : FnOk P w K mg base (L2.CX P w) 6 T.a_parse_place T.d_parse_place P_parse_place (sp_parse T.a_BadText) := by
  have G_BadText := ok_BadText (P := P) (w := w) (base := base) T
  have G_is_end_place := ok_is_end_placeA (P := P) (w := w) (base := base) T
  have G_read_end := ok_read_end (P := P) (w := w) (base := base) T
  have G_read_number := ok_read_number (P := P) (w := w) (base := base) T
  refine T.F_parse_place.okX sc_parse_place (fun vs H Q E h => ?_) (fun cdv A outer s H vs Q E hr h => ?_)
  · obtain ⟨z, rfl, _⟩ := h
    rfl
  · obtain ⟨z, rfl, hz, q⟩ := h
    refine ⟨_, (pss_cons (ps_set (i := 1) sc_parse_place.nd rfl (Or.inl rfl) (pe_tup (pa_cons (pe_call G_read_end (hr.mono (by decide)) (by rfl) T.g_read_end T.F_read_end.kp T.b_read_end .nil pass0 (pa_cons (pe_slice sl_str (pv 0) po_none (po_some pe_int)) pa_nil)) (pa_cons (pe_call G_read_number (hr.mono (by decide)) (by rfl) T.g_read_number T.F_read_number.kp T.b_read_number .nil pass0 (pa_cons (pe_slice sl_str (pv 0) (po_some pe_int) po_none) pa_nil)) pa_nil))))
  (pss_cons (ps_if (pt_not (pt_val (pe_call G_is_end_place (hr.mono (by decide)) (by rfl) T.g_is_end_place T.F_is_end_place.kp T.b_is_end_place .nil pass0 (pa_cons (pv 1) pa_nil))))
  (pss_one (ps_raise rfl (takes_of rfl rfl rfl rfl) (pmk_oex T.x_BadText.o T.i_BadText T.ti_BadText G_BadText (hr.mono (by decide)) T.b_BadText .nil pass0 (by rfl) T.g_BadText (pa_cons pe_int pa_nil)))) pss_nil)
  (pss_one (ps_ret (pv 1))))), ?_⟩
    have hsl : z.length ≤ sizeLine := le_line hz
    have hct := cut_tail z
    have hl : (cutS z (some 1) none).length ≤ 1000 := by
      rw [str_len, hct]
      rw [str_len z] at hz
      cases e : z.cps.toList with
      | nil => exact Nat.zero_le _
      | cons a l =>
        rw [e] at hz
        exact Nat.le_of_succ_le hz
    walk_at "strs"
    intro t nt
    obtain ⟨q1, q2⟩ := q t nt
    have e1 : numV (rdL (cutS z (some 1) none).cps.toList) = pD z := by unfold pD; rw [hct]
    rw [e1]
    have e2 : endOf (cutS z none (some 1)) = pE z := rfl
    rw [e2]
    walk_at "strs"
    refine ⟨t, _, _, rfl, .inl (.inl upd_same), pE_flat z, pD_flat z, ?_⟩
    cases e : iep (pE z) (pD z) with
    | false =>
      walk_at "strs"
      exact mk_x1 (W := fun d H' => E (.ref T.a_BadText) d H') (q1 e)
    | true =>
      walk_at "strs"
      exact q2 e
end
/-! ### the law's own texts -/
theorem units65 {k : Nat} {A : Around} (r : Room k A) : A.units + 65 < cLine := by have := r.un; omega
theorem k_inD {K : PySem.W.Frag} {X : Cx} (hu : X.A.units + 65 < cLine) (h : X.K = K := by rfl) : OpR X (compareOp .In) (rInD K) := h ▸ op_inD hu
section
variable {P : Program} {w : World} {K : PySem.W.Frag} {mg : Str → Option Value} {base : Heap}
def sp_let (K : PySem.W.Frag) : Sp := fun vs H Q _ => ∃ (p : Addr) (z : Str) (i : Int), vs = [.ref p] ∧ SqT K H p [.str z, .int i] ∧ (z = "top" ∨ z = "bottom") ∧ i.natAbs.log2 < 1920 ∧ (Str.ofString (toString i)).length ≤ 1000 ∧ ∀ H', Same H H' → Q (.str (endLtr (.str z) ++ Str.ofString (toString i))) H'
theorem ok__law_end_text (T : Txt K mg w) : FnOk P w K mg base CX0 1 T.a__law_end_text T.d__law_end_text P__law_end_text (sp_let K) := by
  refine T.F__law_end_text.ok sc__law_end_text (fun vs H Q E h => ?_) (fun cdv A outer s H vs Q E hr h => ?_)
  · obtain ⟨p, z, i, rfl, _⟩ := h
    rfl
  · obtain ⟨p, z, i, rfl, hp, hz, hi, hl, q⟩ := h
    refine ⟨_, (pss_one (ps_ret (pe_op op_add_str (pe_dget (hu_of hr) (pe_disp (pps_cons pe_str pe_str (pps_cons pe_str pe_str pps_nil)) (by rfl) (by rfl) (fun z => by cases z) (by decide)) (pe_ix (k_ixT (K := K)) (pv 0) pe_int (fun _ _ => rfl)) (fun _ _ => rfl)) (pe_callTy call_str_int (by rfl) T.m_str boot_str (pa_cons (pe_ix (k_ixT (K := K)) (pv 0) pe_int (fun _ _ => rfl)) pa_nil))))), ?_⟩
    intro D nD
    refine ⟨upd_same, [(Sum.inr "top", .str "t"), (Sum.inr "bottom", .str "b")], rfl, by decide, ?_⟩
    have s1 := Same.mut (o := .dK (mergeK [] [(Sum.inr "top", .str "t"), (Sum.inr "bottom", .str "b")])) (same_new (o := .dK []) nD) nD
    refine ⟨_, rfl, ?_⟩
    refine ⟨p, _, 0, .str z, rfl, rfl, Same.tup s1 hp, at_zero, ?_⟩
    refine ⟨D, .str (endLtr (.str z)), rfl, ?_, ?_⟩
    · rcases hz with rfl | rfl
      · exact .inl ⟨_, Sum.inr "top", .inl upd_same, rfl, rfl⟩
      · exact .inl ⟨_, Sum.inr "bottom", .inl upd_same, rfl, rfl⟩
    · refine ⟨_, rfl, p, _, 1, .int i, rfl, rfl, Same.tup s1 hp, rfl, i, rfl, hi, _, _, rfl, rfl, ?_, q _ s1⟩
      have h1 : (endLtr (.str z)).length = 1 := by rcases hz with rfl | rfl <;> rfl
      rw [h1]
      exact Nat.le_trans (Nat.add_le_add_left hl 1) (by decide)
end
/-! ### the law's choices -/
theorem But.seq {K : PySem.W.Frag} {b t : Addr} {H H' : Hp} {xs : List V} (x : But b H H') (n : t ≠ b) (h : SqL K H t xs) : SqL K H' t xs := by
  rcases h with (h | ⟨o, h⟩) | h
  · exact .inl (.inl (x _ _ n h))
  · exact .inl (.inr ⟨o, x _ _ n h⟩)
  · exact .inr h
theorem Bag.obj {H : Hp} {b l : Addr} (x : Bag H b l) : ∃ xs, H b = some (.lst xs) := by
  obtain ⟨cs, i, hh, s, y⟩ := x
  exact ⟨_, y.at_⟩
/-- tuples stay when the bag changes -/
theorem But.tup {K : PySem.W.Frag} {b l t : Addr} {H H' : Hp} {xs : List V} (x : But b H H') (hB : Bag H b l) (h : SqT K H t xs) : SqT K H' t xs := by
  obtain ⟨ys, hb⟩ := hB.obj
  rcases h with (h | ⟨o, h⟩) | h
  · exact .inl (.inl (x _ _ (ne_of h hb (by intro z; cases z)) h))
  · exact .inl (.inr ⟨o, x _ _ (ne_of h hb (by intro z; cases z)) h⟩)
  · exact .inr h
section
variable {P : Program} {w : World} {K : PySem.W.Frag} {mg : Str → Option Value} {base : Heap}
def sp_of (K : PySem.W.Frag) : Sp := fun vs H Q _ => ∃ (b l t : Addr) (xs : List V), vs = [.ref b, .ref t] ∧ Bag H b l ∧ SqL K H t xs ∧ t ≠ b ∧ 0 < xs.length ∧ xs.length ≤ 1000 ∧
  ∀ (i : Nat) (x : V) H', xs[i]? = some x → Bag H' b l → But b H H' → Q x H'
theorem ok__law_of (T : Txt K mg w) : FnOk P w K mg base CX0 2 T.a__law_of T.d__law_of P__law_of (sp_of K) := by
  have G__law_pull := ok__law_pull (P := P) (w := w) (base := base) T
  refine T.F__law_of.ok sc__law_of (fun vs H Q E h => ?_) (fun cdv A outer s H vs Q E hr h => ?_)
  · obtain ⟨b, l, t, xs, rfl, _⟩ := h
    rfl
  · obtain ⟨b, l, t, xs, rfl, hB, ht, nt, x0, x1, q⟩ := h
    refine ⟨_, (pss_one (ps_ret (pe_ix (k_ixL (K := K)) (pv 1) (pe_call G__law_pull (hr.mono (by decide)) (by rfl) T.g__law_pull T.F__law_pull.kp T.b__law_pull .nil pass0 (pa_cons (pv 0) (pa_cons (pe_callB (k_len (K := K)) (by rfl) T.m_len boot_len (pa_cons (pv 1) pa_nil)) pa_nil))) (fun _ _ => rfl)))), ?_⟩
    walk_at "rds"
    refine ⟨b, l, _, rfl, hB, by omega, Fit.of (by omega) (by omega), fun r H2 r0 r1 hB2 b2 => ?_⟩
    have hi : r.toNat < xs.length := by omega
    have hx : atI xs r = some xs[r.toNat] := at_of (j := r.toNat) (by omega) (List.getElem?_eq_getElem hi)
    exact ⟨t, xs, r, xs[r.toNat], rfl, rfl, b2.seq nt ht, hx, q r.toNat _ H2 (List.getElem?_eq_getElem hi) hB2 b2⟩
end
/-! ### what the law hears of each question -/
def badSize (n : Int) : Prop := n < 0 ∨ 1000000000000000000000000000000 < n
instance (n : Int) : Decidable (badSize n) := by unfold badSize; infer_instance
def dueL (p : Addr) (z : Str) (j n : Int) : List V := if iep (.str z) (.int j) = false then [.str "BadPlace", .ref p] else if badSize n then [.str "BadSize", .int n] else if n ≤ j then [.str "NoPlace", .ref p] else [.str "value", .int (if V.str z = .str "top" then j else n - 1 - j)]
def dueT (p : Addr) (z : Str) (j : Int) : List V := if iep (.str z) (.int j) = false then [.str "BadPlace", .ref p] else [.str "value", .str (endLtr (.str z) ++ Str.ofString (toString j))]
section
variable {K : PySem.W.Frag} {mg : Str → Option Value} {w : World}
theorem ask_resolve (T : Txt K mg w) {tl : XK → Hp → VK → Prop} {p : Addr} {z : Str} {j n : Int} {H : Hp} {Q : VK} (hp : SqT K H p [.str z, .int j])
    (htl : ∀ E Q', sp_resolveA K T.a_BadPlace T.a_BadSize T.a_NoPlace [.ref p, .int n] H Q' E → tl E H Q')
    (h : ∀ (t : Addr) H2, Same H H2 → H2 t = some (.tup (dueL p z j n)) → Q (.ref t) H2) : TTry K T.a_PileError tl H Q := by
  refine htl _ _ ⟨p, z, j, n, rfl, hp, fun e => ?_, fun e e2 => ?_, fun e e2 e3 => ?_, fun e e2 e3 => ?_⟩
  · refine raised_of T.x_BadPlace (List.mem_cons_self ..) (List.mem_cons_of_mem _ (List.mem_cons_self ..)) (by decide +kernel) (by decide +kernel) fun t H2 nt s et => h t H2 s ?_
    unfold dueL
    rw [if_pos e]
    exact et
  · refine raised_of T.x_BadSize (List.mem_cons_self ..) (List.mem_cons_of_mem _ (List.mem_cons_self ..)) (by decide +kernel) (by decide +kernel) fun t H2 nt s et => h t H2 s ?_
    unfold dueL
    rw [if_neg (show ¬ iep (.str z) (.int j) = false by rw [e]; decide), if_pos (show badSize n from e2)]
    exact et
  · refine raised_of T.x_NoPlace (List.mem_cons_self ..) (List.mem_cons_of_mem _ (List.mem_cons_self ..)) (by decide +kernel) (by decide +kernel) fun t H2 nt s et => h t H2 s ?_
    unfold dueL
    rw [if_neg (show ¬ iep (.str z) (.int j) = false by rw [e]; decide), if_neg (show ¬ badSize n from e2), if_pos e3]
    exact et
  · refine ⟨le_line (Nat.le_of_ble_eq_true rfl), fun t nt => h t _ (same_new nt) ?_⟩
    have hd : dueL p z j n = [.str "value", .int (if V.str z = .str "top" then j else n - 1 - j)] := by
      unfold dueL
      rw [if_neg (show ¬ iep (.str z) (.int j) = false by rw [e]; decide), if_neg (show ¬ badSize n from e2), if_neg (show ¬ n ≤ j by omega)]
    rw [hd]
    exact upd_same
theorem ask_ptext (T : Txt K mg w) {tl : XK → Hp → VK → Prop} {p : Addr} {z : Str} {j : Int} {H : Hp} {Q : VK} (hp : SqT K H p [.str z, .int j])
    (htl : ∀ E Q', sp_ptext K T.a_BadPlace [.ref p] H Q' E → tl E H Q') (h1 : iep (.str z) (.int j) = true → j.natAbs.log2 < 1920 ∧ (endLtr (.str z)).length + (Str.ofString (toString j)).length ≤ sizeLine)
    (h : ∀ (t : Addr) H2, Same H H2 → H2 t = some (.tup (dueT p z j)) → Q (.ref t) H2) : TTry K T.a_PileError tl H Q := by
  refine htl _ _ ⟨p, z, j, rfl, hp, fun e => ?_, fun e => ?_⟩
  · refine raised_of T.x_BadPlace (List.mem_cons_self ..) (List.mem_cons_of_mem _ (List.mem_cons_self ..)) (by decide +kernel) (by decide +kernel) fun t H2 nt s et => h t H2 s ?_
    unfold dueT
    rw [if_pos e]
    exact et
  · obtain ⟨h2, h3⟩ := h1 e
    refine ⟨h2, h3, le_line (Nat.le_of_ble_eq_true rfl), fun t nt => h t _ (same_new nt) ?_⟩
    have hd : dueT p z j = [.str "value", .str (endLtr (.str z) ++ Str.ofString (toString j))] := by
      unfold dueT
      rw [if_neg (show ¬ iep (.str z) (.int j) = false by rw [e]; decide)]
    rw [hd]
    exact upd_same
theorem ask_parse (T : Txt K mg w) {tl : XK → Hp → VK → Prop} {z : Str} {H : Hp} {Q : VK} (hz : z.length ≤ 1000) (hb : iep (pE z) (pD z) = false)
    (htl : ∀ E Q', sp_parse T.a_BadText [.str z] H Q' E → tl E H Q')
    (h : ∀ (t : Addr) H2, Same H H2 → H2 t = some (.tup [.str "BadText", .int 0]) → Q (.ref t) H2) : TTry K T.a_PileError tl H Q := by
  refine htl _ _ ⟨z, rfl, hz, fun t nt => ⟨fun _ => ?_, fun e => by rw [hb] at e; cases e⟩⟩
  exact raised_of T.x_BadText (List.mem_cons_self ..) (List.mem_cons_of_mem _ (List.mem_cons_self ..)) (by decide +kernel) (by decide +kernel) fun t2 H2 nt2 s et => h t2 H2 ((same_new nt).trans s) et
end
theorem sm_list {K : PySem.W.Frag} {H : Hp} {s t : Addr} {xs : List V} {k : Nat} (h1 : SqT K H s xs) (h2 : SqT K H t xs) (hl : xs.length < 1000) (h : ∀ x ∈ xs, Sm K H k x x) : Sm K H (k + 1) (.ref s) (.ref t) := by
  refine .tup h1 h2 rfl hl fun i x y e1 e2 => ?_
  have e : x = y := Option.some.inj (e1.symm.trans e2)
  subst e
  exact h x (List.mem_of_getElem? e1)
theorem sm_self {K : PySem.W.Frag} {H : Hp} {p : Addr} {z : Str} {j : Int} (k : Nat) (hp : SqT K H p [.str z, .int j]) : Sm K H (k + 1) (.ref p) (.ref p) :=
  sm_list hp hp (by simp) fun x hx => by
    rcases List.mem_cons.mp hx with rfl | hx
    · exact .str _ _
    · rw [List.mem_singleton.mp hx]
      exact .int _ _
/-- two values: a text and an int, a text or a pair -/
theorem sm_two {K : PySem.W.Frag} {H : Hp} {s t : Addr} {c : Str} {v : V} (h1 : SqT K H s [.str c, v]) (h2 : SqT K H t [.str c, v]) (hv : Sm K H 1 v v) : Sm K H 2 (.ref s) (.ref t) :=
  sm_list h1 h2 (by simp) fun x hx => by
    rcases List.mem_cons.mp hx with rfl | hx
    · exact .str _ _
    · rw [List.mem_singleton.mp hx]
      exact hv
theorem sm_dueL {K : PySem.W.Frag} {H : Hp} {s t p : Addr} {z : Str} {j n : Int} (h1 : SqT K H s (dueL p z j n)) (h2 : SqT K H t (dueL p z j n)) (hp : SqT K H p [.str z, .int j]) : Sm K H 2 (.ref s) (.ref t) := by
  unfold dueL at h1 h2
  by_cases a1 : iep (.str z) (.int j) = false
  · rw [if_pos a1] at h1 h2
    exact sm_two h1 h2 (sm_self 0 hp)
  · rw [if_neg a1] at h1 h2
    by_cases a2 : badSize n
    · rw [if_pos a2] at h1 h2
      exact sm_two h1 h2 (.int _ _)
    · rw [if_neg a2] at h1 h2
      by_cases a3 : n ≤ j
      · rw [if_pos a3] at h1 h2
        exact sm_two h1 h2 (sm_self 0 hp)
      · rw [if_neg a3] at h1 h2
        exact sm_two h1 h2 (.int _ _)
theorem sm_dueT {K : PySem.W.Frag} {H : Hp} {s t p : Addr} {z : Str} {j : Int} (h1 : SqT K H s (dueT p z j)) (h2 : SqT K H t (dueT p z j)) (hp : SqT K H p [.str z, .int j]) : Sm K H 2 (.ref s) (.ref t) := by
  unfold dueT at h1 h2
  by_cases a1 : iep (.str z) (.int j) = false
  · rw [if_pos a1] at h1 h2
    exact sm_two h1 h2 (sm_self 0 hp)
  · rw [if_neg a1] at h1 h2
    exact sm_two h1 h2 (.str _ _)
theorem iep_good {z : Str} {d : Int} (hz : z = "top" ∨ z = "bottom") (h0 : 0 ≤ d) : iep (.str z) (.int d) = true := by
  show (isTB (.str z) && decide (0 ≤ d)) = true
  rw [decide_eq_true h0, Bool.and_true]
  rcases hz with rfl | rfl <;> decide +kernel
/-! ### numbers and their texts -/
theorem log_small {d : Int} (h0 : 0 ≤ d) (h : d ≤ 999999999999999999999999999999) : d.natAbs.log2 < 1920 := by
  by_cases e : d.natAbs = 0
  · rw [e]
    decide
  · exact (Nat.log2_lt e).mpr (Nat.lt_of_lt_of_le (show d.natAbs < 2 ^ 100 by omega) (Nat.pow_le_pow_right (by decide) (by decide)))
theorem num_text {d : Int} (h0 : 0 ≤ d) : (Str.ofString (toString d)).cps.toList = TL.numL d.toNat := by
  obtain ⟨n, rfl⟩ := Int.eq_ofNat_of_zero_le h0
  exact TL.tl_num n
theorem num_len {d : Int} (h0 : 0 ≤ d) (h : d ≤ 999999999999999999999999999999) : (Str.ofString (toString d)).length ≤ 31 := by
  rw [str_len, num_text h0]
  refine TL.numL_len (by decide) ?_
  have : d.toNat ≤ 999999999999999999999999999999 := by omega
  exact Nat.lt_of_le_of_lt this (by decide)
theorem num_head {n : Nat} (h : (TL.numL n).head? = some 48) : n = 0 := by
  induction n using Nat.strongRecOn with
  | _ n ih =>
    by_cases h9 : n < 10
    · rw [TL.numL_lt h9] at h
      have h2 : 48 + n = 48 := Option.some.inj h
      omega
    · rw [TL.numL_step (by omega)] at h
      have hn := TL.numL_ne (n / 10)
      cases e : TL.numL (n / 10) with
      | nil => exact absurd e hn
      | cons a l =>
        rw [e] at h
        have h3 : (TL.numL (n / 10)).head? = some 48 := by rw [e]; exact h
        have h4 := ih (n / 10) (by omega) h3
        omega
theorem rd_num {n : Nat} (h : n < 10 ^ 31) : rdL (TL.numL n) = some (n : Int) := by
  have hl := TL.numL_len (n := n) (k := 31) (by decide) h
  have hd := TL.numL_digits n
  have hne := TL.numL_ne n
  have h45 : (TL.numL n).head? ≠ some 45 := fun e => by
    cases e2 : TL.numL n with
    | nil => exact hne e2
    | cons a l =>
      rw [e2] at e hd
      have : a = 45 := Option.some.inj e
      have := (hd a (List.mem_cons_self ..)).1
      omega
  have e1 : digL (TL.numL n) = TL.numL n := by unfold digL; rw [if_neg h45]
  unfold rdL
  rw [e1]
  have hpos : (TL.numL n).length ≠ 0 := fun e => hne (List.length_eq_zero_iff.mp e)
  rw [if_neg (by omega), if_neg (fun e => ?_), if_neg (fun e => ?_), if_neg h45, TL.numL_val]
  · have h0 := num_head e.1
    subst h0
    exact e.2 (by rw [TL.numL_lt (by decide)])
  · rw [List.all_eq_true.mpr fun c hc => isDig_iff.mpr (hd c hc)] at e
    cases e
theorem tl_app (a b : Str) : (a ++ b).cps.toList = a.cps.toList ++ b.cps.toList := TL.tl_append a b
theorem ltr_list {z : Str} (hz : z = "top" ∨ z = "bottom") : (endLtr (.str z)).cps.toList = [if z = "top" then 116 else 98] := by
  rcases hz with rfl | rfl <;> decide +kernel
theorem pE_text {z : Str} {d : Int} (hz : z = "top" ∨ z = "bottom") : pE (endLtr (.str z) ++ Str.ofString (toString d)) = .str z := by
  unfold pE
  have e : cutS (endLtr (.str z) ++ Str.ofString (toString d)) none (some 1) = endLtr (.str z) := str_ext (by rw [cut_head, tl_app, ltr_list hz]; rfl)
  rw [e]
  rcases hz with rfl | rfl <;> decide +kernel
theorem pD_text {z : Str} {d : Int} (hz : z = "top" ∨ z = "bottom") (h0 : 0 ≤ d) (h : d ≤ 999999999999999999999999999999) : pD (endLtr (.str z) ++ Str.ofString (toString d)) = .int d := by
  unfold pD
  rw [tl_app, ltr_list hz]
  show numV (rdL (Str.ofString (toString d)).cps.toList) = _
  rw [num_text h0, rd_num (by have : d.toNat ≤ 999999999999999999999999999999 := by omega
                              exact Nat.lt_of_le_of_lt this (by decide))]
  show V.int ((d.toNat : Nat) : Int) = _
  rw [Int.toNat_of_nonneg h0]
theorem text_len {z : Str} {d : Int} (hz : z = "top" ∨ z = "bottom") (h0 : 0 ≤ d) (h : d ≤ 999999999999999999999999999999) : (endLtr (.str z) ++ Str.ofString (toString d)).length ≤ 1000 := by
  have h2 := num_len h0 h
  rw [str_len, tl_app, ltr_list hz, List.length_append, ← str_len]
  show 1 + _ ≤ 1000
  omega
/-! ### the law -/
local macro_rules | `(tactic| walk_at "nst") => `(tactic| try dsimp only [List.set_cons_succ, List.set_cons_zero, wipe, List.map_cons, List.map_nil, List.foldl_cons, List.foldl_nil])
theorem mul_ok9 {n : Int} (h : n = 31 ∨ n = 32) : MulOk ("9" : Str) n := by
  rcases h with rfl | rfl <;> (unfold MulOk; decide +kernel)
theorem bad_texts {x : V} (h : x ∈ ([V.str "", .str "t", .str "x3", .str "t03", .str "t-1", .str "t 3", .str "3", .str "top3", .str "b3 ", .str ("t" ++ Txt.mul "9" 32), .str "b1\n", .str "T1", .str " t1", .str "tt1", .str "b+1"] : List V)) :
    ∃ zb : Str, x = .str zb ∧ zb.length ≤ 1000 ∧ iep (pE zb) (pD zb) = false := by
  simp only [List.mem_cons, List.not_mem_nil, or_false] at h
  rcases h with h | h | h | h | h | h | h | h | h | h | h | h | h | h | h
  all_goals exact ⟨_, h, by decide +kernel, by decide +kernel⟩
theorem shaped_one {x : Str} (h : PyData.strOk x = true) (i : Int) : SeqAt.shaped (.tuple [.str x, .int i]) = true := by
  show ((PyData.strOk x && (true && true)) && true) = true
  rw [h]
  rfl
theorem shaped_two {x y : Str} (h : PyData.strOk x = true) (h2 : PyData.strOk y = true) (i j : Int) : SeqAt.shaped (.list [.tuple [.str x, .int i], .tuple [.str y, .int j]]) = true := by
  show (((PyData.strOk x && (true && true)) && ((PyData.strOk y && (true && true)) && true)) && true) = true
  rw [h, h2]
  rfl
/-- the end of a body, by a name -/
theorem gen_ends {tb : TS} {D : Ends} {σ : L2.St} {H : Hp} (h : ∀ DD : Ends, (∀ σ H, D.nx σ H → DD.nx σ H) → tb DD σ H) : tb D σ H := h D fun _ _ x => x
theorem Tabs.but {b l : Addr} {T : List (Addr × Str)} {H H' : Hp} (t : LamX.Tabs T H) (hB : Bag H b l) (e : But b H H') : LamX.Tabs T H' := fun p hp => by
  obtain ⟨ys, hb⟩ := hB.obj
  obtain ⟨ps, h1, h2, h3⟩ := t p hp
  refine ⟨ps, e _ _ (ne_of h1 hb (by intro z; cases z)) h1, h2, fun pos cv hc => ?_⟩
  obtain ⟨c, e1, e2⟩ := h3 pos cv hc
  exact ⟨c, e1, e _ _ (ne_of e2 hb (by intro z; unfold LamX.CodeO at z; cases z)) e2⟩
theorem ExtN.bag {b l : Addr} {H H' : Hp} (e : LamX.ExtN H H') (hB : Bag H b l) : Bag H' b l := by
  obtain ⟨cs, i, h, s, x⟩ := hB
  exact ⟨cs, i, h, s, e _ _ x.at_ (fun ps z => by cases z), e _ _ x.cells (fun ps z => by cases z), x.ne, x.len, x.i0, x.h0, x.s0, x.s1⟩
theorem ExtN.tup {K : PySem.W.Frag} {H H' : Hp} {a : Addr} {xs : List V} (e : LamX.ExtN H H') (h : SqT K H a xs) : SqT K H' a xs := by
  rcases h with (h | ⟨o, h⟩) | h
  · exact .inl (.inl (e _ _ h (fun ps z => by cases z)))
  · exact .inl (.inr ⟨o, e _ _ h (fun ps z => by cases z)⟩)
  · exact .inr h
def spLawT (K : PySem.W.Frag) (P : Addr) : Sp := fun vs H Q _ => ∃ (a : Addr) (ns : List Int), vs = [.ref a] ∧ SqL K H a (ns.map V.int) ∧ ns.length ≤ 63 ∧ LamX.Tabs [(P, qLam)] H ∧ ∀ H', Q (.bl true) H'
section
variable {P : Program} {w : World} {K : PySem.W.Frag} {mg : Str → Option Value} {base : Heap}
theorem ok_law (T : Txt K mg w) (TB : LamX.TabB base mg T.c_law T.p_law) : FnOk P w K mg base CX0 9 T.a_law T.d_law P_law (spLawT K T.p_law) := by
  have G__law_bag := ok__law_bag (P := P) (w := w) (base := base) T
  have G__law_pull := ok__law_pull (P := P) (w := w) (base := base) T
  have G__law_of := ok__law_of (P := P) (w := w) (base := base) T
  have G__law_same := ok_same (P := P) (w := w) (base := base) T 2
  have G_resolve := ok_resolveA (P := P) (w := w) (base := base) T
  have G_place_text := ok_place_text (P := P) (w := w) (base := base) T
  have G_parse_place := ok_parse_place (P := P) (w := w) (base := base) T
  have G__law_end_text := ok__law_end_text (P := P) (w := w) (base := base) T
  obtain ⟨ocT, odT, kVT, docT, pmT, anT, cdT, ctT, oslT, eT, lkTry, hcTry⟩ := T.F__law_try.ex
  have bTry := T.b__law_try
  rw [eT] at lkTry bTry
  refine T.C_law.ok sc_law (fun vs H Q E h => ?_) (fun A outer s H vs Q E hr h => ?_)
  · obtain ⟨a, ns, rfl, _⟩ := h
    rfl
  · obtain ⟨a, ns, rfl, hS, hlen, hT0, q⟩ := h
    refine ⟨_, (pss_cons (ps_set (i := 1) sc_law.nd rfl (Or.inl rfl) (pe_call G__law_bag (hr.mono (by decide)) (by rfl) T.g__law_bag T.F__law_bag.kp T.b__law_bag .nil pass0 (pa_cons (pv 0) pa_nil)))
  (pss_cons (ps_for PassesOwn.never rfl (pi_range1 rfl T.m_range (pa_cons pe_int pa_nil)) (pg_name (i := 2) sc_law.nd rfl (Or.inl rfl))
  (pss_cons (ps_set (i := 3) sc_law.nd rfl (Or.inl rfl) (pe_call G__law_of (hr.mono (by decide)) (by rfl) T.g__law_of T.F__law_of.kp T.b__law_of .nil pass0 (pa_cons (pv 1) (pa_cons (pe_lst (pa_cons (pe_call G__law_pull (hr.mono (by decide)) (by rfl) T.g__law_pull T.F__law_pull.kp T.b__law_pull .nil pass0 (pa_cons (pv 1) (pa_cons pe_int pa_nil))) (pa_cons pe_int (pa_cons (pe_op op_add pe_int (pe_call G__law_pull (hr.mono (by decide)) (by rfl) T.g__law_pull T.F__law_pull.kp T.b__law_pull .nil pass0 (pa_cons (pv 1) (pa_cons pe_int pa_nil)))) (pa_cons (pe_op op_sub (pe_op op_sub (pe_op op_pow pe_int pe_int) pe_int) (pe_call G__law_pull (hr.mono (by decide)) (by rfl) T.g__law_pull T.F__law_pull.kp T.b__law_pull .nil pass0 (pa_cons (pv 1) (pa_cons pe_int pa_nil)))) pa_nil))))) pa_nil))))
  (pss_cons (ps_set (i := 4) sc_law.nd rfl (Or.inr rfl) (pe_call G__law_of (hr.mono (by decide)) (by rfl) T.g__law_of T.F__law_of.kp T.b__law_of .nil pass0 (pa_cons (pv 1) (pa_cons (pe_lst (pa_cons (pe_tup (pa_cons pe_str (pa_cons (pv 3) pa_nil))) (pa_cons (pe_tup (pa_cons pe_str (pa_cons (pv 3) pa_nil))) (pa_cons (pe_tup (pa_cons pe_str (pa_cons (pv 3) pa_nil))) (pa_cons (pe_tup (pa_cons pe_str (pa_cons pe_int pa_nil))) (pa_cons (pe_tup (pa_cons pe_str (pa_cons (pe_op op_sub (pe_un un_neg pe_int) (pe_call G__law_pull (hr.mono (by decide)) (by rfl) T.g__law_pull T.F__law_pull.kp T.b__law_pull .nil pass0 (pa_cons (pv 1) (pa_cons pe_int pa_nil)))) pa_nil))) (pa_cons (pe_tup (pa_cons pe_str (pa_cons (pe_un un_neg pe_int) pa_nil))) pa_nil))))))) pa_nil))))
  (pss_cons (ps_set (i := 5) sc_law.nd rfl (Or.inr rfl) (pe_call G__law_of (hr.mono (by decide)) (by rfl) T.g__law_of T.F__law_of.kp T.b__law_of .nil pass0 (pa_cons (pv 1) (pa_cons (pe_lst (pa_cons (pe_call G__law_pull (hr.mono (by decide)) (by rfl) T.g__law_pull T.F__law_pull.kp T.b__law_pull .nil pass0 (pa_cons (pv 1) (pa_cons pe_int pa_nil))) (pa_cons (pe_callB (call_min2 rfl) (by rfl) T.m_min boot_min (pa_cons (pe_op op_add (pv 3) (pe_call G__law_pull (hr.mono (by decide)) (by rfl) T.g__law_pull T.F__law_pull.kp T.b__law_pull .nil pass0 (pa_cons (pv 1) (pa_cons pe_int pa_nil)))) (pa_cons (pe_op op_pow pe_int pe_int) pa_nil))) (pa_cons (pe_op op_pow pe_int pe_int) (pa_cons (pe_op op_add (pe_op op_add (pe_op op_pow pe_int pe_int) pe_int) (pe_call G__law_pull (hr.mono (by decide)) (by rfl) T.g__law_pull T.F__law_pull.kp T.b__law_pull .nil pass0 (pa_cons (pv 1) (pa_cons pe_int pa_nil)))) (pa_cons (pe_op op_sub (pe_un un_neg pe_int) (pe_call G__law_pull (hr.mono (by decide)) (by rfl) T.g__law_pull T.F__law_pull.kp T.b__law_pull .nil pass0 (pa_cons (pv 1) (pa_cons pe_int pa_nil)))) pa_nil)))))) pa_nil))))
  (Evl.pss_cut (ps_set (i := 6) sc_law.nd rfl (Or.inl rfl) (pe_tup (pa_cons pe_str (pa_cons (pe_ifExp (pt_cmpR op_eq (pe_ix (k_ixT (K := K)) (pv 4) pe_int (fun _ _ => rfl)) pe_str (nomark _)) (pv 3) (pe_op op_sub (pe_op op_sub (pv 5) pe_int) (pv 3))) pa_nil))))
  (Evl.pss_cut (ps_if (pt_cmpR op_ge (pv 3) (pv 5) (nomark _))
  (pss_one (ps_set (i := 6) sc_law.nd rfl (Or.inl rfl) (pe_tup (pa_cons pe_str (pa_cons (pv 4) pa_nil))))) pss_nil)
  (Evl.pss_cut (ps_if (PW.pt (pw_or (pt_cmpR op_lt (pv 5) pe_int (nomark _)) (pw_or1 (pt_cmpR op_gt (pv 5) (pe_op op_pow pe_int pe_int) (nomark _)))))
  (pss_one (ps_set (i := 6) sc_law.nd rfl (Or.inl rfl) (pe_tup (pa_cons pe_str (pa_cons (pv 5) pa_nil))))) pss_nil)
  (pss_cons (ps_set (i := 7) sc_law.nd rfl (Or.inl rfl) (pe_cmpR (k_inD (K := K) (units65 hr)) (pv 4) (pe_lst (pa_cons (pe_tup (pa_cons pe_str (pa_cons (pv 3) pa_nil))) (pa_cons (pe_tup (pa_cons pe_str (pa_cons (pv 3) pa_nil))) pa_nil))) (by rfl)))
  (Evl.pss_cut (ps_if (pt_not (pt_val (pv 7)))
  (pss_one (ps_set (i := 6) sc_law.nd rfl (Or.inl rfl) (pe_tup (pa_cons pe_str (pa_cons (pv 4) pa_nil))))) pss_nil)
  (pss_cons (ps_if (pt_not (pt_val (pe_call G__law_same (hr.mono (by decide)) (by rfl) T.g__law_same T.F__law_same.kp T.b__law_same .nil pass0 (pa_cons (LamX.pe_lamcall (k := 6) (T := [(T.p_law, qLam)]) (a := "_law_ask") rfl T.g__law_try T.F__law_try.kp lkTry hcTry bTry sc__law_try rfl (by first | exact Or.inl rfl | exact Or.inr (Or.inl rfl)) (gives_try T rfl rfl rfl rfl rfl (hr.mono (by decide))) TB rfl (List.mem_cons_self ..) (fun p hp _ => by rw [List.mem_singleton.mp hp] <;> rfl) (hr.mono (by decide)) (LamX.lamS_by (by show LamX.lamSB (defScope s_law) _ = true; decide +kernel)) rfl (fun _ _ _ _ _ => rfl) (fun A2 outer2 s2 H2 E2 f2 c2 hr => (pe_call G_resolve (hr.mono (by decide)) (by rfl) T.g_resolve T.F_resolve.kp T.b_resolve .nil (passes_call (takes_of rfl rfl rfl rfl) fun _ _ _ _ h => h) (pa_cons (pv 4) (pa_cons (pv 5) pa_nil))))) (pa_cons (pv 6) pa_nil)))))
  (pss_one (ps_ret pe_bl)) pss_nil)
  (Evl.pss_cut (ps_set (i := 6) sc_law.nd rfl (Or.inl rfl) (pe_ifExp (pt_val (pv 7)) (pe_tup (pa_cons pe_str (pa_cons (pe_call G__law_end_text (hr.mono (by decide)) (by rfl) T.g__law_end_text T.F__law_end_text.kp T.b__law_end_text .nil pass0 (pa_cons (pv 4) pa_nil)) pa_nil))) (pe_tup (pa_cons pe_str (pa_cons (pv 4) pa_nil)))))
  (pss_cons (ps_set (i := 8) sc_law.nd rfl (Or.inl rfl) (LamX.pe_lamcall (k := 6) (T := [(T.p_law, qLam)]) (a := "_law_ask") rfl T.g__law_try T.F__law_try.kp lkTry hcTry bTry sc__law_try rfl (by first | exact Or.inl rfl | exact Or.inr (Or.inl rfl)) (gives_try T rfl rfl rfl rfl rfl (hr.mono (by decide))) TB rfl (List.mem_cons_self ..) (fun p hp _ => by rw [List.mem_singleton.mp hp] <;> rfl) (hr.mono (by decide)) (LamX.lamS_by (by show LamX.lamSB (defScope s_law) _ = true; decide +kernel)) rfl (fun _ _ _ _ _ => rfl) (fun A2 outer2 s2 H2 E2 f2 c2 hr => (pe_call G_place_text (hr.mono (by decide)) (by rfl) T.g_place_text T.F_place_text.kp T.b_place_text .nil (passes_call (takes_of rfl rfl rfl rfl) fun _ _ _ _ h => h) (pa_cons (pv 4) pa_nil)))))
  (Evl.pss_cut (ps_if (PW.pt (pw_or (pt_not (pt_val (pe_call G__law_same (hr.mono (by decide)) (by rfl) T.g__law_same T.F__law_same.kp T.b__law_same .nil pass0 (pa_cons (pv 8) (pa_cons (pv 6) pa_nil))))) (pw_or1 (PW.pt (pw_and (pt_val (pv 7)) (pw_and1 (pt_not (pt_val (pe_call G__law_same (hr.mono (by decide)) (by rfl) T.g__law_same T.F__law_same.kp T.b__law_same .nil pass0 (pa_cons (pe_call G_parse_place (hr.mono (by decide)) (by rfl) T.g_parse_place T.F_parse_place.kp T.b_parse_place .nil passL (pa_cons (pe_ix (k_ixT (K := K)) (pv 8) pe_int (fun _ _ => rfl)) pa_nil)) (pa_cons (pv 4) pa_nil)))))))))))
  (pss_one (ps_ret pe_bl)) pss_nil)
  (pss_cons (ps_set (i := 9) sc_law.nd rfl (Or.inr rfl) (pe_call G__law_of (hr.mono (by decide)) (by rfl) T.g__law_of T.F__law_of.kp T.b__law_of .nil pass0 (pa_cons (pv 1) (pa_cons (pe_lst (pa_cons pe_str (pa_cons pe_str (pa_cons pe_str (pa_cons pe_str (pa_cons pe_str (pa_cons pe_str (pa_cons pe_str (pa_cons pe_str (pa_cons pe_str (pa_cons (pe_op op_add_str pe_str (pe_op op_mul_str pe_str pe_int)) (pa_cons pe_str (pa_cons pe_str (pa_cons pe_str (pa_cons pe_str (pa_cons pe_str pa_nil)))))))))))))))) pa_nil))))
  (pss_one (ps_if (pt_cmpR (k_neD (K := K) hr.units) (LamX.pe_lamcall (k := 6) (T := [(T.p_law, qLam)]) (a := "_law_ask") rfl T.g__law_try T.F__law_try.kp lkTry hcTry bTry sc__law_try rfl (by first | exact Or.inl rfl | exact Or.inr (Or.inl rfl)) (gives_try T rfl rfl rfl rfl rfl (hr.mono (by decide))) TB rfl (List.mem_cons_self ..) (fun p hp _ => by rw [List.mem_singleton.mp hp] <;> rfl) (hr.mono (by decide)) (LamX.lamS_by (by show LamX.lamSB (defScope s_law) _ = true; decide +kernel)) rfl (fun _ _ _ _ _ => rfl) (fun A2 outer2 s2 H2 E2 f2 c2 hr => (pe_call G_parse_place (hr.mono (by decide)) (by rfl) T.g_parse_place T.F_parse_place.kp T.b_parse_place .nil (passes_call (takes_of rfl rfl rfl rfl) fun _ _ _ _ h => h) (pa_cons (pv 9) pa_nil)))) (pe_tup (pa_cons pe_str (pa_cons pe_int pa_nil))) (nomark _))
  (pss_one (ps_ret pe_bl)) pss_nil))))))))))))))))
  (pss_one (ps_ret (pe_and (pe_cmpR (k_eqD (K := K) hr.units) (pe_call G_parse_place (hr.mono (by decide)) (by rfl) T.g_parse_place T.F_parse_place.kp T.b_parse_place .nil passL (pa_cons (pe_op op_add_str pe_str (pe_op op_mul_str pe_str pe_int)) pa_nil)) (pe_tup (pa_cons pe_str (pa_cons (pe_op op_sub (pe_op op_pow pe_int pe_int) pe_int) pa_nil))) (nomark _)) (pe_one (pe_cmpR (k_eqD (K := K) hr.units) (pe_lst (pa_cons (pe_glob (v := .int 399) rfl T.c_MOST_DEPTH ⟨_, rfl⟩) (pa_cons (pe_glob (v := .int 1000000000000000000000000000000) rfl T.c_MOST_CARDS ⟨_, rfl⟩) pa_nil))) (pe_lst (pa_cons pe_int (pa_cons (pe_op op_pow pe_int pe_int) pa_nil))) (nomark _)))))))), ?_⟩
    refine ⟨.ref a, rfl, a, ns, rfl, hS, hlen, fun b l H1 nb nl s1 hB1 => ?_⟩
    refine ⟨5, rfl, by decide, by decide, for_range (fun i σ H' => (Bag H' b l ∧ LamX.Tabs [(T.p_law, qLam)] H') ∧ ∃ y2 y3 y4 y5 y6 y7 y8 y9, σ = [some (.ref a), some (.ref b), y2, y3, y4, y5, y6, y7, y8, y9])
      ⟨⟨hB1, hT0.ext s1⟩, none, none, none, none, none, none, none, none, rfl⟩ (fun i σ H2 hi hp => ?_) (fun σ H2 hp => ?_)⟩
    · obtain ⟨⟨hB2, hT2⟩, y2, y3, y4, y5, y6, y7, y8, y9, rfl⟩ := hp
      have cp30 : CPow 10 30 := ⟨by decide, by decide, by decide⟩
      refine gen_ends (tb := tSeq _ _) (fun DD hDD => ?_)
      walk_at "nst"
      walk_at "rds"
      walk_at "pull"
      intro r1 H3 a10 a11 hB3 b3
      walk_at "nst"
      walk_at "rds"
      walk_at "pull"
      intro r2 H4 a20 a21 hB4 b4
      walk_at "rds"
      walk_at "pull"
      intro r3 H5 a30 a31 hB5 b5
      walk_at "rds"
      intro D nD
      have hT5 := Tabs.but hT2 hB2 ((b3.trans b4).trans b5)
      have s6 := same_new (o := .lst [.int r1, .int 399, .int (400 + r2), .int (10 ^ (30 : Int).toNat - 1 - r3)]) nD
      refine ⟨b, l, D, _, rfl, hB5.same s6, .inl (.inl upd_same), hB5.ne nD, Nat.zero_lt_succ _, Nat.le_of_ble_eq_true rfl, fun k x H7 hx hB7 b7 => ?_⟩
      have hdep : ∃ d : Int, x = .int d ∧ 0 ≤ d ∧ d ≤ 999999999999999999999999999999 := by
        match k, hx with
        | 0, hx => cases hx; exact ⟨_, rfl, by omega, by omega⟩
        | 1, hx => cases hx; exact ⟨_, rfl, by decide, by decide⟩
        | 2, hx => cases hx; exact ⟨_, rfl, by omega, by omega⟩
        | 3, hx =>
          cases hx
          have e : (10 : Int) ^ (30 : Int).toNat = 1000000000000000000000000000000 := rfl
          exact ⟨_, rfl, by omega, by omega⟩
        | n + 4, hx => cases hx
      obtain ⟨d, rfl, d0, d1⟩ := hdep
      have hT7 := Tabs.but (hT5.ext s6) (hB5.same s6) b7
      clear hx b3 b4 b5 hB3 hB4 hB5 hT5 b7 hT2 hB2 s6 hT0 hS s1 a10 a11 a20 a21 a30 a31 hi hB1 nD
      walk_at "nst"
      walk_at "rds"
      intro p1 n1
      have h1 : upd H7 p1 (.tup [.str "top", .int d]) p1 = some (.tup [.str "top", .int d]) := upd_same
      have hB7 := hB7.same (same_new (o := .tup [.str "top", .int d]) n1)
      have hT7 := hT7.ext (same_new (o := .tup [.str "top", .int d]) n1)
      generalize upd H7 p1 (.tup [.str "top", .int d]) = Ha at *
      walk_at "nst"
      walk_at "rds"
      intro p2 n2
      have s2 := same_new (o := .tup [.str "bottom", .int d]) n2
      have h1 := s2 _ _ h1
      have h2 : upd Ha p2 (.tup [.str "bottom", .int d]) p2 = some (.tup [.str "bottom", .int d]) := upd_same
      have hB7 := hB7.same s2
      have hT7 := hT7.ext s2
      generalize upd Ha p2 (.tup [.str "bottom", .int d]) = Hb at *
      walk_at "nst"
      walk_at "rds"
      intro p3 n3
      have s3 := same_new (o := .tup [.str "left", .int d]) n3
      have h1 := s3 _ _ h1
      have h2 := s3 _ _ h2
      have h3 : upd Hb p3 (.tup [.str "left", .int d]) p3 = some (.tup [.str "left", .int d]) := upd_same
      have hB7 := hB7.same s3
      have hT7 := hT7.ext s3
      generalize upd Hb p3 (.tup [.str "left", .int d]) = Hc at *
      walk_at "nst"
      walk_at "rds"
      intro p4 n4
      have s4 := same_new (o := .tup [.str "", .int 0]) n4
      have h1 := s4 _ _ h1
      have h2 := s4 _ _ h2
      have h3 := s4 _ _ h3
      have h4 : upd Hc p4 (.tup [.str "", .int 0]) p4 = some (.tup [.str "", .int 0]) := upd_same
      have hB7 := hB7.same s4
      have hT7 := hT7.ext s4
      generalize upd Hc p4 (.tup [.str "", .int 0]) = Hd at *
      clear s2 s3 s4 n1 n2 n3 n4
      walk_at "nst"
      walk_at "rds"
      walk_at "pull"
      intro r H8 r0 r1 hB8 b8
      have nb1 := ne_of h1 hB7.obj.choose_spec (by intro z; cases z)
      have nb2 := ne_of h2 hB7.obj.choose_spec (by intro z; cases z)
      have nb3 := ne_of h3 hB7.obj.choose_spec (by intro z; cases z)
      have nb4 := ne_of h4 hB7.obj.choose_spec (by intro z; cases z)
      have h1 := b8.get nb1 h1
      have h2 := b8.get nb2 h2
      have h3 := b8.get nb3 h3
      have h4 := b8.get nb4 h4
      have hT8 := Tabs.but hT7 hB7 b8
      clear nb1 nb2 nb3 nb4 hB7 hT7 b8
      walk_at "nst"
      walk_at "rds"
      intro p5 n5
      have s5 := same_new (o := .tup [.str "top", .int (-1 - r)]) n5
      have h1 := s5 _ _ h1
      have h2 := s5 _ _ h2
      have h3 := s5 _ _ h3
      have h4 := s5 _ _ h4
      have h5 : upd H8 p5 (.tup [.str "top", .int (-1 - r)]) p5 = some (.tup [.str "top", .int (-1 - r)]) := upd_same
      have hB8 := hB8.same s5
      have hT8 := hT8.ext s5
      clear s5 n5
      generalize upd H8 p5 (.tup [.str "top", .int (-1 - r)]) = He at *
      walk_at "nst"
      walk_at "rds"
      intro p6 n6
      have s6 := same_new (o := .tup [.str "bottom", .int (-1)]) n6
      have h1 := s6 _ _ h1
      have h2 := s6 _ _ h2
      have h3 := s6 _ _ h3
      have h4 := s6 _ _ h4
      have h5 := s6 _ _ h5
      have h6 : upd He p6 (.tup [.str "bottom", .int (-1)]) p6 = some (.tup [.str "bottom", .int (-1)]) := upd_same
      have hB8 := hB8.same s6
      have hT8 := hT8.ext s6
      clear s6 n6
      generalize upd He p6 (.tup [.str "bottom", .int (-1)]) = Hf at *
      walk_at "nst"
      walk_at "rds"
      intro D2 nD2
      have s7 := same_new (o := .lst [.ref p1, .ref p2, .ref p3, .ref p4, .ref p5, .ref p6]) nD2
      have hB9 := hB8.same s7
      refine ⟨b, l, D2, _, rfl, hB9, .inl (.inl upd_same), hB8.ne nD2, Nat.zero_lt_succ _, Nat.le_of_ble_eq_true rfl, fun k x H9 hx hB10 b9 => ?_⟩
      have hpair : ∃ (p : Addr) (z : Str) (i : Int), x = .ref p ∧ SqT K H9 p [.str z, .int i] ∧ PyData.strOk z = true ∧ ((z = "top" ∨ z = "bottom") ∧ i = d ∨ iep (.str z) (.int i) = false ∧ ¬ ((z = "top" ∨ z = "bottom") ∧ i = d)) := by
        match k, hx with
        | 0, hx => cases hx; exact ⟨_, _, _, rfl, But.tup b9 hB9 (.inl (.inl (s7 _ _ h1))), by decide +kernel, .inl ⟨.inl rfl, rfl⟩⟩
        | 1, hx => cases hx; exact ⟨_, _, _, rfl, But.tup b9 hB9 (.inl (.inl (s7 _ _ h2))), by decide +kernel, .inl ⟨.inr rfl, rfl⟩⟩
        | 2, hx => cases hx; exact ⟨_, _, _, rfl, But.tup b9 hB9 (.inl (.inl (s7 _ _ h3))), by decide +kernel, .inr ⟨rfl, fun h => by rcases h.1 with h | h <;> exact absurd h (by decide)⟩⟩
        | 3, hx => cases hx; exact ⟨_, _, _, rfl, But.tup b9 hB9 (.inl (.inl (s7 _ _ h4))), by decide +kernel, .inr ⟨rfl, fun h => by rcases h.1 with h | h <;> exact absurd h (by decide)⟩⟩
        | 4, hx => cases hx; exact ⟨_, _, _, rfl, But.tup b9 hB9 (.inl (.inl (s7 _ _ h5))), by decide +kernel, .inr ⟨by show (_ && decide _) = false; rw [decide_eq_false (by omega), Bool.and_false], fun h => by omega⟩⟩
        | 5, hx => cases hx; exact ⟨_, _, _, rfl, But.tup b9 hB9 (.inl (.inl (s7 _ _ h6))), by decide +kernel, .inr ⟨rfl, fun h => by omega⟩⟩
        | n + 6, hx => cases hx
      obtain ⟨p, z, j, rfl, hp, hz4, hgood⟩ := hpair
      have hT9 := Tabs.but (hT8.ext s7) hB9 b9
      clear hx h1 h2 h3 h4 h5 h6 hB8 hT8 s7 hB9 b9 nD2 r0 r1
      walk_at "nst"
      walk_at "rds"
      walk_at "pull"
      intro u1 H10 u10 u11 hB11 c1
      walk_at "nst"
      walk_at "rds"
      walk_at "pull"
      intro u2 H11 u20 u21 hB12 c2
      walk_at "nst"
      walk_at "rds"
      walk_at "two"
      walk_at "rds"
      walk_at "pull"
      intro u3 H12 u30 u31 hB13 c3
      walk_at "nst"
      walk_at "rds"
      walk_at "pull"
      intro u4 H13 u40 u41 hB14 c4
      walk_at "nst"
      walk_at "rds"
      have cc := ((c1.trans c2).trans c3).trans c4
      have hp := But.tup cc hB10 hp
      have hT13 := Tabs.but hT9 hB10 cc
      clear c1 c2 c3 c4 cc hB10 hB11 hB12 hB13 hT9
      intro D3 nD3
      generalize hlst : ([V.int u1, V.int (if 10 ^ (30 : Int).toNat < d + u2 then 10 ^ (30 : Int).toNat else d + u2), V.int (10 ^ (30 : Int).toNat), V.int (10 ^ (30 : Int).toNat + 1 + u3), V.int (-1 - u4)] : List V) = lst at *
      have hlen5 : lst.length = 5 := by rw [← hlst]; rfl
      have s7 := same_new (o := .lst lst) nD3
      have hB15 := hB14.same s7
      refine ⟨b, l, D3, lst, rfl, hB15, .inl (.inl upd_same), hB14.ne nD3, by omega, by omega, fun k x H14 hx hB16 b9 => ?_⟩
      have hn : ∃ n : Int, x = .int n := by
        rw [← hlst] at hx
        match k, hx with
        | 0, hx => cases hx; exact ⟨_, rfl⟩
        | 1, hx => cases hx; exact ⟨_, rfl⟩
        | 2, hx => cases hx; exact ⟨_, rfl⟩
        | 3, hx => cases hx; exact ⟨_, rfl⟩
        | 4, hx => cases hx; exact ⟨_, rfl⟩
        | n + 5, hx => cases hx
      obtain ⟨n, rfl⟩ := hn
      have hp := But.tup b9 hB15 (Same.tup s7 hp)
      have hT14 := Tabs.but (hT13.ext s7) hB15 b9
      clear hx hlst hlen5 hB14 hB15 s7 b9 nD3 hT13 u10 u11 u20 u21 u30 u31 u40 u41
      walk_at "nst"
      -- the due value
      refine ⟨fun σ' H' => Same H14 H' ∧ ∃ y : Addr, σ' = [some (.ref a), some (.ref b), some (.int (0 + (i : Int))), some (.int d), some (.ref p), some (.int n), some (.ref y), y7, y8, y9] ∧ SqT K H' y [.str "value", .int (if V.str z = .str "top" then d else n - 1 - d)], ?_, fun σ1 H15 hM => ?_⟩
      · walk_at "rds"
        by_cases e : V.str z = .str "top"
        · rw [if_pos e, decide_eq_true e]
          walk_at "rds"
          intro t nt
          exact ⟨same_new nt, t, rfl, .inl (.inl upd_same)⟩
        · rw [if_neg e, decide_eq_false e]
          walk_at "rds"
          intro t nt
          exact ⟨same_new nt, t, rfl, .inl (.inl upd_same)⟩
      obtain ⟨s15, y, rfl, hy⟩ := hM
      have hp15 := Same.tup s15 hp
      refine ⟨fun σ' H' => Same H14 H' ∧ ∃ y : Addr, σ' = [some (.ref a), some (.ref b), some (.int (0 + (i : Int))), some (.int d), some (.ref p), some (.int n), some (.ref y), y7, y8, y9] ∧ SqT K H' y (if n ≤ d then [.str "NoPlace", .ref p] else [.str "value", .int (if V.str z = .str "top" then d else n - 1 - d)]), ?_, fun σ1 H16 hM => ?_⟩
      · walk_at "rds"
        refine iteD (fun e => ?_) (fun e => ?_)
        · rw [if_pos e]
          walk_at "rds"
          intro t nt
          exact ⟨Same.new s15 nt, t, rfl, .inl (.inl upd_same)⟩
        · rw [if_neg e]
          exact ⟨s15, y, rfl, hy⟩
      obtain ⟨s16, y', rfl, hy⟩ := hM
      clear s15 hp15
      refine ⟨fun σ' H' => Same H14 H' ∧ ∃ y : Addr, σ' = [some (.ref a), some (.ref b), some (.int (0 + (i : Int))), some (.int d), some (.ref p), some (.int n), some (.ref y), y7, y8, y9] ∧
        SqT K H' y (if n < 0 ∨ 1000000000000000000000000000000 < n then [.str "BadSize", .int n] else if n ≤ d then [.str "NoPlace", .ref p] else [.str "value", .int (if V.str z = .str "top" then d else n - 1 - d)]), ?_, fun σ1 H17 hM => ?_⟩
      · walk_at "rds"
        refine iteD (fun e => ?_) (fun e => ?_)
        · rw [if_pos (.inl e)]
          walk_at "rds"
          intro t nt
          exact ⟨Same.new s16 nt, t, rfl, .inl (.inl upd_same)⟩
        · walk_at "rds"
          refine iteD (fun e2 => ?_) (fun e2 => ?_)
          · rw [if_pos (.inr e2)]
            walk_at "rds"
            intro t nt
            exact ⟨Same.new s16 nt, t, rfl, .inl (.inl upd_same)⟩
          · rw [if_neg (fun h => h.elim e e2)]
            exact ⟨s16, y', rfl, hy⟩
      obtain ⟨s17, y2', rfl, hy⟩ := hM
      clear s16
      walk_at "nst"
      walk_at "rds"
      intro q1 nq1
      walk_at "nst"
      walk_at "rds"
      intro q2 nq2
      walk_at "nst"
      walk_at "rds"
      intro q3 nq3
      have t1 := same_new (o := .tup [.str "top", .int d]) nq1
      have t2 := same_new (o := .tup [.str "bottom", .int d]) nq2
      have t3 := same_new (o := .lst [.ref q1, .ref q2]) nq3
      have t23 := t2.trans t3
      have s18 := (s17.trans t1).trans t23
      refine ⟨.tuple [.str z, .int j], [.tuple [.str "top", .int d], .tuple [.str "bottom", .int d]], .tup (Same.tup s18 hp) (.cons (.str _) (.cons (.int _) .nil)),
        .lst (.inl (.inl upd_same)) (.cons (.tup (.inl (.inl (t23 _ _ upd_same))) (.cons (.str _) (.cons (.int _) .nil))) (.cons (.tup (.inl (.inl (t3 _ _ upd_same))) (.cons (.str _) (.cons (.int _) .nil))) .nil)), shaped_one hz4 _, shaped_two (by decide +kernel) (by decide +kernel) _ _, ?_⟩
      have hy := Same.tup ((t1.trans t2).trans t3) hy
      have hp := Same.tup s18 hp
      have hB18 := hB16.same s18
      have hT18 := hT14.ext s18
      have hany : (([.tuple [.str "top", .int d], .tuple [.str "bottom", .int d]] : List PyData).any fun y => PyData.eqv y (.tuple [.str z, .int j])) = decide ((z = "top" ∨ z = "bottom") ∧ j = d) := by
        show ((("top" == z) && ((d == j) && true)) || ((("bottom" == z) && ((d == j) && true)) || false)) = _
        rw [Bool.eq_iff_iff]
        simp only [Bool.or_eq_true, Bool.and_eq_true, beq_iff_eq, decide_eq_true_eq, Bool.false_eq_true, or_false, and_true]
        constructor
        · rintro (⟨h1, h2⟩ | ⟨h1, h2⟩)
          · exact ⟨.inl h1.symm, h2.symm⟩
          · exact ⟨.inr h1.symm, h2.symm⟩
        · rintro ⟨h1 | h1, h2⟩
          · exact .inl ⟨h1.symm, h2.symm⟩
          · exact .inr ⟨h1.symm, h2.symm⟩
      rw [hany]
      clear hany t1 t2 t3 t23 nq1 nq2 nq3 s17 s18 hB16 hT14
      generalize upd (upd (upd H17 q1 _) q2 _) q3 _ = H18 at *
      have hdue : dueL p z j n = if decide ((z = "top" ∨ z = "bottom") ∧ j = d) = true then (if n < 0 ∨ 1000000000000000000000000000000 < n then [.str "BadSize", .int n] else if n ≤ d then [.str "NoPlace", .ref p] else [.str "value", .int (if V.str z = .str "top" then d else n - 1 - d)]) else [.str "BadPlace", .ref p] := by
        rcases hgood with ⟨g1, g2⟩ | ⟨g1, g2⟩
        · rw [decide_eq_true ⟨g1, g2⟩, if_pos rfl, g2]
          unfold dueL
          rw [if_neg (show ¬ iep (.str z) (.int d) = false by rw [iep_good g1 d0]; decide)]
          rfl
        · rw [decide_eq_false g2, if_neg Bool.false_ne_true]
          unfold dueL
          rw [if_pos g1]
      have htext : decide ((z = "top" ∨ z = "bottom") ∧ j = d) = true → iep (.str z) (.int j) = true ∧ (z = "top" ∨ z = "bottom") ∧ 0 ≤ j ∧ j ≤ 999999999999999999999999999999 := fun e => by
        obtain ⟨g1, g2⟩ := of_decide_eq_true e
        rw [g2]
        exact ⟨iep_good g1 d0, g1, d0, d1⟩
      have hbadp : decide ((z = "top" ∨ z = "bottom") ∧ j = d) = false → iep (.str z) (.int j) = false := fun e => by
        rcases hgood with g | ⟨g1, g2⟩
        · exact absurd g (of_decide_eq_false e)
        · exact g1
      clear hgood
      generalize decide ((z = "top" ∨ z = "bottom") ∧ j = d) = G at *
      walk_at "nst"
      refine ⟨fun σ' H' => Same H18 H' ∧ ∃ y : Addr, σ' = [some (.ref a), some (.ref b), some (.int (0 + (i : Int))), some (.int d), some (.ref p), some (.int n), some (.ref y), some (.bl G), y8, y9] ∧ SqT K H' y (dueL p z j n), ?_, fun σ1 H19 hM => ?_⟩
      · cases G with
        | false =>
          walk_at "rds"
          intro t nt
          rw [hdue, if_neg Bool.false_ne_true]
          exact ⟨same_new nt, t, rfl, .inl (.inl upd_same)⟩
        | true =>
          walk_at "rds"
          rw [hdue, if_pos rfl]
          exact ⟨Same.refl _, y2', rfl, hy⟩
      obtain ⟨s19, y3', rfl, hy⟩ := hM
      have hp := Same.tup s19 hp
      have hB19 := hB18.same s19
      have hT19 := hT18.ext s19
      clear s19 hB18 hT18 hdue
      walk_at "nst"
      refine ⟨hT19, fun H20 e20 hT20 => ?_⟩
      have hp := ExtN.tup e20 hp
      have hy := ExtN.tup e20 hy
      have hB20 := ExtN.bag e20 hB19
      clear hB19 hT19 e20
      refine ask_resolve T hp (fun E Q' hq => ⟨_, rfl, _, rfl, hq⟩) (fun t H21 s21 ht => ?_)
      have hp := Same.tup s21 hp
      have hy := Same.tup s21 hy
      refine ⟨_, rfl, _, _, rfl, sm_dueL (.inl (.inl ht)) hy hp, fun H22 s22 => ?_⟩
      have hp := Same.tup s22 hp
      have hB22 := hB20.same (s21.trans s22)
      have hT22 := hT20.ext (s21.trans s22)
      clear ht hy s21 s22 hB20 hT20
      walk_at "nst"
      walk_at "rds"
      -- the text
      refine ⟨fun σ' H' => Same H22 H' ∧ ∃ y : Addr, σ' = [some (.ref a), some (.ref b), some (.int (0 + (i : Int))), some (.int d), some (.ref p), some (.int n), some (.ref y), some (.bl G), y8, y9] ∧ SqT K H' y (dueT p z j), ?_, fun σ1 H23 hM => ?_⟩
      · cases G with
        | false =>
          walk_at "rds"
          intro t nt
          refine ⟨same_new nt, t, rfl, .inl (.inl ?_)⟩
          unfold dueT
          rw [if_pos (hbadp rfl)]
          exact upd_same
        | true =>
          obtain ⟨g1, g2, g3, g4⟩ := htext rfl
          walk_at "rds"
          refine ⟨p, z, j, rfl, hp, g2, log_small g3 g4, Nat.le_trans (num_len g3 g4) (by decide), fun H23 s23 => ?_⟩
          walk_at "rds"
          intro t nt
          refine ⟨Same.new s23 nt, t, rfl, .inl (.inl ?_)⟩
          unfold dueT
          rw [if_neg (show ¬ iep (.str z) (.int j) = false by rw [g1]; decide)]
          exact upd_same
      obtain ⟨s23, y4', rfl, hy⟩ := hM
      have hp := Same.tup s23 hp
      have hB23 := hB22.same s23
      have hT23 := hT22.ext s23
      clear s23 hB22 hT22
      walk_at "nst"
      refine ⟨hT23, fun H24 e24 hT24 => ?_⟩
      have hp := ExtN.tup e24 hp
      have hy := ExtN.tup e24 hy
      have hB24 := ExtN.bag e24 hB23
      clear hB23 hT23 e24
      refine ask_ptext T hp (fun E Q' hq => ⟨_, rfl, hq⟩) (fun g => ?_) (fun t H25 s25 ht => ?_)
      · cases G with
        | false =>
          rw [hbadp rfl] at g
          cases g
        | true =>
          obtain ⟨g1, g2, g3, g4⟩ := htext rfl
          have h2 := num_len g3 g4
          have h3 : (endLtr (.str z)).length = 1 := by rw [str_len, ltr_list g2]; rfl
          refine ⟨log_small g3 g4, ?_⟩
          rw [h3]
          exact Nat.le_trans (Nat.add_le_add_left h2 1) (by decide)
      have hp := Same.tup s25 hp
      have hy := Same.tup s25 hy
      have hB25 := hB24.same s25
      have hT25 := hT24.ext s25
      clear s25 hB24 hT24
      walk_at "nst"
      walk_at "rds"
      refine ⟨fun σ' H' => Same H25 H' ∧ σ' = [some (.ref a), some (.ref b), some (.int (0 + (i : Int))), some (.int d), some (.ref p), some (.int n), some (.ref y4'), some (.bl G), some (.ref t), y9], ?_, fun σ1 H26 hM => ?_⟩
      · refine ⟨_, rfl, _, rfl, _, _, rfl, sm_dueT (.inl (.inl ht)) hy hp, fun H26 s26 => ?_⟩
        have hp := Same.tup s26 hp
        cases G with
        | false =>
          walk_at "rds"
          first | exact ⟨s26, rfl⟩ | exact rfl
        | true =>
          obtain ⟨g1, g2, g3, g4⟩ := htext rfl
          have ht : H25 t = some (.tup [.str "value", .str (endLtr (.str z) ++ Str.ofString (toString j))]) := by
            rw [ht]
            unfold dueT
            rw [if_neg (show ¬ iep (.str z) (.int j) = false by rw [g1]; decide)]
          walk_at "rds"
          refine ⟨t, _, 1, _, rfl, rfl, .inl (.inl (s26 _ _ ht)), rfl, ?_⟩
          have e1 := pE_text (d := j) g2
          have e2 := pD_text g2 g3 g4
          refine ⟨_, rfl, text_len g2 g3 g4, fun t2 nt2 => ?_⟩
          rw [e1, e2]
          refine ⟨fun e => (by rw [g1] at e; cases e), fun _ => ?_⟩
          have s27 := same_new (o := .tup [.str z, .int j]) nt2
          refine ⟨_, rfl, _, _, rfl, sm_list (.inl (.inl upd_same)) (Same.tup s27 hp) (by simp) (fun x hx => ?_), fun H27 s28 => ?_⟩
          · rcases List.mem_cons.mp hx with rfl | hx
            · exact .str _ _
            · rw [List.mem_singleton.mp hx]
              exact .int _ _
          walk_at "rds"
          exact ⟨(s26.trans s27).trans s28, rfl⟩
      obtain ⟨s26, rfl⟩ := hM
      have hB26 := hB25.same s26
      have hT26 := hT25.ext s26
      clear s26 hB25 hT25 ht hy hp htext hbadp
      walk_at "nst"
      walk_at "rds"
      refine ⟨mul_ok9 (by decide), ?_⟩
      refine ⟨_, _, rfl, rfl, by decide +kernel, ?_⟩
      walk_at "rds"
      intro D4 nD4
      generalize hlst : ([V.str "", .str "t", .str "x3", .str "t03", .str "t-1", .str "t 3", .str "3", .str "top3", .str "b3 ", .str ("t" ++ Txt.mul "9" 32), .str "b1\n", .str "T1", .str " t1", .str "tt1", .str "b+1"] : List V) = lst at *
      have hlen5 : lst.length = 15 := by rw [← hlst]; rfl
      have s27 := same_new (o := .lst lst) nD4
      have hB27 := hB26.same s27
      refine ⟨b, l, D4, lst, rfl, hB27, .inl (.inl upd_same), hB26.ne nD4, by omega, by omega, fun k x H28 hx hB28 b28 => ?_⟩
      have hbad : ∃ zb : Str, x = .str zb ∧ zb.length ≤ 1000 ∧ iep (pE zb) (pD zb) = false := by
        rw [← hlst] at hx
        exact bad_texts (List.mem_of_getElem? hx)
      obtain ⟨zb, rfl, zb1, zb2⟩ := hbad
      have hT28 := Tabs.but (hT26.ext s27) hB27 b28
      clear hx hlst hlen5 hB26 hB27 hT26 s27 b28 nD4
      walk_at "nst"
      refine ⟨hT28, fun H29 e29 hT29 => ?_⟩
      have hB29 := ExtN.bag e29 hB28
      clear hB28 hT28 e29
      refine ask_parse T zb1 zb2 (fun E Q' hq => ⟨_, rfl, hq⟩) (fun t3 H30 s30 ht3 => ?_)
      have hB30 := hB29.same s30
      have hT30 := hT29.ext s30
      clear s30 hB29 hT29
      walk_at "rds"
      intro t4 nt4
      have s31 := same_new (o := .tup [.str "BadText", .int 0]) nt4
      refine ⟨.tuple [.str "BadText", .int 0], .tuple [.str "BadText", .int 0], .tup (.inl (.inl (s31 _ _ ht3))) (.cons (.str _) (.cons (.int _) .nil)), .tup (.inl (.inl upd_same)) (.cons (.str _) (.cons (.int _) .nil)),
        shaped_one (by decide +kernel) _, shaped_one (by decide +kernel) _, ?_⟩
      refine ⟨_, rfl, iteF ?_⟩
      exact hDD _ _ ⟨⟨hB30.same s31, hT30.ext s31⟩, _, _, _, _, _, _, _, _, rfl⟩
    · obtain ⟨⟨hB2, hT2⟩, y2, y3, y4, y5, y6, y7, y8, y9, rfl⟩ := hp
      have cp31 : CPow 10 31 := ⟨by decide, by decide, by decide⟩
      walk_at "nst"
      walk_at "rds"
      refine ⟨mul_ok9 (by decide), ?_⟩
      refine ⟨_, _, rfl, rfl, by decide +kernel, ?_⟩
      have e1 : pE ("t" ++ Txt.mul "9" 31) = .str "top" := by decide +kernel
      have e2 : pD ("t" ++ Txt.mul "9" 31) = .int (10 ^ (31 : Int).toNat - 1) := by decide +kernel
      refine ⟨_, rfl, by decide +kernel, fun t nt => ?_⟩
      rw [e1, e2]
      generalize hN : (10 ^ (31 : Int).toNat - 1 : Int) = N at *
      refine ⟨fun e => ?_, fun _ => ?_⟩
      · have e3 : iep (.str "top") (.int N) = true := by rw [← hN]; decide +kernel
        rw [e3] at e
        cases e
      walk_at "rds"
      intro t2 nt2
      walk_at "nst"
      rw [hN]
      have s2 := same_new (o := .tup [.str "top", .int N]) nt2
      refine ⟨.tuple [.str "top", .int N], .tuple [.str "top", .int N], .tup (.inl (.inl (s2 _ _ upd_same))) (.cons (.str _) (.cons (.int _) .nil)), .tup (.inl (.inl upd_same)) (.cons (.str _) (.cons (.int _) .nil)),
        shaped_one (by decide +kernel) _, shaped_one (by decide +kernel) _, ?_⟩
      have e4 : PyData.eqv (.tuple [.str "top", .int N]) (.tuple [.str "top", .int N]) = true := by
        show ((("top" : Str) == "top") && ((N == N) && true)) = true
        simp
      rw [e4]
      refine ⟨_, rfl, iteT ?_⟩
      walk_at "rds"
      intro l1 nl1
      walk_at "rds"
      intro l2 nl2
      have s3 := same_new (o := .lst [.int 399, .int (10 ^ (30 : Int).toNat)]) nl2
      refine ⟨.list [.int 399, .int (10 ^ (30 : Int).toNat)], .list [.int 399, .int (10 ^ (30 : Int).toNat)], .lst (.inl (.inl (s3 _ _ upd_same))) (.cons (.int _) (.cons (.int _) .nil)), .lst (.inl (.inl upd_same)) (.cons (.int _) (.cons (.int _) .nil)),
        by decide +kernel, by decide +kernel, ?_⟩
      rw [show PyData.eqv (.list [.int 399, .int (10 ^ (30 : Int).toNat)]) (.list [.int 399, .int (10 ^ (30 : Int).toNat)]) = true by decide +kernel]
      exact q _
end
theorem all_mk {w : World} {K : PySem.W.Frag} {h : Heap} {mg : Str → Option Value} {fa : Addr} (X : K.In h) (G : h.Ns mainGlobals mg) (hfa : mg "law" = some (.ref fa))
    {f0 f1 f2 f3 f4 f5 f6 f7 f8 f9 f10 f11 f12 f13 f14 f15 f16 f17 : Addr} {od0 an0 od1 an1 od2 an2 od3 an3 od4 an4 od5 an5 od6 an6 od7 an7 od8 an8 od9 an9 od10 an10 od11 an11 od12 an12 od13 an13 od14 an14 od15 an15 od16 an16 od17 an17 : Option Addr} {sl0 sl1 sl2 sl3 sl4 sl5 sl6 sl7 sl8 sl9 sl10 sl11 sl12 sl13 sl14 sl15 sl16 sl17 : Array (Option Value)} {oc0 kV0 dc0 pm0 cd0 ct0 oc1 kV1 dc1 pm1 cd1 ct1 oc2 kV2 dc2 pm2 cd2 ct2 oc3 kV3 dc3 pm3 cd3 ct3 oc4 kV4 dc4 pm4 cd4 ct4 oc5 kV5 dc5 pm5 cd5 ct5 oc6 kV6 dc6 pm6 cd6 ct6 oc7 kV7 dc7 pm7 cd7 ct7 oc8 kV8 dc8 pm8 cd8 ct8 oc9 kV9 dc9 pm9 cd9 ct9 oc10 kV10 dc10 pm10 cd10 ct10 oc11 kV11 dc11 pm11 cd11 ct11 oc12 kV12 dc12 pm12 cd12 ct12 oc13 kV13 dc13 pm13 cd13 ct13 oc14 kV14 dc14 pm14 cd14 ct14 oc15 kV15 dc15 pm15 cd15 ct15 oc16 kV16 dc16 pm16 cd16 ct16 oc17 kV17 dc17 pm17 cd17 ct17 : Value} {t_MOST_DIGITS : Tok} {t_MOST_DEPTH : Tok} {t_MOST_CARDS : Tok} {a_ENDS : Addr} {es_ENDS : Array DictEntry} {n_ENDS : Nat} {u_ENDS_t : Tok} {u_ENDS_b : Tok} {aX_PileError : Addr} {fX_PileError : Addr} {odX_PileError anX_PileError ddX_PileError : Option Addr} {slX_PileError : Array (Option Value)} {ocX_PileError kVX_PileError dcX_PileError pmX_PileError cdX_PileError ctX_PileError : Value} {TX_PileError : Addr} {smX_PileError : Array (Option Value)} {uX_PileError : Tok} {mX_PileError : Nat} {aX_BadPlace : Addr} {fX_BadPlace : Addr} {odX_BadPlace anX_BadPlace ddX_BadPlace : Option Addr} {slX_BadPlace : Array (Option Value)} {ocX_BadPlace kVX_BadPlace dcX_BadPlace pmX_BadPlace cdX_BadPlace ctX_BadPlace : Value} {nmX_BadPlace qX_BadPlace : Str} {NX_BadPlace : Addr} {bsX_BadPlace bmX_BadPlace subX_BadPlace : List Value} {snX_BadPlace : List Str} {abX_BadPlace : Bool} {colX_BadPlace : Option Bool} {k0X_BadPlace k1X_BadPlace k2X_BadPlace k3X_BadPlace k5X_BadPlace : Option Value} {aX_BadText : Addr} {fX_BadText : Addr} {odX_BadText anX_BadText ddX_BadText : Option Addr} {slX_BadText : Array (Option Value)} {ocX_BadText kVX_BadText dcX_BadText pmX_BadText cdX_BadText ctX_BadText : Value} {nmX_BadText qX_BadText : Str} {NX_BadText : Addr} {bsX_BadText bmX_BadText subX_BadText : List Value} {snX_BadText : List Str} {abX_BadText : Bool} {colX_BadText : Option Bool} {k0X_BadText k1X_BadText k2X_BadText k3X_BadText k5X_BadText : Option Value} {aX_BadSize : Addr} {fX_BadSize : Addr} {odX_BadSize anX_BadSize ddX_BadSize : Option Addr} {slX_BadSize : Array (Option Value)} {ocX_BadSize kVX_BadSize dcX_BadSize pmX_BadSize cdX_BadSize ctX_BadSize : Value} {nmX_BadSize qX_BadSize : Str} {NX_BadSize : Addr} {bsX_BadSize bmX_BadSize subX_BadSize : List Value} {snX_BadSize : List Str} {abX_BadSize : Bool} {colX_BadSize : Option Bool} {k0X_BadSize k1X_BadSize k2X_BadSize k3X_BadSize k5X_BadSize : Option Value} {aX_NoPlace : Addr} {fX_NoPlace : Addr} {odX_NoPlace anX_NoPlace ddX_NoPlace : Option Addr} {slX_NoPlace : Array (Option Value)} {ocX_NoPlace kVX_NoPlace dcX_NoPlace pmX_NoPlace cdX_NoPlace ctX_NoPlace : Value} {nmX_NoPlace qX_NoPlace : Str} {NX_NoPlace : Addr} {bsX_NoPlace bmX_NoPlace subX_NoPlace : List Value} {snX_NoPlace : List Str} {abX_NoPlace : Bool} {colX_NoPlace : Option Bool} {k0X_NoPlace k1X_NoPlace k2X_NoPlace k3X_NoPlace k5X_NoPlace : Option Value} {aX_Missing : Addr} {cLaw pLaw : Addr} {oCo : Option Addr} {vsCo : Array Value} {slCo : Array (Option Value)}
    (a0 : PySem.W.nsIn K mainGlobals "is_number" = some (some (.ref f0))) (l0 : K.lookup f0 = some ⟨oc0, od0, .func (PySem.W.fnOf "is_number" "is_number" (defArgs s_is_number) (defBody s_is_number) (defScope s_is_number) .none kV0 dc0 pm0 an0 cd0 ct0), sl0⟩) (c0 : PySem.W.codeIn K cd0 "is_number" = true) (k0 : PySem.W.keepIn K (.ref f0) = true)
    (a1 : PySem.W.nsIn K mainGlobals "read_number" = some (some (.ref f1))) (l1 : K.lookup f1 = some ⟨oc1, od1, .func (PySem.W.fnOf "read_number" "read_number" (defArgs s_read_number) (defBody s_read_number) (defScope s_read_number) .none kV1 dc1 pm1 an1 cd1 ct1), sl1⟩) (c1 : PySem.W.codeIn K cd1 "read_number" = true) (k1 : PySem.W.keepIn K (.ref f1) = true)
    (a2 : PySem.W.nsIn K mainGlobals "is_end" = some (some (.ref f2))) (l2 : K.lookup f2 = some ⟨oc2, od2, .func (PySem.W.fnOf "is_end" "is_end" (defArgs s_is_end) (defBody s_is_end) (defScope s_is_end) .none kV2 dc2 pm2 an2 cd2 ct2), sl2⟩) (c2 : PySem.W.codeIn K cd2 "is_end" = true) (k2 : PySem.W.keepIn K (.ref f2) = true)
    (a3 : PySem.W.nsIn K mainGlobals "is_end_place" = some (some (.ref f3))) (l3 : K.lookup f3 = some ⟨oc3, od3, .func (PySem.W.fnOf "is_end_place" "is_end_place" (defArgs s_is_end_place) (defBody s_is_end_place) (defScope s_is_end_place) .none kV3 dc3 pm3 an3 cd3 ct3), sl3⟩) (c3 : PySem.W.codeIn K cd3 "is_end_place" = true) (k3 : PySem.W.keepIn K (.ref f3) = true)
    (a4 : PySem.W.nsIn K mainGlobals "check_size" = some (some (.ref f4))) (l4 : K.lookup f4 = some ⟨oc4, od4, .func (PySem.W.fnOf "check_size" "check_size" (defArgs s_check_size) (defBody s_check_size) (defScope s_check_size) .none kV4 dc4 pm4 an4 cd4 ct4), sl4⟩) (c4 : PySem.W.codeIn K cd4 "check_size" = true) (k4 : PySem.W.keepIn K (.ref f4) = true)
    (a5 : PySem.W.nsIn K mainGlobals "resolve" = some (some (.ref f5))) (l5 : K.lookup f5 = some ⟨oc5, od5, .func (PySem.W.fnOf "resolve" "resolve" (defArgs s_resolve) (defBody s_resolve) (defScope s_resolve) .none kV5 dc5 pm5 an5 cd5 ct5), sl5⟩) (c5 : PySem.W.codeIn K cd5 "resolve" = true) (k5 : PySem.W.keepIn K (.ref f5) = true)
    (a6 : PySem.W.nsIn K mainGlobals "end_text" = some (some (.ref f6))) (l6 : K.lookup f6 = some ⟨oc6, od6, .func (PySem.W.fnOf "end_text" "end_text" (defArgs s_end_text) (defBody s_end_text) (defScope s_end_text) .none kV6 dc6 pm6 an6 cd6 ct6), sl6⟩) (c6 : PySem.W.codeIn K cd6 "end_text" = true) (k6 : PySem.W.keepIn K (.ref f6) = true)
    (a7 : PySem.W.nsIn K mainGlobals "read_end" = some (some (.ref f7))) (l7 : K.lookup f7 = some ⟨oc7, od7, .func (PySem.W.fnOf "read_end" "read_end" (defArgs s_read_end) (defBody s_read_end) (defScope s_read_end) .none kV7 dc7 pm7 an7 cd7 ct7), sl7⟩) (c7 : PySem.W.codeIn K cd7 "read_end" = true) (k7 : PySem.W.keepIn K (.ref f7) = true)
    (a8 : PySem.W.nsIn K mainGlobals "place_text" = some (some (.ref f8))) (l8 : K.lookup f8 = some ⟨oc8, od8, .func (PySem.W.fnOf "place_text" "place_text" (defArgs s_place_text) (defBody s_place_text) (defScope s_place_text) .none kV8 dc8 pm8 an8 cd8 ct8), sl8⟩) (c8 : PySem.W.codeIn K cd8 "place_text" = true) (k8 : PySem.W.keepIn K (.ref f8) = true)
    (a9 : PySem.W.nsIn K mainGlobals "parse_place" = some (some (.ref f9))) (l9 : K.lookup f9 = some ⟨oc9, od9, .func (PySem.W.fnOf "parse_place" "parse_place" (defArgs s_parse_place) (defBody s_parse_place) (defScope s_parse_place) .none kV9 dc9 pm9 an9 cd9 ct9), sl9⟩) (c9 : PySem.W.codeIn K cd9 "parse_place" = true) (k9 : PySem.W.keepIn K (.ref f9) = true)
    (a10 : PySem.W.nsIn K mainGlobals "_law_bag" = some (some (.ref f10))) (l10 : K.lookup f10 = some ⟨oc10, od10, .func (PySem.W.fnOf "_law_bag" "_law_bag" (defArgs s__law_bag) (defBody s__law_bag) (defScope s__law_bag) .none kV10 dc10 pm10 an10 cd10 ct10), sl10⟩) (c10 : PySem.W.codeIn K cd10 "_law_bag" = true) (k10 : PySem.W.keepIn K (.ref f10) = true)
    (a11 : PySem.W.nsIn K mainGlobals "_law_pull" = some (some (.ref f11))) (l11 : K.lookup f11 = some ⟨oc11, od11, .func (PySem.W.fnOf "_law_pull" "_law_pull" (defArgs s__law_pull) (defBody s__law_pull) (defScope s__law_pull) .none kV11 dc11 pm11 an11 cd11 ct11), sl11⟩) (c11 : PySem.W.codeIn K cd11 "_law_pull" = true) (k11 : PySem.W.keepIn K (.ref f11) = true)
    (a12 : PySem.W.nsIn K mainGlobals "_law_of" = some (some (.ref f12))) (l12 : K.lookup f12 = some ⟨oc12, od12, .func (PySem.W.fnOf "_law_of" "_law_of" (defArgs s__law_of) (defBody s__law_of) (defScope s__law_of) .none kV12 dc12 pm12 an12 cd12 ct12), sl12⟩) (c12 : PySem.W.codeIn K cd12 "_law_of" = true) (k12 : PySem.W.keepIn K (.ref f12) = true)
    (a13 : PySem.W.nsIn K mainGlobals "_law_same" = some (some (.ref f13))) (l13 : K.lookup f13 = some ⟨oc13, od13, .func (PySem.W.fnOf "_law_same" "_law_same" (defArgs s__law_same) (defBody s__law_same) (defScope s__law_same) .none kV13 dc13 pm13 an13 cd13 ct13), sl13⟩) (c13 : PySem.W.codeIn K cd13 "_law_same" = true) (k13 : PySem.W.keepIn K (.ref f13) = true)
    (a14 : PySem.W.nsIn K mainGlobals "_law_field" = some (some (.ref f14))) (l14 : K.lookup f14 = some ⟨oc14, od14, .func (PySem.W.fnOf "_law_field" "_law_field" (defArgs s__law_field) (defBody s__law_field) (defScope s__law_field) .none kV14 dc14 pm14 an14 cd14 ct14), sl14⟩) (c14 : PySem.W.codeIn K cd14 "_law_field" = true) (k14 : PySem.W.keepIn K (.ref f14) = true)
    (a15 : PySem.W.nsIn K mainGlobals "_law_try" = some (some (.ref f15))) (l15 : K.lookup f15 = some ⟨oc15, od15, .func (PySem.W.fnOf "_law_try" "_law_try" (defArgs s__law_try) (defBody s__law_try) (defScope s__law_try) .none kV15 dc15 pm15 an15 cd15 ct15), sl15⟩) (c15 : PySem.W.codeIn K cd15 "_law_try" = true) (k15 : PySem.W.keepIn K (.ref f15) = true)
    (a16 : PySem.W.nsIn K mainGlobals "_law_end_text" = some (some (.ref f16))) (l16 : K.lookup f16 = some ⟨oc16, od16, .func (PySem.W.fnOf "_law_end_text" "_law_end_text" (defArgs s__law_end_text) (defBody s__law_end_text) (defScope s__law_end_text) .none kV16 dc16 pm16 an16 cd16 ct16), sl16⟩) (c16 : PySem.W.codeIn K cd16 "_law_end_text" = true) (k16 : PySem.W.keepIn K (.ref f16) = true)
    (a17 : PySem.W.nsIn K mainGlobals "law" = some (some (.ref f17))) (l17 : K.lookup f17 = some ⟨oc17, od17, .func (PySem.W.fnOf "law" "law" (defArgs s_law) (defBody s_law) (defScope s_law) .none kV17 dc17 pm17 an17 cd17 ct17), sl17⟩) (c17 : PySem.W.codeIn K cd17 "law" = true) (k17 : PySem.W.keepIn K (.ref f17) = true)
    (z_all : PySem.W.nsIn K mainGlobals "all" = some none)
    (z_bool : PySem.W.nsIn K mainGlobals "bool" = some none)
    (z_dict : PySem.W.nsIn K mainGlobals "dict" = some none)
    (z_int : PySem.W.nsIn K mainGlobals "int" = some none)
    (z_isinstance : PySem.W.nsIn K mainGlobals "isinstance" = some none)
    (z_len : PySem.W.nsIn K mainGlobals "len" = some none)
    (z_list : PySem.W.nsIn K mainGlobals "list" = some none)
    (z_min : PySem.W.nsIn K mainGlobals "min" = some none)
    (z_range : PySem.W.nsIn K mainGlobals "range" = some none)
    (z_str : PySem.W.nsIn K mainGlobals "str" = some none)
    (z_tuple : PySem.W.nsIn K mainGlobals "tuple" = some none)
    (z_zip : PySem.W.nsIn K mainGlobals "zip" = some none)
    (y_MOST_DIGITS : PySem.W.nsIn K mainGlobals "MOST_DIGITS" = some (some (.int 31 t_MOST_DIGITS)))
    (y_MOST_DEPTH : PySem.W.nsIn K mainGlobals "MOST_DEPTH" = some (some (.int 399 t_MOST_DEPTH)))
    (y_MOST_CARDS : PySem.W.nsIn K mainGlobals "MOST_CARDS" = some (some (.int 1000000000000000000000000000000 t_MOST_CARDS)))
    (y_ENDS : PySem.W.nsIn K mainGlobals "ENDS" = some (some (.ref a_ENDS))) (l_ENDS : K.lookup a_ENDS = some ⟨.type "dict", none, .dict es_ENDS n_ENDS, #[]⟩) (k_ENDS : PySem.W.KeysLit w.params es_ENDS.toList) (s_ENDS : (a_ENDS == sysModules) = false)
    (km_ENDS : keysIn ["t", "b"] es_ENDS.toList = true)
    (e_ENDS_t : PySem.W.nsIn K a_ENDS "t" = some (some (.str "top" u_ENDS_t)))
    (e_ENDS_b : PySem.W.nsIn K a_ENDS "b" = some (some (.str "bottom" u_ENDS_b)))
    (gX_PileError : PySem.W.nsIn K mainGlobals "PileError" = some (some (.ref aX_PileError)))
    (iX_PileError : PySem.W.findCls K (.ref aX_PileError) (.type "type") "__init__" = some (.val (.ref fX_PileError)))
    (rX_PileError : PySem.W.readsIn K aX_PileError (.type "type") = true)
    (sX_PileError : PySem.W.specialIn K (.ref aX_PileError) "__getattribute__" = some (some (.builtin "type.__getattribute__")))
    (lX_PileError : K.lookup fX_PileError = some ⟨ocX_PileError, odX_PileError, .func (PySem.W.fnOf "__init__" "PileError.__init__" (defArgs s_PileError) (defBody s_PileError) (defScope s_PileError) (.ref TX_PileError) kVX_PileError dcX_PileError pmX_PileError anX_PileError cdX_PileError ctX_PileError), slX_PileError⟩)
    (tX_PileError : K.lookup TX_PileError = some ⟨.type "tuple", ddX_PileError, .seq #[.str "PileError" uX_PileError] mX_PileError, smX_PileError⟩)
    (cX_PileError : PySem.W.codeIn K cdX_PileError "PileError.__init__" = true)
    (wX_PileError : PySem.W.keepIn K (.ref fX_PileError) = true)
    (gX_BadPlace : PySem.W.nsIn K mainGlobals "BadPlace" = some (some (.ref aX_BadPlace)))
    (oX_BadPlace : K.lookup aX_BadPlace = some (excClassObj nmX_BadPlace qX_BadPlace aX_BadPlace NX_BadPlace bsX_BadPlace bmX_BadPlace true snX_BadPlace subX_BadPlace abX_BadPlace colX_BadPlace ddX_BadPlace k0X_BadPlace k1X_BadPlace k2X_BadPlace k3X_BadPlace k5X_BadPlace "ValueError.__new__"))
    (vX_BadPlace : PySem.HandSPX.refsVE bmX_BadPlace = true)
    (sX_BadPlace : PySem.W.findIn K (.ref aX_BadPlace) "__setattr__" = some (some (.builtin "object.__setattr__")))
    (xX_BadPlace : PySem.W.subIn K (.ref aX_BadPlace) (.type "BaseException") = some true)
    (yX_BadPlace : PySem.W.typeIn K (.ref aX_BadPlace) = some (.type "type"))
    (kX_BadPlace : PySem.W.keepIn K (.ref aX_BadPlace) = true)
    (bX_BadPlace : xfB K aX_BadPlace = true)
    (nX_code_BadPlace : PySem.W.findIn K (.ref aX_BadPlace) "code" = some none)
    (nX_place_BadPlace : PySem.W.findIn K (.ref aX_BadPlace) "place" = some none)
    (iX_BadPlace : PySem.W.findIn K (.ref aX_BadPlace) "__init__" = some (some (.ref fX_BadPlace)))
    (tX_BadPlace : PySem.W.typeIn K (.ref fX_BadPlace) = some (.type "function"))
    (lX_BadPlace : K.lookup fX_BadPlace = some ⟨ocX_BadPlace, odX_BadPlace, .func (PySem.W.fnOf "__init__" "BadPlace.__init__" (defArgs s_BadPlace) (defBody s_BadPlace) (defScope s_BadPlace) .none kVX_BadPlace dcX_BadPlace pmX_BadPlace anX_BadPlace cdX_BadPlace ctX_BadPlace), slX_BadPlace⟩)
    (eX_BadPlace : PySem.W.exmOne K (.ref aX_BadPlace) (.ref aX_PileError) = some true)
    (cX_BadPlace : PySem.W.codeIn K cdX_BadPlace "BadPlace.__init__" = true)
    (wX_BadPlace : PySem.W.keepIn K (.ref fX_BadPlace) = true)
    (gX_BadText : PySem.W.nsIn K mainGlobals "BadText" = some (some (.ref aX_BadText)))
    (oX_BadText : K.lookup aX_BadText = some (excClassObj nmX_BadText qX_BadText aX_BadText NX_BadText bsX_BadText bmX_BadText true snX_BadText subX_BadText abX_BadText colX_BadText ddX_BadText k0X_BadText k1X_BadText k2X_BadText k3X_BadText k5X_BadText "ValueError.__new__"))
    (vX_BadText : PySem.HandSPX.refsVE bmX_BadText = true)
    (sX_BadText : PySem.W.findIn K (.ref aX_BadText) "__setattr__" = some (some (.builtin "object.__setattr__")))
    (xX_BadText : PySem.W.subIn K (.ref aX_BadText) (.type "BaseException") = some true)
    (yX_BadText : PySem.W.typeIn K (.ref aX_BadText) = some (.type "type"))
    (kX_BadText : PySem.W.keepIn K (.ref aX_BadText) = true)
    (bX_BadText : xfB K aX_BadText = true)
    (nX_code_BadText : PySem.W.findIn K (.ref aX_BadText) "code" = some none)
    (nX_at_BadText : PySem.W.findIn K (.ref aX_BadText) "at" = some none)
    (iX_BadText : PySem.W.findIn K (.ref aX_BadText) "__init__" = some (some (.ref fX_BadText)))
    (tX_BadText : PySem.W.typeIn K (.ref fX_BadText) = some (.type "function"))
    (lX_BadText : K.lookup fX_BadText = some ⟨ocX_BadText, odX_BadText, .func (PySem.W.fnOf "__init__" "BadText.__init__" (defArgs s_BadText) (defBody s_BadText) (defScope s_BadText) .none kVX_BadText dcX_BadText pmX_BadText anX_BadText cdX_BadText ctX_BadText), slX_BadText⟩)
    (eX_BadText : PySem.W.exmOne K (.ref aX_BadText) (.ref aX_PileError) = some true)
    (cX_BadText : PySem.W.codeIn K cdX_BadText "BadText.__init__" = true)
    (wX_BadText : PySem.W.keepIn K (.ref fX_BadText) = true)
    (gX_BadSize : PySem.W.nsIn K mainGlobals "BadSize" = some (some (.ref aX_BadSize)))
    (oX_BadSize : K.lookup aX_BadSize = some (excClassObj nmX_BadSize qX_BadSize aX_BadSize NX_BadSize bsX_BadSize bmX_BadSize true snX_BadSize subX_BadSize abX_BadSize colX_BadSize ddX_BadSize k0X_BadSize k1X_BadSize k2X_BadSize k3X_BadSize k5X_BadSize "ValueError.__new__"))
    (vX_BadSize : PySem.HandSPX.refsVE bmX_BadSize = true)
    (sX_BadSize : PySem.W.findIn K (.ref aX_BadSize) "__setattr__" = some (some (.builtin "object.__setattr__")))
    (xX_BadSize : PySem.W.subIn K (.ref aX_BadSize) (.type "BaseException") = some true)
    (yX_BadSize : PySem.W.typeIn K (.ref aX_BadSize) = some (.type "type"))
    (kX_BadSize : PySem.W.keepIn K (.ref aX_BadSize) = true)
    (bX_BadSize : xfB K aX_BadSize = true)
    (nX_code_BadSize : PySem.W.findIn K (.ref aX_BadSize) "code" = some none)
    (nX_size_BadSize : PySem.W.findIn K (.ref aX_BadSize) "size" = some none)
    (iX_BadSize : PySem.W.findIn K (.ref aX_BadSize) "__init__" = some (some (.ref fX_BadSize)))
    (tX_BadSize : PySem.W.typeIn K (.ref fX_BadSize) = some (.type "function"))
    (lX_BadSize : K.lookup fX_BadSize = some ⟨ocX_BadSize, odX_BadSize, .func (PySem.W.fnOf "__init__" "BadSize.__init__" (defArgs s_BadSize) (defBody s_BadSize) (defScope s_BadSize) .none kVX_BadSize dcX_BadSize pmX_BadSize anX_BadSize cdX_BadSize ctX_BadSize), slX_BadSize⟩)
    (eX_BadSize : PySem.W.exmOne K (.ref aX_BadSize) (.ref aX_PileError) = some true)
    (cX_BadSize : PySem.W.codeIn K cdX_BadSize "BadSize.__init__" = true)
    (wX_BadSize : PySem.W.keepIn K (.ref fX_BadSize) = true)
    (gX_NoPlace : PySem.W.nsIn K mainGlobals "NoPlace" = some (some (.ref aX_NoPlace)))
    (oX_NoPlace : K.lookup aX_NoPlace = some (excClassObj nmX_NoPlace qX_NoPlace aX_NoPlace NX_NoPlace bsX_NoPlace bmX_NoPlace true snX_NoPlace subX_NoPlace abX_NoPlace colX_NoPlace ddX_NoPlace k0X_NoPlace k1X_NoPlace k2X_NoPlace k3X_NoPlace k5X_NoPlace "ValueError.__new__"))
    (vX_NoPlace : PySem.HandSPX.refsVE bmX_NoPlace = true)
    (sX_NoPlace : PySem.W.findIn K (.ref aX_NoPlace) "__setattr__" = some (some (.builtin "object.__setattr__")))
    (xX_NoPlace : PySem.W.subIn K (.ref aX_NoPlace) (.type "BaseException") = some true)
    (yX_NoPlace : PySem.W.typeIn K (.ref aX_NoPlace) = some (.type "type"))
    (kX_NoPlace : PySem.W.keepIn K (.ref aX_NoPlace) = true)
    (bX_NoPlace : xfB K aX_NoPlace = true)
    (nX_code_NoPlace : PySem.W.findIn K (.ref aX_NoPlace) "code" = some none)
    (nX_place_NoPlace : PySem.W.findIn K (.ref aX_NoPlace) "place" = some none)
    (iX_NoPlace : PySem.W.findIn K (.ref aX_NoPlace) "__init__" = some (some (.ref fX_NoPlace)))
    (tX_NoPlace : PySem.W.typeIn K (.ref fX_NoPlace) = some (.type "function"))
    (lX_NoPlace : K.lookup fX_NoPlace = some ⟨ocX_NoPlace, odX_NoPlace, .func (PySem.W.fnOf "__init__" "NoPlace.__init__" (defArgs s_NoPlace) (defBody s_NoPlace) (defScope s_NoPlace) .none kVX_NoPlace dcX_NoPlace pmX_NoPlace anX_NoPlace cdX_NoPlace ctX_NoPlace), slX_NoPlace⟩)
    (eX_NoPlace : PySem.W.exmOne K (.ref aX_NoPlace) (.ref aX_PileError) = some true)
    (cX_NoPlace : PySem.W.codeIn K cdX_NoPlace "NoPlace.__init__" = true)
    (wX_NoPlace : PySem.W.keepIn K (.ref fX_NoPlace) = true)
    (gX_Missing : PySem.W.nsIn K mainGlobals "Missing" = some (some (.ref aX_Missing)))
    (zc0 : cd17 = .ref cLaw)
    (zc1 : K.lookup cLaw = some ⟨.type "code", oCo, .fields vsCo, slCo⟩)
    (zc2 : vsCo[11]? = some (.ref pLaw))
    (zc3 : PySem.W.codeHdIn K cLaw pLaw = true)
    (zc4 : K.lookup pLaw = none)
    (zc5 : h.get? pLaw = some { cls := .none, data := .fields #[] })
    : LamX.LawAtS PySem.Challenge.rw_pileports_k01_end_places w K CX0 9 63 "_law_script" mg fa h := by
  subst zc0
  have e := hfa.symm.trans (PySem.W.mg_of X G a17)
  cases e
  have F0 := fun_mk (st := s_is_number) l0 c0 k0
  have F1 := fun_mk (st := s_read_number) l1 c1 k1
  have F2 := fun_mk (st := s_is_end) l2 c2 k2
  have F3 := fun_mk (st := s_is_end_place) l3 c3 k3
  have F4 := fun_mk (st := s_check_size) l4 c4 k4
  have F5 := fun_mk (st := s_resolve) l5 c5 k5
  have F6 := fun_mk (st := s_end_text) l6 c6 k6
  have F7 := fun_mk (st := s_read_end) l7 c7 k7
  have F8 := fun_mk (st := s_place_text) l8 c8 k8
  have F9 := fun_mk (st := s_parse_place) l9 c9 k9
  have F10 := fun_mk (st := s__law_bag) l10 c10 k10
  have F11 := fun_mk (st := s__law_pull) l11 c11 k11
  have F12 := fun_mk (st := s__law_of) l12 c12 k12
  have F13 := fun_mk (st := s__law_same) l13 c13 k13
  have F14 := fun_mk (st := s__law_field) l14 c14 k14
  have F15 := fun_mk (st := s__law_try) l15 c15 k15
  have F16 := fun_mk (st := s__law_end_text) l16 c16 k16
  have F17 := fun_mk (st := s_law) l17 c17 k17
  have FX_PileError : FunD K "__init__" "PileError.__init__" (defArgs s_PileError) (defBody s_PileError) (defScope s_PileError) [.str "PileError"] [] fX_PileError _ := ⟨⟨_, _, _, _, _, _, _, _, _, _, rfl, lX_PileError, cX_PileError, .inr ⟨List.cons_ne_nil _ _, _, _, _, _, rfl, tX_PileError, rfl, .cons ⟨_, rfl⟩ .nil⟩, .inl rfl⟩, wX_PileError⟩
  have FX_BadPlace := fun_mk (st := s_BadPlace) lX_BadPlace cX_BadPlace wX_BadPlace
  have FX_BadText := fun_mk (st := s_BadText) lX_BadText cX_BadText wX_BadText
  have FX_BadSize := fun_mk (st := s_BadSize) lX_BadSize cX_BadSize wX_BadSize
  have FX_NoPlace := fun_mk (st := s_NoPlace) lX_NoPlace cX_NoPlace wX_NoPlace
  let T : Txt K mg w := {
    a_is_number := _,
    d_is_number := _,
    F_is_number := F0,
    g_is_number := PySem.W.mg_of X G a0,
    b_is_number := F0.binds (ps := P_is_number) fun _ _ _ _ _ _ us hl => match us, hl with | [_], _ => rfl,
    a_read_number := _,
    d_read_number := _,
    F_read_number := F1,
    g_read_number := PySem.W.mg_of X G a1,
    b_read_number := F1.binds (ps := P_read_number) fun _ _ _ _ _ _ us hl => match us, hl with | [_], _ => rfl,
    a_is_end := _,
    d_is_end := _,
    F_is_end := F2,
    g_is_end := PySem.W.mg_of X G a2,
    b_is_end := F2.binds (ps := P_is_end) fun _ _ _ _ _ _ us hl => match us, hl with | [_], _ => rfl,
    a_is_end_place := _,
    d_is_end_place := _,
    F_is_end_place := F3,
    g_is_end_place := PySem.W.mg_of X G a3,
    b_is_end_place := F3.binds (ps := P_is_end_place) fun _ _ _ _ _ _ us hl => match us, hl with | [_], _ => rfl,
    a_check_size := _,
    d_check_size := _,
    F_check_size := F4,
    g_check_size := PySem.W.mg_of X G a4,
    b_check_size := F4.binds (ps := P_check_size) fun _ _ _ _ _ _ us hl => match us, hl with | [_], _ => rfl,
    a_resolve := _,
    d_resolve := _,
    F_resolve := F5,
    g_resolve := PySem.W.mg_of X G a5,
    b_resolve := F5.binds (ps := P_resolve) fun _ _ _ _ _ _ us hl => match us, hl with | [_, _], _ => rfl,
    a_end_text := _,
    d_end_text := _,
    F_end_text := F6,
    g_end_text := PySem.W.mg_of X G a6,
    b_end_text := F6.binds (ps := P_end_text) fun _ _ _ _ _ _ us hl => match us, hl with | [_], _ => rfl,
    a_read_end := _,
    d_read_end := _,
    F_read_end := F7,
    g_read_end := PySem.W.mg_of X G a7,
    b_read_end := F7.binds (ps := P_read_end) fun _ _ _ _ _ _ us hl => match us, hl with | [_], _ => rfl,
    a_place_text := _,
    d_place_text := _,
    F_place_text := F8,
    g_place_text := PySem.W.mg_of X G a8,
    b_place_text := F8.binds (ps := P_place_text) fun _ _ _ _ _ _ us hl => match us, hl with | [_], _ => rfl,
    a_parse_place := _,
    d_parse_place := _,
    F_parse_place := F9,
    g_parse_place := PySem.W.mg_of X G a9,
    b_parse_place := F9.binds (ps := P_parse_place) fun _ _ _ _ _ _ us hl => match us, hl with | [_], _ => rfl,
    a__law_bag := _,
    d__law_bag := _,
    F__law_bag := F10,
    g__law_bag := PySem.W.mg_of X G a10,
    b__law_bag := F10.binds (ps := P__law_bag) fun _ _ _ _ _ _ us hl => match us, hl with | [_], _ => rfl,
    a__law_pull := _,
    d__law_pull := _,
    F__law_pull := F11,
    g__law_pull := PySem.W.mg_of X G a11,
    b__law_pull := F11.binds (ps := P__law_pull) fun _ _ _ _ _ _ us hl => match us, hl with | [_, _], _ => rfl,
    a__law_of := _,
    d__law_of := _,
    F__law_of := F12,
    g__law_of := PySem.W.mg_of X G a12,
    b__law_of := F12.binds (ps := P__law_of) fun _ _ _ _ _ _ us hl => match us, hl with | [_, _], _ => rfl,
    a__law_same := _,
    d__law_same := _,
    F__law_same := F13,
    g__law_same := PySem.W.mg_of X G a13,
    b__law_same := F13.binds (ps := P__law_same) fun _ _ _ _ _ _ us hl => match us, hl with | [_, _], _ => rfl,
    a__law_field := _,
    d__law_field := _,
    F__law_field := F14,
    g__law_field := PySem.W.mg_of X G a14,
    b__law_field := F14.binds (ps := P__law_field) fun _ _ _ _ _ _ us hl => match us, hl with | [_], _ => rfl,
    a__law_try := _,
    d__law_try := _,
    F__law_try := F15,
    g__law_try := PySem.W.mg_of X G a15,
    b__law_try := F15.binds (ps := P__law_try) fun _ _ _ _ _ _ us hl => match us, hl with | [_], _ => rfl,
    a__law_end_text := _,
    d__law_end_text := _,
    F__law_end_text := F16,
    g__law_end_text := PySem.W.mg_of X G a16,
    b__law_end_text := F16.binds (ps := P__law_end_text) fun _ _ _ _ _ _ us hl => match us, hl with | [_], _ => rfl,
    a_law := _,
    d_law := _,
    F_law := F17,
    g_law := PySem.W.mg_of X G a17,
    a_PileError := _,
    g_PileError := PySem.W.mg_of X G gX_PileError,
    f_PileError := _,
    d_PileError := _,
    F_PileError := FX_PileError,
    b_PileError := binds_pe FX_PileError,
    r_PileError := ⟨rX_PileError, sX_PileError⟩,
    v_PileError := ⟨iX_PileError, rfl⟩,
    a_BadPlace := _,
    g_BadPlace := PySem.W.mg_of X G gX_BadPlace,
    x_BadPlace := ⟨⟨⟨_, _, _, _, _, _, _, _, _, _, _, _, _, _, _, oX_BadPlace, vX_BadPlace⟩, sX_BadPlace, xX_BadPlace, yX_BadPlace, kX_BadPlace⟩, xfB_ok bX_BadPlace, (List.forall_mem_cons.mpr ⟨nX_code_BadPlace, (List.forall_mem_cons.mpr ⟨nX_place_BadPlace, (fun _ h => nomatch h)⟩)⟩), eX_BadPlace⟩,
    f_BadPlace := _,
    d_BadPlace := _,
    F_BadPlace := FX_BadPlace,
    b_BadPlace := FX_BadPlace.binds (ps := P_BadPlace) fun _ _ _ _ _ _ us hl => match us, hl with | [_, _], _ => rfl,
    i_BadPlace := iX_BadPlace,
    ti_BadPlace := tX_BadPlace,
    a_BadText := _,
    g_BadText := PySem.W.mg_of X G gX_BadText,
    x_BadText := ⟨⟨⟨_, _, _, _, _, _, _, _, _, _, _, _, _, _, _, oX_BadText, vX_BadText⟩, sX_BadText, xX_BadText, yX_BadText, kX_BadText⟩, xfB_ok bX_BadText, (List.forall_mem_cons.mpr ⟨nX_code_BadText, (List.forall_mem_cons.mpr ⟨nX_at_BadText, (fun _ h => nomatch h)⟩)⟩), eX_BadText⟩,
    f_BadText := _,
    d_BadText := _,
    F_BadText := FX_BadText,
    b_BadText := FX_BadText.binds (ps := P_BadText) fun _ _ _ _ _ _ us hl => match us, hl with | [_, _], _ => rfl,
    i_BadText := iX_BadText,
    ti_BadText := tX_BadText,
    a_BadSize := _,
    g_BadSize := PySem.W.mg_of X G gX_BadSize,
    x_BadSize := ⟨⟨⟨_, _, _, _, _, _, _, _, _, _, _, _, _, _, _, oX_BadSize, vX_BadSize⟩, sX_BadSize, xX_BadSize, yX_BadSize, kX_BadSize⟩, xfB_ok bX_BadSize, (List.forall_mem_cons.mpr ⟨nX_code_BadSize, (List.forall_mem_cons.mpr ⟨nX_size_BadSize, (fun _ h => nomatch h)⟩)⟩), eX_BadSize⟩,
    f_BadSize := _,
    d_BadSize := _,
    F_BadSize := FX_BadSize,
    b_BadSize := FX_BadSize.binds (ps := P_BadSize) fun _ _ _ _ _ _ us hl => match us, hl with | [_, _], _ => rfl,
    i_BadSize := iX_BadSize,
    ti_BadSize := tX_BadSize,
    a_NoPlace := _,
    g_NoPlace := PySem.W.mg_of X G gX_NoPlace,
    x_NoPlace := ⟨⟨⟨_, _, _, _, _, _, _, _, _, _, _, _, _, _, _, oX_NoPlace, vX_NoPlace⟩, sX_NoPlace, xX_NoPlace, yX_NoPlace, kX_NoPlace⟩, xfB_ok bX_NoPlace, (List.forall_mem_cons.mpr ⟨nX_code_NoPlace, (List.forall_mem_cons.mpr ⟨nX_place_NoPlace, (fun _ h => nomatch h)⟩)⟩), eX_NoPlace⟩,
    f_NoPlace := _,
    d_NoPlace := _,
    F_NoPlace := FX_NoPlace,
    b_NoPlace := FX_NoPlace.binds (ps := P_NoPlace) fun _ _ _ _ _ _ us hl => match us, hl with | [_, _], _ => rfl,
    i_NoPlace := iX_NoPlace,
    ti_NoPlace := tX_NoPlace,
    a_Missing := _,
    g_Missing := PySem.W.mg_of X G gX_Missing,
    c_law := cLaw,
    p_law := pLaw,
    C_law := ⟨⟨_, _, _, _, _, _, _, _, rfl, l17, c17⟩, k17⟩,
    m_all := PySem.W.mg_none_of X G z_all,
    m_bool := PySem.W.mg_none_of X G z_bool,
    m_dict := PySem.W.mg_none_of X G z_dict,
    m_int := PySem.W.mg_none_of X G z_int,
    m_isinstance := PySem.W.mg_none_of X G z_isinstance,
    m_len := PySem.W.mg_none_of X G z_len,
    m_list := PySem.W.mg_none_of X G z_list,
    m_min := PySem.W.mg_none_of X G z_min,
    m_range := PySem.W.mg_none_of X G z_range,
    m_str := PySem.W.mg_none_of X G z_str,
    m_tuple := PySem.W.mg_none_of X G z_tuple,
    m_zip := PySem.W.mg_none_of X G z_zip,
    t_MOST_DIGITS := _,
    c_MOST_DIGITS := PySem.W.mg_of X G y_MOST_DIGITS,
    t_MOST_DEPTH := _,
    c_MOST_DEPTH := PySem.W.mg_of X G y_MOST_DEPTH,
    t_MOST_CARDS := _,
    c_MOST_CARDS := PySem.W.mg_of X G y_MOST_CARDS,
    a_ENDS := _,
    c_ENDS := PySem.W.mg_of X G y_ENDS,
    d_ENDS := ⟨_, _, l_ENDS, k_ENDS, s_ENDS⟩,
    x_ENDS := fun z hz => miss_of l_ENDS k_ENDS s_ENDS km_ENDS z hz,
    e_ENDS_t := ⟨_, _, _, l_ENDS, k_ENDS, e_ENDS_t, ⟨_, rfl⟩⟩,
    e_ENDS_b := ⟨_, _, _, l_ENDS, k_ENDS, e_ENDS_b, ⟨_, rfl⟩⟩ }
  exact ⟨_, [(cLaw, pLaw)], spLawT K pLaw, fun p hp => by rw [List.mem_singleton.mp hp]; exact zc5, fun p hp => by rw [List.mem_singleton.mp hp]; exact zc4, fun p hp => by rw [List.mem_singleton.mp hp]; exact PySem.W.codeHd_of_K X zc3, fun s v => .of_eq rfl, fun H a ns h1 _ h3 h4 => ⟨a, ns, rfl, h4, h1, tabs_nil (h3 _ List.mem_cons_self), fun _ => rfl⟩, fun base _ _ TB => ok_law T (TB _ List.mem_cons_self)⟩
end Z
open PySem PySem.W PyProof.Rows
set_option maxHeartbeats 0 in
theorem PySem.Challenge.cw_pileports_k01_end_places_holds : PySem.Challenge.rw_pileports_k01_end_places.Holds := by
  w_on; o_law; k_head; (case hw => w_witness2)
  k_fill
  refine LamX.walk_ofTs (l := PySem.Challenge.rw_pileports_k01_end_places) (n := 63) (k := 9) (x := "_law_script") (CX := fun _ => L2.CX0) rfl (by decide) rfl ⟨rfl, by decide, by decide⟩ (fun w h Y => PySem.W.km_in_of Y) ?F (fun _ _ _ _ _ h => h)
  case F =>
    intro w mg fa h Y KX G hmg
    refine' Z.all_mk KX G hmg ?a0 ?l0 ?c0 ?k0 ?a1 ?l1 ?c1 ?k1 ?a2 ?l2 ?c2 ?k2 ?a3 ?l3 ?c3 ?k3 ?a4 ?l4 ?c4 ?k4 ?a5 ?l5 ?c5 ?k5 ?a6 ?l6 ?c6 ?k6 ?a7 ?l7 ?c7 ?k7 ?a8 ?l8 ?c8 ?k8 ?a9 ?l9 ?c9 ?k9 ?a10 ?l10 ?c10 ?k10 ?a11 ?l11 ?c11 ?k11 ?a12 ?l12 ?c12 ?k12 ?a13 ?l13 ?c13 ?k13 ?a14 ?l14 ?c14 ?k14 ?a15 ?l15 ?c15 ?k15 ?a16 ?l16 ?c16 ?k16 ?a17 ?l17 ?c17 ?k17 ?z_all ?z_bool ?z_dict ?z_int ?z_isinstance ?z_len ?z_list ?z_min ?z_range ?z_str ?z_tuple ?z_zip ?y_MOST_DIGITS ?y_MOST_DEPTH ?y_MOST_CARDS ?y_ENDS ?l_ENDS ?k_ENDS ?s_ENDS ?km_ENDS ?e_ENDS_t ?e_ENDS_b ?gX_PileError ?iX_PileError ?rX_PileError ?sX_PileError ?lX_PileError ?tX_PileError ?cX_PileError ?wX_PileError ?gX_BadPlace ?oX_BadPlace ?vX_BadPlace ?sX_BadPlace ?xX_BadPlace ?yX_BadPlace ?kX_BadPlace ?bX_BadPlace ?nX_code_BadPlace ?nX_place_BadPlace ?iX_BadPlace ?tX_BadPlace ?lX_BadPlace ?eX_BadPlace ?cX_BadPlace ?wX_BadPlace ?gX_BadText ?oX_BadText ?vX_BadText ?sX_BadText ?xX_BadText ?yX_BadText ?kX_BadText ?bX_BadText ?nX_code_BadText ?nX_at_BadText ?iX_BadText ?tX_BadText ?lX_BadText ?eX_BadText ?cX_BadText ?wX_BadText ?gX_BadSize ?oX_BadSize ?vX_BadSize ?sX_BadSize ?xX_BadSize ?yX_BadSize ?kX_BadSize ?bX_BadSize ?nX_code_BadSize ?nX_size_BadSize ?iX_BadSize ?tX_BadSize ?lX_BadSize ?eX_BadSize ?cX_BadSize ?wX_BadSize ?gX_NoPlace ?oX_NoPlace ?vX_NoPlace ?sX_NoPlace ?xX_NoPlace ?yX_NoPlace ?kX_NoPlace ?bX_NoPlace ?nX_code_NoPlace ?nX_place_NoPlace ?iX_NoPlace ?tX_NoPlace ?lX_NoPlace ?eX_NoPlace ?cX_NoPlace ?wX_NoPlace ?gX_Missing ?zc0 ?zc1 ?zc2 ?zc3 ?zc4 ?zc5
    (case a0 => k_is); (case l0 => k_is); (case c0 => k_is); (case k0 => k_is); (case a1 => k_is); (case l1 => k_is); (case c1 => k_is); (case k1 => k_is); (case a2 => k_is); (case l2 => k_is); (case c2 => k_is); (case k2 => k_is); (case a3 => k_is); (case l3 => k_is); (case c3 => k_is); (case k3 => k_is); (case a4 => k_is); (case l4 => k_is); (case c4 => k_is); (case k4 => k_is); (case a5 => k_is); (case l5 => k_is); (case c5 => k_is); (case k5 => k_is); (case a6 => k_is); (case l6 => k_is); (case c6 => k_is); (case k6 => k_is); (case a7 => k_is); (case l7 => k_is); (case c7 => k_is); (case k7 => k_is); (case a8 => k_is); (case l8 => k_is); (case c8 => k_is); (case k8 => k_is); (case a9 => k_is); (case l9 => k_is); (case c9 => k_is); (case k9 => k_is); (case a10 => k_is); (case l10 => k_is); (case c10 => k_is); (case k10 => k_is); (case a11 => k_is); (case l11 => k_is); (case c11 => k_is); (case k11 => k_is); (case a12 => k_is); (case l12 => k_is); (case c12 => k_is); (case k12 => k_is); (case a13 => k_is); (case l13 => k_is); (case c13 => k_is); (case k13 => k_is); (case a14 => k_is); (case l14 => k_is); (case c14 => k_is); (case k14 => k_is); (case a15 => k_is); (case l15 => k_is); (case c15 => k_is); (case k15 => k_is); (case a16 => k_is); (case l16 => k_is); (case c16 => k_is); (case k16 => k_is); (case a17 => k_is); (case l17 => k_is); (case c17 => k_is); (case k17 => k_is); (case z_all => k_is); (case z_bool => k_is); (case z_dict => k_is); (case z_int => k_is); (case z_isinstance => k_is); (case z_len => k_is); (case z_list => k_is); (case z_min => k_is); (case z_range => k_is); (case z_str => k_is); (case z_tuple => k_is); (case z_zip => k_is); (case y_MOST_DIGITS => k_is); (case y_MOST_DEPTH => k_is); (case y_MOST_CARDS => k_is); (case y_ENDS => k_is); (case l_ENDS => k_is); (case k_ENDS => k_keys); (case s_ENDS => (first | rfl | decide)); (case km_ENDS => (first | rfl | decide +kernel | k_is)); (case e_ENDS_t => k_is); (case e_ENDS_b => k_is); (case gX_PileError => (first | k_is | decide +kernel | rfl)); (case iX_PileError => (first | k_is | decide +kernel | rfl)); (case rX_PileError => (first | k_is | decide +kernel | rfl)); (case sX_PileError => (first | k_is | decide +kernel | rfl)); (case lX_PileError => (first | k_is | decide +kernel | rfl)); (case tX_PileError => (first | k_is | decide +kernel | rfl)); (case cX_PileError => (first | k_is | decide +kernel | rfl)); (case wX_PileError => (first | k_is | decide +kernel | rfl)); (case gX_BadPlace => (first | k_is | decide +kernel | rfl)); (case oX_BadPlace => (first | k_is | decide +kernel | rfl)); (case vX_BadPlace => (first | k_is | decide +kernel | rfl)); (case sX_BadPlace => (first | k_is | decide +kernel | rfl)); (case xX_BadPlace => (first | k_is | decide +kernel | rfl)); (case yX_BadPlace => (first | k_is | decide +kernel | rfl)); (case kX_BadPlace => (first | k_is | decide +kernel | rfl)); (case bX_BadPlace => (first | k_is | decide +kernel | rfl)); (case nX_code_BadPlace => (first | k_is | decide +kernel | rfl)); (case nX_place_BadPlace => (first | k_is | decide +kernel | rfl)); (case iX_BadPlace => (first | k_is | decide +kernel | rfl)); (case tX_BadPlace => (first | k_is | decide +kernel | rfl)); (case lX_BadPlace => (first | k_is | decide +kernel | rfl)); (case eX_BadPlace => (first | k_is | decide +kernel | rfl)); (case cX_BadPlace => (first | k_is | decide +kernel | rfl)); (case wX_BadPlace => (first | k_is | decide +kernel | rfl)); (case gX_BadText => (first | k_is | decide +kernel | rfl)); (case oX_BadText => (first | k_is | decide +kernel | rfl)); (case vX_BadText => (first | k_is | decide +kernel | rfl)); (case sX_BadText => (first | k_is | decide +kernel | rfl)); (case xX_BadText => (first | k_is | decide +kernel | rfl)); (case yX_BadText => (first | k_is | decide +kernel | rfl)); (case kX_BadText => (first | k_is | decide +kernel | rfl)); (case bX_BadText => (first | k_is | decide +kernel | rfl)); (case nX_code_BadText => (first | k_is | decide +kernel | rfl)); (case nX_at_BadText => (first | k_is | decide +kernel | rfl)); (case iX_BadText => (first | k_is | decide +kernel | rfl)); (case tX_BadText => (first | k_is | decide +kernel | rfl)); (case lX_BadText => (first | k_is | decide +kernel | rfl)); (case eX_BadText => (first | k_is | decide +kernel | rfl)); (case cX_BadText => (first | k_is | decide +kernel | rfl)); (case wX_BadText => (first | k_is | decide +kernel | rfl)); (case gX_BadSize => (first | k_is | decide +kernel | rfl)); (case oX_BadSize => (first | k_is | decide +kernel | rfl)); (case vX_BadSize => (first | k_is | decide +kernel | rfl)); (case sX_BadSize => (first | k_is | decide +kernel | rfl)); (case xX_BadSize => (first | k_is | decide +kernel | rfl)); (case yX_BadSize => (first | k_is | decide +kernel | rfl)); (case kX_BadSize => (first | k_is | decide +kernel | rfl)); (case bX_BadSize => (first | k_is | decide +kernel | rfl)); (case nX_code_BadSize => (first | k_is | decide +kernel | rfl)); (case nX_size_BadSize => (first | k_is | decide +kernel | rfl)); (case iX_BadSize => (first | k_is | decide +kernel | rfl)); (case tX_BadSize => (first | k_is | decide +kernel | rfl)); (case lX_BadSize => (first | k_is | decide +kernel | rfl)); (case eX_BadSize => (first | k_is | decide +kernel | rfl)); (case cX_BadSize => (first | k_is | decide +kernel | rfl)); (case wX_BadSize => (first | k_is | decide +kernel | rfl)); (case gX_NoPlace => (first | k_is | decide +kernel | rfl)); (case oX_NoPlace => (first | k_is | decide +kernel | rfl)); (case vX_NoPlace => (first | k_is | decide +kernel | rfl)); (case sX_NoPlace => (first | k_is | decide +kernel | rfl)); (case xX_NoPlace => (first | k_is | decide +kernel | rfl)); (case yX_NoPlace => (first | k_is | decide +kernel | rfl)); (case kX_NoPlace => (first | k_is | decide +kernel | rfl)); (case bX_NoPlace => (first | k_is | decide +kernel | rfl)); (case nX_code_NoPlace => (first | k_is | decide +kernel | rfl)); (case nX_place_NoPlace => (first | k_is | decide +kernel | rfl)); (case iX_NoPlace => (first | k_is | decide +kernel | rfl)); (case tX_NoPlace => (first | k_is | decide +kernel | rfl)); (case lX_NoPlace => (first | k_is | decide +kernel | rfl)); (case eX_NoPlace => (first | k_is | decide +kernel | rfl)); (case cX_NoPlace => (first | k_is | decide +kernel | rfl)); (case wX_NoPlace => (first | k_is | decide +kernel | rfl)); (case gX_Missing => (first | k_is | decide +kernel | rfl)); (case zc0 => (first | rfl | k_is)); (case zc1 => k_is); (case zc2 => (first | rfl | k_is)); (case zc3 => (first | kernel_rfl | decide +kernel | rfl)); (case zc4 => (first | kernel_rfl | decide +kernel | rfl)); (case zc5 => exact PySem.W.km_tabs_of Y _ (by first | decide | simp))
