import PyProof.Rows.All
import Wide.All
import OpenK.AllK
import Wide.FinOn
import PySem.Challenge.RW_pileports_k06_moves_undone
import HandS.ForMost
import HandS.Wide
import HandS.WideMore
import HandS.IsInst
import HandS.Star
import HandS.NoneIn
import HandS.Zip
import HandS.Defaults
import HandS.Evl
import HandS.WrittenGet
import HandS.CallLocal
import HandS.TupAny
import HandS.Style
import HandS.More
set_option Elab.async false
set_option linter.all false
set_option maxRecDepth 100000
set_option maxHeartbeats 8000000
namespace Z
open PySem PySem.Spec PyProof.Rows L2
def topS (i : Nat) : Stmt := PySem.Challenge.pw_pileports_k06_moves_undone.main.body.getD i (.Pass ⟨0, 0, 0, 0⟩)
abbrev s_is_number : Stmt := topS 7
abbrev N_is_number : List Str := ["value"]
abbrev P_is_number : List Str := ["value"]
theorem sc_is_number : FnScope N_is_number P_is_number (defScope s_is_number) := ⟨rfl, rfl, rfl, by decide +kernel, rfl, by decide +kernel, by decide +kernel⟩
abbrev s_is_end : Stmt := topS 11
abbrev N_is_end : List Str := ["value"]
abbrev P_is_end : List Str := ["value"]
theorem sc_is_end : FnScope N_is_end P_is_end (defScope s_is_end) := ⟨rfl, rfl, rfl, by decide +kernel, rfl, by decide +kernel, by decide +kernel⟩
abbrev s_is_end_place : Stmt := topS 12
abbrev N_is_end_place : List Str := ["value"]
abbrev P_is_end_place : List Str := ["value"]
theorem sc_is_end_place : FnScope N_is_end_place P_is_end_place (defScope s_is_end_place) := ⟨rfl, rfl, rfl, by decide +kernel, rfl, by decide +kernel, by decide +kernel⟩
abbrev s_check_size : Stmt := topS 13
abbrev N_check_size : List Str := ["size"]
abbrev P_check_size : List Str := ["size"]
theorem sc_check_size : FnScope N_check_size P_check_size (defScope s_check_size) := ⟨rfl, rfl, rfl, by decide +kernel, rfl, by decide +kernel, by decide +kernel⟩
abbrev s_check_place : Stmt := topS 14
abbrev N_check_place : List Str := ["place", "size"]
abbrev P_check_place : List Str := ["place", "size"]
theorem sc_check_place : FnScope N_check_place P_check_place (defScope s_check_place) := ⟨rfl, rfl, rfl, by decide +kernel, rfl, by decide +kernel, by decide +kernel⟩
abbrev s_resolve : Stmt := topS 15
abbrev N_resolve : List Str := ["end_place", "size", "end", "depth"]
abbrev P_resolve : List Str := ["end_place", "size"]
theorem sc_resolve : FnScope N_resolve P_resolve (defScope s_resolve) := ⟨rfl, rfl, rfl, by decide +kernel, rfl, by decide +kernel, by decide +kernel⟩
abbrev s_is_move : Stmt := topS 19
abbrev N_is_move : List Str := ["move", "shape", "part", "item"]
abbrev P_is_move : List Str := ["move"]
theorem sc_is_move : FnScope N_is_move P_is_move (defScope s_is_move) := ⟨rfl, rfl, rfl, by decide +kernel, rfl, by decide +kernel, by decide +kernel⟩
abbrev s_fits : Stmt := topS 20
abbrev N_fits : List Str := ["part", "item", "least"]
abbrev P_fits : List Str := ["part", "item"]
theorem sc_fits : FnScope N_fits P_fits (defScope s_fits) := ⟨rfl, rfl, rfl, by decide +kernel, rfl, by decide +kernel, by decide +kernel⟩
abbrev s_check_move : Stmt := topS 21
abbrev N_check_move : List Str := ["move"]
abbrev P_check_move : List Str := ["move"]
theorem sc_check_move : FnScope N_check_move P_check_move (defScope s_check_move) := ⟨rfl, rfl, rfl, by decide +kernel, rfl, by decide +kernel, by decide +kernel⟩
abbrev s_reach : Stmt := topS 22
abbrev N_reach : List Str := ["move", "name", "end", "depth"]
abbrev P_reach : List Str := ["move"]
theorem sc_reach : FnScope N_reach P_reach (defScope s_reach) := ⟨rfl, rfl, rfl, by decide +kernel, rfl, by decide +kernel, by decide +kernel⟩
abbrev s_undoing : Stmt := topS 23
abbrev N_undoing : List Str := ["move"]
abbrev P_undoing : List Str := ["move"]
theorem sc_undoing : FnScope N_undoing P_undoing (defScope s_undoing) := ⟨rfl, rfl, rfl, by decide +kernel, rfl, by decide +kernel, by decide +kernel⟩
abbrev s_image : Stmt := topS 24
abbrev N_image : List Str := ["move", "size", "place", "action"]
abbrev P_image : List Str := ["move", "size", "place"]
theorem sc_image : FnScope N_image P_image (defScope s_image) := ⟨rfl, rfl, rfl, by decide +kernel, rfl, by decide +kernel, by decide +kernel⟩
abbrev s_swap_image : Stmt := topS 25
abbrev N_swap_image : List Str := ["move", "size", "place", "one", "other"]
abbrev P_swap_image : List Str := ["move", "size", "place"]
theorem sc_swap_image : FnScope N_swap_image P_swap_image (defScope s_swap_image) := ⟨rfl, rfl, rfl, by decide +kernel, rfl, by decide +kernel, by decide +kernel⟩
abbrev s_carry_image : Stmt := topS 26
abbrev N_carry_image : List Str := ["move", "size", "place", "start", "goal"]
abbrev P_carry_image : List Str := ["move", "size", "place"]
theorem sc_carry_image : FnScope N_carry_image P_carry_image (defScope s_carry_image) := ⟨rfl, rfl, rfl, by decide +kernel, rfl, by decide +kernel, by decide +kernel⟩
abbrev s_cut_image : Stmt := topS 27
abbrev N_cut_image : List Str := ["move", "size", "place"]
abbrev P_cut_image : List Str := ["move", "size", "place"]
theorem sc_cut_image : FnScope N_cut_image P_cut_image (defScope s_cut_image) := ⟨rfl, rfl, rfl, by decide +kernel, rfl, by decide +kernel, by decide +kernel⟩
abbrev s_turn_image : Stmt := topS 28
abbrev N_turn_image : List Str := ["move", "size", "place", "first", "beyond"]
abbrev P_turn_image : List Str := ["move", "size", "place"]
theorem sc_turn_image : FnScope N_turn_image P_turn_image (defScope s_turn_image) := ⟨rfl, rfl, rfl, by decide +kernel, rfl, by decide +kernel, by decide +kernel⟩
abbrev s_over_image : Stmt := topS 29
abbrev N_over_image : List Str := ["move", "size", "place"]
abbrev P_over_image : List Str := ["move", "size", "place"]
theorem sc_over_image : FnScope N_over_image P_over_image (defScope s_over_image) := ⟨rfl, rfl, rfl, by decide +kernel, rfl, by decide +kernel, by decide +kernel⟩
abbrev s_face_image : Stmt := topS 30
abbrev N_face_image : List Str := ["move", "size", "place"]
abbrev P_face_image : List Str := ["move", "size", "place"]
theorem sc_face_image : FnScope N_face_image P_face_image (defScope s_face_image) := ⟨rfl, rfl, rfl, by decide +kernel, rfl, by decide +kernel, by decide +kernel⟩
abbrev s__law_bag : Stmt := topS 33
abbrev N__law_bag : List Str := ["_law_script", "_law_salt", "_law_cell"]
abbrev P__law_bag : List Str := ["_law_script"]
theorem sc__law_bag : FnScope N__law_bag P__law_bag (defScope s__law_bag) := ⟨rfl, rfl, rfl, by decide +kernel, rfl, by decide +kernel, by decide +kernel⟩
abbrev s__law_pull : Stmt := topS 34
abbrev N__law_pull : List Str := ["_law_bag_here", "_law_amount", "_law_cell", "_law_got", "_law_seed"]
abbrev P__law_pull : List Str := ["_law_bag_here", "_law_amount"]
theorem sc__law_pull : FnScope N__law_pull P__law_pull (defScope s__law_pull) := ⟨rfl, rfl, rfl, by decide +kernel, rfl, by decide +kernel, by decide +kernel⟩
abbrev s__law_of : Stmt := topS 35
abbrev N__law_of : List Str := ["_law_bag_here", "_law_things"]
abbrev P__law_of : List Str := ["_law_bag_here", "_law_things"]
theorem sc__law_of : FnScope N__law_of P__law_of (defScope s__law_of) := ⟨rfl, rfl, rfl, by decide +kernel, rfl, by decide +kernel, by decide +kernel⟩
abbrev s__law_end : Stmt := topS 36
abbrev N__law_end : List Str := ["_law_bag_here", "_law_deep"]
abbrev P__law_end : List Str := ["_law_bag_here", "_law_deep"]
theorem sc__law_end : FnScope N__law_end P__law_end (defScope s__law_end) := ⟨rfl, rfl, rfl, by decide +kernel, rfl, by decide +kernel, by decide +kernel⟩
abbrev s__law_move : Stmt := topS 37
abbrev N__law_move : List Str := ["_law_bag_here", "_law_deep", "_law_pick"]
abbrev P__law_move : List Str := ["_law_bag_here", "_law_deep"]
theorem sc__law_move : FnScope N__law_move P__law_move (defScope s__law_move) := ⟨rfl, rfl, rfl, by decide +kernel, rfl, by decide +kernel, by decide +kernel⟩
abbrev s__law_depth : Stmt := topS 38
abbrev N__law_depth : List Str := ["_law_move_here", "_law_spot_here"]
abbrev P__law_depth : List Str := ["_law_move_here"]
theorem sc__law_depth : FnScope N__law_depth P__law_depth (defScope s__law_depth) := ⟨rfl, rfl, rfl, by decide +kernel, rfl, by decide +kernel, by decide +kernel⟩
abbrev s__law_spot : Stmt := topS 39
abbrev N__law_spot : List Str := ["_law_end_place", "_law_size"]
abbrev P__law_spot : List Str := ["_law_end_place", "_law_size"]
theorem sc__law_spot : FnScope N__law_spot P__law_spot (defScope s__law_spot) := ⟨rfl, rfl, rfl, by decide +kernel, rfl, by decide +kernel, by decide +kernel⟩
abbrev s__law_flipped : Stmt := topS 40
abbrev N__law_flipped : List Str := ["_law_cards", "_law_card", "_law_face"]
abbrev P__law_flipped : List Str := ["_law_cards"]
theorem sc__law_flipped : FnScope N__law_flipped P__law_flipped (defScope s__law_flipped) := ⟨rfl, rfl, rfl, by decide +kernel, rfl, by decide +kernel, by decide +kernel⟩
abbrev s__law_dealt : Stmt := topS 41
abbrev N__law_dealt : List Str := ["_law_move_here", "_law_cards", "_law_size", "_law_at", "_law_found", "_law_one", "_law_other", "_law_left", "_law_right", "_law_card"]
abbrev P__law_dealt : List Str := ["_law_move_here", "_law_cards"]
theorem sc__law_dealt : FnScope N__law_dealt P__law_dealt (defScope s__law_dealt) := ⟨rfl, rfl, rfl, by decide +kernel, rfl, by decide +kernel, by decide +kernel⟩
abbrev s__law_images : Stmt := topS 42
abbrev N__law_images : List Str := ["_law_moves", "_law_size", "_law_cards", "_law_move_here", "_law_found", "_law_place"]
abbrev P__law_images : List Str := ["_law_moves", "_law_size"]
theorem sc__law_images : FnScope N__law_images P__law_images (defScope s__law_images) := ⟨rfl, rfl, rfl, by decide +kernel, rfl, by decide +kernel, by decide +kernel⟩
abbrev s__law_goes : Stmt := topS 43
abbrev N__law_goes : List Str := ["_law_move_here", "_law_size", "_law_place", "_law_depth_here", "_law_one", "_law_other"]
abbrev P__law_goes : List Str := ["_law_move_here", "_law_size", "_law_place"]
theorem sc__law_goes : FnScope N__law_goes P__law_goes (defScope s__law_goes) := ⟨rfl, rfl, rfl, by decide +kernel, rfl, by decide +kernel, by decide +kernel⟩
abbrev s__law_then : Stmt := topS 44
abbrev N__law_then : List Str := ["_law_first", "_law_second", "_law_place", "_law_face"]
abbrev P__law_then : List Str := ["_law_first", "_law_second"]
theorem sc__law_then : FnScope N__law_then P__law_then (defScope s__law_then) := ⟨rfl, rfl, rfl, by decide +kernel, rfl, by decide +kernel, by decide +kernel⟩
abbrev s__law_great : Stmt := topS 45
abbrev N__law_great : List Str := ["_law_bag_here"]
abbrev P__law_great : List Str := ["_law_bag_here"]
theorem sc__law_great : FnScope N__law_great P__law_great (defScope s__law_great) := ⟨rfl, rfl, rfl, by decide +kernel, rfl, by decide +kernel, by decide +kernel⟩
abbrev s__law_place_of : Stmt := topS 46
abbrev N__law_place_of : List Str := ["_law_bag_here", "_law_size", "_law_pick", "_law_near"]
abbrev P__law_place_of : List Str := ["_law_bag_here", "_law_size"]
theorem sc__law_place_of : FnScope N__law_place_of P__law_place_of (defScope s__law_place_of) := ⟨rfl, rfl, rfl, by decide +kernel, rfl, by decide +kernel, by decide +kernel⟩
abbrev s_law : Stmt := topS 47
abbrev N_law : List Str := ["_law_script", "_law_bag_here", "_law_turn", "_law_move_here", "_law_back", "_law_size", "_law_both", "_law_place", "_law_there"]
abbrev P_law : List Str := ["_law_script"]
theorem sc_law : FnScope N_law P_law (defScope s_law) := ⟨rfl, rfl, rfl, by decide +kernel, rfl, by decide +kernel, by decide +kernel⟩
/-! ### rules whose reading names the written part by its own letter -/
section
variable {X : Cx} {K : PySem.W.Frag}
def rLenQ (K : PySem.W.Frag) : List V → Hp → VK → Prop := fun vs H Q => ∃ a us, vs = [.ref a] ∧ (SqL K H a us ∨ SqT K H a us) ∧ Q (.int us.length) H
def rListQ (K : PySem.W.Frag) : List V → Hp → VK → Prop := fun vs H Q => ∃ a us, vs = [.ref a] ∧ (SqL K H a us ∨ SqT K H a us) ∧ ∀ n, H n = none → Q (.ref n) (upd H n (.lst us))
def rTupleQ (K : PySem.W.Frag) : List V → Hp → VK → Prop := fun vs H Q => ∃ a us, vs = [.ref a] ∧ ((SqL K H a us ∧ ∀ n, H n = none → Q (.ref n) (upd H n (.tup us))) ∨ (SqT K H a us ∧ Q (.ref a) H))
theorem k_ixL (h : X.K = K := by rfl) : IxR X (rIxL K) := h ▸ ix_list
theorem k_ixT (h : X.K = K := by rfl) : IxR X (rIxT K) := h ▸ ix_tup
theorem k_slL (h : X.K = K := by rfl) : SlR X (rSlL K) := h ▸ sl_list
theorem k_len (h : X.K = K := by rfl) : CallR X (.builtin "len") (rLenQ K) := h ▸ call_len_seq
theorem k_list (h : X.K = K := by rfl) : CallR X (.type "list") (rListQ K) := h ▸ call_list_of
theorem k_tuple (h : X.K = K := by rfl) : CallR X (.type "tuple") (rTupleQ K) := h ▸ call_tuple_of
theorem k_max (hc : X.calm = true := by rfl) (h : X.K = K := by rfl) : CallR X (.builtin "max") (rMax K) := h ▸ cr_max hc
theorem k_min (hc : X.calm = true := by rfl) (h : X.K = K := by rfl) : CallR X (.builtin "min") (rMin K) := h ▸ cr_min hc
theorem k_all (hc : X.calm = true := by rfl) (h : X.K = K := by rfl) : CallR X (.builtin "all") (rAll K) := h ▸ cr_all hc
theorem k_isi (h : X.K = K := by rfl) : CallR X (.builtin "isinstance") (rIsi K) := h ▸ call_isi
theorem k_in (h : X.K = K := by rfl) : OpR X (compareOp .In) (rIn K false) := h ▸ op_in_seq
theorem k_notIn (h : X.K = K := by rfl) : OpR X (compareOp .NotIn) (rIn K true) := h ▸ op_notIn_seq
theorem k_eqD (hu : X.A.units + 64 < cLine) (h : X.K = K := by rfl) : OpR X (compareOp .Eq) (rEqD K) := h ▸ op_eqD hu
theorem k_neD (hu : X.A.units + 64 < cLine) (h : X.K = K := by rfl) : OpR X (compareOp .NotEq) (rNeD K) := h ▸ op_neD hu
theorem k_piL {tg l : Expr} {tl : TE} (hl : PE X l tl) (h : X.K = K := by rfl) : PI X tg l (iList K tl) := h ▸ pi_list hl
theorem k_piT {tg l : Expr} {tl : TE} (hl : PE X l tl) (h : X.K = K := by rfl) : PI X tg l (iTup K tl) := h ▸ pi_tup hl
theorem k_gT {es : List Expr} {k : Nat} {t : TGs} {n : Nat} {pos : Pos} (pt : PGs X es t) (hc : X.calm = true := by rfl) (hn : (assignEach es X.env).length = n := by rfl)
    (hst : (assignEach es X.env).findIdx? (·.1) = none := by rfl) (h : X.K = K := by rfl) : PG X (.Tuple es k pos) (gTup K n t) := h ▸ pg_tup hc pt hn hst
theorem k_gL {es : List Expr} {k : Nat} {t : TGs} {n : Nat} {pos : Pos} (pt : PGs X es t) (hc : X.calm = true := by rfl) (hn : (assignEach es X.env).length = n := by rfl)
    (hst : (assignEach es X.env).findIdx? (·.1) = none := by rfl) (h : X.K = K := by rfl) : PG X (.Tuple es k pos) (gUnl K n t) := h ▸ pg_unl hc pt hn hst
theorem k_zip {a b : Expr} {ta : TA} {p pos tpos : Pos} {elts : List Expr} {kk : Nat} (ha : PA X [a, b] ta) (hm : X.mg "zip" = none) (hg : Gl X "zip" := by rfl)
    (h1 : starEach [a, b] X.env = (false, eval a X.env) :: starEach [b] X.env := by rfl) (h2 : (backTo pos (starEach [b] X.env)).any (·.1) = false := by rfl) (h : X.K = K := by rfl) :
    PI X (.Tuple elts kk tpos) (.Call (.Name "zip" p) [a, b] [] pos) (RZ.iZipA K ta) := h ▸ RZ.pi_zipA hg hm ha h1 h2
end
/-! ### dicts of the module -/
section
variable {X : Cx} {K : PySem.W.Frag} {w : World}
theorem k_slT (h : X.K = K := by rfl) : SlR X (rSlT K) := h ▸ sl_tup
theorem k_ixK (h : X.K = K := by rfl) (h2 : X.w = w := by rfl) : IxR X (rIxD K w) := h ▸ h2 ▸ ix_kdict
def KD (K : PySem.W.Frag) (w : World) (a : Addr) : Prop := ∃ es n, K.lookup a = some ⟨.type "dict", none, .dict es n, #[]⟩ ∧ PySem.W.KeysLit w.params es.toList ∧ (a == sysModules) = false
def tKGet (K : PySem.W.Frag) (w : World) (a : Addr) (te : TE) : TE := fun σ H Q => te σ H fun y H2 => ∃ z, y = .str z ∧ ((∃ v, KDct K w a z v ∧ Q v H2) ∨ (KMiss K w a z ∧ Q .non H2))
theorem pe_kget {a : Addr} {o e : Expr} {apos cpos : Pos} {te : TE} (ho : PE X o (tC (.ref a))) (kd : KD K w a) (he : PE X e te) (m : M1 X o "get" apos e cpos) (h : X.K = K := by rfl) (h2 : X.w = w := by rfl) :
    PE X (.Call (.Attribute o "get" apos) [e] [] cpos) (tKGet K w a te) := by
  subst h h2
  obtain ⟨es, n, hl, hkl, low⟩ := kd
  constructor
  intro pins s σ H Q I hq
  refine wpAny_Call_method m.base m.few m.line PySem.F.plainAttrs_dict PySem.F.slot_dict_get PySem.F.type_dict_get (thn (ho.run pins s σ H (fun x H1 => x = .ref a ∧ H1 = H) I ⟨rfl, rfl⟩) fun u s1 ⟨x, H1, I1, rx, ex, eH⟩ => ?_)
  subst ex eH
  obtain rfl : u = Value.ref a := rx
  have hm := PySem.W.mapOf_K (prog := X.prog) (w := X.w) I1.kIn hl hkl
  refine ⟨hm.typeIs, ?_, ?_⟩
  · intro b eb
    cases eb
    exact ⟨_, I1.kIn _ _ hl, rfl⟩
  rw [m.trees]
  refine Calls.callWith_builtin rfl (Calls.evalArgs_plain (Calls.spliced_cons (thn (he.run pins s1 σ _ _ I1 hq) fun iv s2 ⟨y, H2, I2, ry, z, ey, q2⟩ => Calls.spliced_nil ?_)))
  subst ey
  obtain ⟨t, rfl⟩ := (show ∃ t, iv = Value.str z t from ry)
  have hm2 := PySem.W.mapOf_K (prog := X.prog) (w := X.w) I2.kIn hl hkl
  refine call_meetsIn PySem.F.slot_dict_get hm2.typeIs PySem.F.entry_dict_get (PySem.F.args_dict_get_2 _ _) (meets_dict_get (strKind X.prog X.w) a (strKind_is X.prog X.w z t) low) ⟨_, hm2, ?_⟩
  rcases q2 with ⟨v, ⟨es', n', u0, hl', hk', e, ru⟩, q⟩ | ⟨⟨es', n', hl', hk', low', e⟩, q⟩
  · rw [PySem.W.find_K hl e]
    exact ⟨v, H2, I2.tok _, ru, q⟩
  · rw [PySem.W.find_K hl e]
    exact ⟨.non, H2, I2.tok _, rfl, q⟩
end
structure Txt (K : PySem.W.Frag) (mg : Str → Option Value) (w : World) where
  a_is_number : Addr
  d_is_number : FuncData
  F_is_number : Fun K "is_number" "is_number" s_is_number a_is_number d_is_number
  g_is_number : mg "is_number" = some (.ref a_is_number)
  b_is_number : Binds K d_is_number P_is_number []
  a_is_end : Addr
  d_is_end : FuncData
  F_is_end : Fun K "is_end" "is_end" s_is_end a_is_end d_is_end
  g_is_end : mg "is_end" = some (.ref a_is_end)
  b_is_end : Binds K d_is_end P_is_end []
  a_is_end_place : Addr
  d_is_end_place : FuncData
  F_is_end_place : Fun K "is_end_place" "is_end_place" s_is_end_place a_is_end_place d_is_end_place
  g_is_end_place : mg "is_end_place" = some (.ref a_is_end_place)
  b_is_end_place : Binds K d_is_end_place P_is_end_place []
  a_check_size : Addr
  d_check_size : FuncData
  F_check_size : Fun K "check_size" "check_size" s_check_size a_check_size d_check_size
  g_check_size : mg "check_size" = some (.ref a_check_size)
  b_check_size : Binds K d_check_size P_check_size []
  a_check_place : Addr
  d_check_place : FuncData
  F_check_place : Fun K "check_place" "check_place" s_check_place a_check_place d_check_place
  g_check_place : mg "check_place" = some (.ref a_check_place)
  b_check_place : Binds K d_check_place P_check_place []
  a_resolve : Addr
  d_resolve : FuncData
  F_resolve : Fun K "resolve" "resolve" s_resolve a_resolve d_resolve
  g_resolve : mg "resolve" = some (.ref a_resolve)
  b_resolve : Binds K d_resolve P_resolve []
  a_is_move : Addr
  d_is_move : FuncData
  F_is_move : Fun K "is_move" "is_move" s_is_move a_is_move d_is_move
  g_is_move : mg "is_move" = some (.ref a_is_move)
  b_is_move : Binds K d_is_move P_is_move []
  a_fits : Addr
  d_fits : FuncData
  F_fits : Fun K "fits" "fits" s_fits a_fits d_fits
  g_fits : mg "fits" = some (.ref a_fits)
  b_fits : Binds K d_fits P_fits []
  a_check_move : Addr
  d_check_move : FuncData
  F_check_move : Fun K "check_move" "check_move" s_check_move a_check_move d_check_move
  g_check_move : mg "check_move" = some (.ref a_check_move)
  b_check_move : Binds K d_check_move P_check_move []
  a_reach : Addr
  d_reach : FuncData
  F_reach : Fun K "reach" "reach" s_reach a_reach d_reach
  g_reach : mg "reach" = some (.ref a_reach)
  b_reach : Binds K d_reach P_reach []
  a_undoing : Addr
  d_undoing : FuncData
  F_undoing : Fun K "undoing" "undoing" s_undoing a_undoing d_undoing
  g_undoing : mg "undoing" = some (.ref a_undoing)
  b_undoing : Binds K d_undoing P_undoing []
  a_image : Addr
  d_image : FuncData
  F_image : Fun K "image" "image" s_image a_image d_image
  g_image : mg "image" = some (.ref a_image)
  b_image : Binds K d_image P_image []
  a_swap_image : Addr
  d_swap_image : FuncData
  F_swap_image : Fun K "swap_image" "swap_image" s_swap_image a_swap_image d_swap_image
  g_swap_image : mg "swap_image" = some (.ref a_swap_image)
  b_swap_image : Binds K d_swap_image P_swap_image []
  a_carry_image : Addr
  d_carry_image : FuncData
  F_carry_image : Fun K "carry_image" "carry_image" s_carry_image a_carry_image d_carry_image
  g_carry_image : mg "carry_image" = some (.ref a_carry_image)
  b_carry_image : Binds K d_carry_image P_carry_image []
  a_cut_image : Addr
  d_cut_image : FuncData
  F_cut_image : Fun K "cut_image" "cut_image" s_cut_image a_cut_image d_cut_image
  g_cut_image : mg "cut_image" = some (.ref a_cut_image)
  b_cut_image : Binds K d_cut_image P_cut_image []
  a_turn_image : Addr
  d_turn_image : FuncData
  F_turn_image : Fun K "turn_image" "turn_image" s_turn_image a_turn_image d_turn_image
  g_turn_image : mg "turn_image" = some (.ref a_turn_image)
  b_turn_image : Binds K d_turn_image P_turn_image []
  a_over_image : Addr
  d_over_image : FuncData
  F_over_image : Fun K "over_image" "over_image" s_over_image a_over_image d_over_image
  g_over_image : mg "over_image" = some (.ref a_over_image)
  b_over_image : Binds K d_over_image P_over_image []
  a_face_image : Addr
  d_face_image : FuncData
  F_face_image : Fun K "face_image" "face_image" s_face_image a_face_image d_face_image
  g_face_image : mg "face_image" = some (.ref a_face_image)
  b_face_image : Binds K d_face_image P_face_image []
  a__law_bag : Addr
  d__law_bag : FuncData
  F__law_bag : Fun K "_law_bag" "_law_bag" s__law_bag a__law_bag d__law_bag
  g__law_bag : mg "_law_bag" = some (.ref a__law_bag)
  b__law_bag : Binds K d__law_bag P__law_bag []
  a__law_pull : Addr
  d__law_pull : FuncData
  F__law_pull : Fun K "_law_pull" "_law_pull" s__law_pull a__law_pull d__law_pull
  g__law_pull : mg "_law_pull" = some (.ref a__law_pull)
  b__law_pull : Binds K d__law_pull P__law_pull []
  a__law_of : Addr
  d__law_of : FuncData
  F__law_of : Fun K "_law_of" "_law_of" s__law_of a__law_of d__law_of
  g__law_of : mg "_law_of" = some (.ref a__law_of)
  b__law_of : Binds K d__law_of P__law_of []
  a__law_end : Addr
  d__law_end : FuncData
  F__law_end : Fun K "_law_end" "_law_end" s__law_end a__law_end d__law_end
  g__law_end : mg "_law_end" = some (.ref a__law_end)
  b__law_end : Binds K d__law_end P__law_end []
  a__law_move : Addr
  d__law_move : FuncData
  F__law_move : Fun K "_law_move" "_law_move" s__law_move a__law_move d__law_move
  g__law_move : mg "_law_move" = some (.ref a__law_move)
  b__law_move : Binds K d__law_move P__law_move []
  a__law_depth : Addr
  d__law_depth : FuncData
  F__law_depth : Fun K "_law_depth" "_law_depth" s__law_depth a__law_depth d__law_depth
  g__law_depth : mg "_law_depth" = some (.ref a__law_depth)
  b__law_depth : Binds K d__law_depth P__law_depth []
  a__law_spot : Addr
  d__law_spot : FuncData
  F__law_spot : Fun K "_law_spot" "_law_spot" s__law_spot a__law_spot d__law_spot
  g__law_spot : mg "_law_spot" = some (.ref a__law_spot)
  b__law_spot : Binds K d__law_spot P__law_spot []
  a__law_flipped : Addr
  d__law_flipped : FuncData
  F__law_flipped : Fun K "_law_flipped" "_law_flipped" s__law_flipped a__law_flipped d__law_flipped
  g__law_flipped : mg "_law_flipped" = some (.ref a__law_flipped)
  b__law_flipped : Binds K d__law_flipped P__law_flipped []
  a__law_dealt : Addr
  d__law_dealt : FuncData
  F__law_dealt : Fun K "_law_dealt" "_law_dealt" s__law_dealt a__law_dealt d__law_dealt
  g__law_dealt : mg "_law_dealt" = some (.ref a__law_dealt)
  b__law_dealt : Binds K d__law_dealt P__law_dealt []
  a__law_images : Addr
  d__law_images : FuncData
  F__law_images : Fun K "_law_images" "_law_images" s__law_images a__law_images d__law_images
  g__law_images : mg "_law_images" = some (.ref a__law_images)
  b__law_images : Binds K d__law_images P__law_images []
  a__law_goes : Addr
  d__law_goes : FuncData
  F__law_goes : Fun K "_law_goes" "_law_goes" s__law_goes a__law_goes d__law_goes
  g__law_goes : mg "_law_goes" = some (.ref a__law_goes)
  b__law_goes : Binds K d__law_goes P__law_goes []
  a__law_then : Addr
  d__law_then : FuncData
  F__law_then : Fun K "_law_then" "_law_then" s__law_then a__law_then d__law_then
  g__law_then : mg "_law_then" = some (.ref a__law_then)
  b__law_then : Binds K d__law_then P__law_then []
  a__law_great : Addr
  d__law_great : FuncData
  F__law_great : Fun K "_law_great" "_law_great" s__law_great a__law_great d__law_great
  g__law_great : mg "_law_great" = some (.ref a__law_great)
  b__law_great : Binds K d__law_great P__law_great []
  a__law_place_of : Addr
  d__law_place_of : FuncData
  F__law_place_of : Fun K "_law_place_of" "_law_place_of" s__law_place_of a__law_place_of d__law_place_of
  g__law_place_of : mg "_law_place_of" = some (.ref a__law_place_of)
  b__law_place_of : Binds K d__law_place_of P__law_place_of []
  a_law : Addr
  d_law : FuncData
  F_law : Fun K "law" "law" s_law a_law d_law
  g_law : mg "law" = some (.ref a_law)
  m_abs : mg "abs" = none
  m_action : mg "action" = none
  m_bool : mg "bool" = none
  m_int : mg "int" = none
  m_isinstance : mg "isinstance" = none
  m_len : mg "len" = none
  m_list : mg "list" = none
  m_max : mg "max" = none
  m_min : mg "min" = none
  m_range : mg "range" = none
  m_str : mg "str" = none
  m_tuple : mg "tuple" = none
  m_zip : mg "zip" = none
  t_MOST_DEPTH : Tok
  c_MOST_DEPTH : mg "MOST_DEPTH" = some (.int 399 t_MOST_DEPTH)
  t_MOST_CARDS : Tok
  c_MOST_CARDS : mg "MOST_CARDS" = some (.int 1000000000000000000000000000000 t_MOST_CARDS)
  t_MOST_BLOCK : Tok
  c_MOST_BLOCK : mg "MOST_BLOCK" = some (.int 400 t_MOST_BLOCK)
  a_SHAPES : Addr
  c_SHAPES : mg "SHAPES" = some (.ref a_SHAPES)
  d_SHAPES : KD K w a_SHAPES
  a_SHAPES_swap : Addr
  e_SHAPES_swap : KDct K w a_SHAPES "swap" (.ref a_SHAPES_swap)
  q_SHAPES_swap : ∀ H : Hp, SqT K H a_SHAPES_swap [.str "place", .str "place"]
  a_SHAPES_carry : Addr
  e_SHAPES_carry : KDct K w a_SHAPES "carry" (.ref a_SHAPES_carry)
  q_SHAPES_carry : ∀ H : Hp, SqT K H a_SHAPES_carry [.str "place", .str "place"]
  a_SHAPES_cut : Addr
  e_SHAPES_cut : KDct K w a_SHAPES "cut" (.ref a_SHAPES_cut)
  q_SHAPES_cut : ∀ H : Hp, SqT K H a_SHAPES_cut [.str "signed"]
  a_SHAPES_turn : Addr
  e_SHAPES_turn : KDct K w a_SHAPES "turn" (.ref a_SHAPES_turn)
  q_SHAPES_turn : ∀ H : Hp, SqT K H a_SHAPES_turn [.str "end", .str "block"]
  a_SHAPES_over : Addr
  e_SHAPES_over : KDct K w a_SHAPES "over" (.ref a_SHAPES_over)
  q_SHAPES_over : ∀ H : Hp, SqT K H a_SHAPES_over []
  a_SHAPES_face : Addr
  e_SHAPES_face : KDct K w a_SHAPES "face" (.ref a_SHAPES_face)
  q_SHAPES_face : ∀ H : Hp, SqT K H a_SHAPES_face [.str "place"]
  a_IMAGES : Addr
  c_IMAGES : mg "IMAGES" = some (.ref a_IMAGES)
  d_IMAGES : KD K w a_IMAGES
  e_IMAGES_swap : KDct K w a_IMAGES "swap" (.ref a_swap_image)
  e_IMAGES_carry : KDct K w a_IMAGES "carry" (.ref a_carry_image)
  e_IMAGES_cut : KDct K w a_IMAGES "cut" (.ref a_cut_image)
  e_IMAGES_turn : KDct K w a_IMAGES "turn" (.ref a_turn_image)
  e_IMAGES_over : KDct K w a_IMAGES "over" (.ref a_over_image)
  e_IMAGES_face : KDct K w a_IMAGES "face" (.ref a_face_image)
/-! ### calls without arguments, by keywords alone, of a starred def -/
section
variable {X : Cx} {CX : CXT} {k : Nat} {f : Addr} {fd : FuncData} {ps ks : List Str} {sp : Sp} {E : XK} {x : Str} {p pos : Pos} {e : Expr} {es : List Expr} {kws : List Keyword} {t tk : TA}
def tR (sp : Sp) (E : XK) (t : TA) : TE := fun σ H Q => t σ H fun vs H1 => sp vs H1 Q E
theorem pe_callR (F : FnR X.prog X.w X.K X.mg X.base CX k f sp) (hr : Room k X.A) (hk : PySem.W.keepIn X.K (.ref f) = true) (hg : Gl X x) (hm : X.mg x = some (.ref f)) (hx : Passes CX X E)
    (args : PA X (e :: es) t) (no_dbg : (x == ("__debug__" : Str)) = false := by decide) (h1 : starEach (e :: es) X.env = (false, eval e X.env) :: starEach es X.env := by rfl)
    (h2 : (backTo pos (starEach es X.env)).any (·.1) = false := by rfl) : PE X (.Call (.Name x p) (e :: es) [] pos) (tR sp E t) :=
  ⟨fun pins s σ H Q I h => wpAny_Call_Name_kw (ld_glob I hg hm (PySem.W.callWith_K (h₀ := X.base) I.ok.mod.kin hk
    (thn (args.run pos pins s σ H _ I h) fun us s1 ⟨vs, H1, I1, r, q⟩ => ⟨I1.kIn, wpAny_call (run_fnR F hr hx I1 r q)⟩) h1 h2) no_dbg)⟩
theorem pe_callR0 (F : FnR X.prog X.w X.K X.mg X.base CX k f sp) (hr : Room k X.A) (hk : PySem.W.keepIn X.K (.ref f) = true) (hg : Gl X x) (hm : X.mg x = some (.ref f)) (hx : Passes CX X E)
    (no_dbg : (x == ("__debug__" : Str)) = false := by decide) : PE X (.Call (.Name x p) [] [] pos) (tR sp E tNil) :=
  ⟨fun pins s σ H Q I h => wpAny_Call_Name_kw (ld_glob I hg hm (PySem.W.callWith_K0 I.kIn hk (wpAny_call (run_fnR (us := []) F hr hx I .nil h))) no_dbg)⟩
theorem pe_callK0 {g : List Value → List Value → List Value} {gV : List V → List V → List V} (F : FnOk X.prog X.w X.K X.mg X.base CX k f fd ps sp) (hr : Room k X.A) (hg : Gl X x) (hm : X.mg x = some (.ref f))
    (hk : PySem.W.keepIn X.K (.ref f) = true) (hb : KBinds X.K fd ps ks g gV) (hx : Passes CX X E) (hkw : PK X kws tk) (hall : (backToKw pos (keywordEach kws X.env)).all (·.1.isSome) = true := by rfl)
    (hks : (backToKw pos (keywordEach kws X.env)).filterMap (·.1) = ks := by rfl) (no_dbg : (x == ("__debug__" : Str)) = false := by decide)
    (hpl : ((backTo pos (starEach [] X.env)).any (·.1) || (backToKw pos (keywordEach kws X.env)).any (·.1.isNone)) = false := by rfl) : PE X (.Call (.Name x p) [] kws pos) (tCallK sp gV E tNil tk) := by
  constructor
  intro pins s σ H Q I h
  refine wpAny_Call_Name_kw (ld_glob I hg hm (PySem.W.callWith_KW0 (h₀ := X.base) I.ok.mod.kin hk hall (thn (hkw.run pos pins s σ H _ I h) fun ws s2 ⟨zs, H2, I2, rz, q2⟩ => ⟨I2.kIn, ?_⟩) hpl) no_dbg)
  rw [hks]
  exact run_fnk (us := []) F hr hb hx I2 .nil rz q2
end
/-! ### tests -/
theorem iteD {p : Prop} [Decidable p] {A B : Prop} (h1 : p → A) (h2 : ¬ p → B) : if decide p = true then A else B := by
  by_cases h : p
  · simp only [h, decide_true, if_true]; exact h1 h
  · simp only [h, decide_false, Bool.false_eq_true, if_false]; exact h2 h
theorem iteND {p : Prop} [Decidable p] {A B : Prop} (h1 : ¬ p → A) (h2 : p → B) : if (!decide p) = true then A else B := by
  by_cases h : p
  · simp only [h, decide_true, Bool.not_true, Bool.false_eq_true, if_false]; exact h2 h
  · simp only [h, decide_false, Bool.not_false, if_true]; exact h1 h
theorem iteE {i j : Int} {A B : Prop} (h1 : i = j → A) (h2 : i ≠ j → B) : if decide (V.int i = V.int j) = true then A else B :=
  iteD (fun h => h1 (V.int.inj h)) fun h => h2 fun e => h (by rw [e])
theorem iteNE {i j : Int} {A B : Prop} (h1 : i ≠ j → A) (h2 : i = j → B) : if (!decide (V.int i = V.int j)) = true then A else B :=
  iteND (fun h => h1 fun e => h (by rw [e])) fun h => h2 (V.int.inj h)
/-! ### the bag of drawn numbers -/
theorem same_new {H : Hp} {p : Addr} {o : HO} (h : H p = none) : Same H (upd H p o) := fun b x e => by rw [upd_ne (ne_of_none e h)]; exact e
def But (b : Addr) (H H' : Hp) : Prop := ∀ a o, a ≠ b → H a = some o → H' a = some o
theorem But.refl (b : Addr) (H : Hp) : But b H H := fun _ _ _ h => h
theorem But.trans {b : Addr} {H H1 H2 : Hp} (x : But b H H1) (y : But b H1 H2) : But b H H2 := fun a o n h => y a o n (x a o n h)
theorem But.upd {b : Addr} {H H' : Hp} {o : HO} (x : But b H H') : But b H (upd H' b o) := fun a u n h => by rw [upd_ne n]; exact x a u n h
theorem Same.but {b : Addr} {H H' : Hp} (x : Same H H') : But b H H' := fun a o _ h => x a o h
theorem But.new {b p : Addr} {H H' : Hp} {o : HO} (x : But b H H') (h : H' p = none) : But b H (L2.upd H' p o) := x.trans (Same.but (same_new h))
theorem But.get {b a : Addr} {H H' : Hp} {o : HO} (x : But b H H') (n : a ≠ b) (h : H a = some o) : H' a = some o := x a o n h
/-- the bag stands at b: its cells at l, the place, what is held, the seed -/
structure BagAt (H : Hp) (b l : Addr) (cs : List Int) (i h s : Int) : Prop where
  at_ : H b = some (.lst [.ref l, .int i, .int h, .int s])
  cells : H l = some (.lst (cs.map V.int))
  ne : l ≠ b
  len : cs.length ≤ 63
  i0 : 0 ≤ i
  h0 : 0 ≤ h
  s0 : 0 ≤ s
  s1 : s < 2147483647
def Bag (H : Hp) (b l : Addr) : Prop := ∃ cs i h s, BagAt H b l cs i h s
theorem BagAt.same {H H' : Hp} {b l : Addr} {cs : List Int} {i h s : Int} (x : BagAt H b l cs i h s) (e : Same H H') : BagAt H' b l cs i h s := ⟨e _ _ x.at_, e _ _ x.cells, x.ne, x.len, x.i0, x.h0, x.s0, x.s1⟩
theorem Bag.same {H H' : Hp} {b l : Addr} (x : Bag H b l) (e : Same H H') : Bag H' b l := by
  obtain ⟨cs, i, h, s, y⟩ := x
  exact ⟨cs, i, h, s, y.same e⟩
theorem Bag.ne {H : Hp} {a b l : Addr} (x : Bag H b l) (h : H a = none) : a ≠ b := by
  obtain ⟨cs, i, hh, s, y⟩ := x
  exact (ne_of_none y.at_ h).symm
theorem Bag.nl {H : Hp} {a b l : Addr} (x : Bag H b l) (h : H a = none) : a ≠ l := by
  obtain ⟨cs, i, hh, s, y⟩ := x
  exact (ne_of_none y.cells h).symm
theorem Bag.mut {H : Hp} {a b l : Addr} {o : HO} (x : Bag H b l) (h1 : a ≠ b) (h2 : a ≠ l) : Bag (upd H a o) b l := by
  obtain ⟨cs, i, hh, s, y⟩ := x
  exact ⟨cs, i, hh, s, by rw [upd_ne h1.symm]; exact y.at_, by rw [upd_ne h2.symm]; exact y.cells, y.ne, y.len, y.i0, y.h0, y.s0, y.s1⟩
theorem BagAt.set {H : Hp} {b l : Addr} {cs : List Int} {i h s i' h' s' : Int} {o : List V} (x : BagAt H b l cs i h s) (e : o = [.ref l, .int i', .int h', .int s']) (a1 : 0 ≤ i') (a2 : 0 ≤ h') (a3 : 0 ≤ s') (a4 : s' < 2147483647) :
    BagAt (upd H b (.lst o)) b l cs i' h' s' := ⟨by rw [upd_same, e], by rw [upd_ne x.ne]; exact x.cells, x.ne, x.len, a1, a2, a3, a4⟩
theorem bag_set {H : Hp} {b l : Addr} {cs : List Int} {i h s i' h' s' k : Int} {j : Nat} {v : V} {Q : Hp → Prop} (x : BagAt H b l cs i h s) (hj : ixN 4 k = some j)
    (e : ([.ref l, .int i, .int h, .int s] : List V).set j v = [.ref l, .int i', .int h', .int s']) (a1 : 0 ≤ i') (a2 : 0 ≤ h') (a3 : 0 ≤ s') (a4 : s' < 2147483647)
    (q : ∀ H', BagAt H' b l cs i' h' s' → But b H H' → Q H') : rSetL (.ref b) (.int k) v H Q :=
  ⟨b, _, k, j, rfl, rfl, x.at_, hj, q _ (x.set e a1 a2 a3 a4) (But.refl b H).upd⟩
theorem fmod_lo (a : Int) {m : Int} (h : 0 < m) : 0 ≤ a.fmod m := by rw [Int.fmod_eq_emod_of_nonneg _ (by omega)]; exact Int.emod_nonneg _ (by omega)
theorem fmod_hi (a : Int) {m : Int} (h : 0 < m) : a.fmod m < m := by rw [Int.fmod_eq_emod_of_nonneg _ (by omega)]; exact Int.emod_lt_of_pos _ h
theorem nat_lt {z : Int} {n : Nat} (h0 : 0 ≤ z) (h1 : z < 2 ^ n) : z.natAbs < 2 ^ n := by
  have : ((z.natAbs : Int)) < ((2 ^ n : Nat) : Int) := by rw [Int.natAbs_of_nonneg h0]; rw [Int.natCast_pow]; exact h1
  omega
def sp_bag (K : PySem.W.Frag) : Sp := fun vs H Q _ => ∃ (a : Addr) (ns : List Int), vs = [.ref a] ∧ SqL K H a (ns.map V.int) ∧ ns.length ≤ 63 ∧ ∀ b l H', H b = none → H l = none → Same H H' → Bag H' b l → Q (.ref b) H'
/-- an amount that // takes -/
def Fit (n : Int) : Prop := n.natAbs < 2 ^ 8000
theorem Fit.of {n : Int} (h0 : 0 ≤ n) (h : n < 1000000000000000000000000000000000000000000) : Fit n := Nat.lt_of_lt_of_le (show n.natAbs < 2 ^ 140 by omega) (Nat.pow_le_pow_right (by decide) (by decide))
def sp_pull : Sp := fun vs H Q _ => ∃ (b l : Addr) (n : Int), vs = [.ref b, .int n] ∧ Bag H b l ∧ 0 < n ∧ Fit n ∧ ∀ r H', 0 ≤ r → r < n → Bag H' b l → But b H H' → Q (.int r) H'
/-! ### steps of a reading -/
theorem mul_ok {i j : Int} (h1 : i.natAbs < 2 ^ 20000) (h2 : j.natAbs < 2 ^ 20000) : CMulW i j := wide_mul h1 h2 (by decide) (by decide) (by decide)
theorem small_pow {i : Int} {a b : Nat} (h : i.natAbs < 2 ^ a) (hab : a ≤ b) : i.natAbs < 2 ^ b := Nat.lt_of_lt_of_le h (Nat.pow_le_pow_right (by decide) hab)
theorem small_abs {i : Int} (h : i.natAbs < 1000000000000000000000000000000000000000000) : i.natAbs < 2 ^ 20000 := small_pow (a := 140) (Nat.lt_of_lt_of_le h (by decide)) (by decide)
theorem div_ok {i j : Int} (h : 0 < j) (h1 : Fit j) : CDivW i j := wide_div h h1 (by decide) (by decide)
theorem div_small {i j : Int} (h : 0 < j) (h1 : j < 1000000000000000000000000000000) : CDivW i j := div_ok h (Fit.of (by omega) (by omega))
theorem le_line {n : Nat} (h : n ≤ 1000) : n ≤ sizeLine := Nat.le_trans h (by decide)
theorem lt_line {n : Nat} (h : n < 1000) : n < sizeLine := Nat.lt_of_lt_of_le h (by decide)
theorem at0 {a b c d : V} : atI [a, b, c, d] 0 = some a := rfl
theorem at1 {a b c d : V} : atI [a, b, c, d] 1 = some b := rfl
theorem at2 {a b c d : V} : atI [a, b, c, d] 2 = some c := rfl
theorem at3 {a b c d : V} : atI [a, b, c, d] 3 = some d := rfl
/-! ### isinstance of built-in kinds -/
theorem kb_int_list : kitB "int" "list" = some false := by decide +kernel
theorem kb_int_tuple : kitB "int" "tuple" = some false := by decide +kernel
theorem kb_int_dict : kitB "int" "dict" = some false := by decide +kernel
theorem kb_int_bool : kitB "int" "bool" = some false := by decide +kernel
theorem kb_int_int : kitB "int" "int" = some true := by decide +kernel
theorem kb_int_str : kitB "int" "str" = some false := by decide +kernel
theorem kb_str_list : kitB "str" "list" = some false := by decide +kernel
theorem kb_str_tuple : kitB "str" "tuple" = some false := by decide +kernel
theorem kb_str_dict : kitB "str" "dict" = some false := by decide +kernel
theorem kb_str_bool : kitB "str" "bool" = some false := by decide +kernel
theorem kb_str_int : kitB "str" "int" = some false := by decide +kernel
theorem kb_str_str : kitB "str" "str" = some true := by decide +kernel
theorem kb_bool_list : kitB "bool" "list" = some false := by decide +kernel
theorem kb_bool_tuple : kitB "bool" "tuple" = some false := by decide +kernel
theorem kb_bool_dict : kitB "bool" "dict" = some false := by decide +kernel
theorem kb_bool_bool : kitB "bool" "bool" = some true := by decide +kernel
theorem kb_bool_int : kitB "bool" "int" = some true := by decide +kernel
theorem kb_bool_str : kitB "bool" "str" = some false := by decide +kernel
theorem kb_NoneType_list : kitB "NoneType" "list" = some false := by decide +kernel
theorem kb_NoneType_tuple : kitB "NoneType" "tuple" = some false := by decide +kernel
theorem kb_NoneType_dict : kitB "NoneType" "dict" = some false := by decide +kernel
theorem kb_NoneType_bool : kitB "NoneType" "bool" = some false := by decide +kernel
theorem kb_NoneType_int : kitB "NoneType" "int" = some false := by decide +kernel
theorem kb_NoneType_str : kitB "NoneType" "str" = some false := by decide +kernel
theorem kb_list_list : kitB "list" "list" = some true := by decide +kernel
theorem kb_list_tuple : kitB "list" "tuple" = some false := by decide +kernel
theorem kb_list_dict : kitB "list" "dict" = some false := by decide +kernel
theorem kb_list_bool : kitB "list" "bool" = some false := by decide +kernel
theorem kb_list_int : kitB "list" "int" = some false := by decide +kernel
theorem kb_list_str : kitB "list" "str" = some false := by decide +kernel
theorem kb_tuple_list : kitB "tuple" "list" = some false := by decide +kernel
theorem kb_tuple_tuple : kitB "tuple" "tuple" = some true := by decide +kernel
theorem kb_tuple_dict : kitB "tuple" "dict" = some false := by decide +kernel
theorem kb_tuple_bool : kitB "tuple" "bool" = some false := by decide +kernel
theorem kb_tuple_int : kitB "tuple" "int" = some false := by decide +kernel
theorem kb_tuple_str : kitB "tuple" "str" = some false := by decide +kernel
theorem tyL {K : PySem.W.Frag} {H : Hp} {a : Addr} {xs : List V} (h : SqL K H a xs) : TyX K H (.ref a) (.type "list") := by
  rcases h with (h | ⟨o, h⟩) | ⟨o, its, n, h1, h2, _⟩
  · exact .base (.lst h)
  · exact .base (.frz h)
  · exact .kList h1 h2
theorem tyT {K : PySem.W.Frag} {H : Hp} {a : Addr} {xs : List V} (h : SqT K H a xs) : TyX K H (.ref a) (.type "tuple") := by
  rcases h with (h | ⟨o, h⟩) | ⟨o, its, n, h1, h2, _⟩
  · exact .base (.tup h)
  · exact .fTuple h
  · exact .kTuple h1 h2
/-! ### loops over anything -/
theorem lc_by {J : It} {n : Nat} {g : TG} {tt : TT} {te : TE} {vs : List Nat} {σ : L2.St} {H1 : Hp} {D : Addr} {Qd : Hp → Prop} (Pv : Nat → Hp → Prop) (h0 : Pv 0 (upd H1 D (.lst []))) (hgo : ∀ i H, i < n → Pv i H → J.go i H) (hstop : ∀ H, Pv n H → J.stop n H)
    (hs : ∀ i H x H', i < n → Pv i H → J.yld i H x H' → g x (wipe σ vs) H' fun σ2 H2 => wipe σ2 vs = wipe σ vs ∧ tt σ2 H2 fun b H3 =>
      if b = true then te σ2 H3 fun y H4 => ∃ acc, H4 D = some (.lst acc) ∧ acc.length < sizeLine ∧ Pv (i + 1) (upd H4 D (.lst (acc ++ [y]))) else Pv (i + 1) H3) (hd : ∀ H, Pv n H → Qd H) :
    ∃ W : Nat → Nat → Hp → Prop, (∃ m, W 0 m (upd H1 D (.lst []))) ∧ ∀ i m H, W i m H →
      (J.stop i H ∧ Qd H) ∨ (J.go i H ∧ ∃ Nx : Hp → Prop, (∀ H', Nx H' → ∃ m', m' < m ∧ W (i + 1) m' H') ∧ ∀ x H', J.yld i H x H' → g x (wipe σ vs) H' fun σ2 H2 => wipe σ2 vs = wipe σ vs ∧ tt σ2 H2 fun b H3 =>
        if b = true then te σ2 H3 fun y H4 => ∃ acc, H4 D = some (.lst acc) ∧ acc.length < sizeLine ∧ Nx (upd H4 D (.lst (acc ++ [y]))) else Nx H3) := by
  refine ⟨fun i m H => m = n - i ∧ i ≤ n ∧ Pv i H, ⟨n, by simp, Nat.zero_le _, h0⟩, ?_⟩
  rintro i m H ⟨em, hi, pv⟩
  by_cases hlt : i < n
  · exact .inr ⟨hgo i H hlt pv, Pv (i + 1), fun H' p' => ⟨n - (i + 1), by omega, rfl, hlt, p'⟩, fun x H' y => hs i H x H' hlt pv y⟩
  · have e : i = n := by omega
    rw [e] at pv ⊢
    exact .inl ⟨hstop H pv, hd H pv⟩
theorem for_by {J : It} {n : Nat} {g : TG} {tb : TS} {D : Ends} {σ : L2.St} {H : Hp} (Pv : Nat → L2.St → Hp → Prop) (h0 : Pv 0 σ H) (hgo : ∀ i σ H, i < n → Pv i σ H → J.go i H) (hstop : ∀ σ H, Pv n σ H → J.stop n H)
    (hs : ∀ i σ H x H', i < n → Pv i σ H → J.yld i H x H' → g x σ H' fun σ2 H2 => tb { D with nx := Pv (i + 1), ct := Pv (i + 1), bk := D.nx } σ2 H2) (hd : ∀ σ H, Pv n σ H → D.nx σ H) :
    ∃ W : Nat → Nat → L2.St → Hp → Prop, (∃ m, W 0 m σ H) ∧ ∀ i m σ H, W i m σ H →
      (J.stop i H ∧ D.nx σ H) ∨ (J.go i H ∧ ∃ N : L2.St → Hp → Prop, (∀ σ' H', N σ' H' → ∃ m', m' < m ∧ W (i + 1) m' σ' H') ∧ ∀ x H', J.yld i H x H' → g x σ H' fun σ2 H2 => tb { D with nx := N, ct := N, bk := D.nx } σ2 H2) := by
  refine ⟨fun i m σ H => m = n - i ∧ i ≤ n ∧ Pv i σ H, ⟨n, by simp, Nat.zero_le _, h0⟩, ?_⟩
  rintro i m σ H ⟨em, hi, pv⟩
  by_cases hlt : i < n
  · exact .inr ⟨hgo i σ H hlt pv, Pv (i + 1), fun σ' H' p' => ⟨n - (i + 1), by omega, rfl, hlt, p'⟩, fun x H' y => hs i σ H x H' hlt pv y⟩
  · have e : i = n := by omega
    rw [e] at pv ⊢
    exact .inl ⟨hstop σ H pv, hd σ H pv⟩
theorem at_zero {α : Type} {x : α} {xs : List α} : atI (x :: xs) 0 = some x := by
  show atI (x :: xs) ((0 : Nat) : Int) = some x
  exact atI_nat rfl
theorem Same.mut {H H' : Hp} {p : Addr} {o : HO} (e : Same H H') (h : H p = none) : Same H (upd H' p o) := fun a u ha => by
  rw [upd_ne (ne_of_none ha h)]
  exact e a u ha
theorem Same.new {H H' : Hp} {p : Addr} {o : HO} (e : Same H H') (h : H' p = none) : Same H (upd H' p o) := Same.trans e (same_new h)
theorem Same.tup {K : PySem.W.Frag} {H H' : Hp} {a : Addr} {xs : List V} (e : Same H H') (h : SqT K H a xs) : SqT K H' a xs := by
  rcases h with (h | ⟨o, h⟩) | h
  · exact .inl (.inl (e _ _ h))
  · exact .inl (.inr ⟨o, e _ _ h⟩)
  · exact .inr h
-- what stands at an address
local macro_rules | `(tactic| walk_at "hp") => `(tactic| first | assumption | exact upd_same | exact BagAt.at_ (by assumption) | exact BagAt.cells (by assumption) | fail "hp")
local macro_rules | `(tactic| walk_at "sq") => `(tactic| first | assumption | (refine Or.inl (Or.inl ?_); walk_at "hp") | (apply Same.seq <;> assumption))
-- bounds
local macro_rules | `(tactic| walk_at "num") => `(tactic| first
  | exact rfl | decide | exact le_line (Nat.le_of_ble_eq_true rfl) | exact lt_line (Nat.le_of_ble_eq_true rfl)
  | (exact mul_ok (small_abs (by omega)) (small_abs (by omega)))
  | (exact div_small (by omega) (by omega))
  | (exact div_ok (by omega) (by assumption))
  | (refine ⟨?_, ?_⟩ <;> omega) | omega
  | (show (_ : Int) ≠ 0; omega) | (show CPow _ _; unfold CPow; decide))
-- one step
local macro_rules | `(tactic| walk_at "rd") => `(tactic| first
  | (refine Exists.intro _ (And.intro rfl ?_))
  | (refine Exists.intro _ (Exists.intro _ (And.intro rfl (And.intro rfl ?_))))
  | (refine Or.inl (Exists.intro _ (And.intro rfl ?_)))
  | (refine Or.inr (Exists.intro _ (And.intro rfl ?_)))
  | (refine iteF ?_) | (refine iteT ?_)
  | (refine And.intro ?cc ?_; (case cc => walk_at "num"))
  | (refine' Exists.intro _ (Exists.intro _ (Exists.intro _ (Exists.intro _ (And.intro rfl (And.intro rfl (And.intro ?sq (And.intro ?ha ?k))))))); (case sq => walk_at "sq"); (case ha => first | exact rfl | assumption | exact at_zero))
  | (refine' Exists.intro _ (Exists.intro _ (And.intro rfl (And.intro (Or.inl ?sq) ?k))); (case sq => walk_at "sq")))
local macro_rules | `(tactic| walk_at "sqt") => `(tactic| first | assumption | (refine Or.inl (Or.inl ?_); walk_at "hp") | (apply Same.tup <;> assumption))
local macro_rules | `(tactic| walk_at "rdt") => `(tactic| first
  | walk_at "rd"
  | (refine' Exists.intro _ (Exists.intro _ (And.intro rfl (And.intro (Or.inr ?sq) ?k))); (case sq => walk_at "sqt"))
  | (refine' Exists.intro _ (Exists.intro _ (Exists.intro _ (Exists.intro _ (And.intro rfl (And.intro rfl (And.intro ?sq (And.intro ?ha ?k))))))); (case sq => walk_at "sqt"); (case ha => first | exact rfl | assumption | exact at_zero)))
local macro_rules | `(tactic| walk_at "rds") => `(tactic| repeat walk_at "rdt")
local macro_rules | `(tactic| walk_at "pull") => `(tactic| (refine' Exists.intro _ (Exists.intro _ (Exists.intro _ (And.intro rfl (And.intro ?bag (And.intro ?pos (And.intro ?fit ?kk)))))); (case bag => assumption); (case pos => first | decide | omega); (case fit => exact Fit.of (by first | decide | omega) (by first | decide | omega))))
local macro_rules | `(tactic| walk_at "two") => `(tactic| refine Exists.intro _ (Exists.intro _ (And.intro rfl ?_)))
/-! ### the law's own draws -/
section
variable {P : Program} {w : World} {K : PySem.W.Frag} {mg : Str → Option Value} {base : Heap}
theorem tail_take {xs : List V} (h : xs.length ≤ 63) : cutV xs none (some 63) = xs := by
  unfold cutV
  have e1 : HT.sIx xs.length 0 none = 0 := HT.sIx_none _ _
  have e2 : HT.sIx xs.length xs.length (some 63) = xs.length := by
    have := HT.sIx_nat xs.length xs.length 63
    rw [show ((63 : Nat) : Int) = 63 from rfl] at this
    rw [this]
    omega
  rw [e1, e2, List.drop_zero, Nat.sub_zero]
  exact List.take_length
theorem ne_zero {i : Int} (h : 0 < i) : i ≠ 0 := by omega
theorem ok__law_bag (T : Txt K mg w) : FnOk P w K mg base CX0 1 T.a__law_bag T.d__law_bag P__law_bag (sp_bag K) := by
  refine T.F__law_bag.ok sc__law_bag (fun vs H Q E h => ?_) (fun cdv A outer s H vs Q E hr h => ?_)
  · obtain ⟨a, ns, rfl, _⟩ := h
    rfl
  · obtain ⟨a, ns, rfl, hS, hlen, q⟩ := h
    refine ⟨_, (pss_cons (ps_set (i := 1) sc__law_bag.nd rfl (Or.inl rfl) pe_int)
  (pss_cons (ps_for PassesOwn.never rfl (k_piL (K := K) (pe_slice (k_slL (K := K)) (pv 0) po_none (po_some pe_int))) (pg_name (i := 2) sc__law_bag.nd rfl (Or.inl rfl))
  (pss_one (ps_set (i := 1) sc__law_bag.nd rfl (Or.inl rfl) (pe_op op_modN (pe_callTy call_int1 (by rfl) T.m_int boot_int (pa_cons (pe_op op_add (pe_op op_add (pe_op op_mulW (pv 1) pe_int) (pe_op op_modN (pe_callTy call_int1 (by rfl) T.m_int boot_int (pa_cons (pv 2) pa_nil)) pe_int)) pe_int) pa_nil)) pe_int))))
  (pss_one (ps_ret (pe_lst (pa_cons (pe_callTy (k_list (K := K)) (by rfl) T.m_list boot_list (pa_cons (pe_slice (k_slL (K := K)) (pv 0) po_none (po_some pe_int)) pa_nil)) (pa_cons pe_int (pa_cons pe_int (pa_cons (pv 1) pa_nil))))))))), ?_⟩
    refine ⟨.ref a, rfl, 63, rfl, a, ns.map V.int, rfl, hS, fun c nc => ?_⟩
    rw [tail_take (by rw [List.length_map]; exact hlen)]
    have s1 : Same H (upd H c (.lst (ns.map V.int))) := same_new nc
    have hC : SqL K (upd H c (.lst (ns.map V.int))) c (ns.map V.int) := .inl (.inl upd_same)
    refine ⟨c, rfl, ⟨_, hC⟩, for_list (xs := ns.map V.int) (fun i σ H' => H' = upd H c (.lst (ns.map V.int)) ∧ ∃ salt y, σ = [some (.ref a), some (.int salt), y] ∧ 0 ≤ salt ∧ salt < 2147483647)
      ⟨rfl, 3817, none, rfl, by omega, by omega⟩ (fun i σ H' _ hp => by rw [hp.1]; exact hC) (fun i x σ H' hx hp => ?_) (fun σ H' hp => ?_)⟩
    · obtain ⟨rfl, salt, y, rfl, b1, b2⟩ := hp
      obtain ⟨n, -, rfl⟩ : ∃ n, n ∈ ns ∧ V.int n = x := by simpa using List.mem_of_getElem? hx
      have c1 := fmod_lo n (m := 2147483579) (by decide)
      have c2 := fmod_hi n (m := 2147483579) (by decide)
      refine ⟨_, rfl, _, _, rfl, rfl, mul_ok (small_abs (by omega)) (small_abs (by omega)), ?_⟩
      refine ⟨_, rfl, .inl ⟨_, rfl, ?_⟩⟩
      refine ⟨_, _, rfl, rfl, ne_zero (by decide), _, _, rfl, rfl, _, _, rfl, rfl, .inl ⟨_, rfl, ?_⟩⟩
      refine ⟨_, _, rfl, rfl, ne_zero (by decide), rfl, _, _, rfl, ?_, ?_⟩
      · exact fmod_lo _ (by decide)
      · exact fmod_hi _ (by decide)
    · obtain ⟨rfl, salt, y, rfl, b1, b2⟩ := hp
      refine ⟨.ref a, rfl, 63, rfl, a, ns.map V.int, rfl, s1.seq hS, fun c2 nc2 => ?_⟩
      rw [tail_take (by rw [List.length_map]; exact hlen)]
      refine ⟨c2, _, rfl, .inl (.inl (.inl upd_same)), fun l nl => ?_⟩
      refine ⟨_, rfl, by show 4 ≤ sizeLine; decide, fun b nb => ?_⟩
      have s2 := (s1.trans (same_new nc2)).trans (same_new (o := .lst (ns.map V.int)) nl)
      have s3 := s2.trans (same_new (o := .lst [.ref l, .int 0, .int 0, .int salt]) nb)
      have nlb : l ≠ b := fun e => by
        rw [← e, upd_same] at nb
        cases nb
      refine q b l _ (s2.free nb) ((s1.trans (same_new nc2)).free nl) s3 ⟨ns, 0, 0, salt, ⟨upd_same, ?_, nlb, hlen, by omega, by omega, b1, b2⟩⟩
      rw [upd_ne nlb]
      exact upd_same
theorem ok__law_pull (T : Txt K mg w) : FnOk P w K mg base CX0 1 T.a__law_pull T.d__law_pull P__law_pull sp_pull := by
  refine T.F__law_pull.ok sc__law_pull (fun vs H Q E h => ?_) (fun cdv A outer s H vs Q E hr h => ?_)
  · obtain ⟨a, l, n, rfl, _⟩ := h
    rfl
  · obtain ⟨b, l, n, rfl, ⟨cs, i, hd, s, hB⟩, n0, n1, q⟩ := h
    refine ⟨_, (Evl.pss_cut (ps_if (PW.pt (pw_and (pt_cmpR op_eq (pe_ix (k_ixL (K := K)) (pv 0) pe_int (fun _ _ => rfl)) pe_int (nomark _)) (pw_and1 (pt_cmpR op_lt (pe_ix (k_ixL (K := K)) (pv 0) pe_int (fun _ _ => rfl)) (pe_callB (k_len (K := K)) (by rfl) T.m_len boot_len (pa_cons (pe_ix (k_ixL (K := K)) (pv 0) pe_int (fun _ _ => rfl)) pa_nil)) (nomark _)))))
  (pss_cons (ps_set (i := 2) sc__law_pull.nd rfl (Or.inl rfl) (pe_ix (k_ixL (K := K)) (pe_ix (k_ixL (K := K)) (pv 0) pe_int (fun _ _ => rfl)) (pe_ix (k_ixL (K := K)) (pv 0) pe_int (fun _ _ => rfl)) (fun _ _ => rfl)))
  (pss_cons (ps_asg (pe_op op_add (pe_ix (k_ixL (K := K)) (pv 0) pe_int (fun _ _ => rfl)) pe_int) (pg_sub (pv 0) pe_int set_list))
  (pss_one (ps_if (pt_cmpR op_ge (pv 2) (pe_op op_pow pe_int pe_int) (nomark _))
  (pss_one (ps_asg (pv 2) (pg_sub (pv 0) pe_int set_list))) (pss_one (ps_asg (pe_op op_modN (pe_callTy call_int1 (by rfl) T.m_int boot_int (pa_cons (pe_op op_add (pe_op op_add (pe_op op_mulW (pe_ix (k_ixL (K := K)) (pv 0) pe_int (fun _ _ => rfl)) pe_int) (pe_op op_mulW (pe_op op_modN (pe_callTy call_int1 (by rfl) T.m_int boot_int (pa_cons (pv 2) pa_nil)) pe_int) pe_int)) pe_int) pa_nil)) pe_int) (pg_sub (pv 0) pe_int set_list))))))) pss_nil)
  (pss_cons (ps_if (pt_cmpR op_gt (pe_ix (k_ixL (K := K)) (pv 0) pe_int (fun _ _ => rfl)) pe_int (nomark _))
  (pss_cons (ps_set (i := 3) sc__law_pull.nd rfl (Or.inl rfl) (pe_op op_modN (pe_callTy call_int1 (by rfl) T.m_int boot_int (pa_cons (pe_ix (k_ixL (K := K)) (pv 0) pe_int (fun _ _ => rfl)) pa_nil)) (pv 1)))
  (pss_cons (ps_asg (pe_op op_fdivW (pe_ix (k_ixL (K := K)) (pv 0) pe_int (fun _ _ => rfl)) (pv 1)) (pg_sub (pv 0) pe_int set_list))
  (pss_one (ps_ret (pv 3))))) pss_nil)
  (pss_cons (ps_set (i := 4) sc__law_pull.nd rfl (Or.inl rfl) (pe_ix (k_ixL (K := K)) (pv 0) pe_int (fun _ _ => rfl)))
  (pss_cons (ps_asg (pe_op op_modN (pe_callTy call_int1 (by rfl) T.m_int boot_int (pa_cons (pe_op op_add (pe_op op_add (pe_op op_mulW (pv 4) (pv 4)) (pe_op op_mulW (pv 4) pe_int)) pe_int) pa_nil)) pe_int) (pg_sub (pv 0) pe_int set_list))
  (pss_one (ps_ret (pe_op op_modN (pe_callTy call_int1 (by rfl) T.m_int boot_int (pa_cons (pe_op op_add (pe_op op_fdivW (pe_ix (k_ixL (K := K)) (pv 0) pe_int (fun _ _ => rfl)) pe_int) (pe_op op_mulW (pe_op op_modN (pe_callTy call_int1 (by rfl) T.m_int boot_int (pa_cons (pe_ix (k_ixL (K := K)) (pv 0) pe_int (fun _ _ => rfl)) pa_nil)) pe_int) pe_int)) pa_nil)) (pv 1)))))))), ?_⟩
    have i0 := hB.i0
    have hd0 := hB.h0
    have s0 := hB.s0
    have s1 := hB.s1
    refine ⟨fun σ' H' => ∃ i' hd' s' y2, BagAt H' b l cs i' hd' s' ∧ But b H H' ∧ σ' = [some (.ref b), some (.int n), y2, none, none], ?_, fun σ' H' hM => ?_⟩
    · walk_at "rds"
      refine iteE (fun h0 => ?_) (fun h0 => ?_)
      · walk_at "rds"
        refine iteD (fun h1 => ?_) (fun h1 => ?_)
        · have hl : i.toNat < cs.length := by
            rw [List.length_map] at h1
            omega
          have hat : atI (cs.map V.int) i = some (.int cs[i.toNat]) := by
            exact at_of (j := i.toNat) (by omega) (by rw [List.getElem?_map, List.getElem?_eq_getElem hl]; rfl)
          walk_at "rds"
          refine bag_set hB rfl rfl (by omega) hd0 s0 s1 (fun H2 hB2 b2 => ?_)
          walk_at "rds"
          refine iteD (fun h2 => ?_) (fun h2 => ?_)
          · have h3 : (0 : Int) ≤ cs[i.toNat] := Int.le_trans (by decide) h2
            walk_at "rds"
            exact bag_set hB2 rfl rfl (by omega) h3 s0 s1 fun H3 hB3 b3 => ⟨_, _, _, _, hB3, b2.trans b3, rfl⟩
          · have c1 := fmod_lo cs[i.toNat] (m := 2147483579) (by decide)
            have c2 := fmod_hi cs[i.toNat] (m := 2147483579) (by decide)
            walk_at "rds"
            exact bag_set hB2 rfl rfl (by omega) hd0 (fmod_lo _ (by decide)) (fmod_hi _ (by decide)) fun H3 hB3 b3 => ⟨_, _, _, _, hB3, b2.trans b3, rfl⟩
        · exact ⟨_, _, _, _, hB, But.refl _ _, rfl⟩
      · walk_at "rds"
        exact ⟨_, _, _, _, hB, But.refl _ _, rfl⟩
    · obtain ⟨i', hd', s', y2, hB', hb', rfl⟩ := hM
      have i0 := hB'.i0
      have hd0 := hB'.h0
      have s0 := hB'.s0
      have s1 := hB'.s1
      walk_at "rds"
      refine iteD (fun h0 => ?_) (fun h0 => ?_)
      · have nn : n ≠ 0 := by omega
        walk_at "rds"
        refine bag_set hB' rfl rfl i0 (Int.ediv_nonneg hd0 (by omega)) s0 s1 (fun H2 hB2 b2 => ?_)
        walk_at "rds"
        exact q _ _ (fmod_lo _ n0) (fmod_hi _ n0) ⟨_, _, _, _, hB2⟩ (hb'.trans b2)
      · have nn : n ≠ 0 := by omega
        walk_at "rds"
        refine bag_set hB' rfl rfl i0 hd0 (fmod_lo _ (by decide)) (fmod_hi _ (by decide)) (fun H2 hB2 b2 => ?_)
        have c1 := hB2.s0
        have c2 := hB2.s1
        generalize (s' * s' + s' * 48271 + 1013904223).fmod 2147483647 = z at hB2 c1 c2
        have c3 := fmod_lo z (m := 8191) (by decide)
        have c4 := fmod_hi z (m := 8191) (by decide)
        walk_at "rds"
        exact q _ _ (fmod_lo _ n0) (fmod_hi _ n0) ⟨_, _, _, _, hB2⟩ (hb'.trans b2)
end
local macro_rules | `(tactic| walk_at "isi") => `(tactic| (refine' Exists.intro _ (Exists.intro _ (Exists.intro _ (Exists.intro _ (Exists.intro _ (And.intro rfl (And.intro (ClsV.ty _) (And.intro ?tt (And.intro (kit_ty ?ee) ?kk)))))))); (case tt => assumption); (case ee => first | exact kb_int_list | exact kb_int_tuple | exact kb_int_dict | exact kb_int_bool | exact kb_int_int | exact kb_int_str | exact kb_str_list | exact kb_str_tuple | exact kb_str_dict | exact kb_str_bool | exact kb_str_int | exact kb_str_str | exact kb_bool_list | exact kb_bool_tuple | exact kb_bool_dict | exact kb_bool_bool | exact kb_bool_int | exact kb_bool_str | exact kb_NoneType_list | exact kb_NoneType_tuple | exact kb_NoneType_dict | exact kb_NoneType_bool | exact kb_NoneType_int | exact kb_NoneType_str | exact kb_list_list | exact kb_list_tuple | exact kb_list_dict | exact kb_list_bool | exact kb_list_int | exact kb_list_str | exact kb_tuple_list | exact kb_tuple_tuple | exact kb_tuple_dict | exact kb_tuple_bool | exact kb_tuple_int | exact kb_tuple_str)))
-- one step
local macro_rules | `(tactic| walk_at "same") => `(tactic| repeat first | walk_at "rdt" | walk_at "isi")
/-! ### moves -/
inductive Mv where
  | swap (a : Bool) (i : Int) (b : Bool) (j : Int)
  | carry (a : Bool) (i : Int) (b : Bool) (j : Int)
  | cut (k : Int)
  | turn (a : Bool) (k : Int)
  | over
  | face (a : Bool) (i : Int)
def endS (a : Bool) : Str := if a = true then "top" else "bottom"
def Mv.nm : Mv → Str
  | .swap .. => "swap"
  | .carry .. => "carry"
  | .cut .. => "cut"
  | .turn .. => "turn"
  | .over => "over"
  | .face .. => "face"
def EndAt (K : PySem.W.Frag) (H : Hp) (v : V) (a : Bool) (i : Int) : Prop := ∃ p, v = .ref p ∧ SqT K H p [.str (endS a), .int i]
def MvIs (K : PySem.W.Frag) (H : Hp) : Mv → List V → Prop
  | .swap a i b j, xs => ∃ x y, xs = [.str "swap", x, y] ∧ EndAt K H x a i ∧ EndAt K H y b j
  | .carry a i b j, xs => ∃ x y, xs = [.str "carry", x, y] ∧ EndAt K H x a i ∧ EndAt K H y b j
  | .cut k, xs => xs = [.str "cut", .int k]
  | .turn a k, xs => xs = [.str "turn", .str (endS a), .int k]
  | .over, xs => xs = [.str "over"]
  | .face a i, xs => ∃ x, xs = [.str "face", x] ∧ EndAt K H x a i
def MvAt (K : PySem.W.Frag) (H : Hp) (v : V) (m : Mv) : Prop := ∃ p xs, v = .ref p ∧ SqT K H p xs ∧ MvIs K H m xs
def Mv.ok : Mv → Prop
  | .swap _ i _ j => 0 ≤ i ∧ i ≤ 399 ∧ 0 ≤ j ∧ j ≤ 399
  | .carry _ i _ j => 0 ≤ i ∧ i ≤ 399 ∧ 0 ≤ j ∧ j ≤ 399
  | .cut k => -400 ≤ k ∧ k ≤ 400
  | .turn _ k => 0 ≤ k ∧ k ≤ 400
  | .over => True
  | .face _ i => 0 ≤ i ∧ i ≤ 399
def Mv.reach : Mv → Int
  | .swap _ i _ j => max i j + 1
  | .carry _ i _ j => max i j + 1
  | .cut k => if k < 0 then -k else k
  | .turn _ k => k
  | .over => 0
  | .face _ i => i + 1
/-- the place of an end place -/
def plc (a : Bool) (i n : Int) : Int := if a = true then i else n - 1 - i
/-- the image of a place, as the program reckons it -/
def Mv.img (n p : Int) : Mv → Int × Bool
  | .swap a i b j => if p = plc a i n then (plc b j n, false) else if p = plc b j n then (plc a i n, false) else (p, false)
  | .carry a i b j => if p = plc a i n then (plc b j n, false) else if plc a i n < p ∧ p ≤ plc b j n then (p - 1, false) else if plc b j n ≤ p ∧ p < plc a i n then (p + 1, false) else (p, false)
  | .cut k => ((p - k).fmod n, false)
  | .turn a k => let f := if a = true then 0 else n - k
    if f ≤ p ∧ p < f + k then (f + (f + k) - 1 - p, true) else (p, false)
  | .over => (n - 1 - p, true)
  | .face a i => (p, decide (p = plc a i n))
def Mv.image (m : Mv) (n p : Int) : Int × Bool := if n < m.reach then (p, false) else m.img n p
theorem EndAt.same {K : PySem.W.Frag} {H H' : Hp} {v : V} {a : Bool} {i : Int} (h : EndAt K H v a i) (e : Same H H') : EndAt K H' v a i := by
  obtain ⟨p, e1, h1⟩ := h
  exact ⟨p, e1, Same.tup e h1⟩
theorem MvIs.same {K : PySem.W.Frag} {H H' : Hp} {m : Mv} {xs : List V} (h : MvIs K H m xs) (e : Same H H') : MvIs K H' m xs := by
  cases m with
  | swap a i b j =>
    obtain ⟨x, y, e1, h1, h2⟩ := h
    exact ⟨x, y, e1, h1.same e, h2.same e⟩
  | carry a i b j =>
    obtain ⟨x, y, e1, h1, h2⟩ := h
    exact ⟨x, y, e1, h1.same e, h2.same e⟩
  | cut k => exact h
  | turn a k => exact h
  | over => exact h
  | face a i =>
    obtain ⟨x, e1, h1⟩ := h
    exact ⟨x, e1, h1.same e⟩
theorem MvAt.same {K : PySem.W.Frag} {H H' : Hp} {v : V} {m : Mv} (h : MvAt K H v m) (e : Same H H') : MvAt K H' v m := by
  obtain ⟨p, xs, e1, h1, h2⟩ := h
  exact ⟨p, xs, e1, Same.tup e h1, h2.same e⟩
/-- texts told apart -/
theorem iteS {z : Str} {A B : Prop} (h : A) : if decide (V.str z = V.str z) = true then A else B := iteD (fun _ => h) fun e => absurd rfl e
theorem iteSN {y z : Str} {A B : Prop} (h : decide (y = z) = false) (q : B) : if decide (V.str y = V.str z) = true then A else B := iteD (fun e => absurd (V.str.inj e) (of_decide_eq_false h)) fun _ => q
theorem dS {z : Str} : decide (V.str z = V.str z) = true := decide_eq_true rfl
theorem dSN {y z : Str} (h : decide (y = z) = false) : decide (V.str y = V.str z) = false := decide_eq_false fun e => of_decide_eq_false h (V.str.inj e)
theorem endS_ne (a : Bool) : decide (endS a = ("top" : Str)) = a := by cases a <;> decide +kernel
theorem endS_bot (a : Bool) : decide (endS a = ("bottom" : Str)) = !a := by cases a <;> decide +kernel
local macro_rules | `(tactic| walk_at "strs") => `(tactic| repeat first
  | walk_at "rdt" | walk_at "isi" | refine iteS ?_ | (refine iteSN (by assumption) ?_) | (refine iteSN (by decide +kernel) ?_))
local macro_rules | `(tactic| walk_at "qd") => `(tactic| first | assumption | (rw [dS]; assumption) | (rw [decide_eq_true rfl]; assumption))
/-! ### the program: end places, sizes, places -/
section
variable {P : Program} {w : World} {K : PySem.W.Frag} {mg : Str → Option Value} {base : Heap}
def sp_isnum : Sp := fun vs H Q _ => ∃ i : Int, vs = [.int i] ∧ Q (.bl true) H
theorem ok_is_number (T : Txt K mg w) : FnOk P w K mg base CX0 1 T.a_is_number T.d_is_number P_is_number sp_isnum := by
  refine T.F_is_number.ok sc_is_number (fun vs H Q E h => ?_) (fun cdv A outer s H vs Q E hr h => ?_)
  · obtain ⟨i, rfl, _⟩ := h
    rfl
  · obtain ⟨i, rfl, q⟩ := h
    refine ⟨_, (pss_one (ps_ret (pe_and (pe_callB (k_isi (K := K)) (by rfl) T.m_isinstance boot_isinstance (pa_cons (pv 0) (pa_cons (pe_bltn (v := .ty "int") (by rfl) T.m_int boot_int rfl) pa_nil))) (pe_one (pe_not (pe_callB (k_isi (K := K)) (by rfl) T.m_isinstance boot_isinstance (pa_cons (pv 0) (pa_cons (pe_bltn (v := .ty "bool") (by rfl) T.m_bool boot_bool rfl) pa_nil)))))))), ?_⟩
    have tx : TyX K H (.int i) (.type "int") := .base (.int i)
    walk_at "strs"
    exact q
def sp_isend : Sp := fun vs H Q _ => ∃ a : Bool, vs = [.str (endS a)] ∧ Q (.bl true) H
theorem ok_is_end (T : Txt K mg w) : FnOk P w K mg base CX0 1 T.a_is_end T.d_is_end P_is_end sp_isend := by
  refine T.F_is_end.ok sc_is_end (fun vs H Q E h => ?_) (fun cdv A outer s H vs Q E hr h => ?_)
  · obtain ⟨i, rfl, _⟩ := h
    rfl
  · obtain ⟨a, rfl, q⟩ := h
    refine ⟨_, (pss_one (ps_ret (pe_or (pe_cmpR op_eq (pv 0) pe_str (nomark _)) (pe_one (pe_cmpR op_eq (pv 0) pe_str (nomark _)))))), ?_⟩
    cases a
    · show tRet _ _ (L2.start _ [V.str "bottom"]) H
      walk_at "strs"
      walk_at "qd"
    · show tRet _ _ (L2.start _ [V.str "top"]) H
      walk_at "strs"
      walk_at "qd"
def sp_iep (K : PySem.W.Frag) : Sp := fun vs H Q _ => ∃ (v : V) (a : Bool) (i : Int), vs = [v] ∧ EndAt K H v a i ∧ 0 ≤ i ∧ Q (.bl true) H
theorem ok_is_end_place (T : Txt K mg w) : FnOk P w K mg base CX0 2 T.a_is_end_place T.d_is_end_place P_is_end_place (sp_iep K) := by
  have G_is_number := ok_is_number (P := P) (w := w) (base := base) T
  have G_is_end := ok_is_end (P := P) (w := w) (base := base) T
  refine T.F_is_end_place.ok sc_is_end_place (fun vs H Q E h => ?_) (fun cdv A outer s H vs Q E hr h => ?_)
  · obtain ⟨v, a, i, rfl, _⟩ := h
    rfl
  · obtain ⟨v, a, i, rfl, ⟨p, rfl, hp⟩, i0, q⟩ := h
    refine ⟨_, (pss_cons (ps_if (PW.pt (pw_or (pt_not (pt_val (pe_callB (k_isi (K := K)) (by rfl) T.m_isinstance boot_isinstance (pa_cons (pv 0) (pa_cons (pe_bltn (v := .ty "tuple") (by rfl) T.m_tuple boot_tuple rfl) pa_nil))))) (pw_or1 (pt_cmpR op_ne (pe_callB (k_len (K := K)) (by rfl) T.m_len boot_len (pa_cons (pv 0) pa_nil)) pe_int (nomark _)))))
  (pss_one (ps_ret pe_bl)) pss_nil)
  (pss_one (ps_ret (pe_and (pe_call G_is_end (hr.mono (by decide)) (by rfl) T.g_is_end T.F_is_end.kp T.b_is_end .nil pass0 (pa_cons (pe_ix (k_ixT (K := K)) (pv 0) pe_int (fun _ _ => rfl)) pa_nil)) (pe_and (pe_call G_is_number (hr.mono (by decide)) (by rfl) T.g_is_number T.F_is_number.kp T.b_is_number .nil pass0 (pa_cons (pe_ix (k_ixT (K := K)) (pv 0) pe_int (fun _ _ => rfl)) pa_nil)) (pe_one (pe_cmpR op_ge (pe_ix (k_ixT (K := K)) (pv 0) pe_int (fun _ _ => rfl)) pe_int (nomark _)))))))), ?_⟩
    have tx := tyT hp
    walk_at "strs"
    show Q (V.bl (decide ((0 : Int) ≤ i))) H
    rw [decide_eq_true i0]
    exact q
def sp_size : Sp := fun vs H Q _ => ∃ n : Int, vs = [.int n] ∧ 0 ≤ n ∧ n ≤ 1000000000000000000000000000000 ∧ Q .non H
theorem ok_check_size (T : Txt K mg w) : FnOk P w K mg base CX0 1 T.a_check_size T.d_check_size P_check_size sp_size := by
  refine T.F_check_size.ok sc_check_size (fun vs H Q E h => ?_) (fun cdv A outer s H vs Q E hr h => ?_)
  · obtain ⟨i, rfl, _⟩ := h
    rfl
  · obtain ⟨n, rfl, n0, n1, q⟩ := h
    refine ⟨_, (pss_one (ps_if (PW.pt (pw_or (pt_cmpR op_lt (pv 0) pe_int (nomark _)) (pw_or1 (pt_cmpR op_gt (pv 0) (pe_glob (v := .int 1000000000000000000000000000000) rfl T.c_MOST_CARDS ⟨_, rfl⟩) (nomark _)))))
  (pss_one ps_never) pss_nil)), ?_⟩
    walk_at "strs"
    refine iteD (fun h => absurd h (by omega)) (fun _ => ?_)
    walk_at "strs"
    refine iteD (fun h => absurd h (by omega)) (fun _ => ?_)
    walk_at "strs"
    exact q
def sp_place : Sp := fun vs H Q _ => ∃ p n : Int, vs = [.int p, .int n] ∧ 0 ≤ p ∧ p < n ∧ Q .non H
theorem ok_check_place (T : Txt K mg w) : FnOk P w K mg base CX0 1 T.a_check_place T.d_check_place P_check_place sp_place := by
  refine T.F_check_place.ok sc_check_place (fun vs H Q E h => ?_) (fun cdv A outer s H vs Q E hr h => ?_)
  · obtain ⟨p, n, rfl, _⟩ := h
    rfl
  · obtain ⟨p, n, rfl, n0, n1, q⟩ := h
    refine ⟨_, (pss_one (ps_if (PW.pt (pw_or (pt_cmpR op_lt (pv 0) pe_int (nomark _)) (pw_or1 (pt_cmpR op_ge (pv 0) (pv 1) (nomark _)))))
  (pss_one ps_never) pss_nil)), ?_⟩
    walk_at "strs"
    refine iteD (fun h => absurd h (by omega)) (fun _ => ?_)
    walk_at "strs"
    refine iteD (fun h => absurd h (by omega)) (fun _ => ?_)
    walk_at "strs"
    exact q
def sp_resolve (K : PySem.W.Frag) : Sp := fun vs H Q _ => ∃ (v : V) (n : Int) (a : Bool) (i : Int), vs = [v, .int n] ∧ EndAt K H v a i ∧ 0 ≤ i ∧ i < n ∧ n ≤ 1000000000000000000000000000000 ∧ Q (.int (plc a i n)) H
theorem ok_resolve (T : Txt K mg w) : FnOk P w K mg base CX0 3 T.a_resolve T.d_resolve P_resolve (sp_resolve K) := by
  have G_is_end_place := ok_is_end_place (P := P) (w := w) (base := base) T
  have G_check_size := ok_check_size (P := P) (w := w) (base := base) T
  refine T.F_resolve.ok sc_resolve (fun vs H Q E h => ?_) (fun cdv A outer s H vs Q E hr h => ?_)
  · obtain ⟨v, n, a, i, rfl, _⟩ := h
    rfl
  · obtain ⟨v, n, a, i, rfl, ⟨p, rfl, hp⟩, i0, i1, n1, q⟩ := h
    refine ⟨_, (pss_cons (ps_if (pt_not (pt_val (pe_call G_is_end_place (hr.mono (by decide)) (by rfl) T.g_is_end_place T.F_is_end_place.kp T.b_is_end_place .nil pass0 (pa_cons (pv 0) pa_nil))))
  (pss_one ps_never) pss_nil)
  (pss_cons (ps_expr (pe_call G_check_size (hr.mono (by decide)) (by rfl) T.g_check_size T.F_check_size.kp T.b_check_size .nil pass0 (pa_cons (pv 1) pa_nil)))
  (pss_cons (ps_asg (pv 0) (k_gT (K := K) (n := 2) (pgs_cons (pg_name (i := 2) sc_resolve.nd rfl (Or.inl rfl)) (pgs_cons (pg_name (i := 3) sc_resolve.nd rfl (Or.inl rfl)) pgs_nil))))
  (pss_cons (ps_if (pt_cmpR op_ge (pv 3) (pv 1) (nomark _))
  (pss_one ps_never) pss_nil)
  (pss_one (ps_ret (pe_ifExp (pt_cmpR op_eq (pv 2) pe_str (nomark _)) (pv 3) (pe_op op_sub (pe_op op_sub (pv 1) pe_int) (pv 3))))))))), ?_⟩
    walk_at "strs"
    refine ⟨_, _, _, rfl, ⟨p, rfl, hp⟩, i0, ?_⟩
    walk_at "strs"
    refine ⟨p, _, rfl, hp, rfl, _, _, rfl, _, _, rfl, rfl, ?_⟩
    walk_at "strs"
    refine iteD (fun h => absurd h (by omega)) (fun _ => ?_)
    walk_at "strs"
    cases a
    · walk_at "strs"
      exact q
    · walk_at "strs"
      exact q
end
/-! ### the program: moves -/
section
variable {P : Program} {w : World} {K : PySem.W.Frag} {mg : Str → Option Value} {base : Heap}
/-- an item of a move fits its part -/
def Fits (K : PySem.W.Frag) (H : Hp) (part : Str) (item : V) : Prop :=
  (part = ("place" : Str) ∧ ∃ a i, EndAt K H item a i ∧ 0 ≤ i ∧ i ≤ 399) ∨ (part = ("end" : Str) ∧ ∃ a, item = .str (endS a)) ∨
  (part = ("signed" : Str) ∧ ∃ k, item = .int k ∧ -400 ≤ k ∧ k ≤ 400) ∨ (part = ("block" : Str) ∧ ∃ k, item = .int k ∧ 0 ≤ k ∧ k ≤ 400)
theorem Fits.same {K : PySem.W.Frag} {H H' : Hp} {part : Str} {item : V} (h : Fits K H part item) (e : Same H H') : Fits K H' part item := by
  rcases h with ⟨h, a, i, h1, h2⟩ | h | h | h
  · exact .inl ⟨h, a, i, h1.same e, h2⟩
  · exact .inr (.inl h)
  · exact .inr (.inr (.inl h))
  · exact .inr (.inr (.inr h))
def sp_fits (K : PySem.W.Frag) : Sp := fun vs H Q _ => ∃ (part : Str) (item : V), vs = [.str part, item] ∧ Fits K H part item ∧ Q (.bl true) H
theorem ok_fits (T : Txt K mg w) : FnOk P w K mg base CX0 3 T.a_fits T.d_fits P_fits (sp_fits K) := by
  have G_is_end_place := ok_is_end_place (P := P) (w := w) (base := base) T
  have G_is_number := ok_is_number (P := P) (w := w) (base := base) T
  have G_is_end := ok_is_end (P := P) (w := w) (base := base) T
  refine T.F_fits.ok sc_fits (fun vs H Q E h => ?_) (fun cdv A outer s H vs Q E hr h => ?_)
  · obtain ⟨v, n, rfl, _⟩ := h
    rfl
  · obtain ⟨part, item, rfl, hf, q⟩ := h
    refine ⟨_, (pss_cons (ps_if (pt_cmpR op_eq (pv 0) pe_str (nomark _))
  (pss_one (ps_ret (pe_and (pe_call G_is_end_place (hr.mono (by decide)) (by rfl) T.g_is_end_place T.F_is_end_place.kp T.b_is_end_place .nil pass0 (pa_cons (pv 1) pa_nil)) (pe_one (pe_cmpR op_le (pe_ix (k_ixT (K := K)) (pv 1) pe_int (fun _ _ => rfl)) (pe_glob (v := .int 399) rfl T.c_MOST_DEPTH ⟨_, rfl⟩) (nomark _)))))) pss_nil)
  (pss_cons (ps_if (pt_cmpR op_eq (pv 0) pe_str (nomark _))
  (pss_one (ps_ret (pe_call G_is_end (hr.mono (by decide)) (by rfl) T.g_is_end T.F_is_end.kp T.b_is_end .nil pass0 (pa_cons (pv 1) pa_nil)))) pss_nil)
  (pss_cons (ps_set (i := 2) sc_fits.nd rfl (Or.inl rfl) (pe_ifExp (pt_cmpR op_eq (pv 0) pe_str (nomark _)) (pe_un un_neg (pe_glob (v := .int 400) rfl T.c_MOST_BLOCK ⟨_, rfl⟩)) pe_int))
  (pss_one (ps_ret (pe_and (pe_call G_is_number (hr.mono (by decide)) (by rfl) T.g_is_number T.F_is_number.kp T.b_is_number .nil pass0 (pa_cons (pv 1) pa_nil)) (pe_one (pe_chain op_le op_le (pv 2) (pv 1) (pe_glob (v := .int 400) rfl T.c_MOST_BLOCK ⟨_, rfl⟩))))))))), ?_⟩
    rcases hf with ⟨rfl, a, i, ⟨p, rfl, hp⟩, i0, i1⟩ | ⟨rfl, a, rfl⟩ | ⟨rfl, k, rfl, k0, k1⟩ | ⟨rfl, k, rfl, k0, k1⟩
    · walk_at "strs"
      refine ⟨_, _, _, rfl, ⟨p, rfl, hp⟩, i0, ?_⟩
      walk_at "strs"
      show Q (V.bl (decide (i ≤ 399))) H
      rw [decide_eq_true i1]
      exact q
    · walk_at "strs"
      exact q
    · walk_at "strs"
      refine iteD (fun _ => ?_) (fun h => absurd (by omega) h)
      walk_at "strs"
      show Q (V.bl (decide (k ≤ 400))) H
      rw [decide_eq_true k1]
      exact q
    · walk_at "strs"
      refine iteD (fun _ => ?_) (fun h => absurd (by omega) h)
      walk_at "strs"
      show Q (V.bl (decide (k ≤ 400))) H
      rw [decide_eq_true k1]
      exact q
/-- the parts of a move, and what stands there -/
def partsOf : Mv → List Str
  | .swap .. => ["place", "place"]
  | .carry .. => ["place", "place"]
  | .cut .. => ["signed"]
  | .turn .. => ["end", "block"]
  | .over => []
  | .face .. => ["place"]
theorem mv_parts {K : PySem.W.Frag} {H : Hp} {m : Mv} {xs : List V} (h : MvIs K H m xs) (hk : m.ok) : ∃ items : List V, xs = .str m.nm :: items ∧ items.length = (partsOf m).length ∧ ∀ (i : Nat) (part : Str) (item : V), (partsOf m)[i]? = some part → items[i]? = some item → Fits K H part item := by
  cases m with
  | swap a i b j =>
    obtain ⟨x, y, rfl, h1, h2⟩ := h
    refine ⟨[x, y], rfl, rfl, fun n part item e1 e2 => ?_⟩
    match n, e1, e2 with
    | 0, e1, e2 => cases e1; cases e2; exact .inl ⟨rfl, a, i, h1, hk.1, hk.2.1⟩
    | 1, e1, e2 => cases e1; cases e2; exact .inl ⟨rfl, b, j, h2, hk.2.2.1, hk.2.2.2⟩
    | n + 2, e1, _ => cases e1
  | carry a i b j =>
    obtain ⟨x, y, rfl, h1, h2⟩ := h
    refine ⟨[x, y], rfl, rfl, fun n part item e1 e2 => ?_⟩
    match n, e1, e2 with
    | 0, e1, e2 => cases e1; cases e2; exact .inl ⟨rfl, a, i, h1, hk.1, hk.2.1⟩
    | 1, e1, e2 => cases e1; cases e2; exact .inl ⟨rfl, b, j, h2, hk.2.2.1, hk.2.2.2⟩
    | n + 2, e1, _ => cases e1
  | cut k =>
    subst h
    refine ⟨[.int k], rfl, rfl, fun n part item e1 e2 => ?_⟩
    match n, e1, e2 with
    | 0, e1, e2 => cases e1; cases e2; exact .inr (.inr (.inl ⟨rfl, k, rfl, hk.1, hk.2⟩))
    | n + 1, e1, _ => cases e1
  | turn a k =>
    subst h
    refine ⟨[.str (endS a), .int k], rfl, rfl, fun n part item e1 e2 => ?_⟩
    match n, e1, e2 with
    | 0, e1, e2 => cases e1; cases e2; exact .inr (.inl ⟨rfl, a, rfl⟩)
    | 1, e1, e2 => cases e1; cases e2; exact .inr (.inr (.inr ⟨rfl, k, rfl, hk.1, hk.2⟩))
    | n + 2, e1, _ => cases e1
  | over =>
    subst h
    exact ⟨[], rfl, rfl, fun n part item e1 _ => nomatch e1⟩
  | face a i =>
    obtain ⟨x, rfl, h1⟩ := h
    refine ⟨[x], rfl, rfl, fun n part item e1 e2 => ?_⟩
    match n, e1, e2 with
    | 0, e1, e2 => cases e1; cases e2; exact .inl ⟨rfl, a, i, h1, hk.1, hk.2⟩
    | n + 1, e1, _ => cases e1
/-- the shape of a move as the module has it -/
theorem shape_of (T : Txt K mg w) (m : Mv) : ∃ a, KDct K w T.a_SHAPES m.nm (.ref a) ∧ ∀ H : Hp, SqT K H a ((partsOf m).map V.str) := by
  cases m
  · exact ⟨_, T.e_SHAPES_swap, T.q_SHAPES_swap⟩
  · exact ⟨_, T.e_SHAPES_carry, T.q_SHAPES_carry⟩
  · exact ⟨_, T.e_SHAPES_cut, T.q_SHAPES_cut⟩
  · exact ⟨_, T.e_SHAPES_turn, T.q_SHAPES_turn⟩
  · exact ⟨_, T.e_SHAPES_over, T.q_SHAPES_over⟩
  · exact ⟨_, T.e_SHAPES_face, T.q_SHAPES_face⟩
theorem cut_tail (x : V) (xs : List V) : cutV (x :: xs) (some 1) none = xs := by
  unfold cutV
  have e : HT.sIx (x :: xs).length 0 (some 1) = 1 := by
    have h := HT.sIx_nat (x :: xs).length 0 1
    rw [show ((1 : Nat) : Int) = 1 from rfl] at h
    rw [h, List.length_cons]
    omega
  rw [e, HT.sIx_none]
  show List.take ((x :: xs).length - 1) xs = xs
  rw [List.length_cons, Nat.add_sub_cancel]
  exact List.take_length
def sp_ismove (K : PySem.W.Frag) : Sp := fun vs H Q _ => ∃ (v : V) (m : Mv), vs = [v] ∧ MvAt K H v m ∧ m.ok ∧ ∀ H', Same H H' → Q (.bl true) H'
theorem ok_is_move (T : Txt K mg w) : FnOk P w K mg base CX0 4 T.a_is_move T.d_is_move P_is_move (sp_ismove K) := by
  have G_fits := ok_fits (P := P) (w := w) (base := base) T
  refine T.F_is_move.ok sc_is_move (fun vs H Q E h => ?_) (fun cdv A outer s H vs Q E hr h => ?_)
  · obtain ⟨v, n, rfl, _⟩ := h
    rfl
  · obtain ⟨v, m, rfl, ⟨p, xs, rfl, hp, hm⟩, hk, q⟩ := h
    obtain ⟨items, rfl, hl, hf⟩ := mv_parts hm hk
    obtain ⟨sa, hs1, hs2⟩ := shape_of T m
    refine ⟨_, (pss_cons (ps_if (PW.pt (pw_or (pt_not (pt_val (pe_callB (k_isi (K := K)) (by rfl) T.m_isinstance boot_isinstance (pa_cons (pv 0) (pa_cons (pe_bltn (v := .ty "tuple") (by rfl) T.m_tuple boot_tuple rfl) pa_nil))))) (pw_or (pt_cmpR op_eq (pe_callB (k_len (K := K)) (by rfl) T.m_len boot_len (pa_cons (pv 0) pa_nil)) pe_int (nomark _)) (pw_or1 (pt_not (pt_val (pe_callB (k_isi (K := K)) (by rfl) T.m_isinstance boot_isinstance (pa_cons (pe_ix (k_ixT (K := K)) (pv 0) pe_int (fun _ _ => rfl)) (pa_cons (pe_bltn (v := .ty "str") (by rfl) T.m_str boot_str rfl) pa_nil)))))))))
  (pss_one (ps_ret pe_bl)) pss_nil)
  (pss_cons (ps_set (i := 1) sc_is_move.nd rfl (Or.inl rfl) (pe_kget (K := K) (w := w) (pe_glob (v := .ref T.a_SHAPES) rfl T.c_SHAPES rfl) T.d_SHAPES (pe_ix (k_ixT (K := K)) (pv 0) pe_int (fun _ _ => rfl)) ⟨rfl, rfl, rfl, rfl⟩))
  (pss_cons (ps_if (PW.pt (pw_or (pt_cmpR op_isN (pv 1) pe_non (nomark _)) (pw_or1 (pt_cmpR op_ne (pe_callB (k_len (K := K)) (by rfl) T.m_len boot_len (pa_cons (pv 0) pa_nil)) (pe_op op_add (pe_callB (k_len (K := K)) (by rfl) T.m_len boot_len (pa_cons (pv 1) pa_nil)) pe_int) (nomark _)))))
  (pss_one (ps_ret pe_bl)) pss_nil)
  (pss_cons (ps_for PassesOwn.never rfl (k_zip (K := K) (pa_cons (pv 1) (pa_cons (pe_slice (k_slT (K := K)) (pv 0) (po_some pe_int) po_none) pa_nil)) T.m_zip) (k_gT (K := K) (n := 2) (pgs_cons (pg_name (i := 2) sc_is_move.nd rfl (Or.inl rfl)) (pgs_cons (pg_name (i := 3) sc_is_move.nd rfl (Or.inl rfl)) pgs_nil)))
  (pss_one (ps_if (pt_not (pt_val (pe_call G_fits (hr.mono (by decide)) (by rfl) T.g_fits T.F_fits.kp T.b_fits .nil pass0 (pa_cons (pv 2) (pa_cons (pv 3) pa_nil)))))
  (pss_one (ps_ret pe_bl)) pss_nil)))
  (pss_one (ps_ret pe_bl)))))), ?_⟩
    have tx := tyT hp
    have ts : TyX K H (.str m.nm) (.type "str") := .base (.str m.nm)
    walk_at "strs"
    have hl2 : (((V.str m.nm :: items).length : Nat) : Int) = ((((partsOf m).map V.str).length : Nat) : Int) + 1 := by
      rw [List.length_cons, List.length_map, hl]
      rfl
    refine .inl ⟨_, hs1, ?_⟩
    have hs2 := hs2 H
    walk_at "strs"
    refine iteNE (fun ne => absurd hl2 ne) (fun _ => ?_)
    walk_at "strs"
    refine ⟨p, _, rfl, hp, ?_, fun c nc => ?_⟩
    · rintro ⟨h1, _⟩
      have h := HT.sIx_nat (V.str m.nm :: items).length 0 1
      rw [show ((1 : Nat) : Int) = 1 from rfl, h1, List.length_cons] at h
      omega
    rw [cut_tail]
    have s1 : Same H (upd H c (.tup items)) := same_new nc
    refine ⟨sa, c, (partsOf m).map V.str, items, rfl, .inr ⟨Same.tup s1 hs2, .inl (.inl upd_same), ?_⟩⟩
    refine for_by (n := (partsOf m).length) (fun i σ H' => Same (upd H c (.tup items)) H' ∧ ∃ y2 y3, σ = [some (.ref p), some (.ref sa), y2, y3]) ⟨Same.refl _, none, none, rfl⟩
      (fun i σ H' hi hw => ⟨(partsOf m).map V.str, items, .str (partsOf m)[i], items[i]'(hl ▸ hi), Same.tup (s1.trans hw.1) hs2, .inl (.inl (hw.1 _ _ upd_same)), by rw [List.getElem?_map, List.getElem?_eq_getElem hi]; rfl, List.getElem?_eq_getElem (hl ▸ hi)⟩)
      (fun σ H' hw => ⟨(partsOf m).map V.str, items, Same.tup (s1.trans hw.1) hs2, .inl (.inl (hw.1 _ _ upd_same)), .inl (by rw [List.length_map]; exact Nat.le_refl _)⟩) (fun i σ H' v H2 hi hw hv => ?_) (fun σ H' hw => ?_)
    · obtain ⟨t, x, y, rfl, nt, rfl, f1, f2⟩ := hv
      obtain ⟨s2, y2, y3, rfl⟩ := hw
      have gx := f1 _ (Same.tup (s1.trans s2) hs2)
      have gy := f2 items (.inl (.inl (s2 _ _ upd_same)))
      rw [List.getElem?_map, List.getElem?_eq_getElem hi] at gx
      have ex : V.str (partsOf m)[i] = x := Option.some.inj gx
      subst ex
      have s3 := s2.trans (same_new (o := .tup [V.str (partsOf m)[i], y]) nt)
      refine ⟨t, _, rfl, .inl (.inl upd_same), rfl, _, _, rfl, _, _, rfl, rfl, ?_⟩
      walk_at "strs"
      refine ⟨_, _, rfl, (hf i _ y (List.getElem?_eq_getElem hi) gy).same (s1.trans s3), ?_⟩
      walk_at "strs"
      first | exact ⟨s3, _, _, rfl⟩ | exact ⟨_, _, rfl⟩
    · obtain ⟨s2, y2, y3, rfl⟩ := hw
      walk_at "strs"
      exact q _ (s1.trans s2)
end
/-! ### the program: reach, images -/
section
variable {P : Program} {w : World} {K : PySem.W.Frag} {mg : Str → Option Value} {base : Heap}
def sp_chk (K : PySem.W.Frag) : Sp := fun vs H Q _ => ∃ (v : V) (m : Mv), vs = [v] ∧ MvAt K H v m ∧ m.ok ∧ ∀ H', Same H H' → Q .non H'
theorem ok_check_move (T : Txt K mg w) : FnOk P w K mg base CX0 5 T.a_check_move T.d_check_move P_check_move (sp_chk K) := by
  have G_is_move := ok_is_move (P := P) (w := w) (base := base) T
  refine T.F_check_move.ok sc_check_move (fun vs H Q E h => ?_) (fun cdv A outer s H vs Q E hr h => ?_)
  · obtain ⟨v, m, rfl, _⟩ := h
    rfl
  · obtain ⟨v, m, rfl, hm, hk, q⟩ := h
    refine ⟨_, (pss_one (ps_if (pt_not (pt_val (pe_call G_is_move (hr.mono (by decide)) (by rfl) T.g_is_move T.F_is_move.kp T.b_is_move .nil pass0 (pa_cons (pv 0) pa_nil))))
  (pss_one ps_never) pss_nil)), ?_⟩
    walk_at "strs"
    refine ⟨_, _, rfl, hm, hk, fun H2 s2 => ?_⟩
    walk_at "strs"
    exact q _ s2
theorem nm_swap : decide (("swap" : Str) = ("over" : Str)) = false ∧ decide (("swap" : Str) = ("cut" : Str)) = false ∧ decide (("swap" : Str) = ("turn" : Str)) = false := by decide +kernel
theorem nm_carry : decide (("carry" : Str) = ("over" : Str)) = false ∧ decide (("carry" : Str) = ("cut" : Str)) = false ∧ decide (("carry" : Str) = ("turn" : Str)) = false := by decide +kernel
theorem nm_face : decide (("face" : Str) = ("over" : Str)) = false ∧ decide (("face" : Str) = ("cut" : Str)) = false ∧ decide (("face" : Str) = ("turn" : Str)) = false := by decide +kernel
/-- a move that names end places -/
def Named (K : PySem.W.Frag) (H : Hp) (m : Mv) (items : List V) (ds : List Int) : Prop := items.length = ds.length ∧ 0 < ds.length ∧ ds.length ≤ 2 ∧ decide (m.nm = ("over" : Str)) = false ∧ decide (m.nm = ("cut" : Str)) = false ∧ decide (m.nm = ("turn" : Str)) = false ∧
  (∀ (i : Nat) (x : V) (d : Int), items[i]? = some x → ds[i]? = some d → ∃ a, EndAt K H x a d) ∧ ∀ z, z ∈ ds → (∀ y, y ∈ ds → y ≤ z) → z + 1 = m.reach
theorem mv_kinds {K : PySem.W.Frag} {H : Hp} {m : Mv} {xs : List V} (h : MvIs K H m xs) : (m = .over ∧ xs = [.str "over"]) ∨ (∃ k, m = .cut k ∧ xs = [.str "cut", .int k]) ∨ (∃ a k, m = .turn a k ∧ xs = [.str "turn", .str (endS a), .int k]) ∨
    ∃ items ds, xs = .str m.nm :: items ∧ Named K H m items ds := by
  have two : ∀ (x y : V) (a b : Bool) (i j : Int), EndAt K H x a i → EndAt K H y b j → ∀ (n : Nat) (v : V) (d : Int), [x, y][n]? = some v → [i, j][n]? = some d → ∃ e, EndAt K H v e d := fun x y a b i j h1 h2 n v d e1 e2 => by
    match n, e1, e2 with
    | 0, e1, e2 => cases e1; cases e2; exact ⟨a, h1⟩
    | 1, e1, e2 => cases e1; cases e2; exact ⟨b, h2⟩
    | n + 2, e1, _ => cases e1
  have mx : ∀ i j z : Int, z ∈ [i, j] → (∀ y, y ∈ [i, j] → y ≤ z) → z + 1 = max i j + 1 := fun i j z hz hy => by
    have h1 := hy i (by simp)
    have h2 := hy j (by simp)
    simp only [List.mem_cons, List.not_mem_nil, or_false] at hz
    omega
  cases m with
  | swap a i b j =>
    obtain ⟨x, y, rfl, h1, h2⟩ := h
    exact .inr (.inr (.inr ⟨[x, y], [i, j], rfl, rfl, by simp, by simp, nm_swap.1, nm_swap.2.1, nm_swap.2.2, two x y a b i j h1 h2, mx i j⟩))
  | carry a i b j =>
    obtain ⟨x, y, rfl, h1, h2⟩ := h
    exact .inr (.inr (.inr ⟨[x, y], [i, j], rfl, rfl, by simp, by simp, nm_carry.1, nm_carry.2.1, nm_carry.2.2, two x y a b i j h1 h2, mx i j⟩))
  | cut k => exact .inr (.inl ⟨k, rfl, h⟩)
  | turn a k => exact .inr (.inr (.inl ⟨a, k, rfl, h⟩))
  | over => exact .inl ⟨rfl, h⟩
  | face a i =>
    obtain ⟨x, rfl, h1⟩ := h
    refine .inr (.inr (.inr ⟨[x], [i], rfl, rfl, by simp, by simp, nm_face.1, nm_face.2.1, nm_face.2.2, fun n v d e1 e2 => ?_, fun z hz _ => ?_⟩))
    · match n, e1, e2 with
      | 0, e1, e2 => cases e1; cases e2; exact ⟨a, h1⟩
      | n + 1, e1, _ => cases e1
    · rw [List.mem_singleton] at hz
      rw [hz]
      rfl
def sp_reach (K : PySem.W.Frag) : Sp := fun vs H Q _ => ∃ (v : V) (m : Mv), vs = [v] ∧ MvAt K H v m ∧ m.ok ∧ ∀ H', Same H H' → Q (.int m.reach) H'
theorem ok_reach (T : Txt K mg w) : FnOk P w K mg base CX0 6 T.a_reach T.d_reach P_reach (sp_reach K) := by
  have G_check_move := ok_check_move (P := P) (w := w) (base := base) T
  refine T.F_reach.ok sc_reach (fun vs H Q E h => ?_) (fun cdv A outer s H vs Q E hr h => ?_)
  · obtain ⟨v, m, rfl, _⟩ := h
    rfl
  · obtain ⟨v, m, rfl, hm, hk, q⟩ := h
    refine ⟨_, (pss_cons (ps_expr (pe_call G_check_move (hr.mono (by decide)) (by rfl) T.g_check_move T.F_check_move.kp T.b_check_move .nil pass0 (pa_cons (pv 0) pa_nil)))
  (pss_cons (ps_set (i := 1) sc_reach.nd rfl (Or.inl rfl) (pe_ix (k_ixT (K := K)) (pv 0) pe_int (fun _ _ => rfl)))
  (pss_cons (ps_if (pt_cmpR op_eq (pv 1) pe_str (nomark _))
  (pss_one (ps_ret pe_int)) pss_nil)
  (pss_cons (ps_if (pt_cmpR op_eq (pv 1) pe_str (nomark _))
  (pss_one (ps_ret (pe_callB call_abs (by rfl) T.m_abs boot_abs (pa_cons (pe_ix (k_ixT (K := K)) (pv 0) pe_int (fun _ _ => rfl)) pa_nil)))) pss_nil)
  (pss_cons (ps_if (pt_cmpR op_eq (pv 1) pe_str (nomark _))
  (pss_one (ps_ret (pe_ix (k_ixT (K := K)) (pv 0) pe_int (fun _ _ => rfl)))) pss_nil)
  (pss_one (ps_ret (pe_op op_add (pe_callB (k_max (K := K)) (by rfl) T.m_max boot_max (pa_cons (pe_lc (own := [("end", 2), ("depth", 3)]) rfl sc_reach.nd (k_piT (K := K) (pe_slice (k_slT (K := K)) (pv 0) (po_some pe_int) po_none)) (blkOk_by (N := N_reach) (sc := defScope s_reach) (by decide +kernel)) (fun _ _ _ _ _ => (k_gT (K := K) (n := 2) (pgs_cons (pg_name (i := 2) sc_reach.nd rfl (Or.inl rfl)) (pgs_cons (pg_name (i := 3) sc_reach.nd rfl (Or.inl rfl)) pgs_nil)))) (fun _ _ _ _ _ => pts_nil) (fun _ _ _ _ _ => (pv 3))) pa_nil)) pe_int)))))))), ?_⟩
    walk_at "strs"
    refine ⟨_, _, rfl, hm, hk, fun H2 s2 => ?_⟩
    obtain ⟨p, xs, rfl, hp, hx⟩ := hm.same s2
    rcases mv_kinds hx with ⟨rfl, rfl⟩ | ⟨k, rfl, rfl⟩ | ⟨a, k, rfl, rfl⟩ | ⟨items, ds, rfl, hl, h0, h2, z1, z2, z3, he, hmx⟩
    · walk_at "strs"
      exact q _ s2
    · walk_at "strs"
      exact q _ s2
    · walk_at "strs"
      exact q _ s2
    · walk_at "strs"
      refine ⟨p, _, rfl, hp, ?_, fun c nc => ?_⟩
      · rintro ⟨e1, _⟩
        have e2 := HT.sIx_nat (V.str m.nm :: items).length 0 1
        rw [show ((1 : Nat) : Int) = 1 from rfl, e1, List.length_cons] at e2
        omega
      rw [cut_tail]
      have s3 : Same H2 (upd H2 c (.tup items)) := same_new nc
      have hc : SqT K (upd H2 c (.tup items)) c items := .inl (.inl upd_same)
      refine ⟨c, rfl, ⟨_, hc⟩, fun D hD => ?_⟩
      refine lc_by (n := items.length) (fun i H' => Same (upd H2 c (.tup items)) H' ∧ H' D = some (.lst ((ds.take i).map V.int))) ⟨same_new hD, upd_same⟩
        (fun i H' hi hw => ⟨items, items[i], Same.tup hw.1 hc, List.getElem?_eq_getElem hi⟩) (fun H' hw => ⟨items, Same.tup hw.1 hc, Nat.le_refl _⟩) (fun i H' x H3 hi hw hy => ?_) (fun H' hw => ?_)
      · obtain ⟨rfl, f1⟩ := hy
        have gx := f1 items (Same.tup hw.1 hc)
        have gd : ds[i]? = some (ds[i]'(hl ▸ hi)) := List.getElem?_eq_getElem (hl ▸ hi)
        obtain ⟨a, px, rfl, hpx⟩ := he i x _ gx gd
        refine ⟨px, _, rfl, Same.tup (s3.trans hw.1) hpx, rfl, _, _, rfl, _, _, rfl, rfl, rfl, _, rfl, _, hw.2, ?_, Same.mut hw.1 hD, ?_⟩
        · rw [List.length_map, List.length_take]
          exact lt_line (by omega)
        · rw [upd_same, List.take_add_one, gd, List.map_append]
          rfl
      · have hd : ds.take items.length = ds := List.take_of_length_le (by omega)
        rw [hd] at hw
        refine ⟨D, ds, rfl, .inl (.inl hw.2), h0, fun z hz hy => ?_⟩
        have e := hmx z hz hy
        refine ⟨_, _, rfl, rfl, ?_⟩
        show Q (V.int (z + 1)) H'
        rw [e]
        exact q _ ((s2.trans s3).trans hw.1)
def sp_img (K : PySem.W.Frag) (C : Mv → Prop) : Sp := fun vs H Q _ => ∃ (v : V) (m : Mv) (n p : Int), vs = [v, .int n, .int p] ∧ C m ∧ MvAt K H v m ∧ m.ok ∧ m.reach ≤ n ∧ 0 ≤ p ∧ p < n ∧ n ≤ 1000000000000000000000000000000 ∧
  ∀ t H', H t = none → Same H H' → H' t = some (.tup [.int (m.img n p).1, .bl (m.img n p).2]) → Q (.ref t) H'
theorem ok_over_image (T : Txt K mg w) : FnOk P w K mg base CX0 4 T.a_over_image T.d_over_image P_over_image (sp_img K (fun m => m = .over)) := by
  refine T.F_over_image.ok sc_over_image (fun vs H Q E h => ?_) (fun cdv A outer s H vs Q E hr h => ?_)
  · obtain ⟨v, m, n, p, rfl, _⟩ := h
    rfl
  · obtain ⟨v, m, n, p, rfl, rfl, hm, hk, hn, p0, p1, n1, q⟩ := h
    refine ⟨_, (pss_one (ps_ret (pe_tup (pa_cons (pe_op op_sub (pe_op op_sub (pv 1) pe_int) (pv 2)) (pa_cons pe_bl pa_nil))))), ?_⟩
    walk_at "strs"
    intro t nt
    exact q t _ nt (same_new nt) upd_same
theorem ok_cut_image (T : Txt K mg w) : FnOk P w K mg base CX0 4 T.a_cut_image T.d_cut_image P_cut_image (sp_img K (fun m => ∃ k, m = .cut k)) := by
  refine T.F_cut_image.ok sc_cut_image (fun vs H Q E h => ?_) (fun cdv A outer s H vs Q E hr h => ?_)
  · obtain ⟨v, m, n, p, rfl, _⟩ := h
    rfl
  · obtain ⟨v, m, n, p, rfl, ⟨k, rfl⟩, ⟨a, xs, rfl, ha, hx⟩, hk, hn, p0, p1, n1, q⟩ := h
    obtain rfl := hx
    refine ⟨_, (pss_one (ps_ret (pe_tup (pa_cons (pe_op op_modN (pe_op op_sub (pv 2) (pe_ix (k_ixT (K := K)) (pv 0) pe_int (fun _ _ => rfl))) (pv 1)) (pa_cons pe_bl pa_nil))))), ?_⟩
    have n0 : n ≠ 0 := by omega
    walk_at "strs"
    intro t nt
    exact q t _ nt (same_new nt) upd_same
theorem img_turn_in {n p k f : Int} {a : Bool} (e : (if a = true then 0 else n - k) = f) (h1 : f ≤ p) (h2 : p < f + k) : (Mv.turn a k).img n p = (f + (f + k) - 1 - p, true) := by
  show (if (if a = true then 0 else n - k) ≤ p ∧ p < (if a = true then 0 else n - k) + k then ((if a = true then 0 else n - k) + ((if a = true then 0 else n - k) + k) - 1 - p, true) else (p, false)) = _
  rw [e, if_pos ⟨h1, h2⟩]
theorem img_turn_out {n p k f : Int} {a : Bool} (e : (if a = true then 0 else n - k) = f) (h : ¬ (f ≤ p ∧ p < f + k)) : (Mv.turn a k).img n p = (p, false) := by
  show (if (if a = true then 0 else n - k) ≤ p ∧ p < (if a = true then 0 else n - k) + k then ((if a = true then 0 else n - k) + ((if a = true then 0 else n - k) + k) - 1 - p, true) else (p, false)) = _
  rw [e, if_neg h]
theorem img_swap {n p i j : Int} {a b : Bool} : (Mv.swap a i b j).img n p = if p = plc a i n then (plc b j n, false) else if p = plc b j n then (plc a i n, false) else (p, false) := rfl
theorem img_carry {n p i j : Int} {a b : Bool} : (Mv.carry a i b j).img n p = if p = plc a i n then (plc b j n, false) else if plc a i n < p ∧ p ≤ plc b j n then (p - 1, false) else if plc b j n ≤ p ∧ p < plc a i n then (p + 1, false) else (p, false) := rfl
theorem ok_turn_image (T : Txt K mg w) : FnOk P w K mg base CX0 4 T.a_turn_image T.d_turn_image P_turn_image (sp_img K (fun m => ∃ a k, m = .turn a k)) := by
  refine T.F_turn_image.ok sc_turn_image (fun vs H Q E h => ?_) (fun cdv A outer s H vs Q E hr h => ?_)
  · obtain ⟨v, m, n, p, rfl, _⟩ := h
    rfl
  · obtain ⟨v, m, n, p, rfl, ⟨b, k, rfl⟩, ⟨a, xs, rfl, ha, hx⟩, hk, hn, p0, p1, n1, q⟩ := h
    obtain rfl := hx
    refine ⟨_, (pss_cons (ps_set (i := 3) sc_turn_image.nd rfl (Or.inl rfl) (pe_ifExp (pt_cmpR op_eq (pe_ix (k_ixT (K := K)) (pv 0) pe_int (fun _ _ => rfl)) pe_str (nomark _)) pe_int (pe_op op_sub (pv 1) (pe_ix (k_ixT (K := K)) (pv 0) pe_int (fun _ _ => rfl)))))
  (pss_cons (ps_set (i := 4) sc_turn_image.nd rfl (Or.inl rfl) (pe_op op_add (pv 3) (pe_ix (k_ixT (K := K)) (pv 0) pe_int (fun _ _ => rfl))))
  (pss_cons (ps_if (pt_chain op_le op_lt (pv 3) (pv 2) (pv 4))
  (pss_one (ps_ret (pe_tup (pa_cons (pe_op op_sub (pe_op op_sub (pe_op op_add (pv 3) (pv 4)) pe_int) (pv 2)) (pa_cons pe_bl pa_nil))))) pss_nil)
  (pss_one (ps_ret (pe_tup (pa_cons (pv 2) (pa_cons pe_bl pa_nil)))))))), ?_⟩
    have hk0 : 0 ≤ k := hk.1
    cases b
    · walk_at "strs"
      refine iteD (fun h1 => ?_) (fun h1 => ?_)
      · walk_at "strs"
        refine iteD (fun h2 => ?_) (fun h2 => ?_)
        · walk_at "strs"
          intro t nt
          exact q t _ nt (same_new nt) (by rw [upd_same, img_turn_in (f := n - k) rfl h1 h2])
        · walk_at "strs"
          intro t nt
          exact q t _ nt (same_new nt) (by rw [upd_same, img_turn_out (f := n - k) rfl fun h => h2 h.2])
      · walk_at "strs"
        intro t nt
        exact q t _ nt (same_new nt) (by rw [upd_same, img_turn_out (f := n - k) rfl fun h => h1 h.1])
    · walk_at "strs"
      refine iteD (fun h1 => ?_) (fun h1 => ?_)
      · walk_at "strs"
        refine iteD (fun h2 => ?_) (fun h2 => ?_)
        · walk_at "strs"
          intro t nt
          exact q t _ nt (same_new nt) (by rw [upd_same, img_turn_in (f := 0) rfl h1 h2])
        · walk_at "strs"
          intro t nt
          exact q t _ nt (same_new nt) (by rw [upd_same, img_turn_out (f := 0) rfl fun h => h2 h.2])
      · walk_at "strs"
        intro t nt
        exact q t _ nt (same_new nt) (by rw [upd_same, img_turn_out (f := 0) rfl fun h => h1 h.1])
theorem dI {a b : Int} : decide (V.int a = V.int b) = decide (a = b) := by
  by_cases h : a = b
  · subst h
    rw [decide_eq_true rfl, decide_eq_true rfl]
  · rw [decide_eq_false h, decide_eq_false fun e => h (V.int.inj e)]
theorem ok_face_image (T : Txt K mg w) : FnOk P w K mg base CX0 4 T.a_face_image T.d_face_image P_face_image (sp_img K (fun m => ∃ a i, m = .face a i)) := by
  have G_resolve := ok_resolve (P := P) (w := w) (base := base) T
  refine T.F_face_image.ok sc_face_image (fun vs H Q E h => ?_) (fun cdv A outer s H vs Q E hr h => ?_)
  · obtain ⟨v, m, n, p, rfl, _⟩ := h
    rfl
  · obtain ⟨v, m, n, p, rfl, ⟨b, i, rfl⟩, ⟨a, xs, rfl, ha, hx⟩, hk, hn, p0, p1, n1, q⟩ := h
    obtain ⟨x, rfl, px, rfl, hpx⟩ := hx
    have hk0 : 0 ≤ i := hk.1
    have hn' : i + 1 ≤ n := hn
    refine ⟨_, (pss_one (ps_ret (pe_tup (pa_cons (pv 2) (pa_cons (pe_cmpR op_eq (pv 2) (pe_call G_resolve (hr.mono (by decide)) (by rfl) T.g_resolve T.F_resolve.kp T.b_resolve .nil pass0 (pa_cons (pe_ix (k_ixT (K := K)) (pv 0) pe_int (fun _ _ => rfl)) (pa_cons (pv 1) pa_nil))) (nomark _)) pa_nil))))), ?_⟩
    walk_at "strs"
    refine ⟨_, _, _, _, rfl, ⟨px, rfl, hpx⟩, hk0, by omega, n1, ?_⟩
    walk_at "strs"
    intro t nt
    exact q t _ nt (same_new nt) (by rw [upd_same, dI]; rfl)
theorem ok_swap_image (T : Txt K mg w) : FnOk P w K mg base CX0 4 T.a_swap_image T.d_swap_image P_swap_image (sp_img K (fun m => ∃ a i b j, m = .swap a i b j)) := by
  have G_resolve := ok_resolve (P := P) (w := w) (base := base) T
  refine T.F_swap_image.ok sc_swap_image (fun vs H Q E h => ?_) (fun cdv A outer s H vs Q E hr h => ?_)
  · obtain ⟨v, m, n, p, rfl, _⟩ := h
    rfl
  · obtain ⟨v, m, n, p, rfl, ⟨b, i, c, j, rfl⟩, ⟨a, xs, rfl, ha, hx⟩, hk, hn, p0, p1, n1, q⟩ := h
    obtain ⟨x, y, rfl, ⟨px, rfl, hpx⟩, ⟨py, rfl, hpy⟩⟩ := hx
    obtain ⟨k1, k2, k3, k4⟩ : 0 ≤ i ∧ i ≤ 399 ∧ 0 ≤ j ∧ j ≤ 399 := hk
    have hn' : max i j + 1 ≤ n := hn
    refine ⟨_, (pss_cons (ps_set (i := 3) sc_swap_image.nd rfl (Or.inl rfl) (pe_call G_resolve (hr.mono (by decide)) (by rfl) T.g_resolve T.F_resolve.kp T.b_resolve .nil pass0 (pa_cons (pe_ix (k_ixT (K := K)) (pv 0) pe_int (fun _ _ => rfl)) (pa_cons (pv 1) pa_nil))))
  (pss_cons (ps_set (i := 4) sc_swap_image.nd rfl (Or.inl rfl) (pe_call G_resolve (hr.mono (by decide)) (by rfl) T.g_resolve T.F_resolve.kp T.b_resolve .nil pass0 (pa_cons (pe_ix (k_ixT (K := K)) (pv 0) pe_int (fun _ _ => rfl)) (pa_cons (pv 1) pa_nil))))
  (pss_cons (ps_if (pt_cmpR op_eq (pv 2) (pv 3) (nomark _))
  (pss_one (ps_ret (pe_tup (pa_cons (pv 4) (pa_cons pe_bl pa_nil))))) pss_nil)
  (pss_cons (ps_if (pt_cmpR op_eq (pv 2) (pv 4) (nomark _))
  (pss_one (ps_ret (pe_tup (pa_cons (pv 3) (pa_cons pe_bl pa_nil))))) pss_nil)
  (pss_one (ps_ret (pe_tup (pa_cons (pv 2) (pa_cons pe_bl pa_nil))))))))), ?_⟩
    walk_at "strs"
    refine ⟨_, _, _, _, rfl, ⟨px, rfl, hpx⟩, k1, by omega, n1, ?_⟩
    walk_at "strs"
    refine ⟨_, _, _, _, rfl, ⟨py, rfl, hpy⟩, k3, by omega, n1, ?_⟩
    walk_at "strs"
    refine iteE (fun h1 => ?_) (fun h1 => ?_)
    · walk_at "strs"
      intro t nt
      exact q t _ nt (same_new nt) (by rw [upd_same]; rw [img_swap, if_pos h1])
    · walk_at "strs"
      refine iteE (fun h2 => ?_) (fun h2 => ?_)
      · walk_at "strs"
        intro t nt
        exact q t _ nt (same_new nt) (by rw [upd_same]; rw [img_swap, if_neg h1, if_pos h2])
      · walk_at "strs"
        intro t nt
        exact q t _ nt (same_new nt) (by rw [upd_same]; rw [img_swap, if_neg h1, if_neg h2])
theorem ok_carry_image (T : Txt K mg w) : FnOk P w K mg base CX0 4 T.a_carry_image T.d_carry_image P_carry_image (sp_img K (fun m => ∃ a i b j, m = .carry a i b j)) := by
  have G_resolve := ok_resolve (P := P) (w := w) (base := base) T
  refine T.F_carry_image.ok sc_carry_image (fun vs H Q E h => ?_) (fun cdv A outer s H vs Q E hr h => ?_)
  · obtain ⟨v, m, n, p, rfl, _⟩ := h
    rfl
  · obtain ⟨v, m, n, p, rfl, ⟨b, i, c, j, rfl⟩, ⟨a, xs, rfl, ha, hx⟩, hk, hn, p0, p1, n1, q⟩ := h
    obtain ⟨x, y, rfl, ⟨px, rfl, hpx⟩, ⟨py, rfl, hpy⟩⟩ := hx
    obtain ⟨k1, k2, k3, k4⟩ : 0 ≤ i ∧ i ≤ 399 ∧ 0 ≤ j ∧ j ≤ 399 := hk
    have hn' : max i j + 1 ≤ n := hn
    refine ⟨_, (pss_cons (ps_set (i := 3) sc_carry_image.nd rfl (Or.inl rfl) (pe_call G_resolve (hr.mono (by decide)) (by rfl) T.g_resolve T.F_resolve.kp T.b_resolve .nil pass0 (pa_cons (pe_ix (k_ixT (K := K)) (pv 0) pe_int (fun _ _ => rfl)) (pa_cons (pv 1) pa_nil))))
  (pss_cons (ps_set (i := 4) sc_carry_image.nd rfl (Or.inl rfl) (pe_call G_resolve (hr.mono (by decide)) (by rfl) T.g_resolve T.F_resolve.kp T.b_resolve .nil pass0 (pa_cons (pe_ix (k_ixT (K := K)) (pv 0) pe_int (fun _ _ => rfl)) (pa_cons (pv 1) pa_nil))))
  (pss_cons (ps_if (pt_cmpR op_eq (pv 2) (pv 3) (nomark _))
  (pss_one (ps_ret (pe_tup (pa_cons (pv 4) (pa_cons pe_bl pa_nil))))) pss_nil)
  (pss_cons (ps_if (pt_chain op_lt op_le (pv 3) (pv 2) (pv 4))
  (pss_one (ps_ret (pe_tup (pa_cons (pe_op op_sub (pv 2) pe_int) (pa_cons pe_bl pa_nil))))) pss_nil)
  (pss_cons (ps_if (pt_chain op_le op_lt (pv 4) (pv 2) (pv 3))
  (pss_one (ps_ret (pe_tup (pa_cons (pe_op op_add (pv 2) pe_int) (pa_cons pe_bl pa_nil))))) pss_nil)
  (pss_one (ps_ret (pe_tup (pa_cons (pv 2) (pa_cons pe_bl pa_nil)))))))))), ?_⟩
    walk_at "strs"
    refine ⟨_, _, _, _, rfl, ⟨px, rfl, hpx⟩, k1, by omega, n1, ?_⟩
    walk_at "strs"
    refine ⟨_, _, _, _, rfl, ⟨py, rfl, hpy⟩, k3, by omega, n1, ?_⟩
    walk_at "strs"
    refine iteE (fun h1 => ?_) (fun h1 => ?_)
    · walk_at "strs"
      intro t nt
      exact q t _ nt (same_new nt) (by rw [upd_same]; rw [img_carry, if_pos h1])
    · walk_at "strs"
      refine iteD (fun h2 => ?_) (fun h2 => ?_)
      · walk_at "strs"
        refine iteD (fun h3 => ?_) (fun h3 => ?_)
        · walk_at "strs"
          intro t nt
          exact q t _ nt (same_new nt) (by rw [upd_same, img_carry, if_neg h1, if_pos ⟨h2, h3⟩])
        · walk_at "strs"
          refine iteD (fun h4 => ?_) (fun h4 => absurd (by omega) h4)
          walk_at "strs"
          refine iteD (fun h5 => absurd h5 (by omega)) (fun h5 => ?_)
          walk_at "strs"
          intro t nt
          exact q t _ nt (same_new nt) (by rw [upd_same, img_carry, if_neg h1, if_neg fun h => h3 h.2, if_neg fun h => h5 h.2])
      · walk_at "strs"
        refine iteD (fun h4 => ?_) (fun h4 => ?_)
        · walk_at "strs"
          refine iteD (fun h5 => ?_) (fun h5 => ?_)
          · walk_at "strs"
            intro t nt
            exact q t _ nt (same_new nt) (by rw [upd_same, img_carry, if_neg h1, if_neg fun h => h2 h.1, if_pos ⟨h4, h5⟩])
          · walk_at "strs"
            intro t nt
            exact q t _ nt (same_new nt) (by rw [upd_same, img_carry, if_neg h1, if_neg fun h => h2 h.1, if_neg fun h => h5 h.2])
        · walk_at "strs"
          intro t nt
          exact q t _ nt (same_new nt) (by rw [upd_same, img_carry, if_neg h1, if_neg fun h => h2 h.1, if_neg fun h => h4 h.1])
/-- the image, by the def that the table tells -/
def sp_image (K : PySem.W.Frag) (C : Mv → Prop) : Sp := fun vs H Q _ => ∃ (v : V) (m : Mv) (n p : Int), vs = [v, .int n, .int p] ∧ C m ∧ MvAt K H v m ∧ m.ok ∧ 0 ≤ p ∧ p < n ∧ n ≤ 1000000000000000000000000000000 ∧
  ∀ t H', H t = none → Same H H' → H' t = some (.tup [.int (m.image n p).1, .bl (m.image n p).2]) → Q (.ref t) H'
theorem ok_image_via (T : Txt K mg w) {f : Addr} {fd : FuncData} {C : Mv → Prop} (GL : FnOk P w K mg base CX0 4 f fd ["move", "size", "place"] (sp_img K C)) (kL : PySem.W.keepIn K (.ref f) = true) (bL : Binds K fd ["move", "size", "place"] [])
    (hC : ∀ m, C m → KDct K w T.a_IMAGES m.nm (.ref f)) : FnOk P w K mg base CX0 7 T.a_image T.d_image P_image (sp_image K C) := by
  have G_check_move := ok_check_move (P := P) (w := w) (base := base) T
  have G_check_size := ok_check_size (P := P) (w := w) (base := base) T
  have G_check_place := ok_check_place (P := P) (w := w) (base := base) T
  have G_reach := ok_reach (P := P) (w := w) (base := base) T
  refine T.F_image.ok sc_image (fun vs H Q E h => ?_) (fun cdv A outer s H vs Q E hr h => ?_)
  · obtain ⟨v, m, n, p, rfl, _⟩ := h
    rfl
  · obtain ⟨v, m, n, p, rfl, hc, hm, hk, p0, p1, n1, q⟩ := h
    have hd := hC m hc
    refine ⟨_, (pss_cons (ps_expr (pe_call G_check_move (hr.mono (by decide)) (by rfl) T.g_check_move T.F_check_move.kp T.b_check_move .nil pass0 (pa_cons (pv 0) pa_nil)))
  (pss_cons (ps_expr (pe_call G_check_size (hr.mono (by decide)) (by rfl) T.g_check_size T.F_check_size.kp T.b_check_size .nil pass0 (pa_cons (pv 1) pa_nil)))
  (pss_cons (ps_expr (pe_call G_check_place (hr.mono (by decide)) (by rfl) T.g_check_place T.F_check_place.kp T.b_check_place .nil pass0 (pa_cons (pv 2) (pa_cons (pv 1) pa_nil))))
  (pss_cons (ps_if (pt_cmpR op_lt (pv 1) (pe_call G_reach (hr.mono (by decide)) (by rfl) T.g_reach T.F_reach.kp T.b_reach .nil pass0 (pa_cons (pv 0) pa_nil)) (nomark _))
  (pss_one (ps_ret (pe_tup (pa_cons (pv 2) (pa_cons pe_bl pa_nil))))) pss_nil)
  (pss_cons (ps_set (i := 3) sc_image.nd rfl (Or.inl rfl) (pe_ix (k_ixK (K := K) (w := w)) (pe_glob (v := .ref T.a_IMAGES) rfl T.c_IMAGES rfl) (pe_ix (k_ixT (K := K)) (pv 0) pe_int (fun _ _ => rfl)) (fun _ _ => rfl)))
  (pss_one (ps_ret (pe_callL GL (hr.mono (by decide)) (i := 3) rfl (by first | exact Or.inl rfl | exact Or.inr (Or.inl rfl)) kL bL .nil pass0 (pa_cons (pv 0) (pa_cons (pv 1) (pa_cons (pv 2) pa_nil))))))))))), ?_⟩
    walk_at "strs"
    refine ⟨_, _, rfl, hm, hk, fun H2 s2 => ?_⟩
    walk_at "strs"
    refine ⟨_, _, rfl, p0, p1, ?_⟩
    walk_at "strs"
    refine ⟨_, _, rfl, hm.same s2, hk, fun H3 s3 => ?_⟩
    walk_at "strs"
    refine iteD (fun h1 => ?_) (fun h1 => ?_)
    · walk_at "strs"
      intro t nt
      exact q t _ ((s2.trans s3).free nt) ((s2.trans s3).trans (same_new nt)) (by rw [upd_same]; unfold Mv.image; rw [if_pos h1])
    · have hm3 := (hm.same s2).same s3
      obtain ⟨a, xs, rfl, ha, hx⟩ := id hm3
      obtain ⟨items, rfl, _, _⟩ := mv_parts hx hk
      walk_at "strs"
      refine ⟨_, _, _, rfl, rfl, hd, ?_⟩
      walk_at "strs"
      refine ⟨_, _, _, _, rfl, hc, hm3, hk, by omega, p0, p1, n1, fun t H4 nt s4 ht => q t H4 ((s2.trans s3).free nt) ((s2.trans s3).trans s4) (by rw [ht]; unfold Mv.image; rw [if_neg h1])⟩
theorem ok_image (T : Txt K mg w) : FnOk P w K mg base CX0 7 T.a_image T.d_image P_image (sp_image K (fun _ => True)) := by
  have h1 := ok_image_via T (ok_swap_image (P := P) (w := w) (base := base) T) T.F_swap_image.kp T.b_swap_image (fun m ⟨a, i, b, j, e⟩ => e ▸ T.e_IMAGES_swap)
  have h2 := ok_image_via T (ok_carry_image (P := P) (w := w) (base := base) T) T.F_carry_image.kp T.b_carry_image (fun m ⟨a, i, b, j, e⟩ => e ▸ T.e_IMAGES_carry)
  have h3 := ok_image_via T (ok_cut_image (P := P) (w := w) (base := base) T) T.F_cut_image.kp T.b_cut_image (fun m ⟨k, e⟩ => e ▸ T.e_IMAGES_cut)
  have h4 := ok_image_via T (ok_turn_image (P := P) (w := w) (base := base) T) T.F_turn_image.kp T.b_turn_image (fun m ⟨a, k, e⟩ => e ▸ T.e_IMAGES_turn)
  have h5 := ok_image_via T (ok_over_image (P := P) (w := w) (base := base) T) T.F_over_image.kp T.b_over_image (fun m e => e ▸ T.e_IMAGES_over)
  have h6 := ok_image_via T (ok_face_image (P := P) (w := w) (base := base) T) T.F_face_image.kp T.b_face_image (fun m ⟨a, i, e⟩ => e ▸ T.e_IMAGES_face)
  refine ⟨fun vs H Q E h => ?_, fun A outer s H args us vs Q E hr e0 hb hv h => ?_⟩
  · obtain ⟨v, m, n, p, rfl, _⟩ := h
    rfl
  · obtain ⟨v, m, n, p, ev, _, h⟩ := h
    cases m with
    | swap a i b j => exact h1.run A outer s H args us vs Q E hr e0 hb hv ⟨v, _, n, p, ev, ⟨a, i, b, j, rfl⟩, h⟩
    | carry a i b j => exact h2.run A outer s H args us vs Q E hr e0 hb hv ⟨v, _, n, p, ev, ⟨a, i, b, j, rfl⟩, h⟩
    | cut k => exact h3.run A outer s H args us vs Q E hr e0 hb hv ⟨v, _, n, p, ev, ⟨k, rfl⟩, h⟩
    | turn a k => exact h4.run A outer s H args us vs Q E hr e0 hb hv ⟨v, _, n, p, ev, ⟨a, k, rfl⟩, h⟩
    | over => exact h5.run A outer s H args us vs Q E hr e0 hb hv ⟨v, _, n, p, ev, rfl, h⟩
    | face a i => exact h6.run A outer s H args us vs Q E hr e0 hb hv ⟨v, _, n, p, ev, ⟨a, i, rfl⟩, h⟩
end
/-! ### the law's drawn moves -/
theorem But.seq {K : PySem.W.Frag} {b t : Addr} {H H' : Hp} {xs : List V} (x : But b H H') (n : t ≠ b) (h : SqL K H t xs) : SqL K H' t xs := by
  rcases h with (h | ⟨o, h⟩) | h
  · exact .inl (.inl (x _ _ n h))
  · exact .inl (.inr ⟨o, x _ _ n h⟩)
  · exact .inr h
theorem Bag.obj {H : Hp} {b l : Addr} (x : Bag H b l) : ∃ xs, H b = some (.lst xs) := by
  obtain ⟨cs, i, hh, s, y⟩ := x
  exact ⟨_, y.at_⟩
/-- tuples stay when the bag changes -/
theorem But.tup {K : PySem.W.Frag} {b l t : Addr} {H H' : Hp} {xs : List V} (x : But b H H') (hB : Bag H b l) (h : SqT K H t xs) : SqT K H' t xs := by
  obtain ⟨ys, hb⟩ := hB.obj
  rcases h with (h | ⟨o, h⟩) | h
  · exact .inl (.inl (x _ _ (ne_of h hb (by intro z; cases z)) h))
  · exact .inl (.inr ⟨o, x _ _ (ne_of h hb (by intro z; cases z)) h⟩)
  · exact .inr h
theorem EndAt.but {K : PySem.W.Frag} {b l : Addr} {H H' : Hp} {v : V} {a : Bool} {i : Int} (h : EndAt K H v a i) (hB : Bag H b l) (e : But b H H') : EndAt K H' v a i := by
  obtain ⟨p, e1, h1⟩ := h
  exact ⟨p, e1, But.tup e hB h1⟩
theorem MvIs.but {K : PySem.W.Frag} {b l : Addr} {H H' : Hp} {m : Mv} {xs : List V} (h : MvIs K H m xs) (hB : Bag H b l) (e : But b H H') : MvIs K H' m xs := by
  cases m with
  | swap a i b j =>
    obtain ⟨x, y, e1, h1, h2⟩ := h
    exact ⟨x, y, e1, h1.but hB e, h2.but hB e⟩
  | carry a i b j =>
    obtain ⟨x, y, e1, h1, h2⟩ := h
    exact ⟨x, y, e1, h1.but hB e, h2.but hB e⟩
  | cut k => exact h
  | turn a k => exact h
  | over => exact h
  | face a i =>
    obtain ⟨x, e1, h1⟩ := h
    exact ⟨x, e1, h1.but hB e⟩
theorem MvAt.but {K : PySem.W.Frag} {b l : Addr} {H H' : Hp} {v : V} {m : Mv} (h : MvAt K H v m) (hB : Bag H b l) (e : But b H H') : MvAt K H' v m := by
  obtain ⟨p, xs, e1, h1, h2⟩ := h
  exact ⟨p, xs, e1, But.tup e hB h1, h2.but hB e⟩
def Mv.within (d : Int) : Mv → Prop
  | .swap _ i _ j => 0 ≤ i ∧ i ≤ d ∧ 0 ≤ j ∧ j ≤ d
  | .carry _ i _ j => 0 ≤ i ∧ i ≤ d ∧ 0 ≤ j ∧ j ≤ d
  | .cut k => -d - 1 ≤ k ∧ k ≤ d + 1
  | .turn _ k => 0 ≤ k ∧ k ≤ d + 1
  | .over => True
  | .face _ i => 0 ≤ i ∧ i ≤ d
theorem Mv.within.ok {d : Int} {m : Mv} (h : m.within d) (hd : d ≤ 399) : m.ok := by
  cases m with
  | swap a i b j => obtain ⟨h1, h2, h3, h4⟩ := h; exact ⟨h1, by omega, h3, by omega⟩
  | carry a i b j => obtain ⟨h1, h2, h3, h4⟩ := h; exact ⟨h1, by omega, h3, by omega⟩
  | cut k => obtain ⟨h1, h2⟩ := h; exact ⟨by omega, by omega⟩
  | turn a k => obtain ⟨h1, h2⟩ := h; exact ⟨h1, by omega⟩
  | over => exact True.intro
  | face a i => obtain ⟨h1, h2⟩ := h; exact ⟨h1, by omega⟩
section
variable {P : Program} {w : World} {K : PySem.W.Frag} {mg : Str → Option Value} {base : Heap}
def sp_of (K : PySem.W.Frag) : Sp := fun vs H Q _ => ∃ (b l t : Addr) (xs : List V), vs = [.ref b, .ref t] ∧ Bag H b l ∧ SqL K H t xs ∧ t ≠ b ∧ 0 < xs.length ∧ xs.length ≤ 1000 ∧
  ∀ (i : Nat) (x : V) H', xs[i]? = some x → Bag H' b l → But b H H' → Q x H'
theorem ok__law_of (T : Txt K mg w) : FnOk P w K mg base CX0 2 T.a__law_of T.d__law_of P__law_of (sp_of K) := by
  have G__law_pull := ok__law_pull (P := P) (w := w) (base := base) T
  refine T.F__law_of.ok sc__law_of (fun vs H Q E h => ?_) (fun cdv A outer s H vs Q E hr h => ?_)
  · obtain ⟨b, l, t, xs, rfl, _⟩ := h
    rfl
  · obtain ⟨b, l, t, xs, rfl, hB, ht, nt, x0, x1, q⟩ := h
    refine ⟨_, (pss_one (ps_ret (pe_ix (k_ixL (K := K)) (pv 1) (pe_call G__law_pull (hr.mono (by decide)) (by rfl) T.g__law_pull T.F__law_pull.kp T.b__law_pull .nil pass0 (pa_cons (pv 0) (pa_cons (pe_callB (k_len (K := K)) (by rfl) T.m_len boot_len (pa_cons (pv 1) pa_nil)) pa_nil))) (fun _ _ => rfl)))), ?_⟩
    walk_at "rds"
    refine ⟨b, l, _, rfl, hB, by omega, Fit.of (by omega) (by omega), fun r H2 r0 r1 hB2 b2 => ?_⟩
    have hi : r.toNat < xs.length := by omega
    have hx : atI xs r = some xs[r.toNat] := at_of (j := r.toNat) (by omega) (List.getElem?_eq_getElem hi)
    exact ⟨t, xs, r, xs[r.toNat], rfl, rfl, b2.seq nt ht, hx, q r.toNat _ H2 (List.getElem?_eq_getElem hi) hB2 b2⟩
def sp_end (K : PySem.W.Frag) : Sp := fun vs H Q _ => ∃ (b l : Addr) (d : Int), vs = [.ref b, .int d] ∧ Bag H b l ∧ 0 ≤ d ∧ d ≤ 1000 ∧
  ∀ v a i H', EndAt K H' v a i → 0 ≤ i → i ≤ d → Bag H' b l → But b H H' → Q v H'
theorem ok__law_end (T : Txt K mg w) : FnOk P w K mg base CX0 3 T.a__law_end T.d__law_end P__law_end (sp_end K) := by
  have G__law_pull := ok__law_pull (P := P) (w := w) (base := base) T
  have G__law_of := ok__law_of (P := P) (w := w) (base := base) T
  refine T.F__law_end.ok sc__law_end (fun vs H Q E h => ?_) (fun cdv A outer s H vs Q E hr h => ?_)
  · obtain ⟨b, l, t, rfl, _⟩ := h
    rfl
  · obtain ⟨b, l, d, rfl, hB, d0, d1, q⟩ := h
    refine ⟨_, (pss_one (ps_ret (pe_tup (pa_cons (pe_call G__law_of (hr.mono (by decide)) (by rfl) T.g__law_of T.F__law_of.kp T.b__law_of .nil pass0 (pa_cons (pv 0) (pa_cons (pe_lst (pa_cons pe_str (pa_cons pe_str pa_nil))) pa_nil))) (pa_cons (pe_call G__law_pull (hr.mono (by decide)) (by rfl) T.g__law_pull T.F__law_pull.kp T.b__law_pull .nil pass0 (pa_cons (pv 0) (pa_cons (pe_op op_add (pv 1) pe_int) pa_nil))) pa_nil))))), ?_⟩
    walk_at "rds"
    intro t nt
    have s1 := same_new (o := .lst [V.str "top", V.str "bottom"]) nt
    refine ⟨b, l, t, [V.str (endS true), V.str (endS false)], rfl, hB.same s1, .inl (.inl upd_same), hB.ne nt, by simp, by simp, fun i x H2 hx hB2 b2 => ?_⟩
    have hx' : ∃ a, x = V.str (endS a) := by
      match i, hx with
      | 0, hx => exact ⟨true, (Option.some.inj hx).symm⟩
      | 1, hx => exact ⟨false, (Option.some.inj hx).symm⟩
      | n + 2, hx => cases hx
    obtain ⟨a, rfl⟩ := hx'
    walk_at "rds"
    refine ⟨b, l, _, rfl, hB2, by show (0 : Int) < d + 1; omega, Fit.of (by show (0 : Int) ≤ d + 1; omega) (by show d + 1 < 1000000000000000000000000000000000000000000; omega), fun r H3 r0 r1 hB3 b3 => ?_⟩
    have r1 : r < d + 1 := r1
    walk_at "rds"
    intro p np
    exact q _ a r _ ⟨p, rfl, .inl (.inl upd_same)⟩ r0 (by omega) (hB3.same (same_new np)) ((((Same.but s1).trans b2).trans b3).new np)
def sp_move (K : PySem.W.Frag) : Sp := fun vs H Q _ => ∃ (b l : Addr) (d : Int), vs = [.ref b, .int d] ∧ Bag H b l ∧ 0 ≤ d ∧ d ≤ 399 ∧
  ∀ v m H', MvAt K H' v m → m.within d → Bag H' b l → But b H H' → Q v H'
theorem ok__law_move (T : Txt K mg w) : FnOk P w K mg base CX0 4 T.a__law_move T.d__law_move P__law_move (sp_move K) := by
  have G__law_pull := ok__law_pull (P := P) (w := w) (base := base) T
  have G__law_of := ok__law_of (P := P) (w := w) (base := base) T
  have G__law_end := ok__law_end (P := P) (w := w) (base := base) T
  refine T.F__law_move.ok sc__law_move (fun vs H Q E h => ?_) (fun cdv A outer s H vs Q E hr h => ?_)
  · obtain ⟨b, l, t, rfl, _⟩ := h
    rfl
  · obtain ⟨b, l, d, rfl, hB, d0, d1, q⟩ := h
    refine ⟨_, (pss_cons (ps_set (i := 2) sc__law_move.nd rfl (Or.inl rfl) (pe_call G__law_pull (hr.mono (by decide)) (by rfl) T.g__law_pull T.F__law_pull.kp T.b__law_pull .nil pass0 (pa_cons (pv 0) (pa_cons pe_int pa_nil))))
  (pss_cons (ps_if (pt_cmpR op_lt (pv 2) pe_int (nomark _))
  (pss_one (ps_ret (pe_tup (pa_cons (pe_ix (k_ixL (K := K)) (pe_lst (pa_cons pe_str (pa_cons pe_str (pa_cons pe_str pa_nil)))) (pv 2) (fun _ _ => rfl)) (pa_cons (pe_call G__law_end (hr.mono (by decide)) (by rfl) T.g__law_end T.F__law_end.kp T.b__law_end .nil pass0 (pa_cons (pv 0) (pa_cons (pv 1) pa_nil))) (pa_cons (pe_call G__law_end (hr.mono (by decide)) (by rfl) T.g__law_end T.F__law_end.kp T.b__law_end .nil pass0 (pa_cons (pv 0) (pa_cons (pv 1) pa_nil))) pa_nil)))))) pss_nil)
  (pss_cons (ps_if (pt_cmpR op_lt (pv 2) pe_int (nomark _))
  (pss_one (ps_ret (pe_tup (pa_cons pe_str (pa_cons (pe_op op_sub (pe_op op_sub (pe_call G__law_pull (hr.mono (by decide)) (by rfl) T.g__law_pull T.F__law_pull.kp T.b__law_pull .nil pass0 (pa_cons (pv 0) (pa_cons (pe_op op_add (pe_op op_mulW pe_int (pv 1)) pe_int) pa_nil))) (pv 1)) pe_int) pa_nil))))) pss_nil)
  (pss_cons (ps_if (pt_cmpR op_eq (pv 2) pe_int (nomark _))
  (pss_one (ps_ret (pe_tup (pa_cons pe_str (pa_cons (pe_call G__law_of (hr.mono (by decide)) (by rfl) T.g__law_of T.F__law_of.kp T.b__law_of .nil pass0 (pa_cons (pv 0) (pa_cons (pe_lst (pa_cons pe_str (pa_cons pe_str pa_nil))) pa_nil))) (pa_cons (pe_call G__law_pull (hr.mono (by decide)) (by rfl) T.g__law_pull T.F__law_pull.kp T.b__law_pull .nil pass0 (pa_cons (pv 0) (pa_cons (pe_op op_add (pv 1) pe_int) pa_nil))) pa_nil)))))) pss_nil)
  (pss_one (ps_ret (pe_ifExp (pt_cmpR op_eq (pv 2) pe_int (nomark _)) (pe_tup (pa_cons pe_str pa_nil)) (pe_tup (pa_cons pe_str (pa_cons (pe_call G__law_end (hr.mono (by decide)) (by rfl) T.g__law_end T.F__law_end.kp T.b__law_end .nil pass0 (pa_cons (pv 0) (pa_cons (pv 1) pa_nil))) pa_nil)))))))))), ?_⟩
    walk_at "rds"
    walk_at "pull"
    intro r H2 r0 r1 hB2 b2
    walk_at "rds"
    refine iteD (fun h1 => ?_) (fun h1 => ?_)
    · walk_at "rds"
      intro t nt
      have s3 := same_new (o := .lst [V.str "swap", V.str "carry", V.str "carry"]) nt
      have hB3 := hB2.same s3
      have h3 : SqL K (upd H2 t (.lst [V.str "swap", V.str "carry", V.str "carry"])) t [V.str "swap", V.str "carry", V.str "carry"] := .inl (.inl upd_same)
      generalize upd H2 t _ = H3 at s3 hB3 h3 ⊢
      have hz : ∃ z, atI [V.str "swap", V.str "carry", V.str "carry"] r = some (.str z) ∧ (z = ("swap" : Str) ∨ z = ("carry" : Str)) := by
        have e : r = 0 ∨ r = 1 ∨ r = 2 := by omega
        rcases e with rfl | rfl | rfl
        · exact ⟨_, rfl, .inl rfl⟩
        · exact ⟨_, rfl, .inr rfl⟩
        · exact ⟨_, rfl, .inr rfl⟩
      obtain ⟨z, hz, hz2⟩ := hz
      walk_at "rds"
      refine ⟨b, l, d, rfl, hB3, d0, by omega, fun v1 a1 i1 H4 he1 i10 i11 hB4 b4 => ?_⟩
      walk_at "rds"
      refine ⟨b, l, d, rfl, hB4, d0, by omega, fun v2 a2 i2 H5 he2 i20 i21 hB5 b5 => ?_⟩
      walk_at "rds"
      intro p np
      have s6 := same_new (o := .tup [V.str z, v1, v2]) np
      have bb := (((b2.trans (Same.but s3)).trans b4).trans b5).new (o := .tup [V.str z, v1, v2]) np
      rcases hz2 with rfl | rfl
      · exact q _ (.swap a1 i1 a2 i2) _ ⟨p, _, rfl, .inl (.inl upd_same), v1, v2, rfl, (he1.but hB4 b5).same s6, he2.same s6⟩ ⟨i10, i11, i20, i21⟩ (hB5.same s6) bb
      · exact q _ (.carry a1 i1 a2 i2) _ ⟨p, _, rfl, .inl (.inl upd_same), v1, v2, rfl, (he1.but hB4 b5).same s6, he2.same s6⟩ ⟨i10, i11, i20, i21⟩ (hB5.same s6) bb
    · walk_at "rds"
      refine iteD (fun h2 => ?_) (fun h2 => ?_)
      · walk_at "rds"
        refine ⟨b, l, _, rfl, hB2, by show (0 : Int) < 2 * d + 3; omega, Fit.of (by show (0 : Int) ≤ 2 * d + 3; omega) (by show 2 * d + 3 < 1000000000000000000000000000000000000000000; omega), fun r2 H3 r20 r21 hB3 b3 => ?_⟩
        have r21 : r2 < 2 * d + 3 := r21
        walk_at "rds"
        intro p np
        exact q _ (.cut (r2 - d - 1)) _ ⟨p, _, rfl, .inl (.inl upd_same), rfl⟩ ⟨by omega, by omega⟩ (hB3.same (same_new np)) ((b2.trans b3).new np)
      · walk_at "rds"
        refine iteE (fun h3 => ?_) (fun h3 => ?_)
        · walk_at "rds"
          intro t nt
          have s3 := same_new (o := .lst [V.str "top", V.str "bottom"]) nt
          refine ⟨b, l, t, [V.str (endS true), V.str (endS false)], rfl, hB2.same s3, .inl (.inl upd_same), hB2.ne nt, by simp, by simp, fun i x H4 hx hB4 b4 => ?_⟩
          have hx' : ∃ a, x = V.str (endS a) := by
            match i, hx with
            | 0, hx => exact ⟨true, (Option.some.inj hx).symm⟩
            | 1, hx => exact ⟨false, (Option.some.inj hx).symm⟩
            | n + 2, hx => cases hx
          obtain ⟨a, rfl⟩ := hx'
          walk_at "rds"
          refine ⟨b, l, _, rfl, hB4, by show (0 : Int) < d + 2; omega, Fit.of (by show (0 : Int) ≤ d + 2; omega) (by show d + 2 < 1000000000000000000000000000000000000000000; omega), fun r2 H5 r20 r21 hB5 b5 => ?_⟩
          have r21 : r2 < d + 2 := r21
          walk_at "rds"
          intro p np
          exact q _ (.turn a r2) _ ⟨p, _, rfl, .inl (.inl upd_same), rfl⟩ ⟨r20, by omega⟩ (hB5.same (same_new np)) ((((b2.trans (Same.but s3)).trans b4).trans b5).new np)
        · walk_at "rds"
          refine iteE (fun h4 => ?_) (fun h4 => ?_)
          · walk_at "rds"
            intro p np
            exact q _ .over _ ⟨p, _, rfl, .inl (.inl upd_same), rfl⟩ True.intro (hB2.same (same_new np)) (b2.new np)
          · walk_at "rds"
            refine ⟨b, l, d, rfl, hB2, d0, by omega, fun v1 a1 i1 H4 he1 i10 i11 hB4 b4 => ?_⟩
            walk_at "rds"
            intro p np
            have s5 := same_new (o := .tup [V.str "face", v1]) np
            exact q _ (.face a1 i1) _ ⟨p, _, rfl, .inl (.inl upd_same), v1, rfl, he1.same s5⟩ ⟨i10, i11⟩ (hB4.same s5) ((b2.trans b4).new np)
end
/-! ### the law's own reckoning of moves -/
section
variable {P : Program} {w : World} {K : PySem.W.Frag} {mg : Str → Option Value} {base : Heap}
theorem ok__law_depth (T : Txt K mg w) : FnOk P w K mg base CX0 6 T.a__law_depth T.d__law_depth P__law_depth (fun vs H Q _ => ∃ (v : V) (m : Mv), vs = [v] ∧ MvAt K H v m ∧ ∀ H', Same H H' → Q (.int m.reach) H') := by
  refine T.F__law_depth.ok sc__law_depth (fun vs H Q E h => ?_) (fun cdv A outer s H vs Q E hr h => ?_)
  · obtain ⟨v, m, rfl, _⟩ := h
    rfl
  · obtain ⟨v, m, rfl, ⟨p, xs, rfl, hp, hx⟩, q⟩ := h
    refine ⟨_, (pss_cons (ps_if (pt_cmpR op_eq (pe_ix (k_ixT (K := K)) (pv 0) pe_int (fun _ _ => rfl)) pe_str (nomark _))
  (pss_one (ps_ret pe_int)) pss_nil)
  (pss_cons (ps_if (pt_cmpR op_eq (pe_ix (k_ixT (K := K)) (pv 0) pe_int (fun _ _ => rfl)) pe_str (nomark _))
  (pss_one (ps_ret (pe_callB call_abs (by rfl) T.m_abs boot_abs (pa_cons (pe_ix (k_ixT (K := K)) (pv 0) pe_int (fun _ _ => rfl)) pa_nil)))) pss_nil)
  (pss_cons (ps_if (pt_cmpR op_eq (pe_ix (k_ixT (K := K)) (pv 0) pe_int (fun _ _ => rfl)) pe_str (nomark _))
  (pss_one (ps_ret (pe_ix (k_ixT (K := K)) (pv 0) pe_int (fun _ _ => rfl)))) pss_nil)
  (pss_one (ps_ret (pe_op op_add (pe_callB (k_max (K := K)) (by rfl) T.m_max boot_max (pa_cons (pe_lc (own := [("_law_spot_here", 1)]) rfl sc__law_depth.nd (k_piT (K := K) (pe_slice (k_slT (K := K)) (pv 0) (po_some pe_int) po_none)) (blkOk_by (N := N__law_depth) (sc := defScope s__law_depth) (by decide +kernel)) (fun _ _ _ _ _ => (pg_name (i := 1) sc__law_depth.nd rfl (Or.inl rfl))) (fun _ _ _ _ _ => pts_nil) (fun _ _ _ _ _ => (pe_ix (k_ixT (K := K)) (pv 1) pe_int (fun _ _ => rfl)))) pa_nil)) pe_int)))))), ?_⟩
    rcases mv_kinds hx with ⟨rfl, rfl⟩ | ⟨k, rfl, rfl⟩ | ⟨a, k, rfl, rfl⟩ | ⟨items, ds, rfl, hl, h0, h2, z1, z2, z3, he, hmx⟩
    · walk_at "strs"
      exact q _ (Same.refl _)
    · walk_at "strs"
      exact q _ (Same.refl _)
    · walk_at "strs"
      exact q _ (Same.refl _)
    · walk_at "strs"
      refine ⟨p, _, rfl, hp, ?_, fun c nc => ?_⟩
      · rintro ⟨e1, _⟩
        have e2 := HT.sIx_nat (V.str m.nm :: items).length 0 1
        rw [show ((1 : Nat) : Int) = 1 from rfl, e1, List.length_cons] at e2
        omega
      rw [cut_tail]
      have s3 : Same H (upd H c (.tup items)) := same_new nc
      have hc : SqT K (upd H c (.tup items)) c items := .inl (.inl upd_same)
      refine ⟨c, rfl, ⟨_, hc⟩, fun D hD => ?_⟩
      refine lc_by (n := items.length) (fun i H' => Same (upd H c (.tup items)) H' ∧ H' D = some (.lst ((ds.take i).map V.int))) ⟨same_new hD, upd_same⟩
        (fun i H' hi hw => ⟨items, items[i], Same.tup hw.1 hc, List.getElem?_eq_getElem hi⟩) (fun H' hw => ⟨items, Same.tup hw.1 hc, Nat.le_refl _⟩) (fun i H' x H3 hi hw hy => ?_) (fun H' hw => ?_)
      · obtain ⟨rfl, f1⟩ := hy
        have gx := f1 items (Same.tup hw.1 hc)
        have gd : ds[i]? = some (ds[i]'(hl ▸ hi)) := List.getElem?_eq_getElem (hl ▸ hi)
        obtain ⟨a, px, rfl, hpx⟩ := he i x _ gx gd
        refine ⟨rfl, ?_⟩
        refine ⟨_, rfl, px, _, 1, _, rfl, rfl, Same.tup (s3.trans hw.1) hpx, rfl, _, hw.2, ?_, Same.mut hw.1 hD, ?_⟩
        · rw [List.length_map, List.length_take]
          exact lt_line (by omega)
        · rw [upd_same, List.take_add_one, gd, List.map_append]
          rfl
      · have hd : ds.take items.length = ds := List.take_of_length_le (by omega)
        rw [hd] at hw
        refine ⟨D, ds, rfl, .inl (.inl hw.2), h0, fun z hz hy => ?_⟩
        have e := hmx z hz hy
        refine ⟨_, _, rfl, rfl, ?_⟩
        show Q (V.int (z + 1)) H'
        rw [e]
        exact q _ (s3.trans hw.1)
def sp_spot (K : PySem.W.Frag) : Sp := fun vs H Q _ => ∃ (v : V) (n : Int) (a : Bool) (i : Int), vs = [v, .int n] ∧ EndAt K H v a i ∧ Q (.int (plc a i n)) H
theorem ok__law_spot (T : Txt K mg w) : FnOk P w K mg base CX0 1 T.a__law_spot T.d__law_spot P__law_spot (sp_spot K) := by
  refine T.F__law_spot.ok sc__law_spot (fun vs H Q E h => ?_) (fun cdv A outer s H vs Q E hr h => ?_)
  · obtain ⟨v, n, a, i, rfl, _⟩ := h
    rfl
  · obtain ⟨v, n, a, i, rfl, ⟨p, rfl, hp⟩, q⟩ := h
    refine ⟨_, (pss_one (ps_ret (pe_ifExp (pt_cmpR op_eq (pe_ix (k_ixT (K := K)) (pv 0) pe_int (fun _ _ => rfl)) pe_str (nomark _)) (pe_ix (k_ixT (K := K)) (pv 0) pe_int (fun _ _ => rfl)) (pe_op op_sub (pe_op op_sub (pv 1) pe_int) (pe_ix (k_ixT (K := K)) (pv 0) pe_int (fun _ _ => rfl)))))), ?_⟩
    cases a
    · walk_at "strs"
      exact q
    · walk_at "strs"
      exact q
end
/-! ### the law's own reckoning of moves -/
section
variable {P : Program} {w : World} {K : PySem.W.Frag} {mg : Str → Option Value} {base : Heap}
theorem turn_eq {a : Bool} {k n p : Int} (h : ¬ n < k) (hk : 0 ≤ k) (p0 : 0 ≤ p) (p1 : p < n) :
    (Mv.turn a k).image n p = if (if a = true then p else n - 1 - p) < k then (plc a (k - 1 - (if a = true then p else n - 1 - p)) n, true) else (p, false) := by
  have e : (Mv.turn a k).image n p = (Mv.turn a k).img n p := if_neg h
  rw [e]
  cases a
  · by_cases h1 : n - k ≤ p
    · rw [img_turn_in (f := n - k) rfl h1 (by omega), if_pos (by show n - 1 - p < k; omega)]
      show (_, _) = ((n - 1 - (k - 1 - (n - 1 - p)) : Int), true)
      congr 1
      omega
    · rw [img_turn_out (f := n - k) rfl (fun h => h1 h.1), if_neg (by show ¬ n - 1 - p < k; omega)]
  · by_cases h1 : p < k
    · rw [img_turn_in (f := 0) rfl p0 (by omega), if_pos (by show p < k; exact h1)]
      show (_, _) = ((k - 1 - p : Int), true)
      congr 1
      omega
    · rw [img_turn_out (f := 0) rfl (fun h => h1 (by omega)), if_neg (by show ¬ p < k; exact h1)]
def sp_goes (K : PySem.W.Frag) : Sp := fun vs H Q _ => ∃ (v : V) (m : Mv) (n p : Int), vs = [v, .int n, .int p] ∧ MvAt K H v m ∧ m.ok ∧ 0 ≤ p ∧ p < n ∧
  ∀ t H', H t = none → Same H H' → H' t = some (.tup [.int (m.image n p).1, .bl (m.image n p).2]) → Q (.ref t) H'
theorem ok__law_goes (T : Txt K mg w) : FnOk P w K mg base CX0 7 T.a__law_goes T.d__law_goes P__law_goes (sp_goes K) := by
  have G__law_depth := ok__law_depth (P := P) (w := w) (base := base) T
  have G__law_spot := ok__law_spot (P := P) (w := w) (base := base) T
  refine T.F__law_goes.ok sc__law_goes (fun vs H Q E h => ?_) (fun cdv A outer s H vs Q E hr h => ?_)
  · obtain ⟨v, m, n, p, rfl, _⟩ := h
    rfl
  · obtain ⟨v, m, n, p, rfl, hm, hk, p0, p1, q⟩ := h
    refine ⟨_, (pss_cons (ps_if (pt_cmpR op_gt (pe_call G__law_depth (hr.mono (by decide)) (by rfl) T.g__law_depth T.F__law_depth.kp T.b__law_depth .nil pass0 (pa_cons (pv 0) pa_nil)) (pv 1) (nomark _))
  (pss_one (ps_ret (pe_tup (pa_cons (pv 2) (pa_cons pe_bl pa_nil))))) pss_nil)
  (pss_cons (ps_if (pt_cmpR op_eq (pe_ix (k_ixT (K := K)) (pv 0) pe_int (fun _ _ => rfl)) pe_str (nomark _))
  (pss_one (ps_ret (pe_tup (pa_cons (pe_op op_sub (pe_op op_sub (pv 1) pe_int) (pv 2)) (pa_cons pe_bl pa_nil))))) pss_nil)
  (pss_cons (ps_if (pt_cmpR op_eq (pe_ix (k_ixT (K := K)) (pv 0) pe_int (fun _ _ => rfl)) pe_str (nomark _))
  (pss_one (ps_ret (pe_tup (pa_cons (pe_op op_modN (pe_op op_sub (pv 2) (pe_ix (k_ixT (K := K)) (pv 0) pe_int (fun _ _ => rfl))) (pv 1)) (pa_cons pe_bl pa_nil))))) pss_nil)
  (pss_cons (ps_if (pt_cmpR op_eq (pe_ix (k_ixT (K := K)) (pv 0) pe_int (fun _ _ => rfl)) pe_str (nomark _))
  (pss_cons (ps_set (i := 3) sc__law_goes.nd rfl (Or.inl rfl) (pe_ifExp (pt_cmpR op_eq (pe_ix (k_ixT (K := K)) (pv 0) pe_int (fun _ _ => rfl)) pe_str (nomark _)) (pv 2) (pe_op op_sub (pe_op op_sub (pv 1) pe_int) (pv 2))))
  (pss_one (ps_ret (pe_ifExp (pt_cmpR op_lt (pv 3) (pe_ix (k_ixT (K := K)) (pv 0) pe_int (fun _ _ => rfl)) (nomark _)) (pe_tup (pa_cons (pe_call G__law_spot (hr.mono (by decide)) (by rfl) T.g__law_spot T.F__law_spot.kp T.b__law_spot .nil pass0 (pa_cons (pe_tup (pa_cons (pe_ix (k_ixT (K := K)) (pv 0) pe_int (fun _ _ => rfl)) (pa_cons (pe_op op_sub (pe_op op_sub (pe_ix (k_ixT (K := K)) (pv 0) pe_int (fun _ _ => rfl)) pe_int) (pv 3)) pa_nil))) (pa_cons (pv 1) pa_nil))) (pa_cons pe_bl pa_nil))) (pe_tup (pa_cons (pv 2) (pa_cons pe_bl pa_nil))))))) pss_nil)
  (pss_cons (ps_set (i := 4) sc__law_goes.nd rfl (Or.inl rfl) (pe_call G__law_spot (hr.mono (by decide)) (by rfl) T.g__law_spot T.F__law_spot.kp T.b__law_spot .nil pass0 (pa_cons (pe_ix (k_ixT (K := K)) (pv 0) pe_int (fun _ _ => rfl)) (pa_cons (pv 1) pa_nil))))
  (pss_cons (ps_if (pt_cmpR op_eq (pe_ix (k_ixT (K := K)) (pv 0) pe_int (fun _ _ => rfl)) pe_str (nomark _))
  (pss_one (ps_ret (pe_tup (pa_cons (pv 2) (pa_cons (pe_cmpR op_eq (pv 2) (pv 4) (nomark _)) pa_nil))))) pss_nil)
  (pss_cons (ps_set (i := 5) sc__law_goes.nd rfl (Or.inl rfl) (pe_call G__law_spot (hr.mono (by decide)) (by rfl) T.g__law_spot T.F__law_spot.kp T.b__law_spot .nil pass0 (pa_cons (pe_ix (k_ixT (K := K)) (pv 0) pe_int (fun _ _ => rfl)) (pa_cons (pv 1) pa_nil))))
  (pss_cons (ps_if (PW.pt (pw_or (pt_cmpR op_eq (pv 2) (pv 4) (nomark _)) (pw_or1 (PW.pt (pw_and (pt_cmpR op_eq (pe_ix (k_ixT (K := K)) (pv 0) pe_int (fun _ _ => rfl)) pe_str (nomark _)) (pw_and1 (pt_cmpR op_eq (pv 2) (pv 5) (nomark _))))))))
  (pss_one (ps_ret (pe_tup (pa_cons (pe_ifExp (pt_cmpR op_eq (pv 2) (pv 4) (nomark _)) (pv 5) (pv 4)) (pa_cons pe_bl pa_nil))))) pss_nil)
  (pss_cons (ps_if (pt_cmpR op_eq (pe_ix (k_ixT (K := K)) (pv 0) pe_int (fun _ _ => rfl)) pe_str (nomark _))
  (pss_one (ps_ret (pe_tup (pa_cons (pv 2) (pa_cons pe_bl pa_nil))))) pss_nil)
  (pss_one (ps_ret (pe_tup (pa_cons (pe_op op_add (pe_op op_sub (pv 2) (pe_callTy call_int1 (by rfl) T.m_int boot_int (pa_cons (pe_chain op_lt op_le (pv 4) (pv 2) (pv 5)) pa_nil))) (pe_callTy call_int1 (by rfl) T.m_int boot_int (pa_cons (pe_chain op_le op_lt (pv 5) (pv 2) (pv 4)) pa_nil))) (pa_cons pe_bl pa_nil)))))))))))))), ?_⟩
    walk_at "strs"
    refine ⟨_, _, rfl, hm, fun H2 s2 => ?_⟩
    walk_at "strs"
    refine iteD (fun h1 => ?_) (fun h1 => ?_)
    · walk_at "strs"
      intro t nt
      exact q t _ (s2.free nt) (s2.trans (same_new nt)) (by rw [upd_same]; unfold Mv.image; rw [if_pos h1])
    have q' : ∀ t H3, H2 t = none → Same H2 H3 → H3 t = some (.tup [.int (m.img n p).1, .bl (m.img n p).2]) → Q (.ref t) H3 := fun t H3 nt s3 ht => q t H3 (s2.free nt) (s2.trans s3) (by rw [ht]; unfold Mv.image; rw [if_neg h1])
    obtain ⟨a, xs, rfl, ha, hx⟩ := hm.same s2
    have n0 : n ≠ 0 := by omega
    cases m with
    | over =>
      obtain rfl := hx
      walk_at "strs"
      intro t nt
      exact q' t _ nt (same_new nt) upd_same
    | cut k =>
      obtain rfl := hx
      walk_at "strs"
      intro t nt
      exact q' t _ nt (same_new nt) upd_same
    | turn b k =>
      obtain rfl := hx
      have hk0 : 0 ≤ k := hk.1
      have h1' : ¬ n < k := h1
      have et := turn_eq (a := b) h1' hk0 p0 p1
      cases b
      · walk_at "strs"
        refine iteD (fun h2 => ?_) (fun h2 => ?_)
        · walk_at "strs"
          intro t1 nt1
          walk_at "strs"
          refine ⟨_, _, false, _, rfl, ⟨t1, rfl, .inl (.inl upd_same)⟩, ?_⟩
          walk_at "strs"
          intro t nt
          refine q t _ (((s2.trans (same_new nt1)).free nt)) ((s2.trans (same_new nt1)).trans (same_new nt)) ?_
          rw [upd_same, et, if_pos (show (if false = true then p else n - 1 - p) < k from h2)]
          rfl
        · walk_at "strs"
          intro t nt
          refine q t _ (s2.free nt) (s2.trans (same_new nt)) ?_
          rw [upd_same, et, if_neg (show ¬ (if false = true then p else n - 1 - p) < k from h2)]
      · walk_at "strs"
        refine iteD (fun h2 => ?_) (fun h2 => ?_)
        · walk_at "strs"
          intro t1 nt1
          walk_at "strs"
          refine ⟨_, _, true, _, rfl, ⟨t1, rfl, .inl (.inl upd_same)⟩, ?_⟩
          walk_at "strs"
          intro t nt
          refine q t _ (((s2.trans (same_new nt1)).free nt)) ((s2.trans (same_new nt1)).trans (same_new nt)) ?_
          rw [upd_same, et, if_pos (show (if true = true then p else n - 1 - p) < k from h2)]
          rfl
        · walk_at "strs"
          intro t nt
          refine q t _ (s2.free nt) (s2.trans (same_new nt)) ?_
          rw [upd_same, et, if_neg (show ¬ (if true = true then p else n - 1 - p) < k from h2)]
    | face b i =>
      obtain ⟨x, rfl, px, rfl, hpx⟩ := hx
      walk_at "strs"
      refine ⟨_, _, _, _, rfl, ⟨px, rfl, hpx⟩, ?_⟩
      walk_at "strs"
      intro t nt
      exact q' t _ nt (same_new nt) (by rw [upd_same, dI]; rfl)
    | swap b i c j =>
      obtain ⟨x, y, rfl, ⟨px, rfl, hpx⟩, ⟨py, rfl, hpy⟩⟩ := hx
      walk_at "strs"
      refine ⟨_, _, _, _, rfl, ⟨px, rfl, hpx⟩, ?_⟩
      walk_at "strs"
      refine ⟨_, _, _, _, rfl, ⟨py, rfl, hpy⟩, ?_⟩
      walk_at "strs"
      refine iteE (fun h2 => ?_) (fun h2 => ?_)
      · walk_at "strs"
        refine iteE (fun _ => ?_) (fun e => absurd h2 e)
        walk_at "strs"
        intro t nt
        exact q' t _ nt (same_new nt) (by rw [upd_same, img_swap, if_pos h2])
      · walk_at "strs"
        refine iteE (fun h3 => ?_) (fun h3 => ?_)
        · walk_at "strs"
          refine iteE (fun e => absurd e h2) (fun _ => ?_)
          walk_at "strs"
          intro t nt
          exact q' t _ nt (same_new nt) (by rw [upd_same, img_swap, if_neg h2, if_pos h3])
        · walk_at "strs"
          intro t nt
          exact q' t _ nt (same_new nt) (by rw [upd_same, img_swap, if_neg h2, if_neg h3])
    | carry b i c j =>
      obtain ⟨x, y, rfl, ⟨px, rfl, hpx⟩, ⟨py, rfl, hpy⟩⟩ := hx
      walk_at "strs"
      refine ⟨_, _, _, _, rfl, ⟨px, rfl, hpx⟩, ?_⟩
      walk_at "strs"
      refine ⟨_, _, _, _, rfl, ⟨py, rfl, hpy⟩, ?_⟩
      walk_at "strs"
      refine iteE (fun h2 => ?_) (fun h2 => ?_)
      · walk_at "strs"
        refine iteE (fun _ => ?_) (fun e => absurd h2 e)
        walk_at "strs"
        intro t nt
        exact q' t _ nt (same_new nt) (by rw [upd_same, img_carry, if_pos h2])
      · have e1 : ∀ (A B : Int), (if decide (plc b i n < p) = true then (if decide (p ≤ plc c j n) = true then 1 else 0) else 0) = A → (if decide (plc c j n ≤ p) = true then (if decide (p < plc b i n) = true then 1 else 0) else 0) = B →
            (Mv.carry b i c j).img n p = (p - A + B, false) := by
          intro A B hA hB
          rw [img_carry, if_neg h2, ← hA, ← hB]
          by_cases h3 : plc b i n < p <;> by_cases h4 : p ≤ plc c j n <;> by_cases h5 : plc c j n ≤ p <;> by_cases h6 : p < plc b i n <;> first | (exfalso; omega) | (simp [h3, h4, h5, h6])
        walk_at "strs"
        refine iteD (fun h3 => ?_) (fun h3 => ?_)
        · walk_at "strs"
          refine iteD (fun h5 => ?_) (fun h5 => ?_)
          · walk_at "strs"
            intro t nt
            refine q' t _ nt (same_new nt) ?_
            rw [upd_same, e1 _ _ (if_pos (decide_eq_true h3)) (if_pos (decide_eq_true h5))]
          · walk_at "strs"
            intro t nt
            refine q' t _ nt (same_new nt) ?_
            rw [upd_same, e1 _ _ (if_pos (decide_eq_true h3)) (if_neg (by rw [decide_eq_false h5]; decide))]
            rfl
        · walk_at "strs"
          refine iteD (fun h5 => ?_) (fun h5 => ?_)
          · walk_at "strs"
            intro t nt
            refine q' t _ nt (same_new nt) ?_
            rw [upd_same, e1 _ _ (if_neg (by rw [decide_eq_false h3]; decide)) (if_pos (decide_eq_true h5))]
            rfl
          · walk_at "strs"
            intro t nt
            refine q' t _ nt (same_new nt) ?_
            rw [upd_same, e1 _ _ (if_neg (by rw [decide_eq_false h3]; decide)) (if_neg (by rw [decide_eq_false h5]; decide))]
            rfl
end
/-! ### dealing cards -/
def Mv.undo : Mv → Mv
  | .carry a i b j => .carry b j a i
  | .cut k => .cut (-k)
  | m => m
theorem undo_reach (m : Mv) : m.undo.reach = m.reach := by
  cases m with
  | carry a i b j => show max j i + 1 = max i j + 1; omega
  | cut k => show (if -k < 0 then - -k else -k) = if k < 0 then -k else k; split <;> split <;> omega
  | _ => rfl
theorem undo_ok {m : Mv} (h : m.ok) : m.undo.ok := by
  cases m with
  | carry a i b j => obtain ⟨h1, h2, h3, h4⟩ := h; exact ⟨h3, h4, h1, h2⟩
  | cut k => obtain ⟨h1, h2⟩ := h; exact ⟨by omega, by omega⟩
  | _ => exact h
theorem undo_undo (m : Mv) : m.undo.undo = m := by
  cases m with
  | cut k => show Mv.cut (- -k) = Mv.cut k; rw [Int.neg_neg]
  | _ => rfl
theorem plc_bd {a : Bool} {i n : Int} (h0 : 0 ≤ i) (h1 : i < n) : 0 ≤ plc a i n ∧ plc a i n < n := by
  unfold plc
  split <;> omega
theorem fmod_back {n p k : Int} (p0 : 0 ≤ p) (p1 : p < n) : ((p - k).fmod n - -k).fmod n = p := by
  rw [Int.fmod_eq_emod_of_nonneg _ (by omega), Int.fmod_eq_emod_of_nonneg _ (by omega), Int.sub_neg, Int.emod_add_emod, Int.sub_add_cancel]
  exact Int.emod_eq_of_lt p0 p1
def sw (x y p : Int) : Int × Bool := if p = x then (y, false) else if p = y then (x, false) else (p, false)
def cr (x y p : Int) : Int × Bool := if p = x then (y, false) else if x < p ∧ p ≤ y then (p - 1, false) else if y ≤ p ∧ p < x then (p + 1, false) else (p, false)
theorem sw_sw {x y n p : Int} (hx : 0 ≤ x ∧ x < n) (hy : 0 ≤ y ∧ y < n) (p0 : 0 ≤ p) (p1 : p < n) : 0 ≤ (sw x y p).1 ∧ (sw x y p).1 < n ∧ sw x y (sw x y p).1 = (p, (sw x y p).2) := by
  by_cases h1 : p = x
  · have e : sw x y p = (y, false) := if_pos h1
    rw [e]
    refine ⟨hy.1, hy.2, ?_⟩
    show sw x y y = (p, false)
    unfold sw
    by_cases h2 : y = x
    · rw [if_pos h2, h1, h2]
    · rw [if_neg h2, if_pos rfl, h1]
  · by_cases h2 : p = y
    · have e : sw x y p = (x, false) := by unfold sw; rw [if_neg h1, if_pos h2]
      rw [e]
      refine ⟨hx.1, hx.2, ?_⟩
      show sw x y x = (p, false)
      unfold sw
      rw [if_pos rfl, h2]
    · have e : sw x y p = (p, false) := by unfold sw; rw [if_neg h1, if_neg h2]
      rw [e]
      exact ⟨p0, p1, e⟩
theorem cr_cr {x y n p : Int} (hx : 0 ≤ x ∧ x < n) (hy : 0 ≤ y ∧ y < n) (p0 : 0 ≤ p) (p1 : p < n) : 0 ≤ (cr x y p).1 ∧ (cr x y p).1 < n ∧ cr y x (cr x y p).1 = (p, (cr x y p).2) := by
  by_cases h1 : p = x
  · have e : cr x y p = (y, false) := if_pos h1
    rw [e]
    refine ⟨hy.1, hy.2, ?_⟩
    show cr y x y = (p, false)
    unfold cr
    rw [if_pos rfl, h1]
  · by_cases h2 : x < p ∧ p ≤ y
    · have e : cr x y p = (p - 1, false) := by unfold cr; rw [if_neg h1, if_pos h2]
      rw [e]
      refine ⟨by show 0 ≤ p - 1; omega, by show p - 1 < n; omega, ?_⟩
      show cr y x (p - 1) = (p, false)
      unfold cr
      rw [if_neg (by omega), if_neg (by omega), if_pos (by omega), Int.sub_add_cancel]
    · by_cases h3 : y ≤ p ∧ p < x
      · have e : cr x y p = (p + 1, false) := by unfold cr; rw [if_neg h1, if_neg h2, if_pos h3]
        rw [e]
        refine ⟨by show 0 ≤ p + 1; omega, by show p + 1 < n; omega, ?_⟩
        show cr y x (p + 1) = (p, false)
        unfold cr
        rw [if_neg (by omega), if_pos (by omega), Int.add_sub_cancel]
      · have e : cr x y p = (p, false) := by unfold cr; rw [if_neg h1, if_neg h2, if_neg h3]
        rw [e]
        refine ⟨p0, p1, ?_⟩
        show cr y x p = (p, false)
        unfold cr
        by_cases h4 : p = y
        · omega
        · rw [if_neg h4, if_neg (by omega), if_neg (by omega)]
theorem image_undo {m : Mv} (hk : m.ok) {n p : Int} (p0 : 0 ≤ p) (p1 : p < n) : 0 ≤ (m.image n p).1 ∧ (m.image n p).1 < n ∧ m.undo.image n (m.image n p).1 = (p, (m.image n p).2) := by
  unfold Mv.image
  rw [undo_reach]
  by_cases hr : n < m.reach
  · simp only [if_pos hr]
    exact ⟨p0, p1, trivial⟩
  simp only [if_neg hr]
  cases m with
  | over =>
    refine ⟨?_, ?_, ?_⟩
    · show 0 ≤ n - 1 - p; omega
    · show n - 1 - p < n; omega
    · show (n - 1 - (n - 1 - p), true) = (p, true)
      congr 1
      omega
  | cut k =>
    have e1 : (Mv.cut k).img n p = ((p - k).fmod n, false) := rfl
    rw [e1]
    refine ⟨?_, ?_, ?_⟩
    · show 0 ≤ (p - k).fmod n
      rw [Int.fmod_eq_emod_of_nonneg _ (by omega)]
      exact Int.emod_nonneg _ (by omega)
    · show (p - k).fmod n < n
      rw [Int.fmod_eq_emod_of_nonneg _ (by omega)]
      exact Int.emod_lt_of_pos _ (by omega)
    · show (((p - k).fmod n - -k).fmod n, false) = (p, false)
      rw [fmod_back p0 p1]
  | turn a k =>
    have hk0 : 0 ≤ k := hk.1
    have hr' : ¬ n < k := hr
    show 0 ≤ ((Mv.turn a k).img n p).1 ∧ ((Mv.turn a k).img n p).1 < n ∧ (Mv.turn a k).img n ((Mv.turn a k).img n p).1 = (p, ((Mv.turn a k).img n p).2)
    obtain ⟨f, ef, f0, f1⟩ : ∃ f, (if a = true then 0 else n - k) = f ∧ 0 ≤ f ∧ f + k ≤ n := ⟨_, rfl, by split <;> omega, by split <;> omega⟩
    by_cases h : f ≤ p ∧ p < f + k
    · rw [img_turn_in ef h.1 h.2]
      refine ⟨by show 0 ≤ f + (f + k) - 1 - p; omega, by show f + (f + k) - 1 - p < n; omega, ?_⟩
      show (Mv.turn a k).img n (f + (f + k) - 1 - p) = (p, true)
      rw [img_turn_in ef (by omega) (by omega)]
      congr 1
      omega
    · rw [img_turn_out ef h]
      refine ⟨p0, p1, ?_⟩
      show (Mv.turn a k).img n p = (p, false)
      rw [img_turn_out ef h]
  | face a i => exact ⟨p0, p1, rfl⟩
  | swap a i b j =>
    obtain ⟨k1, k2, k3, k4⟩ := hk
    have hr' : ¬ n < max i j + 1 := hr
    exact sw_sw (plc_bd (a := a) (i := i) (n := n) k1 (by omega)) (plc_bd (a := b) (i := j) (n := n) k3 (by omega)) p0 p1
  | carry a i b j =>
    obtain ⟨k1, k2, k3, k4⟩ := hk
    have hr' : ¬ n < max i j + 1 := hr
    exact cr_cr (plc_bd (a := a) (i := i) (n := n) k1 (by omega)) (plc_bd (a := b) (i := j) (n := n) k3 (by omega)) p0 p1
/-! ### a list of cards, dealt -/
def flipL (L : List (Int × Bool)) : List (Int × Bool) := L.reverse.map fun c => (c.1, !c.2)
def dealtL (m : Mv) (L : List (Int × Bool)) : List (Int × Bool) :=
  if (L.length : Int) < m.reach then L else match m with
  | .over => flipL L
  | .cut k => L.drop (k.fmod L.length).toNat ++ L.take (k.fmod L.length).toNat
  | .turn a k => if a = true then flipL (L.take k.toNat) ++ L.drop k.toNat else L.take ((L.length : Int) - k).toNat ++ flipL (L.drop ((L.length : Int) - k).toNat)
  | .face a i => let o := (plc a i L.length).toNat
    L.set o ((L.getD o (0, false)).1, !(L.getD o (0, false)).2)
  | .swap a i b j => let o := (plc a i L.length).toNat
    let u := (plc b j L.length).toNat
    (L.set o (L.getD u (0, false))).set u (L.getD o (0, false))
  | .carry a i b j => let o := (plc a i L.length).toNat
    let u := (plc b j L.length).toNat
    (L.eraseIdx o).take u ++ [L.getD o (0, false)] ++ (L.eraseIdx o).drop u
theorem flipL_len (L : List (Int × Bool)) : (flipL L).length = L.length := by unfold flipL; rw [List.length_map, List.length_reverse]
theorem flipL_at {L : List (Int × Bool)} {i : Nat} {c : Int × Bool} (h : L[i]? = some c) : (flipL L)[L.length - 1 - i]? = some (c.1, !c.2) := by
  have hi : i < L.length := (List.getElem?_eq_some_iff.mp h).1
  unfold flipL
  rw [List.getElem?_map, List.getElem?_reverse (by omega), show L.length - 1 - (L.length - 1 - i) = i by omega, h]
  rfl
theorem deal_at {m : Mv} (hk : m.ok) {L : List (Int × Bool)} {i : Nat} {c : Int × Bool} (h : L[i]? = some c) :
    (dealtL m L)[((m.image L.length i).1).toNat]? = some (c.1, c.2 != (m.image L.length i).2) := by
  have hi : i < L.length := (List.getElem?_eq_some_iff.mp h).1
  have bf : ∀ b : Bool, (b != false) = b := fun b => by cases b <;> rfl
  have bt : ∀ b : Bool, (b != true) = !b := fun b => by cases b <;> rfl
  unfold Mv.image dealtL
  by_cases hr : (L.length : Int) < m.reach
  · simp only [if_pos hr]
    rw [bf, Int.toNat_natCast]
    exact h
  simp only [if_neg hr]
  cases m with
  | over =>
    show (flipL L)[((L.length : Int) - 1 - i).toNat]? = some (c.1, c.2 != true)
    rw [bt, show ((L.length : Int) - 1 - i).toNat = L.length - 1 - i by omega]
    exact flipL_at h
  | cut k =>
    show (L.drop (k.fmod L.length).toNat ++ L.take (k.fmod L.length).toNat)[(((i : Int) - k).fmod L.length).toNat]? = some (c.1, c.2 != false)
    rw [bf]
    have e0 : k.fmod L.length = k % (L.length : Int) := Int.fmod_eq_emod_of_nonneg _ (by omega)
    have e1 : ((i : Int) - k).fmod L.length = ((i : Int) - k % (L.length : Int)) % (L.length : Int) := by
      rw [Int.fmod_eq_emod_of_nonneg _ (by omega), Int.sub_emod, Int.sub_emod (i : Int) (k % (L.length : Int)), Int.emod_emod]
    rw [e0, e1]
    have b0 := Int.emod_nonneg k (show (L.length : Int) ≠ 0 by omega)
    have b1 := Int.emod_lt_of_pos k (show 0 < (L.length : Int) by omega)
    generalize k % (L.length : Int) = a at b0 b1 ⊢
    by_cases h1 : a ≤ i
    · have e2 : ((i : Int) - a) % (L.length : Int) = (i : Int) - a := Int.emod_eq_of_lt (by omega) (by omega)
      rw [e2, List.getElem?_append_left (by rw [List.length_drop]; omega), List.getElem?_drop, show a.toNat + ((i : Int) - a).toNat = i by omega]
      exact h
    · have e2 : ((i : Int) - a) % (L.length : Int) = (i : Int) - a + L.length := by
        rw [← Int.add_emod_right]
        exact Int.emod_eq_of_lt (by omega) (by omega)
      rw [e2, List.getElem?_append_right (by rw [List.length_drop]; omega), List.length_drop, List.getElem?_take_of_lt (by omega), show ((i : Int) - a + L.length).toNat - (L.length - a.toNat) = i by omega]
      exact h
  | turn a k =>
    have hk0 : 0 ≤ k := hk.1
    have hr' : ¬ (L.length : Int) < k := hr
    show (if a = true then flipL (L.take k.toNat) ++ L.drop k.toNat else L.take ((L.length : Int) - k).toNat ++ flipL (L.drop ((L.length : Int) - k).toNat))[(((Mv.turn a k).img L.length i).1).toNat]? = some (c.1, c.2 != ((Mv.turn a k).img L.length i).2)
    cases a with
    | true =>
      rw [if_pos rfl]
      by_cases h1 : (i : Int) < k
      · rw [img_turn_in (f := 0) rfl (by omega) (by omega), bt]
        have hf := flipL_at (L := L.take k.toNat) (i := i) (c := c) (by rw [List.getElem?_take_of_lt (by omega)]; exact h)
        rw [List.length_take, Nat.min_eq_left (by omega)] at hf
        rw [List.getElem?_append_left (by rw [flipL_len, List.length_take]; omega), show ((0 : Int) + (0 + k) - 1 - i).toNat = k.toNat - 1 - i by omega]
        exact hf
      · rw [img_turn_out (f := 0) rfl (by omega), bf]
        show (flipL (L.take k.toNat) ++ L.drop k.toNat)[((i : Int)).toNat]? = _
        rw [List.getElem?_append_right (by rw [flipL_len, List.length_take]; omega), flipL_len, List.length_take, List.getElem?_drop, show k.toNat + ((i : Int).toNat - min k.toNat L.length) = i by omega]
        exact h
    | false =>
      rw [if_neg (by decide)]
      by_cases h1 : (L.length : Int) - k ≤ i
      · rw [img_turn_in (f := (L.length : Int) - k) rfl h1 (by omega), bt]
        have hf := flipL_at (L := L.drop ((L.length : Int) - k).toNat) (i := i - ((L.length : Int) - k).toNat) (c := c) (by rw [List.getElem?_drop, show ((L.length : Int) - k).toNat + (i - ((L.length : Int) - k).toNat) = i by omega]; exact h)
        rw [List.length_drop] at hf
        show (L.take ((L.length : Int) - k).toNat ++ flipL (L.drop ((L.length : Int) - k).toNat))[((L.length : Int) - k + ((L.length : Int) - k + k) - 1 - i).toNat]? = _
        rw [List.getElem?_append_right (by rw [List.length_take]; omega), List.length_take, show ((L.length : Int) - k + ((L.length : Int) - k + k) - 1 - i).toNat - min ((L.length : Int) - k).toNat L.length = L.length - ((L.length : Int) - k).toNat - 1 - (i - ((L.length : Int) - k).toNat) by omega]
        exact hf
      · rw [img_turn_out (f := (L.length : Int) - k) rfl (by omega), bf]
        show (L.take ((L.length : Int) - k).toNat ++ flipL (L.drop ((L.length : Int) - k).toNat))[((i : Int)).toNat]? = _
        rw [Int.toNat_natCast, List.getElem?_append_left (by rw [List.length_take]; omega), List.getElem?_take_of_lt (by omega)]
        exact h
  | face a k =>
    obtain ⟨k1, k2⟩ := hk
    have hr' : ¬ (L.length : Int) < k + 1 := hr
    have b1 := plc_bd (a := a) (i := k) (n := L.length) k1 (by omega)
    show (L.set (plc a k L.length).toNat ((L.getD (plc a k L.length).toNat (0, false)).1, !(L.getD (plc a k L.length).toNat (0, false)).2))[((i : Int)).toNat]? = some (c.1, c.2 != decide ((i : Int) = plc a k L.length))
    rw [Int.toNat_natCast]
    by_cases h1 : (i : Int) = plc a k L.length
    · have e : (plc a k L.length).toNat = i := by omega
      rw [decide_eq_true h1, bt, e, List.getElem?_set_self hi, List.getD_eq_getElem?_getD, h]
      rfl
    · rw [decide_eq_false h1, bf, List.getElem?_set_ne (by omega)]
      exact h
  | swap a k b j =>
    obtain ⟨k1, k2, k3, k4⟩ := hk
    have hr' : ¬ (L.length : Int) < max k j + 1 := hr
    have b1 := plc_bd (a := a) (i := k) (n := L.length) k1 (by omega)
    have b2 := plc_bd (a := b) (i := j) (n := L.length) k3 (by omega)
    rw [img_swap]
    show ((L.set (plc a k L.length).toNat (L.getD (plc b j L.length).toNat (0, false))).set (plc b j L.length).toNat (L.getD (plc a k L.length).toNat (0, false)))[_]? = _
    generalize plc a k L.length = x at b1 ⊢
    generalize plc b j L.length = y at b2 ⊢
    by_cases h1 : (i : Int) = x
    · have e : x.toNat = i := by omega
      rw [if_pos h1, bf]
      show (_ : List (Int × Bool))[y.toNat]? = _
      rw [List.getElem?_set_self (by rw [List.length_set]; omega), e, List.getD_eq_getElem?_getD, h]
      rfl
    · by_cases h2 : (i : Int) = y
      · have e : y.toNat = i := by omega
        rw [if_neg h1, if_pos h2, bf]
        show (_ : List (Int × Bool))[x.toNat]? = _
        rw [List.getElem?_set_ne (by omega), List.getElem?_set_self (by omega), e, List.getD_eq_getElem?_getD, h]
        rfl
      · rw [if_neg h1, if_neg h2, bf]
        show (_ : List (Int × Bool))[((i : Int)).toNat]? = _
        rw [Int.toNat_natCast, List.getElem?_set_ne (by omega), List.getElem?_set_ne (by omega)]
        exact h
  | carry a k b j =>
    obtain ⟨k1, k2, k3, k4⟩ := hk
    have hr' : ¬ (L.length : Int) < max k j + 1 := hr
    have b1 := plc_bd (a := a) (i := k) (n := L.length) k1 (by omega)
    have b2 := plc_bd (a := b) (i := j) (n := L.length) k3 (by omega)
    rw [img_carry]
    show ((L.eraseIdx (plc a k L.length).toNat).take (plc b j L.length).toNat ++ [L.getD (plc a k L.length).toNat (0, false)] ++ (L.eraseIdx (plc a k L.length).toNat).drop (plc b j L.length).toNat)[_]? = _
    generalize plc a k L.length = x at b1 ⊢
    generalize plc b j L.length = y at b2 ⊢
    have hx : x.toNat < L.length := by omega
    have hel : (L.eraseIdx x.toNat).length = L.length - 1 := List.length_eraseIdx_of_lt hx
    have hb : ∀ q : Nat, q < y.toNat → ((L.eraseIdx x.toNat).take y.toNat ++ [L.getD x.toNat (0, false)] ++ (L.eraseIdx x.toNat).drop y.toNat)[q]? = (L.eraseIdx x.toNat)[q]? := fun q hq => by
      rw [List.append_assoc, List.getElem?_append_left (by rw [List.length_take, hel]; omega), List.getElem?_take_of_lt hq]
    have hm : ((L.eraseIdx x.toNat).take y.toNat ++ [L.getD x.toNat (0, false)] ++ (L.eraseIdx x.toNat).drop y.toNat)[y.toNat]? = some (L.getD x.toNat (0, false)) := by
      rw [List.append_assoc, List.getElem?_append_right (by rw [List.length_take]; omega), List.length_take, hel, Nat.min_eq_left (by omega), Nat.sub_self]
      rfl
    have ha : ∀ q : Nat, y.toNat < q → ((L.eraseIdx x.toNat).take y.toNat ++ [L.getD x.toNat (0, false)] ++ (L.eraseIdx x.toNat).drop y.toNat)[q]? = (L.eraseIdx x.toNat)[q - 1]? := fun q hq => by
      rw [List.getElem?_append_right (by rw [List.length_append, List.length_take, List.length_singleton, hel]; omega), List.length_append, List.length_take, List.length_singleton, hel, List.getElem?_drop, show y.toNat + (q - (min y.toNat (L.length - 1) + 1)) = q - 1 by omega]
    have hlo : ∀ q : Nat, q < x.toNat → (L.eraseIdx x.toNat)[q]? = L[q]? := fun q hq => List.getElem?_eraseIdx_of_lt hq
    have hhi : ∀ q : Nat, x.toNat ≤ q → (L.eraseIdx x.toNat)[q]? = L[q + 1]? := fun q hq => List.getElem?_eraseIdx_of_ge hq
    by_cases h1 : (i : Int) = x
    · rw [if_pos h1, bf]
      show (_ : List (Int × Bool))[y.toNat]? = _
      rw [hm, show x.toNat = i by omega, List.getD_eq_getElem?_getD, h]
      rfl
    · by_cases h2 : x < (i : Int) ∧ (i : Int) ≤ y
      · rw [if_neg h1, if_pos h2, bf]
        show (_ : List (Int × Bool))[((i : Int) - 1).toNat]? = _
        rw [hb _ (by omega), hhi _ (by omega), show ((i : Int) - 1).toNat + 1 = i by omega]
        exact h
      · by_cases h3 : y ≤ (i : Int) ∧ (i : Int) < x
        · rw [if_neg h1, if_neg h2, if_pos h3, bf]
          show (_ : List (Int × Bool))[((i : Int) + 1).toNat]? = _
          rw [ha _ (by omega), hlo _ (by omega), show ((i : Int) + 1).toNat - 1 = i by omega]
          exact h
        · rw [if_neg h1, if_neg h2, if_neg h3, bf]
          show (_ : List (Int × Bool))[((i : Int)).toNat]? = _
          rw [Int.toNat_natCast]
          by_cases h4 : i < y.toNat
          · rw [hb _ h4, hlo _ (by omega)]
            exact h
          · rw [ha _ (by omega), hhi _ (by omega), show i - 1 + 1 = i by omega]
            exact h
theorem deal_len {m : Mv} (hk : m.ok) (L : List (Int × Bool)) : (dealtL m L).length = L.length := by
  unfold dealtL
  by_cases hr : (L.length : Int) < m.reach
  · simp only [if_pos hr]
  simp only [if_neg hr]
  cases m with
  | over => exact flipL_len L
  | cut k =>
    show (L.drop (k.fmod L.length).toNat ++ L.take (k.fmod L.length).toNat).length = L.length
    rw [List.length_append, List.length_drop, List.length_take]
    omega
  | turn a k =>
    show (if a = true then flipL (L.take k.toNat) ++ L.drop k.toNat else L.take ((L.length : Int) - k).toNat ++ flipL (L.drop ((L.length : Int) - k).toNat)).length = L.length
    cases a with
    | true => rw [if_pos rfl, List.length_append, flipL_len, List.length_take, List.length_drop]; omega
    | false => rw [if_neg (by decide), List.length_append, flipL_len, List.length_take, List.length_drop]; omega
  | face a k => exact List.length_set ..
  | swap a k b j =>
    show (List.set _ _ _).length = _
    rw [List.length_set, List.length_set]
  | carry a k b j =>
    obtain ⟨k1, k2, k3, k4⟩ := hk
    have hr' : ¬ (L.length : Int) < max k j + 1 := hr
    have b1 := plc_bd (a := a) (i := k) (n := L.length) k1 (by omega)
    have hel : (L.eraseIdx (plc a k L.length).toNat).length = L.length - 1 := List.length_eraseIdx_of_lt (by omega)
    show ((L.eraseIdx (plc a k L.length).toNat).take (plc b j L.length).toNat ++ [L.getD (plc a k L.length).toNat (0, false)] ++ (L.eraseIdx (plc a k L.length).toNat).drop (plc b j L.length).toNat).length = _
    rw [List.length_append, List.length_append, List.length_take, List.length_drop, hel, List.length_singleton]
    omega
/-! ### several moves -/
def runM (n : Int) : List Mv → Int × Bool → Int × Bool
  | [], c => c
  | m :: ms, c => runM n ms ((m.image n c.1).1, c.2 != (m.image n c.1).2)
theorem runM_snoc (n : Int) (m : Mv) : ∀ (ms : List Mv) (c : Int × Bool), runM n (ms ++ [m]) c = ((m.image n (runM n ms c).1).1, (runM n ms c).2 != (m.image n (runM n ms c).1).2)
  | [], _ => rfl
  | _ :: ms, _ => runM_snoc n m ms _
theorem runM_one (n : Int) (m : Mv) (p : Int) : runM n [m] (p, false) = m.image n p := by
  show ((m.image n p).1, false != (m.image n p).2) = m.image n p
  cases h : m.image n p with
  | mk x f => cases f <;> rfl
theorem runM_bd {n : Int} : ∀ {ms : List Mv} {c : Int × Bool}, (∀ m ∈ ms, m.ok) → 0 ≤ c.1 → c.1 < n → 0 ≤ (runM n ms c).1 ∧ (runM n ms c).1 < n
  | [], _, _, h0, h1 => ⟨h0, h1⟩
  | m :: ms, c, hk, h0, h1 => by
    obtain ⟨e0, e1, _⟩ := image_undo (hk m (List.mem_cons_self ..)) h0 h1
    exact runM_bd (ms := ms) (fun x hx => hk x (List.mem_cons_of_mem _ hx)) e0 e1
def runP (n : Int) : List Mv → Int → Int
  | [], p => p
  | m :: ms, p => runP n ms (m.image n p).1
theorem runM_fst (n : Int) : ∀ (ms : List Mv) (c : Int × Bool), (runM n ms c).1 = runP n ms c.1
  | [], _ => rfl
  | _ :: ms, _ => runM_fst n ms _
theorem runP_onto {n : Int} {j : Int} (h0 : 0 ≤ j) (h1 : j < n) : ∀ {ms : List Mv}, (∀ m ∈ ms, m.ok) → ∃ p, 0 ≤ p ∧ p < n ∧ runP n ms p = j
  | [], _ => ⟨j, h0, h1, rfl⟩
  | m :: ms, hk => by
    obtain ⟨q, q0, q1, hq⟩ := runP_onto h0 h1 (ms := ms) (fun x hx => hk x (List.mem_cons_of_mem _ hx))
    obtain ⟨e0, e1, e2⟩ := image_undo (undo_ok (hk m (List.mem_cons_self ..))) q0 q1
    rw [undo_undo] at e2
    refine ⟨_, e0, e1, ?_⟩
    show runP n ms (m.image n (m.undo.image n q).1).1 = j
    rw [e2]
    exact hq
def initL (n : Nat) : List (Int × Bool) := (List.range n).map fun i : Nat => ((i : Int), false)
/-- the cards after these moves -/
structure Deal (n : Nat) (ms : List Mv) (C : List (Int × Bool)) : Prop where
  ok : ∀ m ∈ ms, m.ok
  len : C.length = n
  at_ : ∀ i : Nat, i < n → C[(runM n ms ((i : Int), false)).1.toNat]? = some ((i : Int), (runM n ms ((i : Int), false)).2)
theorem Deal.nil (n : Nat) : Deal n [] (initL n) := ⟨fun _ h => (nomatch h), by unfold initL; rw [List.length_map, List.length_range], fun i hi => by
  show (initL n)[((i : Int)).toNat]? = some ((i : Int), false)
  unfold initL
  rw [Int.toNat_natCast, List.getElem?_map, List.getElem?_range hi]
  rfl⟩
theorem Deal.snoc {n : Nat} {ms : List Mv} {C : List (Int × Bool)} (d : Deal n ms C) {m : Mv} (hk : m.ok) : Deal n (ms ++ [m]) (dealtL m C) := by
  refine ⟨fun x hx => ?_, by rw [deal_len hk, d.len], fun i hi => ?_⟩
  · rcases List.mem_append.mp hx with h | h
    · exact d.ok x h
    · rw [List.mem_singleton] at h
      rw [h]
      exact hk
  · have b := runM_bd (n := n) (ms := ms) (c := ((i : Int), false)) d.ok (by show (0 : Int) ≤ i; omega) (by show (i : Int) < n; omega)
    have h := deal_at hk (d.at_ i hi)
    rw [d.len, Int.toNat_of_nonneg b.1] at h
    rw [runM_snoc]
    exact h
theorem Deal.here {n : Nat} {ms : List Mv} {C : List (Int × Bool)} (d : Deal n ms C) {t : Nat} (ht : t < n) : ∃ (i : Nat) (f : Bool), i < n ∧ C[t]? = some ((i : Int), f) ∧ runM n ms ((i : Int), false) = ((t : Int), f) := by
  obtain ⟨p, p0, p1, hp⟩ := runP_onto (n := n) (j := t) (by omega) (by omega) d.ok
  obtain ⟨i, rfl⟩ := Int.eq_ofNat_of_zero_le p0
  have hi : i < n := by omega
  have e : (runM n ms ((i : Int), false)).1 = t := (runM_fst n ms _).trans hp
  have h := d.at_ i hi
  rw [e, Int.toNat_natCast] at h
  refine ⟨i, _, hi, h, ?_⟩
  rw [← e]
/-- the images found so far -/
structure Fnd (n : Nat) (ms : List Mv) (t : Nat) (F : List (Int × Bool)) : Prop where
  len : F.length = n
  at_ : ∀ i : Nat, i < n → (runM n ms ((i : Int), false)).1 < t → F[i]? = some (runM n ms ((i : Int), false))
theorem Fnd.step {n : Nat} {ms : List Mv} {C F : List (Int × Bool)} {t i : Nat} {f : Bool} (d : Deal n ms C) (x : Fnd n ms t F) (hi : i < n) (hc : C[t]? = some ((i : Int), f)) (hr : runM n ms ((i : Int), false) = ((t : Int), f)) :
    Fnd n ms (t + 1) (F.set i ((t : Int), f)) := by
  refine ⟨by rw [List.length_set, x.len], fun k hk hlt => ?_⟩
  by_cases e : k = i
  · subst e
    rw [List.getElem?_set_self (by rw [x.len]; exact hk), hr]
  · rw [List.getElem?_set_ne (Ne.symm e)]
    refine x.at_ k hk ?_
    have b := runM_bd (n := n) (ms := ms) (c := ((k : Int), false)) d.ok (by show (0 : Int) ≤ k; omega) (by show (k : Int) < n; omega)
    by_cases e2 : (runM n ms ((k : Int), false)).1 = t
    · have h := d.at_ k hk
      rw [e2, Int.toNat_natCast, hc] at h
      have h1 := congrArg Prod.fst (Option.some.inj h)
      exact absurd (by have h2 : (i : Int) = k := h1; omega) e
    · omega
theorem Fnd.all {n : Nat} {ms : List Mv} {F : List (Int × Bool)} (hk : ∀ m ∈ ms, m.ok) (x : Fnd n ms n F) : F = (List.range n).map fun i : Nat => runM n ms ((i : Int), false) := by
  apply List.ext_getElem?
  intro i
  by_cases hi : i < n
  · have b := runM_bd (n := n) (ms := ms) (c := ((i : Int), false)) hk (by show (0 : Int) ≤ i; omega) (by show (i : Int) < n; omega)
    rw [x.at_ i hi b.2, List.getElem?_map, List.getElem?_range hi]
    rfl
  · rw [List.getElem?_eq_none (by rw [x.len]; omega), List.getElem?_eq_none (by rw [List.length_map, List.length_range]; omega)]
/-! ### cards on the heap -/
def CardAt (K : PySem.W.Frag) (H : Hp) (v : V) (c : Int × Bool) : Prop := ∃ p, v = .ref p ∧ SqT K H p [.int c.1, .bl c.2]
def CL (K : PySem.W.Frag) (H : Hp) (xs : List V) (L : List (Int × Bool)) : Prop := ∃ zs : List (V × (Int × Bool)), xs = zs.map (·.1) ∧ L = zs.map (·.2) ∧ ∀ z ∈ zs, CardAt K H z.1 z.2
section
variable {K : PySem.W.Frag} {H H' : Hp} {xs ys : List V} {L M : List (Int × Bool)}
theorem CardAt.same {v : V} {c : Int × Bool} (h : CardAt K H v c) (e : Same H H') : CardAt K H' v c := by
  obtain ⟨p, e1, h1⟩ := h
  exact ⟨p, e1, Same.tup e h1⟩
theorem CL.same (h : CL K H xs L) (e : Same H H') : CL K H' xs L := by
  obtain ⟨zs, e1, e2, h⟩ := h
  exact ⟨zs, e1, e2, fun z hz => (h z hz).same e⟩
theorem CardAt.but {b l : Addr} {v : V} {c : Int × Bool} (h : CardAt K H v c) (hB : Bag H b l) (e : But b H H') : CardAt K H' v c := by
  obtain ⟨p, e1, h1⟩ := h
  exact ⟨p, e1, But.tup e hB h1⟩
theorem CL.but {b l : Addr} (h : CL K H xs L) (hB : Bag H b l) (e : But b H H') : CL K H' xs L := by
  obtain ⟨zs, e1, e2, h⟩ := h
  exact ⟨zs, e1, e2, fun z hz => (h z hz).but hB e⟩
theorem CL.len (h : CL K H xs L) : xs.length = L.length := by
  obtain ⟨zs, rfl, rfl, _⟩ := h
  rw [List.length_map, List.length_map]
theorem CL.get (h : CL K H xs L) {i : Nat} (hi : i < L.length) : ∃ v c, xs[i]? = some v ∧ L[i]? = some c ∧ CardAt K H v c := by
  obtain ⟨zs, rfl, rfl, h⟩ := h
  rw [List.length_map] at hi
  exact ⟨zs[i].1, zs[i].2, by rw [List.getElem?_map, List.getElem?_eq_getElem hi]; rfl, by rw [List.getElem?_map, List.getElem?_eq_getElem hi]; rfl, h _ (List.getElem_mem hi)⟩
theorem CL.nil : CL K H [] [] := ⟨[], rfl, rfl, fun _ h => nomatch h⟩
theorem CL.append (h : CL K H xs L) (h2 : CL K H ys M) : CL K H (xs ++ ys) (L ++ M) := by
  obtain ⟨zs, rfl, rfl, h⟩ := h
  obtain ⟨ws, rfl, rfl, h2⟩ := h2
  exact ⟨zs ++ ws, List.map_append.symm, List.map_append.symm, fun z hz => (List.mem_append.mp hz).elim (h z) (h2 z)⟩
theorem CL.one {v : V} {c : Int × Bool} (h : CardAt K H v c) : CL K H [v] [c] := ⟨[(v, c)], rfl, rfl, fun z hz => by rw [List.mem_singleton] at hz; subst hz; exact h⟩
theorem CL.take (h : CL K H xs L) (n : Nat) : CL K H (xs.take n) (L.take n) := by
  obtain ⟨zs, rfl, rfl, h⟩ := h
  exact ⟨zs.take n, List.map_take.symm, List.map_take.symm, fun z hz => h z (List.mem_of_mem_take hz)⟩
theorem CL.drop (h : CL K H xs L) (n : Nat) : CL K H (xs.drop n) (L.drop n) := by
  obtain ⟨zs, rfl, rfl, h⟩ := h
  exact ⟨zs.drop n, List.map_drop.symm, List.map_drop.symm, fun z hz => h z (List.mem_of_mem_drop hz)⟩
theorem CL.rev (h : CL K H xs L) : CL K H xs.reverse L.reverse := by
  obtain ⟨zs, rfl, rfl, h⟩ := h
  exact ⟨zs.reverse, List.map_reverse.symm, List.map_reverse.symm, fun z hz => h z (List.mem_reverse.mp hz)⟩
theorem CL.erase (h : CL K H xs L) (n : Nat) : CL K H (xs.eraseIdx n) (L.eraseIdx n) := by
  rw [List.eraseIdx_eq_take_drop_succ, List.eraseIdx_eq_take_drop_succ]
  exact (h.take n).append (h.drop (n + 1))
theorem CL.set (h : CL K H xs L) {v : V} {c : Int × Bool} (hv : CardAt K H v c) (n : Nat) : CL K H (xs.set n v) (L.set n c) := by
  obtain ⟨zs, rfl, rfl, h⟩ := h
  refine ⟨zs.set n (v, c), by rw [List.map_set], by rw [List.map_set], fun z hz => ?_⟩
  rcases List.mem_or_eq_of_mem_set hz with h1 | h1
  · exact h z h1
  · rw [h1]
    exact hv
theorem CardAt.upd {v : V} {c : Int × Bool} {l : Addr} {zs : List V} {o : HO} (h : CardAt K H v c) (hl : H l = some (.lst zs)) : CardAt K (L2.upd H l o) v c := by
  obtain ⟨p, e, hp⟩ := h
  refine ⟨p, e, ?_⟩
  rcases hp with (h | ⟨u, h⟩) | h
  · exact .inl (.inl (by rw [upd_ne (ne_of h hl (by intro z; cases z))]; exact h))
  · exact .inl (.inr ⟨u, by rw [upd_ne (ne_of h hl (by intro z; cases z))]; exact h⟩)
  · exact .inr h
theorem CL.upd {l : Addr} {zs : List V} {o : HO} (h : CL K H xs L) (hl : H l = some (.lst zs)) : CL K (L2.upd H l o) xs L := by
  obtain ⟨ws, e1, e2, h⟩ := h
  exact ⟨ws, e1, e2, fun z hz => (h z hz).upd hl⟩
theorem ixN_of {n : Nat} {z : Int} (h0 : 0 ≤ z) (h1 : z < n) : ixN n z = some z.toNat := by
  unfold ixN
  rw [if_pos h0, if_pos h1]
theorem seqIx_of {n : Nat} {z : Int} (h0 : 0 ≤ z) (h1 : z < n) : seqIndex? z n = some z.toNat := by
  have e : (if z < 0 then z + n else z) = z := if_neg (by omega)
  show (if (0 ≤ (if z < 0 then z + n else z) && (if z < 0 then z + n else z) < n) = true then some (if z < 0 then z + n else z).toNat else none) = _
  rw [e, if_pos (by rw [Bool.and_eq_true, decide_eq_true_eq, decide_eq_true_eq]; exact ⟨h0, h1⟩)]
theorem deal_same {m : Mv} {L : List (Int × Bool)} (h : (L.length : Int) < m.reach) : dealtL m L = L := if_pos h
theorem deal_nil {m : Mv} (hk : m.ok) {L : List (Int × Bool)} (h : L.length = 0) : dealtL m L = L := by
  have e := deal_len hk L
  rw [List.eq_nil_of_length_eq_zero (e.trans h), List.eq_nil_of_length_eq_zero h]
theorem deal_over {L : List (Int × Bool)} (h : ¬ (L.length : Int) < 0) : dealtL .over L = flipL L := if_neg h
theorem deal_cut {k : Int} {L : List (Int × Bool)} (h : ¬ (L.length : Int) < (Mv.cut k).reach) : dealtL (.cut k) L = L.drop (k.fmod L.length).toNat ++ L.take (k.fmod L.length).toNat := if_neg h
theorem deal_top {k : Int} {L : List (Int × Bool)} (h : ¬ (L.length : Int) < k) : dealtL (.turn true k) L = flipL (L.take k.toNat) ++ L.drop k.toNat := if_neg h
theorem deal_bot {k : Int} {L : List (Int × Bool)} (h : ¬ (L.length : Int) < k) : dealtL (.turn false k) L = L.take ((L.length : Int) - k).toNat ++ flipL (L.drop ((L.length : Int) - k).toNat) := if_neg h
theorem deal_face {a : Bool} {i : Int} {L : List (Int × Bool)} (h : ¬ (L.length : Int) < i + 1) : dealtL (.face a i) L = L.set (plc a i L.length).toNat ((L.getD (plc a i L.length).toNat (0, false)).1, !(L.getD (plc a i L.length).toNat (0, false)).2) := if_neg h
theorem deal_swap {a b : Bool} {i j : Int} {L : List (Int × Bool)} (h : ¬ (L.length : Int) < max i j + 1) : dealtL (.swap a i b j) L = (L.set (plc a i L.length).toNat (L.getD (plc b j L.length).toNat (0, false))).set (plc b j L.length).toNat (L.getD (plc a i L.length).toNat (0, false)) := if_neg h
theorem deal_carry {a b : Bool} {i j : Int} {L : List (Int × Bool)} (h : ¬ (L.length : Int) < max i j + 1) : dealtL (.carry a i b j) L = (L.eraseIdx (plc a i L.length).toNat).take (plc b j L.length).toNat ++ [L.getD (plc a i L.length).toNat (0, false)] ++ (L.eraseIdx (plc a i L.length).toNat).drop (plc b j L.length).toNat := if_neg h
theorem CL.at_ (h : CL K H xs L) {z : Int} (h0 : 0 ≤ z) (h1 : z < L.length) : ∃ v c, atI xs z = some v ∧ L.getD z.toNat (0, false) = c ∧ CardAt K H v c := by
  obtain ⟨v, c, e1, e2, hc⟩ := h.get (i := z.toNat) (by omega)
  exact ⟨v, c, at_of (j := z.toNat) (by omega) e1, by rw [List.getD_eq_getElem?_getD, e2]; rfl, hc⟩
theorem cut_lo (zs : List V) (n : Int) (h0 : 0 ≤ n) (h1 : n ≤ zs.length) : cutV zs (some n) none = zs.drop n.toNat := by
  obtain ⟨k, rfl⟩ := Int.eq_ofNat_of_zero_le h0
  unfold cutV
  rw [HT.sIx_nat, HT.sIx_none, Nat.min_eq_left (by omega), Int.toNat_natCast]
  exact List.take_of_length_le (by rw [List.length_drop]; exact Nat.le_refl _)
theorem cut_hi (zs : List V) (n : Int) (h0 : 0 ≤ n) (h1 : n ≤ zs.length) : cutV zs none (some n) = zs.take n.toNat := by
  obtain ⟨k, rfl⟩ := Int.eq_ofNat_of_zero_le h0
  unfold cutV
  rw [HT.sIx_nat, HT.sIx_none, Nat.min_eq_left (by omega), Int.toNat_natCast]
  rfl
end
def tRevQ (K : PySem.W.Frag) (te : TE) : TE := fun σ H Q => te σ H fun x H1 => ∃ a xs, x = .ref a ∧ SqL K H1 a xs ∧ ∀ p, H1 p = none → Q (.ref p) (upd H1 p (.lst xs.reverse))
theorem k_rev {X : Cx} {K : PySem.W.Frag} {e : Expr} {te : TE} {k : Nat} {p1 p2 p3 pos : Pos} (he : PE X e te) (h : X.K = K := by rfl) :
    PE X (.Subscript e (.Slice none none (some (.UnaryOp .USub (.Constant (.int 1) k p1) p2)) p3) pos) (tRevQ K te) := h ▸ pe_revL he
section
variable {P : Program} {w : World} {K : PySem.W.Frag} {mg : Str → Option Value} {base : Heap}
def sp_flip (K : PySem.W.Frag) : Sp := fun vs H Q _ => ∃ (a : Addr) (xs : List V) (L : List (Int × Bool)), vs = [.ref a] ∧ SqL K H a xs ∧ CL K H xs L ∧ L.length ≤ 900 ∧
  ∀ D H' ys, H D = none → Same H H' → H' D = some (.lst ys) → CL K H' ys (flipL L) → Q (.ref D) H'
theorem ok__law_flipped (T : Txt K mg w) : FnOk P w K mg base CX0 1 T.a__law_flipped T.d__law_flipped P__law_flipped (sp_flip K) := by
  refine T.F__law_flipped.ok sc__law_flipped (fun vs H Q E h => ?_) (fun cdv A outer s H vs Q E hr h => ?_)
  · obtain ⟨a, xs, L, rfl, _⟩ := h
    rfl
  · obtain ⟨a, xs, L, rfl, ha, hc, hz, q⟩ := h
    refine ⟨_, (pss_one (ps_ret (pe_lc (own := [("_law_card", 1), ("_law_face", 2)]) rfl sc__law_flipped.nd (k_piL (K := K) (k_rev (K := K) (pv 0))) (blkOk_by (N := N__law_flipped) (sc := defScope s__law_flipped) (by decide +kernel)) (fun _ _ _ _ _ => (k_gT (K := K) (n := 2) (pgs_cons (pg_name (i := 1) sc__law_flipped.nd rfl (Or.inl rfl)) (pgs_cons (pg_name (i := 2) sc__law_flipped.nd rfl (Or.inl rfl)) pgs_nil)))) (fun _ _ _ _ _ => pts_nil) (fun _ _ _ _ _ => (pe_tup (pa_cons (pv 1) (pa_cons (pe_not (pv 2)) pa_nil))))))), ?_⟩
    refine ⟨.ref a, rfl, a, xs, rfl, ha, fun c nc => ?_⟩
    have s1 := same_new (o := .lst xs.reverse) nc
    refine ⟨c, rfl, ⟨xs.reverse, .inl (.inl upd_same)⟩, fun D hD => ?_⟩
    have hr1 : CL K (upd H c (.lst xs.reverse)) xs.reverse L.reverse := (hc.same s1).rev
    have hcc : SqL K (upd H c (.lst xs.reverse)) c xs.reverse := .inl (.inl upd_same)
    generalize upd H c (.lst xs.reverse) = H1 at s1 hD hr1 hcc ⊢
    have hl := hr1.len
    have hl2 := hc.len
    refine lc_by (n := xs.reverse.length) (fun i H' => Same H1 H' ∧ ∃ ys, H' D = some (.lst ys) ∧ ys.length = i ∧ CL K H' ys ((flipL L).take i)) ⟨same_new hD, [], upd_same, rfl, CL.nil⟩
      (fun i H' hi hw => ⟨_, xs.reverse[i], hw.1.seq hcc, List.getElem?_eq_getElem hi⟩) (fun H' hw => ⟨_, hw.1.seq hcc, Nat.le_refl _⟩) (fun i H' x H2 hi hw hy => ?_) (fun H' hw => ?_)
    · obtain ⟨rfl, f1⟩ := hy
      obtain ⟨s2, ys, hD2, hyl, hys⟩ := hw
      have gx := f1 _ (s2.seq hcc)
      obtain ⟨v, ⟨ci, cf⟩, gv, gL, p, rfl, hp⟩ := (hr1.same s2).get (i := i) (by omega)
      have ex : V.ref p = x := Option.some.inj (gv.symm.trans gx)
      subst ex
      refine ⟨p, _, rfl, hp, rfl, _, _, rfl, _, _, rfl, rfl, rfl, ?_⟩
      walk_at "rds"
      intro t nt
      have s3 := same_new (o := .tup [V.int ci, V.bl !cf]) nt
      refine ⟨_, s3 _ _ hD2, by rw [hyl]; exact lt_line (by rw [List.length_reverse] at hi; omega), Same.mut (s2.trans s3) hD, _, upd_same, by rw [List.length_append, hyl]; rfl, ?_⟩
      have e : (flipL L).take (i + 1) = (flipL L).take i ++ [(ci, !cf)] := by
        have g : (flipL L)[i]? = some (ci, !cf) := by
          unfold flipL
          rw [List.getElem?_map, gL]
          rfl
        rw [List.take_add_one, g]
        rfl
      rw [e]
      have hDt : D ≠ t := ne_of_none hD2 nt
      have c1 : CL K (upd H2 t (.tup [V.int ci, V.bl !cf])) (ys ++ [.ref t]) ((flipL L).take i ++ [(ci, !cf)]) := (hys.same s3).append (CL.one ⟨t, rfl, .inl (.inl upd_same)⟩)
      obtain ⟨zs, e1, e2, hz2⟩ := c1
      refine ⟨zs, e1, e2, fun z hz3 => ?_⟩
      obtain ⟨pz, ez, hpz⟩ := hz2 z hz3
      refine ⟨pz, ez, ?_⟩
      rcases hpz with (h | ⟨o, h⟩) | h
      · exact .inl (.inl (by rw [upd_ne (ne_of h (s3 _ _ hD2) (by intro z; cases z))]; exact h))
      · exact .inl (.inr ⟨o, by rw [upd_ne (ne_of h (s3 _ _ hD2) (by intro z; cases z))]; exact h⟩)
      · exact .inr h
    · obtain ⟨s2, ys, hD2, hyl, hys⟩ := hw
      rw [List.take_of_length_le (by rw [flipL_len, List.length_reverse]; omega)] at hys
      exact q D H' ys (s1.free hD) (s1.trans s2) hD2 hys
def sp_deal (K : PySem.W.Frag) : Sp := fun vs H Q _ => ∃ (v : V) (m : Mv) (a : Addr) (xs : List V) (L : List (Int × Bool)), vs = [v, .ref a] ∧ MvAt K H v m ∧ m.ok ∧ H a = some (.lst xs) ∧ CL K H xs L ∧ L.length ≤ 900 ∧
  ∀ D H' ys, Same H H' → H' D = some (.lst ys) → CL K H' ys (dealtL m L) → Q (.ref D) H'
theorem ok__law_dealt (T : Txt K mg w) : FnOk P w K mg base CX0 7 T.a__law_dealt T.d__law_dealt P__law_dealt (sp_deal K) := by
  have G__law_depth := ok__law_depth (P := P) (w := w) (base := base) T
  have G__law_spot := ok__law_spot (P := P) (w := w) (base := base) T
  have G__law_flipped := ok__law_flipped (P := P) (w := w) (base := base) T
  refine T.F__law_dealt.ok sc__law_dealt (fun vs H Q E h => ?_) (fun cdv A outer s H vs Q E hr h => ?_)
  · obtain ⟨v, m, a, xs, L, rfl, _⟩ := h
    rfl
  · obtain ⟨v, m, a, xs, L, rfl, hm, hk, ha, hc, hz, q⟩ := h
    have hl := hc.len
    refine ⟨_, (pss_cons (ps_set (i := 2) sc__law_dealt.nd rfl (Or.inl rfl) (pe_callB (k_len (K := K)) (by rfl) T.m_len boot_len (pa_cons (pv 1) pa_nil)))
  (pss_cons (ps_if (PW.pt (pw_or (pt_cmpR op_gt (pe_call G__law_depth (hr.mono (by decide)) (by rfl) T.g__law_depth T.F__law_depth.kp T.b__law_depth .nil pass0 (pa_cons (pv 0) pa_nil)) (pv 2) (nomark _)) (pw_or1 (pt_cmpR op_eq (pv 2) pe_int (nomark _)))))
  (pss_one (ps_ret (pv 1))) pss_nil)
  (pss_cons (ps_if (pt_cmpR op_eq (pe_ix (k_ixT (K := K)) (pv 0) pe_int (fun _ _ => rfl)) pe_str (nomark _))
  (pss_one (ps_ret (pe_call G__law_flipped (hr.mono (by decide)) (by rfl) T.g__law_flipped T.F__law_flipped.kp T.b__law_flipped .nil pass0 (pa_cons (pv 1) pa_nil)))) pss_nil)
  (pss_cons (ps_if (pt_cmpR op_eq (pe_ix (k_ixT (K := K)) (pv 0) pe_int (fun _ _ => rfl)) pe_str (nomark _))
  (pss_cons (ps_set (i := 3) sc__law_dealt.nd rfl (Or.inl rfl) (pe_op op_modN (pe_callTy call_int1 (by rfl) T.m_int boot_int (pa_cons (pe_ix (k_ixT (K := K)) (pv 0) pe_int (fun _ _ => rfl)) pa_nil)) (pv 2)))
  (pss_one (ps_ret (pe_op op_cat (pe_slice (k_slL (K := K)) (pv 1) (po_some (pv 3)) po_none) (pe_slice (k_slL (K := K)) (pv 1) po_none (po_some (pv 3))))))) pss_nil)
  (pss_cons (ps_if (PW.pt (pw_and (pt_cmpR op_eq (pe_ix (k_ixT (K := K)) (pv 0) pe_int (fun _ _ => rfl)) pe_str (nomark _)) (pw_and1 (pt_cmpR op_eq (pe_ix (k_ixT (K := K)) (pv 0) pe_int (fun _ _ => rfl)) pe_str (nomark _)))))
  (pss_one (ps_ret (pe_op op_cat (pe_call G__law_flipped (hr.mono (by decide)) (by rfl) T.g__law_flipped T.F__law_flipped.kp T.b__law_flipped .nil pass0 (pa_cons (pe_slice (k_slL (K := K)) (pv 1) po_none (po_some (pe_ix (k_ixT (K := K)) (pv 0) pe_int (fun _ _ => rfl)))) pa_nil)) (pe_slice (k_slL (K := K)) (pv 1) (po_some (pe_ix (k_ixT (K := K)) (pv 0) pe_int (fun _ _ => rfl))) po_none)))) pss_nil)
  (pss_cons (ps_if (pt_cmpR op_eq (pe_ix (k_ixT (K := K)) (pv 0) pe_int (fun _ _ => rfl)) pe_str (nomark _))
  (pss_one (ps_ret (pe_op op_cat (pe_slice (k_slL (K := K)) (pv 1) po_none (po_some (pe_op op_sub (pv 2) (pe_ix (k_ixT (K := K)) (pv 0) pe_int (fun _ _ => rfl))))) (pe_call G__law_flipped (hr.mono (by decide)) (by rfl) T.g__law_flipped T.F__law_flipped.kp T.b__law_flipped .nil pass0 (pa_cons (pe_slice (k_slL (K := K)) (pv 1) (po_some (pe_op op_sub (pv 2) (pe_ix (k_ixT (K := K)) (pv 0) pe_int (fun _ _ => rfl)))) po_none) pa_nil))))) pss_nil)
  (pss_cons (ps_par (by rfl) sc__law_dealt.nd (i := 4) (j := 5) rfl rfl (by decide) rfl rfl (pa_cons (pe_callTy (k_list (K := K)) (by rfl) T.m_list boot_list (pa_cons (pv 1) pa_nil)) (pa_cons (pe_call G__law_spot (hr.mono (by decide)) (by rfl) T.g__law_spot T.F__law_spot.kp T.b__law_spot .nil pass0 (pa_cons (pe_ix (k_ixT (K := K)) (pv 0) pe_int (fun _ _ => rfl)) (pa_cons (pv 2) pa_nil))) pa_nil)) (by rfl))
  (pss_cons (ps_if (pt_cmpR op_eq (pe_ix (k_ixT (K := K)) (pv 0) pe_int (fun _ _ => rfl)) pe_str (nomark _))
  (pss_cons (ps_asg (pe_tup (pa_cons (pe_ix (k_ixT (K := K)) (pe_ix (k_ixL (K := K)) (pv 4) (pv 5) (fun _ _ => rfl)) pe_int (fun _ _ => rfl)) (pa_cons (pe_not (pe_ix (k_ixT (K := K)) (pe_ix (k_ixL (K := K)) (pv 4) (pv 5) (fun _ _ => rfl)) pe_int (fun _ _ => rfl))) pa_nil))) (pg_sub (pv 4) (pv 5) set_list))
  (pss_one (ps_ret (pv 4)))) pss_nil)
  (pss_cons (ps_set (i := 6) sc__law_dealt.nd rfl (Or.inl rfl) (pe_call G__law_spot (hr.mono (by decide)) (by rfl) T.g__law_spot T.F__law_spot.kp T.b__law_spot .nil pass0 (pa_cons (pe_ix (k_ixT (K := K)) (pv 0) pe_int (fun _ _ => rfl)) (pa_cons (pv 2) pa_nil))))
  (pss_cons (ps_if (pt_cmpR op_eq (pe_ix (k_ixT (K := K)) (pv 0) pe_int (fun _ _ => rfl)) pe_str (nomark _))
  (pss_cons (ps_par (by rfl) sc__law_dealt.nd (i := 7) (j := 8) rfl rfl (by decide) rfl rfl (pa_cons (pe_ix (k_ixL (K := K)) (pv 4) (pv 5) (fun _ _ => rfl)) (pa_cons (pe_ix (k_ixL (K := K)) (pv 4) (pv 6) (fun _ _ => rfl)) pa_nil)) (by rfl))
  (pss_cons (ps_asg (pv 8) (pg_sub (pv 4) (pv 5) set_list))
  (pss_cons (ps_asg (pv 7) (pg_sub (pv 4) (pv 6) set_list))
  (pss_one (ps_ret (pv 4)))))) pss_nil)
  (pss_cons (ps_set (i := 9) sc__law_dealt.nd rfl (Or.inl rfl) (pe_bm PySem.F.plainAttrs_list PySem.F.slot_list_pop PySem.F.type_list_pop mt_popAt (pv 4) (pa_cons (pv 5) pa_nil)))
  (pss_cons (ps_expr (pe_bm PySem.F.plainAttrs_list PySem.F.slot_list_insert PySem.F.type_list_insert mt_insert (pv 4) (pa_cons (pv 6) (pa_cons (pv 9) pa_nil))))
  (pss_one (ps_ret (pv 4))))))))))))))), ?_⟩
    walk_at "strs"
    refine ⟨_, _, rfl, hm, fun H2 s2 => ?_⟩
    walk_at "strs"
    refine iteD (fun h1 => ?_) (fun h1 => ?_)
    · walk_at "strs"
      exact q a H2 xs s2 (s2 _ _ ha) (by rw [deal_same (by rw [← hl]; exact h1)]; exact hc.same s2)
    walk_at "strs"
    refine iteE (fun h0 => ?_) (fun h0 => ?_)
    · walk_at "strs"
      exact q a H2 xs s2 (s2 _ _ ha) (by rw [deal_nil hk (by omega)]; exact hc.same s2)
    have h1' : ¬ (L.length : Int) < m.reach := by rw [← hl]; exact h1
    have ha2 : SqL K H2 a xs := .inl (.inl (s2 _ _ ha))
    have hc2 := hc.same s2
    have q' : ∀ (D : Addr) (H' : Hp) (ys : List V), Same H2 H' → H' D = some (.lst ys) → CL K H' ys (dealtL m L) → Q (V.ref D) H' := fun D H' ys s3 h3 h4 => q D H' ys (s2.trans s3) h3 h4
    obtain ⟨p, ms, rfl, hp, hx⟩ := hm.same s2
    clear q ha hc s2 hm
    cases m with
    | over =>
      obtain rfl := hx
      walk_at "strs"
      exact ⟨a, xs, L, rfl, ha2, hc2, hz, fun D H3 ys nD s3 hD hcl => q' D H3 ys s3 hD (by rw [deal_over (by omega)]; exact hcl)⟩
    | cut k =>
      obtain rfl := hx
      have b0 := fmod_lo k (m := xs.length) (by omega)
      have b1 := fmod_hi k (m := xs.length) (by omega)
      walk_at "strs"
      refine ⟨a, xs, rfl, ha2, fun p1 np1 => ?_⟩
      rw [cut_lo xs _ b0 (by omega)]
      have s3 := same_new (o := .lst (xs.drop (k.fmod xs.length).toNat)) np1
      walk_at "strs"
      refine ⟨a, xs, rfl, s3.seq ha2, fun p2 np2 => ?_⟩
      rw [cut_hi xs _ b0 (by omega)]
      have s4 := same_new (o := .lst (xs.take (k.fmod xs.length).toNat)) np2
      refine ⟨p1, p2, _, _, rfl, rfl, s4 _ _ upd_same, upd_same, ?_, fun p3 np3 => ?_⟩
      · rw [List.length_drop, List.length_take]
        exact le_line (by omega)
      have s5 := same_new (o := .lst (xs.drop (k.fmod xs.length).toNat ++ xs.take (k.fmod xs.length).toNat)) np3
      have hc5 := hc2.same ((s3.trans s4).trans s5)
      refine q' p3 _ _ ((s3.trans s4).trans s5) upd_same ?_
      rw [deal_cut h1', ← hl]
      exact (hc5.drop _).append (hc5.take _)
    | turn b k =>
      obtain rfl := hx
      have hk0 : 0 ≤ k := hk.1
      have hkn : ¬ (L.length : Int) < k := h1'
      cases b
      · walk_at "strs"
        refine ⟨a, xs, rfl, ha2, fun p1 np1 => ?_⟩
        rw [cut_hi xs _ (by omega) (by omega)]
        have s3 := same_new (o := .lst (xs.take ((xs.length : Int) - k).toNat)) np1
        have hp3 := Same.tup s3 hp
        walk_at "strs"
        refine ⟨a, xs, rfl, s3.seq ha2, fun p2 np2 => ?_⟩
        rw [cut_lo xs _ (by omega) (by omega)]
        have s4 := same_new (o := .lst (xs.drop ((xs.length : Int) - k).toNat)) np2
        walk_at "strs"
        refine ⟨p2, _, _, rfl, .inl (.inl upd_same), ((hc2.same (s3.trans s4)).drop _), by rw [List.length_drop]; omega, fun D H3 ys nD s5 hD hcl => ?_⟩
        refine ⟨p1, D, _, ys, rfl, rfl, s5 _ _ (s4 _ _ upd_same), hD, ?_, fun p3 np3 => ?_⟩
        · rw [hcl.len, flipL_len, List.length_drop, List.length_take]
          exact le_line (by omega)
        have s6 := same_new (o := .lst (xs.take ((xs.length : Int) - k).toNat ++ ys)) np3
        have hc6 := hc2.same (((s3.trans s4).trans s5).trans s6)
        refine q' p3 _ _ (((s3.trans s4).trans s5).trans s6) upd_same ?_
        rw [deal_bot hkn, ← hl]
        exact (hc6.take _).append (hcl.same s6)
      · walk_at "strs"
        refine ⟨a, xs, rfl, ha2, fun p2 np2 => ?_⟩
        rw [cut_hi xs _ (by omega) (by omega)]
        have s4 := same_new (o := .lst (xs.take k.toNat)) np2
        walk_at "strs"
        refine ⟨p2, _, _, rfl, .inl (.inl upd_same), ((hc2.same s4).take _), by rw [List.length_take]; omega, fun D H3 ys nD s5 hD hcl => ?_⟩
        have hp3 := Same.tup (s4.trans s5) hp
        walk_at "strs"
        refine ⟨a, xs, rfl, (s4.trans s5).seq ha2, fun p1 np1 => ?_⟩
        rw [cut_lo xs _ (by omega) (by omega)]
        have s6 := same_new (o := .lst (xs.drop k.toNat)) np1
        refine ⟨D, p1, ys, _, rfl, rfl, s6 _ _ hD, upd_same, ?_, fun p3 np3 => ?_⟩
        · rw [hcl.len, flipL_len, List.length_drop, List.length_take]
          exact le_line (by omega)
        have s7 := same_new (o := .lst (ys ++ xs.drop k.toNat)) np3
        have hc7 := hc2.same (((s4.trans s5).trans s6).trans s7)
        refine q' p3 _ _ (((s4.trans s5).trans s6).trans s7) upd_same ?_
        rw [deal_top hkn]
        exact (hcl.same (s6.trans s7)).append (hc7.drop _)
    | face b i =>
      obtain ⟨x, rfl, px, rfl, hpx⟩ := hx
      obtain ⟨k1, k2⟩ : 0 ≤ i ∧ i ≤ 399 := hk
      have hn : ¬ (L.length : Int) < i + 1 := h1'
      obtain ⟨o0, o1⟩ := plc_bd (a := b) (i := i) (n := xs.length) k1 (by omega)
      walk_at "strs"
      intro l1 nl1
      have s3 := same_new (o := .lst xs) nl1
      have hp3 := Same.tup s3 hp
      walk_at "strs"
      refine ⟨_, _, b, i, rfl, ⟨px, rfl, Same.tup s3 hpx⟩, ?_⟩
      have hl1 : upd H2 l1 (.lst xs) l1 = some (.lst xs) := upd_same
      have hc3 := hc2.same s3
      have hd := deal_face (a := b) hn
      rw [← hl] at hd
      generalize plc b i xs.length = o at o0 o1 hd ⊢
      obtain ⟨vv, ⟨ci, cf⟩, hat, hg, pc, rfl, hpc⟩ := hc3.at_ o0 (by omega)
      rw [hg] at hd
      walk_at "two"
      walk_at "strs"
      intro t nt
      have s4 := same_new (o := .tup [V.int ci, V.bl !cf]) nt
      refine ⟨.ref l1, rfl, .int o, rfl, l1, xs, o, o.toNat, rfl, rfl, s4 _ _ hl1, ixN_of o0 o1, ?_⟩
      walk_at "strs"
      refine q' l1 _ _ (Same.mut (s3.trans s4) nl1) upd_same ?_
      rw [hd]
      exact ((hc3.same s4).set ⟨t, rfl, .inl (.inl upd_same)⟩ o.toNat).upd (s4 _ _ hl1)
    | swap b i c j =>
      obtain ⟨x, y, rfl, ⟨px, rfl, hpx⟩, ⟨py, rfl, hpy⟩⟩ := hx
      obtain ⟨k1, k2, k3, k4⟩ : 0 ≤ i ∧ i ≤ 399 ∧ 0 ≤ j ∧ j ≤ 399 := hk
      have hn : ¬ (L.length : Int) < max i j + 1 := h1'
      obtain ⟨o0, o1⟩ := plc_bd (a := b) (i := i) (n := xs.length) k1 (by omega)
      obtain ⟨u0, u1⟩ := plc_bd (a := c) (i := j) (n := xs.length) k3 (by omega)
      walk_at "strs"
      intro l1 nl1
      have s3 := same_new (o := .lst xs) nl1
      have hp3 := Same.tup s3 hp
      walk_at "strs"
      refine ⟨_, _, b, i, rfl, ⟨px, rfl, Same.tup s3 hpx⟩, ?_⟩
      have hl1 : upd H2 l1 (.lst xs) l1 = some (.lst xs) := upd_same
      have hc3 := hc2.same s3
      have hd := deal_swap (a := b) (b := c) hn
      rw [← hl] at hd
      walk_at "two"
      walk_at "strs"
      refine ⟨_, _, c, j, rfl, ⟨py, rfl, Same.tup s3 hpy⟩, ?_⟩
      generalize plc b i xs.length = o at o0 o1 hd ⊢
      generalize plc c j xs.length = u at u0 u1 hd ⊢
      obtain ⟨v1, c1, hat1, hg1, hv1⟩ := hc3.at_ o0 (by omega)
      obtain ⟨v2, c2, hat2, hg2, hv2⟩ := hc3.at_ u0 (by omega)
      rw [hg1, hg2] at hd
      walk_at "strs"
      walk_at "two"
      refine ⟨_, rfl, .ref l1, rfl, .int o, rfl, l1, xs, o, o.toNat, rfl, rfl, hl1, ixN_of o0 o1, ?_⟩
      refine ⟨_, rfl, .ref l1, rfl, .int u, rfl, l1, xs.set o.toNat v2, u, u.toNat, rfl, rfl, upd_same, ixN_of u0 (by rw [List.length_set]; exact u1), ?_⟩
      walk_at "strs"
      refine q' l1 _ _ (Same.mut (Same.mut s3 nl1) nl1) upd_same ?_
      rw [hd]
      exact (((hc3.set hv2 o.toNat).set hv1 u.toNat).upd hl1).upd upd_same
    | carry b i c j =>
      obtain ⟨x, y, rfl, ⟨px, rfl, hpx⟩, ⟨py, rfl, hpy⟩⟩ := hx
      obtain ⟨k1, k2, k3, k4⟩ : 0 ≤ i ∧ i ≤ 399 ∧ 0 ≤ j ∧ j ≤ 399 := hk
      have hn : ¬ (L.length : Int) < max i j + 1 := h1'
      obtain ⟨o0, o1⟩ := plc_bd (a := b) (i := i) (n := xs.length) k1 (by omega)
      obtain ⟨u0, u1⟩ := plc_bd (a := c) (i := j) (n := xs.length) k3 (by omega)
      walk_at "strs"
      intro l1 nl1
      have s3 := same_new (o := .lst xs) nl1
      have hp3 := Same.tup s3 hp
      walk_at "strs"
      refine ⟨_, _, b, i, rfl, ⟨px, rfl, Same.tup s3 hpx⟩, ?_⟩
      have hl1 : upd H2 l1 (.lst xs) l1 = some (.lst xs) := upd_same
      have hc3 := hc2.same s3
      have hd := deal_carry (a := b) (b := c) hn
      rw [← hl] at hd
      walk_at "two"
      walk_at "strs"
      refine ⟨_, _, c, j, rfl, ⟨py, rfl, Same.tup s3 hpy⟩, ?_⟩
      generalize plc b i xs.length = o at o0 o1 hd ⊢
      generalize plc c j xs.length = u at u0 u1 hd ⊢
      obtain ⟨v1, c1, e1, e2, hv1⟩ := hc3.get (i := o.toNat) (by omega)
      have hg1 : L.getD o.toNat (0, false) = c1 := by rw [List.getD_eq_getElem?_getD, e2]; rfl
      rw [hg1] at hd
      walk_at "strs"
      refine ⟨.inl ⟨rfl, _, .inl (.inl hl1)⟩, .int o, rfl, l1, xs, o, o.toNat, v1, rfl, rfl, hl1, by omega, by omega, seqIx_of o0 o1, e1, ?_⟩
      have hel : (xs.eraseIdx o.toNat).length = xs.length - 1 := List.length_eraseIdx_of_lt (by omega)
      refine ⟨.ref l1, rfl, .inl ⟨rfl, _, .inl (.inl upd_same)⟩, .int u, rfl, v1, rfl, l1, xs.eraseIdx o.toNat, u, v1, rfl, rfl, upd_same, by rw [hel]; exact lt_line (by omega), u0, by omega, ?_⟩
      walk_at "strs"
      refine q' l1 _ _ (Same.mut (Same.mut s3 nl1) nl1) upd_same ?_
      rw [hd]
      exact (((((hc3.erase o.toNat).take u.toNat).append (CL.one hv1)).append ((hc3.erase o.toNat).drop u.toNat)).upd hl1).upd upd_same
end
/-! ### the images by dealing -/
theorem CL.snoc {K : PySem.W.Frag} {H : Hp} {D : Addr} {ys : List V} {M : List (Int × Bool)} {v : V} {c : Int × Bool} (h : CL K H ys M) (hD : H D = some (.lst ys)) (hv : CardAt K H v c) : CL K (L2.upd H D (.lst (ys ++ [v]))) (ys ++ [v]) (M ++ [c]) :=
  (h.append (CL.one hv)).upd hD
theorem CL.rep {K : PySem.W.Frag} {H : Hp} {v : V} {c : Int × Bool} (hv : CardAt K H v c) (n : Nat) : CL K H (List.replicate n v) (List.replicate n c) :=
  ⟨List.replicate n (v, c), by rw [List.map_replicate], by rw [List.map_replicate], fun z hz => by rw [(List.mem_replicate.mp hz).2]; exact hv⟩
theorem flat_rep {v : V} : ∀ n : Nat, (List.replicate n [v]).flatten = List.replicate n v
  | 0 => rfl
  | n + 1 => by
    rw [List.replicate_succ, List.flatten_cons, flat_rep n, List.replicate_succ]
    rfl
theorem initL_take (n i : Nat) (h : i < n) : (initL n).take (i + 1) = (initL n).take i ++ [((i : Int), false)] := by
  have g : (initL n)[i]? = some ((i : Int), false) := by
    unfold initL
    rw [List.getElem?_map, List.getElem?_range h]
    rfl
  rw [List.take_add_one, g]
  rfl
def imagesL (n : Nat) (ms : List Mv) : List (Int × Bool) := (List.range n).map fun i : Nat => runM n ms ((i : Int), false)
section
variable {P : Program} {w : World} {K : PySem.W.Frag} {mg : Str → Option Value} {base : Heap}
/-- moves in a list -/
def MvL (K : PySem.W.Frag) (H : Hp) (mvs : List V) (ms : List Mv) : Prop := mvs.length = ms.length ∧ ∀ (i : Nat) (v : V) (m : Mv), mvs[i]? = some v → ms[i]? = some m → MvAt K H v m
theorem MvL.same {H H' : Hp} {mvs : List V} {ms : List Mv} (h : MvL K H mvs ms) (e : Same H H') : MvL K H' mvs ms := ⟨h.1, fun i v m h1 h2 => (h.2 i v m h1 h2).same e⟩
def sp_images (K : PySem.W.Frag) : Sp := fun vs H Q _ => ∃ (am : Addr) (mvs : List V) (ms : List Mv) (n : Nat), vs = [.ref am, .int n] ∧ SqL K H am mvs ∧ MvL K H mvs ms ∧ (∀ m ∈ ms, m.ok) ∧ n ≤ 900 ∧
  ∀ D H' ys, H D = none → Same H H' → H' D = some (.lst ys) → CL K H' ys (imagesL n ms) → Q (.ref D) H'
theorem ok__law_images (T : Txt K mg w) : FnOk P w K mg base CX0 8 T.a__law_images T.d__law_images P__law_images (sp_images K) := by
  have G__law_dealt := ok__law_dealt (P := P) (w := w) (base := base) T
  refine T.F__law_images.ok sc__law_images (fun vs H Q E h => ?_) (fun cdv A outer s H vs Q E hr h => ?_)
  · obtain ⟨am, mvs, ms, n, rfl, _⟩ := h
    rfl
  · obtain ⟨am, mvs, ms, n, rfl, ha, hm, hk, hn, q⟩ := h
    refine ⟨_, (pss_cons (ps_setLc (i := 2) (own := [("_law_place", 5)]) rfl sc__law_images.nd rfl rfl (sw_true rfl rfl rfl (by decide +kernel)) (pi_range1 rfl T.m_range (pa_cons (pv 1) pa_nil)) (blkOk_by (N := N__law_images) (sc := defScope s__law_images) (by decide +kernel)) (fun _ _ _ _ _ => (pg_name (i := 5) sc__law_images.nd rfl (Or.inl rfl))) (fun _ _ _ _ _ => pts_nil) (fun _ _ _ _ _ => (pe_tup (pa_cons (pv 5) (pa_cons pe_bl pa_nil)))))
  (pss_cons (ps_for PassesOwn.never rfl (k_piL (K := K) (pv 0)) (pg_name (i := 3) sc__law_images.nd rfl (Or.inl rfl))
  (pss_one (ps_set (i := 2) sc__law_images.nd rfl (Or.inl rfl) (pe_call G__law_dealt (hr.mono (by decide)) (by rfl) T.g__law_dealt T.F__law_dealt.kp T.b__law_dealt .nil pass0 (pa_cons (pv 3) (pa_cons (pv 2) pa_nil))))))
  (pss_cons (ps_set (i := 4) sc__law_images.nd rfl (Or.inl rfl) (pe_op op_rep (pe_lst (pa_cons (pe_tup (pa_cons pe_int (pa_cons pe_bl pa_nil))) pa_nil)) (pv 1)))
  (pss_cons (ps_for PassesOwn.never rfl (pi_range1 rfl T.m_range (pa_cons (pv 1) pa_nil)) (pg_name (i := 5) sc__law_images.nd rfl (Or.inl rfl))
  (pss_one (ps_asg (pe_tup (pa_cons (pv 5) (pa_cons (pe_ix (k_ixT (K := K)) (pe_ix (k_ixL (K := K)) (pv 2) (pv 5) (fun _ _ => rfl)) pe_int (fun _ _ => rfl)) pa_nil))) (pg_sub (pv 4) (pe_ix (k_ixT (K := K)) (pe_ix (k_ixL (K := K)) (pv 2) (pv 5) (fun _ _ => rfl)) pe_int (fun _ _ => rfl)) set_list))))
  (pss_one (ps_ret (pv 4))))))), ?_⟩
    have n62 : -(2 ^ 62) ≤ (n : Int) ∧ (n : Int) < 2 ^ 62 := by omega
    refine ⟨_, rfl, n, rfl, n62.1, n62.2, fun D hD => ?_⟩
    refine lc_by (n := n) (fun i H' => Same H H' ∧ ∃ ys, H' D = some (.lst ys) ∧ ys.length = i ∧ CL K H' ys ((initL n).take i)) ⟨same_new hD, [], upd_same, rfl, CL.nil⟩
      (fun i H' hi _ => by show i < (n : Int).toNat; omega) (fun H' _ => by show (n : Int).toNat ≤ n; omega) (fun i H' x H2 hi hw hy => ?_) (fun H1 hw => ?_)
    · obtain ⟨rfl, rfl⟩ := hy
      obtain ⟨s2, ys, hD2, hyl, hys⟩ := hw
      rw [show (0 : Int) + (i : Int) = (i : Int) from Int.zero_add _]
      refine ⟨rfl, ?_⟩
      walk_at "rds"
      intro t nt
      have s3 := same_new (o := .tup [V.int i, V.bl false]) nt
      refine ⟨_, s3 _ _ hD2, by rw [hyl]; exact lt_line (by omega), Same.mut (s2.trans s3) hD, _, upd_same, by rw [List.length_append, hyl]; rfl, ?_⟩
      rw [initL_take n i hi]
      exact (hys.same s3).snoc (s3 _ _ hD2) ⟨t, rfl, .inl (.inl upd_same)⟩
    obtain ⟨s1, xs, hD1, hxl, hxs⟩ := hw
    rw [List.take_of_length_le (by unfold initL; rw [List.length_map, List.length_range]; exact Nat.le_refl _)] at hxs
    have d0 : Deal n (ms.take 0) (initL n) := Deal.nil n
    have hml := hm.1
    -- the moves
    refine ⟨.ref am, rfl, am, rfl, ⟨_, s1.seq ha⟩, for_by (n := ms.length) (fun k σ H' => Same H H' ∧ ∃ ac xs C y3 y4 y5, σ = [some (.ref am), some (.int n), some (.ref ac), y3, y4, y5] ∧ H' ac = some (.lst xs) ∧ CL K H' xs C ∧ Deal n (ms.take k) C) ⟨s1, D, xs, initL n, none, none, none, rfl, hD1, hxs, d0⟩
      (fun k σ H' hi hp => ⟨_, mvs[k], hp.1.seq ha, List.getElem?_eq_getElem (by omega)⟩) (fun σ H' hp => ⟨_, hp.1.seq ha, by omega⟩) (fun k σ H' x H2' hk2 hp hy => ?_) (fun σ H2 hp => ?_)⟩
    · obtain ⟨rfl, f1⟩ := hy
      obtain ⟨s2, ac, xs2, C, y3, y4, y5, rfl, hac, hC, hd⟩ := hp
      have gx := f1 _ (s2.seq ha)
      have gm : ms[k]? = some ms[k] := List.getElem?_eq_getElem hk2
      have hmk := (hm.2 k x _ gx gm).same s2
      have hkk := hk _ (List.getElem_mem hk2)
      walk_at "rds"
      refine ⟨_, _, _, _, _, rfl, hmk, hkk, hac, hC, by rw [hd.len]; omega, fun D3 H3 ys s3 hD3 hys => ?_⟩
      refine ⟨s2.trans s3, D3, ys, _, _, _, _, rfl, hD3, hys, ?_⟩
      rw [List.take_add_one, gm]
      exact hd.snoc hkk
    obtain ⟨s2, ac, xs2, C, y3, y4, y5, rfl, hac, hC, hd⟩ := hp
    rw [List.take_length] at hd
    clear hxs hD1 hxl d0
    walk_at "rds"
    intro t nt
    have s3 := same_new (o := .tup [V.int 0, V.bl false]) nt
    walk_at "rds"
    intro l1 nl1
    have s4 := same_new (o := .lst [V.ref t]) nl1
    walk_at "rds"
    refine ⟨l1, n, [.ref t], rfl, rfl, upd_same, by omega, by omega, ?_, fun D5 nD5 => ?_⟩
    · show 1 * (n : Int).toNat ≤ sizeLine
      exact le_line (by omega)
    rw [flat_rep, Int.toNat_natCast]
    have s5 := same_new (o := .lst (List.replicate n (V.ref t))) nD5
    have s25 := ((s2.trans s3).trans s4).trans s5
    have f0 : Fnd n ms 0 (List.replicate n ((0 : Int), false)) := ⟨List.length_replicate, fun i hi hlt => by
      have b := runM_bd (n := n) (ms := ms) (c := ((i : Int), false)) hk (by show (0 : Int) ≤ i; omega) (by show (i : Int) < n; omega)
      omega⟩
    have c0 : CL K (upd (upd (upd H2 t (.tup [V.int 0, V.bl false])) l1 (.lst [V.ref t])) D5 (.lst (List.replicate n (V.ref t)))) (List.replicate n (V.ref t)) (List.replicate n ((0 : Int), false)) :=
      CL.rep ⟨t, rfl, .inl (.inl (s5 _ _ (s4 _ _ upd_same)))⟩ n
    have hac5 := s5 _ _ (s4 _ _ (s3 _ _ hac))
    have hC5 := hC.same ((s3.trans s4).trans s5)
    have D5f : H D5 = none := ((s2.trans s3).trans s4).free nD5
    have hacD : ac ≠ D5 := ne_of_none (s4 _ _ (s3 _ _ hac)) nD5
    have hCl := hC.len
    refine ⟨_, rfl, n, rfl, n62.1, n62.2, for_by (n := n) (fun k σ H' => Same H H' ∧ H' ac = some (.lst xs2) ∧ CL K H' xs2 C ∧ ∃ ys F y3 y5, σ = [some (.ref am), some (.int n), some (.ref ac), y3, some (.ref D5), y5] ∧ H' D5 = some (.lst ys) ∧ CL K H' ys F ∧ Fnd n ms k F)
      ⟨s25, hac5, hC5, _, _, _, _, rfl, upd_same, c0, f0⟩ (fun k σ H' hi _ => by show k < (n : Int).toNat; omega) (fun σ H' _ => by show (n : Int).toNat ≤ n; omega) (fun k σ H' x H2' hk2 hp hy => ?_) (fun σ H3 hp => ?_)⟩
    · obtain ⟨rfl, rfl⟩ := hy
      obtain ⟨s6, hac6, hC6, ys, F, y3, y5, rfl, hD6, hF, hf⟩ := hp
      obtain ⟨i, f, hi, hCi, hri⟩ := hd.here hk2
      obtain ⟨v, c, gx, gc, pc, rfl, hpc⟩ := hC6.get (i := k) (by rw [hd.len]; exact hk2)
      have ec : c = ((i : Int), f) := Option.some.inj (gc.symm.trans hCi)
      subst ec
      have hat : atI xs2 (0 + (k : Int)) = some (.ref pc) := at_of (j := k) (by omega) gx
      walk_at "rds"
      intro t2 nt2
      have s7 := same_new (o := .tup [V.int (0 + (k : Int)), V.bl f]) nt2
      have hpc7 := Same.tup s7 hpc
      have hac7 := s7 _ _ hac6
      walk_at "rds"
      refine ⟨D5, ys, i, i, rfl, rfl, s7 _ _ hD6, ixN_of (by omega) (by rw [hF.len, hf.len]; omega), ?_⟩
      rw [show (0 : Int) + (k : Int) = (k : Int) from Int.zero_add _] at *
      refine ⟨Same.mut (s6.trans s7) D5f, by rw [upd_ne hacD]; exact hac7, (hC6.same s7).upd (s7 _ _ hD6), _, _, _, _, rfl, upd_same, ((hF.same s7).set (c := ((k : Int), f)) ⟨t2, rfl, .inl (.inl upd_same)⟩ i).upd (s7 _ _ hD6), hf.step hd hi hCi hri⟩
    · obtain ⟨s6, hac6, hC6, ys, F, y3, y5, rfl, hD6, hF, hf⟩ := hp
      walk_at "rds"
      have e := hf.all hk
      subst e
      exact q D5 H3 ys D5f s6 hD6 hF
end
/-! ### undoing; great piles -/
section
variable {P : Program} {w : World} {K : PySem.W.Frag} {mg : Str → Option Value} {base : Heap}
def sp_undo (K : PySem.W.Frag) : Sp := fun vs H Q _ => ∃ (v : V) (m : Mv), vs = [v] ∧ MvAt K H v m ∧ m.ok ∧ ∀ v' H', Same H H' → MvAt K H' v' m.undo → Q v' H'
theorem ok_undoing (T : Txt K mg w) : FnOk P w K mg base CX0 6 T.a_undoing T.d_undoing P_undoing (sp_undo K) := by
  have G_check_move := ok_check_move (P := P) (w := w) (base := base) T
  refine T.F_undoing.ok sc_undoing (fun vs H Q E h => ?_) (fun cdv A outer s H vs Q E hr h => ?_)
  · obtain ⟨v, m, rfl, _⟩ := h
    rfl
  · obtain ⟨v, m, rfl, hm, hk, q⟩ := h
    refine ⟨_, (pss_cons (ps_expr (pe_call G_check_move (hr.mono (by decide)) (by rfl) T.g_check_move T.F_check_move.kp T.b_check_move .nil pass0 (pa_cons (pv 0) pa_nil)))
  (pss_cons (ps_if (pt_cmpR op_eq (pe_ix (k_ixT (K := K)) (pv 0) pe_int (fun _ _ => rfl)) pe_str (nomark _))
  (pss_one (ps_ret (pe_tup (pa_cons pe_str (pa_cons (pe_ix (k_ixT (K := K)) (pv 0) pe_int (fun _ _ => rfl)) (pa_cons (pe_ix (k_ixT (K := K)) (pv 0) pe_int (fun _ _ => rfl)) pa_nil)))))) pss_nil)
  (pss_cons (ps_if (pt_cmpR op_eq (pe_ix (k_ixT (K := K)) (pv 0) pe_int (fun _ _ => rfl)) pe_str (nomark _))
  (pss_one (ps_ret (pe_tup (pa_cons pe_str (pa_cons (pe_un un_neg (pe_ix (k_ixT (K := K)) (pv 0) pe_int (fun _ _ => rfl))) pa_nil))))) pss_nil)
  (pss_one (ps_ret (pv 0)))))), ?_⟩
    walk_at "strs"
    refine ⟨_, _, rfl, hm, hk, fun H2 s2 => ?_⟩
    have hm2 := hm.same s2
    obtain ⟨p, xs, rfl, hp, hx⟩ := id hm2
    cases m with
    | swap a i b j =>
      obtain ⟨x, y, rfl, h1, h2⟩ := hx
      walk_at "strs"
      exact q _ _ s2 hm2
    | carry a i b j =>
      obtain ⟨x, y, rfl, h1, h2⟩ := hx
      walk_at "strs"
      intro t nt
      have s3 := same_new (o := .tup [V.str "carry", y, x]) nt
      exact q _ _ (s2.trans s3) ⟨t, _, rfl, .inl (.inl upd_same), y, x, rfl, h2.same s3, h1.same s3⟩
    | cut k =>
      obtain rfl := hx
      walk_at "strs"
      intro t nt
      exact q _ _ (s2.trans (same_new nt)) ⟨t, _, rfl, .inl (.inl upd_same), rfl⟩
    | turn a k =>
      obtain rfl := hx
      walk_at "strs"
      exact q _ _ s2 hm2
    | over =>
      obtain rfl := hx
      walk_at "strs"
      exact q _ _ s2 hm2
    | face a i =>
      obtain ⟨x, rfl, h1⟩ := hx
      walk_at "strs"
      exact q _ _ s2 hm2
def sp_great : Sp := fun vs H Q _ => ∃ (b l : Addr), vs = [.ref b] ∧ Bag H b l ∧ ∀ z H', 0 < z → z ≤ 1000000000000000000000000000000 → Bag H' b l → But b H H' → Q (.int z) H'
theorem ok__law_great (T : Txt K mg w) : FnOk P w K mg base CX0 3 T.a__law_great T.d__law_great P__law_great sp_great := by
  have G__law_pull := ok__law_pull (P := P) (w := w) (base := base) T
  have G__law_of := ok__law_of (P := P) (w := w) (base := base) T
  refine T.F__law_great.ok sc__law_great (fun vs H Q E h => ?_) (fun cdv A outer s H vs Q E hr h => ?_)
  · obtain ⟨b, l, rfl, _⟩ := h
    rfl
  · obtain ⟨b, l, rfl, hB, q⟩ := h
    refine ⟨_, (pss_one (ps_ret (pe_call G__law_of (hr.mono (by decide)) (by rfl) T.g__law_of T.F__law_of.kp T.b__law_of .nil pass0 (pa_cons (pv 0) (pa_cons (pe_lst (pa_cons (pe_op op_sub (pe_op op_pow pe_int pe_int) (pe_call G__law_pull (hr.mono (by decide)) (by rfl) T.g__law_pull T.F__law_pull.kp T.b__law_pull .nil pass0 (pa_cons (pv 0) (pa_cons pe_int pa_nil)))) (pa_cons (pe_op op_add (pe_op op_pow pe_int pe_int) (pe_call G__law_pull (hr.mono (by decide)) (by rfl) T.g__law_pull T.F__law_pull.kp T.b__law_pull .nil pass0 (pa_cons (pv 0) (pa_cons (pe_op op_pow pe_int pe_int) pa_nil)))) (pa_cons (pe_op op_add pe_int (pe_call G__law_pull (hr.mono (by decide)) (by rfl) T.g__law_pull T.F__law_pull.kp T.b__law_pull .nil pass0 (pa_cons (pv 0) (pa_cons pe_int pa_nil)))) pa_nil)))) pa_nil))))), ?_⟩
    walk_at "rds"
    walk_at "pull"
    intro r1 H2 r10 r11 hB2 b2
    walk_at "rds"
    walk_at "pull"
    intro r2 H3 r20 r21 hB3 b3
    walk_at "rds"
    walk_at "pull"
    intro r3 H4 r30 r31 hB4 b4
    walk_at "rds"
    intro t nt
    have r21' : r2 < 1000000000 := r21
    have s5 : Same H4 (upd H4 t (.lst [V.int (1000000000000000000000000000000 - r1), V.int (1000000000000000000 + r2), V.int (200 + r3)])) := same_new nt
    refine ⟨b, l, t, [V.int (1000000000000000000000000000000 - r1), V.int (1000000000000000000 + r2), V.int (200 + r3)], rfl, hB4.same s5, .inl (.inl upd_same), hB4.ne nt, by simp, by simp, fun i x H6 hx hB6 b6 => ?_⟩
    have bb := (((b2.trans b3).trans b4).trans (Same.but s5)).trans b6
    match i, hx with
    | 0, hx => cases hx; exact q _ _ (by omega) (by omega) hB6 bb
    | 1, hx => cases hx; exact q _ _ (by omega) (by omega) hB6 bb
    | 2, hx => cases hx; exact q _ _ (by omega) (by omega) hB6 bb
    | n + 3, hx => cases hx
def sp_placeof : Sp := fun vs H Q _ => ∃ (b l : Addr) (n : Int), vs = [.ref b, .int n] ∧ Bag H b l ∧ 0 < n ∧ n ≤ 1000000000000000000000000000000 ∧ ∀ p H', 0 ≤ p → p < n → Bag H' b l → But b H H' → Q (.int p) H'
theorem ok__law_place_of (T : Txt K mg w) : FnOk P w K mg base CX0 3 T.a__law_place_of T.d__law_place_of P__law_place_of sp_placeof := by
  have G__law_pull := ok__law_pull (P := P) (w := w) (base := base) T
  refine T.F__law_place_of.ok sc__law_place_of (fun vs H Q E h => ?_) (fun cdv A outer s H vs Q E hr h => ?_)
  · obtain ⟨b, l, n, rfl, _⟩ := h
    rfl
  · obtain ⟨b, l, n, rfl, hB, n0, n1, q⟩ := h
    refine ⟨_, (pss_cons (ps_par (by rfl) sc__law_place_of.nd (i := 2) (j := 3) rfl rfl (by decide) rfl rfl (pa_cons (pe_call G__law_pull (hr.mono (by decide)) (by rfl) T.g__law_pull T.F__law_pull.kp T.b__law_pull .nil pass0 (pa_cons (pv 0) (pa_cons pe_int pa_nil))) (pa_cons (pe_call G__law_pull (hr.mono (by decide)) (by rfl) T.g__law_pull T.F__law_pull.kp T.b__law_pull .nil pass0 (pa_cons (pv 0) (pa_cons (pe_callB (call_min2 rfl) (by rfl) T.m_min boot_min (pa_cons (pv 1) (pa_cons pe_int pa_nil))) pa_nil))) pa_nil)) (by rfl))
  (pss_cons (ps_if (pt_cmpR op_lt (pv 2) pe_int (nomark _))
  (pss_one (ps_ret (pe_ifExp (pt_cmpR op_eq (pv 2) pe_int (nomark _)) (pv 3) (pe_op op_sub (pe_op op_sub (pv 1) pe_int) (pv 3))))) pss_nil)
  (pss_one (ps_ret (pe_ifExp (pt_cmpR op_eq (pv 2) pe_int (nomark _)) (pe_call G__law_pull (hr.mono (by decide)) (by rfl) T.g__law_pull T.F__law_pull.kp T.b__law_pull .nil pass0 (pa_cons (pv 0) (pa_cons (pv 1) pa_nil))) (pe_op op_sub (pe_op op_fdivW (pv 1) pe_int) (pe_callB (call_min2 rfl) (by rfl) T.m_min boot_min (pa_cons (pv 3) (pa_cons (pe_op op_fdivW (pv 1) pe_int) pa_nil))))))))), ?_⟩
    walk_at "rds"
    walk_at "pull"
    intro r1 H2 r10 r11 hB2 b2
    walk_at "rds"
    walk_at "two"
    walk_at "rds"
    have m0 : 0 < (if (24 : Int) < n then 24 else n) ∧ (if (24 : Int) < n then 24 else n) ≤ n ∧ (if (24 : Int) < n then 24 else n) ≤ 24 := by split <;> omega
    generalize (if (24 : Int) < n then 24 else n) = c at m0 ⊢
    walk_at "pull"
    intro r2 H3 r20 r21 hB3 b3
    walk_at "rds"
    walk_at "two"
    have bb := b2.trans b3
    walk_at "rds"
    refine iteD (fun h1 => ?_) (fun h1 => ?_)
    · walk_at "rds"
      refine iteE (fun h2 => ?_) (fun h2 => ?_)
      · walk_at "rds"
        exact q _ _ r20 (by omega) hB3 bb
      · walk_at "rds"
        exact q _ _ (by omega) (by omega) hB3 bb
    · walk_at "rds"
      refine iteE (fun h2 => ?_) (fun h2 => ?_)
      · walk_at "rds"
        walk_at "pull"
        intro r3 H4 r30 r31 hB4 b4
        exact q _ _ r30 r31 hB4 (bb.trans b4)
      · walk_at "rds"
        walk_at "two"
        walk_at "rds"
        refine q _ _ ?_ ?_ hB3 bb
        · split <;> omega
        · split <;> omega
def thenL (L M : List (Int × Bool)) : List (Int × Bool) := L.map fun c => ((M.getD c.1.toNat (0, false)).1, c.2 != (M.getD c.1.toNat (0, false)).2)
def sp_then (K : PySem.W.Frag) : Sp := fun vs H Q _ => ∃ (a1 a2 : Addr) (xs ys : List V) (L M : List (Int × Bool)), vs = [.ref a1, .ref a2] ∧ SqL K H a1 xs ∧ CL K H xs L ∧ SqL K H a2 ys ∧ CL K H ys M ∧ L.length ≤ 900 ∧
  (∀ c ∈ L, 0 ≤ c.1 ∧ c.1 < M.length) ∧ ∀ D H' zs, H D = none → Same H H' → H' D = some (.lst zs) → CL K H' zs (thenL L M) → Q (.ref D) H'
theorem ok__law_then (T : Txt K mg w) : FnOk P w K mg base CX0 1 T.a__law_then T.d__law_then P__law_then (sp_then K) := by
  refine T.F__law_then.ok sc__law_then (fun vs H Q E h => ?_) (fun cdv A outer s H vs Q E hr h => ?_)
  · obtain ⟨a1, a2, xs, ys, L, M, rfl, _⟩ := h
    rfl
  · obtain ⟨a1, a2, xs, ys, L, M, rfl, h1, hL, h2, hM, hz, hb, q⟩ := h
    refine ⟨_, (pss_one (ps_ret (pe_lc (own := [("_law_place", 2), ("_law_face", 3)]) rfl sc__law_then.nd (k_piL (K := K) (pv 0)) (blkOk_by (N := N__law_then) (sc := defScope s__law_then) (by decide +kernel)) (fun _ _ _ _ _ => (k_gT (K := K) (n := 2) (pgs_cons (pg_name (i := 2) sc__law_then.nd rfl (Or.inl rfl)) (pgs_cons (pg_name (i := 3) sc__law_then.nd rfl (Or.inl rfl)) pgs_nil)))) (fun _ _ _ _ _ => pts_nil) (fun _ _ _ _ _ => (pe_tup (pa_cons (pe_ix (k_ixT (K := K)) (pe_ix (k_ixL (K := K)) (pv 1) (pv 2) (fun _ _ => rfl)) pe_int (fun _ _ => rfl)) (pa_cons (pe_cmpR op_ne (pv 3) (pe_ix (k_ixT (K := K)) (pe_ix (k_ixL (K := K)) (pv 1) (pv 2) (fun _ _ => rfl)) pe_int (fun _ _ => rfl)) (nomark _)) pa_nil))))))), ?_⟩
    have hl := hL.len
    refine ⟨.ref a1, rfl, a1, rfl, ⟨xs, h1⟩, fun D hD => ?_⟩
    refine lc_by (n := xs.length) (fun i H' => Same H H' ∧ ∃ zs, H' D = some (.lst zs) ∧ zs.length = i ∧ CL K H' zs ((thenL L M).take i)) ⟨same_new hD, [], upd_same, rfl, CL.nil⟩
      (fun i H' hi hw => ⟨_, xs[i], hw.1.seq h1, List.getElem?_eq_getElem hi⟩) (fun H' hw => ⟨_, hw.1.seq h1, Nat.le_refl _⟩) (fun i H' x H2 hi hw hy => ?_) (fun H' hw => ?_)
    · obtain ⟨rfl, f1⟩ := hy
      obtain ⟨s2, zs, hD2, hzl, hzs⟩ := hw
      have gx := f1 _ (s2.seq h1)
      obtain ⟨v, ⟨ci, cf⟩, gv, gL, p, rfl, hp⟩ := (hL.same s2).get (i := i) (by omega)
      have ex : V.ref p = x := Option.some.inj (gv.symm.trans gx)
      subst ex
      obtain ⟨c0, c1⟩ := hb _ (List.mem_of_getElem? gL)
      obtain ⟨v2, ⟨di, df⟩, hat, hg, p2, rfl, hp2⟩ := (hM.same s2).at_ c0 c1
      have h2' := s2.seq h2
      refine ⟨p, _, rfl, hp, rfl, _, _, rfl, _, _, rfl, rfl, rfl, ?_⟩
      walk_at "rds"
      intro t nt
      have s3 := same_new (o := .tup [V.int di, V.bl (!decide (V.bl cf = V.bl df))]) nt
      refine ⟨_, s3 _ _ hD2, by rw [hzl]; exact lt_line (by omega), Same.mut (s2.trans s3) hD, _, upd_same, by rw [List.length_append, hzl]; rfl, ?_⟩
      have e : (thenL L M).take (i + 1) = (thenL L M).take i ++ [(di, !decide (V.bl cf = V.bl df))] := by
        have g : (thenL L M)[i]? = some (di, !decide (V.bl cf = V.bl df)) := by
          unfold thenL
          rw [List.getElem?_map, gL]
          show some ((M.getD ci.toNat (0, false)).1, cf != (M.getD ci.toNat (0, false)).2) = _
          rw [hg]
          cases cf <;> cases df <;> rfl
        rw [List.take_add_one, g]
        rfl
      rw [e]
      exact (hzs.same s3).snoc (s3 _ _ hD2) ⟨t, rfl, .inl (.inl upd_same)⟩
    · obtain ⟨s2, zs, hD2, hzl, hzs⟩ := hw
      rw [List.take_of_length_le (by unfold thenL; rw [List.length_map]; omega)] at hzs
      exact q D H' zs hD s2 hD2 hzs
end
/-! ### the law -/
def dataOf (L : List (Int × Bool)) : PyData := .list (L.map fun c => .tuple [.int c.1, .bool c.2])
theorem dp_cards {K : PySem.W.Frag} {H : Hp} {a : Addr} {xs : List V} {L : List (Int × Bool)} (ha : SqL K H a xs) (h : CL K H xs L) : Dp K H (.ref a) (dataOf L) := by
  refine .lst ha ?_
  obtain ⟨zs, rfl, rfl, h⟩ := h
  clear ha
  induction zs with
  | nil => exact .nil
  | cons z r ih =>
    obtain ⟨p, e, hp⟩ := h z (List.mem_cons_self ..)
    refine .cons ?_ (ih fun y hy => h y (List.mem_cons_of_mem _ hy))
    show Dp K H z.1 _
    rw [e]
    exact .tup hp (.cons (.int _) (.cons (.bl _) .nil))
theorem lay_cards (L : List (Int × Bool)) : (dataOf L).canLay0 = true := by
  show PyData.canLayAll0 (L.map fun c => .tuple [.int c.1, .bool c.2]) = true
  induction L with
  | nil => rfl
  | cons c r ih =>
    show (PyData.canLay0 (.tuple [.int c.1, .bool c.2]) && PyData.canLayAll0 (r.map fun c => .tuple [.int c.1, .bool c.2])) = true
    rw [ih]
    rfl
theorem depth_cards (L : List (Int × Bool)) : (dataOf L).depth ≤ 64 := by
  have h : ∀ L : List (Int × Bool), PyData.depthAll (L.map fun c => .tuple [.int c.1, .bool c.2]) ≤ 1 := by
    intro L
    induction L with
    | nil => exact Nat.zero_le _
    | cons c r ih =>
      show max (PyData.depth (.tuple [.int c.1, .bool c.2])) (PyData.depthAll (r.map fun c => .tuple [.int c.1, .bool c.2])) ≤ 1
      have e : PyData.depth (.tuple [.int c.1, .bool c.2]) = 1 := rfl
      rw [e]
      omega
  show PyData.depthAll _ + 1 ≤ 64
  have := h L
  omega
theorem shaped_cards (L : List (Int × Bool)) : SeqAt.shaped (dataOf L) = true := by
  show ((dataOf L).canLay0 && decide ((dataOf L).depth ≤ 64)) = true
  rw [lay_cards, decide_eq_true (depth_cards L)]
  rfl
def imgsL (n : Nat) (m : Mv) : List (Int × Bool) := (List.range n).map fun i : Nat => m.image n i
theorem imagesL_one (n : Nat) (m : Mv) : imagesL n [m] = imgsL n m := by
  unfold imagesL imgsL
  congr 1
  funext i
  exact runM_one n m i
theorem imgsL_take (n i : Nat) (m : Mv) (h : i < n) : (imgsL n m).take (i + 1) = (imgsL n m).take i ++ [m.image n i] := by
  have g : (imgsL n m)[i]? = some (m.image n i) := by
    unfold imgsL
    rw [List.getElem?_map, List.getElem?_range h]
    rfl
  rw [List.take_add_one, g]
  rfl
theorem imgsL_len (n : Nat) (m : Mv) : (imgsL n m).length = n := by unfold imgsL; rw [List.length_map, List.length_range]
theorem imgsL_get {n i : Nat} (m : Mv) (h : i < n) : (imgsL n m).getD i (0, false) = m.image n i := by
  unfold imgsL
  rw [List.getD_eq_getElem?_getD, List.getElem?_map, List.getElem?_range h]
  rfl
theorem then_undo {m : Mv} (hk : m.ok) (n : Nat) : thenL (imgsL n m) (imgsL n m.undo) = initL n := by
  unfold thenL initL
  rw [show imgsL n m = (List.range n).map fun i : Nat => m.image n i from rfl, List.map_map]
  apply List.map_congr_left
  intro i hi
  rw [List.mem_range] at hi
  obtain ⟨e0, e1, e2⟩ := image_undo hk (n := n) (p := i) (by omega) (by omega)
  have hg : (imgsL n m.undo).getD (m.image n i).1.toNat (0, false) = m.undo.image n (m.image n i).1 := by
    rw [imgsL_get _ (by omega), Int.toNat_of_nonneg e0]
  show ((((imgsL n m.undo).getD (m.image n i).1.toNat (0, false)).1, (m.image n i).2 != ((imgsL n m.undo).getD (m.image n i).1.toNat (0, false)).2) : Int × Bool) = ((i : Int), false)
  rw [hg, e2]
  cases (m.image n i).2 <;> rfl
theorem imgs_bd {m : Mv} (hk : m.ok) {n : Nat} {c : Int × Bool} (h : c ∈ imgsL n m) : 0 ≤ c.1 ∧ c.1 < n := by
  unfold imgsL at h
  obtain ⟨i, hi, rfl⟩ := List.mem_map.mp h
  rw [List.mem_range] at hi
  obtain ⟨e0, e1, _⟩ := image_undo hk (n := n) (p := i) (by omega) (by omega)
  exact ⟨e0, e1⟩
theorem reach_bd {m : Mv} (h : m.ok) : 0 ≤ m.reach ∧ m.reach ≤ 400 := by
  cases m with
  | swap a i b j => obtain ⟨h1, h2, h3, h4⟩ := h; show 0 ≤ max i j + 1 ∧ max i j + 1 ≤ 400; omega
  | carry a i b j => obtain ⟨h1, h2, h3, h4⟩ := h; show 0 ≤ max i j + 1 ∧ max i j + 1 ≤ 400; omega
  | cut k => obtain ⟨h1, h2⟩ := h; show 0 ≤ (if k < 0 then -k else k) ∧ (if k < 0 then -k else k) ≤ 400; split <;> omega
  | turn a k => obtain ⟨h1, h2⟩ := h; exact ⟨h1, h2⟩
  | over => exact ⟨by decide, by decide⟩
  | face a i => obtain ⟨h1, h2⟩ := h; show 0 ≤ i + 1 ∧ i + 1 ≤ 400; omega
def spLaw (K : PySem.W.Frag) : Sp := fun vs H Q _ => ∃ (a : Addr) (ns : List Int), vs = [.ref a] ∧ SqL K H a (ns.map V.int) ∧ ns.length ≤ 63 ∧ ∀ H', Q (.bl true) H'
section
variable {P : Program} {w : World} {K : PySem.W.Frag} {mg : Str → Option Value} {base : Heap}
theorem ok_law (T : Txt K mg w) : FnOk P w K mg base CX0 9 T.a_law T.d_law P_law (spLaw K) := by
  have G__law_bag := ok__law_bag (P := P) (w := w) (base := base) T
  have G__law_pull := ok__law_pull (P := P) (w := w) (base := base) T
  have G__law_move := ok__law_move (P := P) (w := w) (base := base) T
  have G__law_images := ok__law_images (P := P) (w := w) (base := base) T
  have G__law_depth := ok__law_depth (P := P) (w := w) (base := base) T
  have G__law_goes := ok__law_goes (P := P) (w := w) (base := base) T
  have G__law_then := ok__law_then (P := P) (w := w) (base := base) T
  have G__law_great := ok__law_great (P := P) (w := w) (base := base) T
  have G__law_place_of := ok__law_place_of (P := P) (w := w) (base := base) T
  have G_undoing := ok_undoing (P := P) (w := w) (base := base) T
  have G_is_move := ok_is_move (P := P) (w := w) (base := base) T
  have G_image := ok_image (P := P) (w := w) (base := base) T
  refine T.F_law.ok sc_law (fun vs H Q E h => ?_) (fun cdv A outer s H vs Q E hr h => ?_)
  · obtain ⟨a, ns, rfl, _⟩ := h
    rfl
  · obtain ⟨a, ns, rfl, hS, hlen, q⟩ := h
    refine ⟨_, (pss_cons (ps_set (i := 1) sc_law.nd rfl (Or.inl rfl) (pe_call G__law_bag (hr.mono (by decide)) (by rfl) T.g__law_bag T.F__law_bag.kp T.b__law_bag .nil pass0 (pa_cons (pv 0) pa_nil)))
  (pss_cons (ps_for PassesOwn.never rfl (pi_range1 rfl T.m_range (pa_cons pe_int pa_nil)) (pg_name (i := 2) sc_law.nd rfl (Or.inl rfl))
  (pss_cons (ps_set (i := 3) sc_law.nd rfl (Or.inl rfl) (pe_call G__law_move (hr.mono (by decide)) (by rfl) T.g__law_move T.F__law_move.kp T.b__law_move .nil pass0 (pa_cons (pv 1) (pa_cons pe_int pa_nil))))
  (pss_cons (ps_set (i := 4) sc_law.nd rfl (Or.inr rfl) (pe_call G_undoing (hr.mono (by decide)) (by rfl) T.g_undoing T.F_undoing.kp T.b_undoing .nil pass0 (pa_cons (pv 3) pa_nil)))
  (pss_cons (ps_if (pt_cmpR op_notBl (pe_call G_is_move (hr.mono (by decide)) (by rfl) T.g_is_move T.F_is_move.kp T.b_is_move .nil pass0 (pa_cons (pv 4) pa_nil)) pe_bl (nomark _))
  (pss_one (ps_ret pe_bl)) pss_nil)
  (pss_cons (ps_for PassesOwn.never rfl (pi_range1 rfl T.m_range (pa_cons (pe_op op_add (pe_call G__law_depth (hr.mono (by decide)) (by rfl) T.g__law_depth T.F__law_depth.kp T.b__law_depth .nil pass0 (pa_cons (pv 3) pa_nil)) pe_int) pa_nil)) (pg_name (i := 5) sc_law.nd rfl (Or.inr rfl))
  (pss_cons (ps_set (i := 6) sc_law.nd rfl (Or.inl rfl) (pe_call G__law_then (hr.mono (by decide)) (by rfl) T.g__law_then T.F__law_then.kp T.b__law_then .nil pass0 (pa_cons (pe_call G__law_images (hr.mono (by decide)) (by rfl) T.g__law_images T.F__law_images.kp T.b__law_images .nil pass0 (pa_cons (pe_lst (pa_cons (pv 3) pa_nil)) (pa_cons (pv 5) pa_nil))) (pa_cons (pe_lc (own := [("_law_place", 7)]) rfl sc_law.nd (pi_range1 rfl T.m_range (pa_cons (pv 5) pa_nil)) (blkOk_by (N := N_law) (sc := defScope s_law) (by decide +kernel)) (fun _ _ _ _ _ => (pg_name (i := 7) sc_law.nd rfl (Or.inl rfl))) (fun _ _ _ _ _ => pts_nil) (fun _ _ _ _ _ => (pe_call G_image (hr.mono (by decide)) (by rfl) T.g_image T.F_image.kp T.b_image .nil pass0 (pa_cons (pv 4) (pa_cons (pv 5) (pa_cons (pv 7) pa_nil)))))) pa_nil))))
  (pss_one (ps_if (pt_cmpR (k_neD (K := K) hr.units) (pv 6) (pe_lc (own := [("_law_place", 7)]) rfl sc_law.nd (pi_range1 rfl T.m_range (pa_cons (pv 5) pa_nil)) (blkOk_by (N := N_law) (sc := defScope s_law) (by decide +kernel)) (fun _ _ _ _ _ => (pg_name (i := 7) sc_law.nd rfl (Or.inl rfl))) (fun _ _ _ _ _ => pts_nil) (fun _ _ _ _ _ => (pe_tup (pa_cons (pv 7) (pa_cons pe_bl pa_nil))))) (nomark _))
  (pss_one (ps_ret pe_bl)) pss_nil))))
  (pss_cons (ps_set (i := 5) sc_law.nd rfl (Or.inr rfl) (pe_call G__law_great (hr.mono (by decide)) (by rfl) T.g__law_great T.F__law_great.kp T.b__law_great .nil pass0 (pa_cons (pv 1) pa_nil)))
  (pss_cons (ps_set (i := 7) sc_law.nd rfl (Or.inl rfl) (pe_call G__law_place_of (hr.mono (by decide)) (by rfl) T.g__law_place_of T.F__law_place_of.kp T.b__law_place_of .nil pass0 (pa_cons (pv 1) (pa_cons (pv 5) pa_nil))))
  (pss_cons (ps_set (i := 8) sc_law.nd rfl (Or.inl rfl) (pe_call G__law_goes (hr.mono (by decide)) (by rfl) T.g__law_goes T.F__law_goes.kp T.b__law_goes .nil pass0 (pa_cons (pv 3) (pa_cons (pv 5) (pa_cons (pv 7) pa_nil)))))
  (pss_one (ps_if (pt_cmpR (k_neD (K := K) hr.units) (pe_call G_image (hr.mono (by decide)) (by rfl) T.g_image T.F_image.kp T.b_image .nil pass0 (pa_cons (pv 4) (pa_cons (pv 5) (pa_cons (pe_ix (k_ixT (K := K)) (pv 8) pe_int (fun _ _ => rfl)) pa_nil)))) (pe_tup (pa_cons (pv 7) (pa_cons (pe_ix (k_ixT (K := K)) (pv 8) pe_int (fun _ _ => rfl)) pa_nil))) (nomark _))
  (pss_one (ps_ret pe_bl)) pss_nil))))))))))
  (pss_one (ps_ret pe_bl)))), ?_⟩
    refine ⟨.ref a, rfl, a, ns, rfl, hS, hlen, fun b l H1 nb nl s1 hB1 => ?_⟩
    refine ⟨4, rfl, by decide, by decide, for_range (fun i σ H' => Bag H' b l ∧ ∃ y2 y3 y4 y5 y6 y7 y8, σ = [some (.ref a), some (.ref b), y2, y3, y4, y5, y6, y7, y8])
      ⟨hB1, none, none, none, none, none, none, none, rfl⟩ (fun i σ H2 hi hp => ?_) (fun σ H2 hp => ?_)⟩
    · obtain ⟨hB2, y2, y3, y4, y5, y6, y7, y8, rfl⟩ := hp
      walk_at "rds"
      refine ⟨b, l, 6, rfl, hB2, by decide, by decide, fun v m H3 hm3 hw hB3 b3 => ?_⟩
      have hk := hw.ok (by decide)
      have hku := undo_ok hk
      walk_at "rds"
      refine ⟨_, _, rfl, hm3, hk, fun v' H4 s4 hu4 => ?_⟩
      have hm4 := hm3.same s4
      have hB4 := hB3.same s4
      walk_at "rds"
      refine ⟨_, _, rfl, hu4, hku, fun H5 s5 => ?_⟩
      have hm5 := hm4.same s5
      have hu5 := hu4.same s5
      have hB5 := hB4.same s5
      walk_at "rds"
      refine ⟨_, _, rfl, hm5, fun H6 s6 => ?_⟩
      have hm6 := hm5.same s6
      have hu6 := hu5.same s6
      have hB6 := hB5.same s6
      have hr2 := reach_bd hk
      walk_at "rds"
      refine for_by (n := (m.reach + 4).toNat) (fun k σ H' => Bag H' b l ∧ MvAt K H' v m ∧ MvAt K H' v' m.undo ∧ ∃ y2 y5 y6 y7 y8, σ = [some (.ref a), some (.ref b), y2, some v, some v', y5, y6, y7, y8]) ⟨hB6, hm6, hu6, _, _, _, _, _, rfl⟩
        (fun k σ H' hi _ => hi) (fun σ H' _ => Nat.le_refl _) (fun k σ H' x H2' hk2 hp hy => ?_) (fun σ H7 hp => ?_)
      · obtain ⟨rfl, rfl⟩ := hy
        obtain ⟨hBa, hma, hua, z2, z5, z6, z7, z8, rfl⟩ := hp
        have hk3 : k ≤ 404 := by omega
        rw [show (0 : Int) + (k : Int) = (k : Int) from Int.zero_add _]
        have n62 : -(2 ^ 62) ≤ (k : Int) ∧ (k : Int) < 2 ^ 62 := by omega
        have nbig : (k : Int) ≤ 1000000000000000000000000000000 := by omega
        walk_at "rds"
        intro l1 nl1
        have t1 := same_new (o := .lst [v]) nl1
        walk_at "rds"
        refine ⟨l1, [v], [m], k, rfl, .inl (.inl upd_same), ⟨rfl, fun i x y e1 e2 => ?_⟩, fun x hx => ?_, by omega, fun D1 H7 ys nD1 t2 hD1 hys => ?_⟩
        · match i, e1, e2 with
          | 0, e1, e2 => cases e1; cases e2; exact hma.same t1
          | i + 1, e1, _ => cases e1
        · rw [List.mem_singleton] at hx
          rw [hx]
          exact hk
        rw [imagesL_one] at hys
        have hm7 := (hma.same t1).same t2
        have hu7 := (hua.same t1).same t2
        have hB7 := (hBa.same t1).same t2
        clear t1 t2 nl1 nD1
        walk_at "rds"
        intro D2 hD2
        refine lc_by (n := k) (fun i H' => Same H7 H' ∧ ∃ xs, H' D2 = some (.lst xs) ∧ xs.length = i ∧ CL K H' xs ((imgsL k m.undo).take i)) ⟨same_new hD2, [], upd_same, rfl, CL.nil⟩
          (fun i H' hi _ => by show i < (k : Int).toNat; omega) (fun H' _ => by show (k : Int).toNat ≤ k; omega) (fun i H' x H2' hi hw hy => ?_) (fun H8 hw => ?_)
        · obtain ⟨rfl, rfl⟩ := hy
          obtain ⟨s2, xs, hE, hxl, hxs⟩ := hw
          rw [show (0 : Int) + (i : Int) = (i : Int) from Int.zero_add _]
          refine ⟨rfl, ?_⟩
          walk_at "rds"
          refine ⟨_, _, _, _, rfl, True.intro, hu7.same s2, hku, by omega, by omega, nbig, fun t Ht nt st ht => ?_⟩
          refine ⟨_, st _ _ hE, by rw [hxl]; exact lt_line (by omega), Same.mut (s2.trans st) hD2, _, upd_same, by rw [List.length_append, hxl]; rfl, ?_⟩
          rw [imgsL_take k i m.undo hi]
          exact (hxs.same st).snoc (st _ _ hE) ⟨t, rfl, .inl (.inl ht)⟩
        obtain ⟨s8, xs, hE, hxl, hxs⟩ := hw
        rw [List.take_of_length_le (by rw [imgsL_len]; exact Nat.le_refl _)] at hxs
        have hm8 := hm7.same s8
        have hu8 := hu7.same s8
        have hB8 := hB7.same s8
        walk_at "rds"
        refine ⟨D1, D2, ys, xs, _, _, rfl, .inl (.inl (s8 _ _ hD1)), hys.same s8, .inl (.inl hE), hxs, by rw [imgsL_len]; omega, fun c hc => by rw [imgsL_len]; exact imgs_bd hk hc, fun D3 H9 zs nD3 s9 hD3 hzs => ?_⟩
        rw [then_undo hk] at hzs
        have hm9 := hm8.same s9
        have hu9 := hu8.same s9
        have hB9 := hB8.same s9
        clear s8 s9 hE hxl hxs hys hD1 hm7 hu7 hB7 hm8 hu8 hB8 nD3
        walk_at "rds"
        intro D4 hD4
        refine lc_by (n := k) (fun i H' => Same H9 H' ∧ ∃ xs, H' D4 = some (.lst xs) ∧ xs.length = i ∧ CL K H' xs ((initL k).take i)) ⟨same_new hD4, [], upd_same, rfl, CL.nil⟩
          (fun i H' hi _ => by show i < (k : Int).toNat; omega) (fun H' _ => by show (k : Int).toNat ≤ k; omega) (fun i H' x H2' hi hw hy => ?_) (fun H10 hw => ?_)
        · obtain ⟨rfl, rfl⟩ := hy
          obtain ⟨s2, xs, hE, hxl, hxs⟩ := hw
          rw [show (0 : Int) + (i : Int) = (i : Int) from Int.zero_add _]
          refine ⟨rfl, ?_⟩
          walk_at "rds"
          intro t nt
          have s3 := same_new (o := .tup [V.int i, V.bl false]) nt
          refine ⟨_, s3 _ _ hE, by rw [hxl]; exact lt_line (by omega), Same.mut (s2.trans s3) hD4, _, upd_same, by rw [List.length_append, hxl]; rfl, ?_⟩
          rw [initL_take k i hi]
          exact (hxs.same s3).snoc (s3 _ _ hE) ⟨t, rfl, .inl (.inl upd_same)⟩
        obtain ⟨s10, xs, hE, hxl, hxs⟩ := hw
        rw [List.take_of_length_le (by unfold initL; rw [List.length_map, List.length_range]; exact Nat.le_refl _)] at hxs
        refine ⟨_, _, dp_cards (.inl (.inl (s10 _ _ hD3))) (hzs.same s10), dp_cards (.inl (.inl hE)) hxs, shaped_cards _, shaped_cards _, _, rfl, ?_⟩
        have ev : (!(dataOf (initL k)).eqv (dataOf (initL k))) = false := by
          rw [SeqAt.eqv_refl _ (lay_cards _)]
          rfl
        rw [ev]
        exact ⟨hB9.same s10, hm9.same s10, hu9.same s10, _, _, _, _, _, rfl⟩
      · obtain ⟨hBa, hma, hua, z2, z5, z6, z7, z8, rfl⟩ := hp
        walk_at "rds"
        refine ⟨b, l, rfl, hBa, fun z H8 z0 z1 hB8 b8 => ?_⟩
        have hm8 := hma.but hBa b8
        have hu8 := hua.but hBa b8
        walk_at "rds"
        refine ⟨b, l, z, rfl, hB8, z0, z1, fun p H9 p0 p1 hB9 b9 => ?_⟩
        have hm9 := hm8.but hB8 b9
        have hu9 := hu8.but hB8 b9
        walk_at "rds"
        refine ⟨_, _, _, _, rfl, hm9, hk, p0, p1, fun t1 Ha nt1 sa ht1 => ?_⟩
        obtain ⟨j0, j1, ju⟩ := image_undo hk p0 p1
        have hua2 := hu9.same sa
        have hBa2 := hB9.same sa
        have ht1' : SqT K Ha t1 [V.int (m.image z p).1, V.bl (m.image z p).2] := .inl (.inl ht1)
        walk_at "rds"
        refine ⟨_, _, _, _, rfl, True.intro, hua2, hku, j0, j1, z1, fun t2 Hb nt2 sb ht2 => ?_⟩
        rw [ju] at ht2
        have ht1b := Same.tup sb ht1'
        walk_at "rds"
        intro t3 nt3
        have s3 := same_new (o := .tup [V.int p, V.bl (m.image z p).2]) nt3
        refine ⟨_, _, .tup (.inl (.inl (s3 _ _ ht2))) (.cons (.int _) (.cons (.bl _) .nil)), .tup (.inl (.inl upd_same)) (.cons (.int _) (.cons (.bl _) .nil)), rfl, rfl, _, rfl, ?_⟩
        have ev : (!(PyData.tuple [PyData.int p, PyData.bool (m.image z p).2]).eqv (PyData.tuple [PyData.int p, PyData.bool (m.image z p).2])) = false := by
          rw [SeqAt.eqv_refl _ rfl]
          rfl
        rw [ev]
        exact ⟨(hBa2.same sb).same s3, _, _, _, _, _, _, _, rfl⟩
    · obtain ⟨hB2, y2, y3, y4, y5, y6, y7, y8, rfl⟩ := hp
      walk_at "rds"
      exact q _
end
theorem all_mk {w : World} {K : PySem.W.Frag} {h : Heap} {mg : Str → Option Value} {fa : Addr} (X : K.In h) (G : h.Ns mainGlobals mg) (hfa : mg "law" = some (.ref fa))
    {f0 f1 f2 f3 f4 f5 f6 f7 f8 f9 f10 f11 f12 f13 f14 f15 f16 f17 f18 f19 f20 f21 f22 f23 f24 f25 f26 f27 f28 f29 f30 f31 f32 : Addr} {od0 an0 od1 an1 od2 an2 od3 an3 od4 an4 od5 an5 od6 an6 od7 an7 od8 an8 od9 an9 od10 an10 od11 an11 od12 an12 od13 an13 od14 an14 od15 an15 od16 an16 od17 an17 od18 an18 od19 an19 od20 an20 od21 an21 od22 an22 od23 an23 od24 an24 od25 an25 od26 an26 od27 an27 od28 an28 od29 an29 od30 an30 od31 an31 od32 an32 : Option Addr} {sl0 sl1 sl2 sl3 sl4 sl5 sl6 sl7 sl8 sl9 sl10 sl11 sl12 sl13 sl14 sl15 sl16 sl17 sl18 sl19 sl20 sl21 sl22 sl23 sl24 sl25 sl26 sl27 sl28 sl29 sl30 sl31 sl32 : Array (Option Value)} {oc0 kV0 dc0 pm0 cd0 ct0 oc1 kV1 dc1 pm1 cd1 ct1 oc2 kV2 dc2 pm2 cd2 ct2 oc3 kV3 dc3 pm3 cd3 ct3 oc4 kV4 dc4 pm4 cd4 ct4 oc5 kV5 dc5 pm5 cd5 ct5 oc6 kV6 dc6 pm6 cd6 ct6 oc7 kV7 dc7 pm7 cd7 ct7 oc8 kV8 dc8 pm8 cd8 ct8 oc9 kV9 dc9 pm9 cd9 ct9 oc10 kV10 dc10 pm10 cd10 ct10 oc11 kV11 dc11 pm11 cd11 ct11 oc12 kV12 dc12 pm12 cd12 ct12 oc13 kV13 dc13 pm13 cd13 ct13 oc14 kV14 dc14 pm14 cd14 ct14 oc15 kV15 dc15 pm15 cd15 ct15 oc16 kV16 dc16 pm16 cd16 ct16 oc17 kV17 dc17 pm17 cd17 ct17 oc18 kV18 dc18 pm18 cd18 ct18 oc19 kV19 dc19 pm19 cd19 ct19 oc20 kV20 dc20 pm20 cd20 ct20 oc21 kV21 dc21 pm21 cd21 ct21 oc22 kV22 dc22 pm22 cd22 ct22 oc23 kV23 dc23 pm23 cd23 ct23 oc24 kV24 dc24 pm24 cd24 ct24 oc25 kV25 dc25 pm25 cd25 ct25 oc26 kV26 dc26 pm26 cd26 ct26 oc27 kV27 dc27 pm27 cd27 ct27 oc28 kV28 dc28 pm28 cd28 ct28 oc29 kV29 dc29 pm29 cd29 ct29 oc30 kV30 dc30 pm30 cd30 ct30 oc31 kV31 dc31 pm31 cd31 ct31 oc32 kV32 dc32 pm32 cd32 ct32 : Value} {t_MOST_DEPTH : Tok} {t_MOST_CARDS : Tok} {t_MOST_BLOCK : Tok} {a_SHAPES : Addr} {es_SHAPES : Array DictEntry} {n_SHAPES : Nat} {a_SHAPES_swap : Addr} {dd_SHAPES_swap : Option Addr} {m_SHAPES_swap : Nat} {sl_SHAPES_swap : Array (Option Value)} {u_SHAPES_swap_0 u_SHAPES_swap_1 : Tok} {a_SHAPES_carry : Addr} {dd_SHAPES_carry : Option Addr} {m_SHAPES_carry : Nat} {sl_SHAPES_carry : Array (Option Value)} {u_SHAPES_carry_0 u_SHAPES_carry_1 : Tok} {a_SHAPES_cut : Addr} {dd_SHAPES_cut : Option Addr} {m_SHAPES_cut : Nat} {sl_SHAPES_cut : Array (Option Value)} {u_SHAPES_cut_0 : Tok} {a_SHAPES_turn : Addr} {dd_SHAPES_turn : Option Addr} {m_SHAPES_turn : Nat} {sl_SHAPES_turn : Array (Option Value)} {u_SHAPES_turn_0 u_SHAPES_turn_1 : Tok} {a_SHAPES_over : Addr} {dd_SHAPES_over : Option Addr} {m_SHAPES_over : Nat} {sl_SHAPES_over : Array (Option Value)} {a_SHAPES_face : Addr} {dd_SHAPES_face : Option Addr} {m_SHAPES_face : Nat} {sl_SHAPES_face : Array (Option Value)} {u_SHAPES_face_0 : Tok} {a_IMAGES : Addr} {es_IMAGES : Array DictEntry} {n_IMAGES : Nat}
    (a0 : PySem.W.nsIn K mainGlobals "is_number" = some (some (.ref f0))) (l0 : K.lookup f0 = some ⟨oc0, od0, .func (PySem.W.fnOf "is_number" "is_number" (defArgs s_is_number) (defBody s_is_number) (defScope s_is_number) .none kV0 dc0 pm0 an0 cd0 ct0), sl0⟩) (c0 : PySem.W.codeIn K cd0 "is_number" = true) (k0 : PySem.W.keepIn K (.ref f0) = true)
    (a1 : PySem.W.nsIn K mainGlobals "is_end" = some (some (.ref f1))) (l1 : K.lookup f1 = some ⟨oc1, od1, .func (PySem.W.fnOf "is_end" "is_end" (defArgs s_is_end) (defBody s_is_end) (defScope s_is_end) .none kV1 dc1 pm1 an1 cd1 ct1), sl1⟩) (c1 : PySem.W.codeIn K cd1 "is_end" = true) (k1 : PySem.W.keepIn K (.ref f1) = true)
    (a2 : PySem.W.nsIn K mainGlobals "is_end_place" = some (some (.ref f2))) (l2 : K.lookup f2 = some ⟨oc2, od2, .func (PySem.W.fnOf "is_end_place" "is_end_place" (defArgs s_is_end_place) (defBody s_is_end_place) (defScope s_is_end_place) .none kV2 dc2 pm2 an2 cd2 ct2), sl2⟩) (c2 : PySem.W.codeIn K cd2 "is_end_place" = true) (k2 : PySem.W.keepIn K (.ref f2) = true)
    (a3 : PySem.W.nsIn K mainGlobals "check_size" = some (some (.ref f3))) (l3 : K.lookup f3 = some ⟨oc3, od3, .func (PySem.W.fnOf "check_size" "check_size" (defArgs s_check_size) (defBody s_check_size) (defScope s_check_size) .none kV3 dc3 pm3 an3 cd3 ct3), sl3⟩) (c3 : PySem.W.codeIn K cd3 "check_size" = true) (k3 : PySem.W.keepIn K (.ref f3) = true)
    (a4 : PySem.W.nsIn K mainGlobals "check_place" = some (some (.ref f4))) (l4 : K.lookup f4 = some ⟨oc4, od4, .func (PySem.W.fnOf "check_place" "check_place" (defArgs s_check_place) (defBody s_check_place) (defScope s_check_place) .none kV4 dc4 pm4 an4 cd4 ct4), sl4⟩) (c4 : PySem.W.codeIn K cd4 "check_place" = true) (k4 : PySem.W.keepIn K (.ref f4) = true)
    (a5 : PySem.W.nsIn K mainGlobals "resolve" = some (some (.ref f5))) (l5 : K.lookup f5 = some ⟨oc5, od5, .func (PySem.W.fnOf "resolve" "resolve" (defArgs s_resolve) (defBody s_resolve) (defScope s_resolve) .none kV5 dc5 pm5 an5 cd5 ct5), sl5⟩) (c5 : PySem.W.codeIn K cd5 "resolve" = true) (k5 : PySem.W.keepIn K (.ref f5) = true)
    (a6 : PySem.W.nsIn K mainGlobals "is_move" = some (some (.ref f6))) (l6 : K.lookup f6 = some ⟨oc6, od6, .func (PySem.W.fnOf "is_move" "is_move" (defArgs s_is_move) (defBody s_is_move) (defScope s_is_move) .none kV6 dc6 pm6 an6 cd6 ct6), sl6⟩) (c6 : PySem.W.codeIn K cd6 "is_move" = true) (k6 : PySem.W.keepIn K (.ref f6) = true)
    (a7 : PySem.W.nsIn K mainGlobals "fits" = some (some (.ref f7))) (l7 : K.lookup f7 = some ⟨oc7, od7, .func (PySem.W.fnOf "fits" "fits" (defArgs s_fits) (defBody s_fits) (defScope s_fits) .none kV7 dc7 pm7 an7 cd7 ct7), sl7⟩) (c7 : PySem.W.codeIn K cd7 "fits" = true) (k7 : PySem.W.keepIn K (.ref f7) = true)
    (a8 : PySem.W.nsIn K mainGlobals "check_move" = some (some (.ref f8))) (l8 : K.lookup f8 = some ⟨oc8, od8, .func (PySem.W.fnOf "check_move" "check_move" (defArgs s_check_move) (defBody s_check_move) (defScope s_check_move) .none kV8 dc8 pm8 an8 cd8 ct8), sl8⟩) (c8 : PySem.W.codeIn K cd8 "check_move" = true) (k8 : PySem.W.keepIn K (.ref f8) = true)
    (a9 : PySem.W.nsIn K mainGlobals "reach" = some (some (.ref f9))) (l9 : K.lookup f9 = some ⟨oc9, od9, .func (PySem.W.fnOf "reach" "reach" (defArgs s_reach) (defBody s_reach) (defScope s_reach) .none kV9 dc9 pm9 an9 cd9 ct9), sl9⟩) (c9 : PySem.W.codeIn K cd9 "reach" = true) (k9 : PySem.W.keepIn K (.ref f9) = true)
    (a10 : PySem.W.nsIn K mainGlobals "undoing" = some (some (.ref f10))) (l10 : K.lookup f10 = some ⟨oc10, od10, .func (PySem.W.fnOf "undoing" "undoing" (defArgs s_undoing) (defBody s_undoing) (defScope s_undoing) .none kV10 dc10 pm10 an10 cd10 ct10), sl10⟩) (c10 : PySem.W.codeIn K cd10 "undoing" = true) (k10 : PySem.W.keepIn K (.ref f10) = true)
    (a11 : PySem.W.nsIn K mainGlobals "image" = some (some (.ref f11))) (l11 : K.lookup f11 = some ⟨oc11, od11, .func (PySem.W.fnOf "image" "image" (defArgs s_image) (defBody s_image) (defScope s_image) .none kV11 dc11 pm11 an11 cd11 ct11), sl11⟩) (c11 : PySem.W.codeIn K cd11 "image" = true) (k11 : PySem.W.keepIn K (.ref f11) = true)
    (a12 : PySem.W.nsIn K mainGlobals "swap_image" = some (some (.ref f12))) (l12 : K.lookup f12 = some ⟨oc12, od12, .func (PySem.W.fnOf "swap_image" "swap_image" (defArgs s_swap_image) (defBody s_swap_image) (defScope s_swap_image) .none kV12 dc12 pm12 an12 cd12 ct12), sl12⟩) (c12 : PySem.W.codeIn K cd12 "swap_image" = true) (k12 : PySem.W.keepIn K (.ref f12) = true)
    (a13 : PySem.W.nsIn K mainGlobals "carry_image" = some (some (.ref f13))) (l13 : K.lookup f13 = some ⟨oc13, od13, .func (PySem.W.fnOf "carry_image" "carry_image" (defArgs s_carry_image) (defBody s_carry_image) (defScope s_carry_image) .none kV13 dc13 pm13 an13 cd13 ct13), sl13⟩) (c13 : PySem.W.codeIn K cd13 "carry_image" = true) (k13 : PySem.W.keepIn K (.ref f13) = true)
    (a14 : PySem.W.nsIn K mainGlobals "cut_image" = some (some (.ref f14))) (l14 : K.lookup f14 = some ⟨oc14, od14, .func (PySem.W.fnOf "cut_image" "cut_image" (defArgs s_cut_image) (defBody s_cut_image) (defScope s_cut_image) .none kV14 dc14 pm14 an14 cd14 ct14), sl14⟩) (c14 : PySem.W.codeIn K cd14 "cut_image" = true) (k14 : PySem.W.keepIn K (.ref f14) = true)
    (a15 : PySem.W.nsIn K mainGlobals "turn_image" = some (some (.ref f15))) (l15 : K.lookup f15 = some ⟨oc15, od15, .func (PySem.W.fnOf "turn_image" "turn_image" (defArgs s_turn_image) (defBody s_turn_image) (defScope s_turn_image) .none kV15 dc15 pm15 an15 cd15 ct15), sl15⟩) (c15 : PySem.W.codeIn K cd15 "turn_image" = true) (k15 : PySem.W.keepIn K (.ref f15) = true)
    (a16 : PySem.W.nsIn K mainGlobals "over_image" = some (some (.ref f16))) (l16 : K.lookup f16 = some ⟨oc16, od16, .func (PySem.W.fnOf "over_image" "over_image" (defArgs s_over_image) (defBody s_over_image) (defScope s_over_image) .none kV16 dc16 pm16 an16 cd16 ct16), sl16⟩) (c16 : PySem.W.codeIn K cd16 "over_image" = true) (k16 : PySem.W.keepIn K (.ref f16) = true)
    (a17 : PySem.W.nsIn K mainGlobals "face_image" = some (some (.ref f17))) (l17 : K.lookup f17 = some ⟨oc17, od17, .func (PySem.W.fnOf "face_image" "face_image" (defArgs s_face_image) (defBody s_face_image) (defScope s_face_image) .none kV17 dc17 pm17 an17 cd17 ct17), sl17⟩) (c17 : PySem.W.codeIn K cd17 "face_image" = true) (k17 : PySem.W.keepIn K (.ref f17) = true)
    (a18 : PySem.W.nsIn K mainGlobals "_law_bag" = some (some (.ref f18))) (l18 : K.lookup f18 = some ⟨oc18, od18, .func (PySem.W.fnOf "_law_bag" "_law_bag" (defArgs s__law_bag) (defBody s__law_bag) (defScope s__law_bag) .none kV18 dc18 pm18 an18 cd18 ct18), sl18⟩) (c18 : PySem.W.codeIn K cd18 "_law_bag" = true) (k18 : PySem.W.keepIn K (.ref f18) = true)
    (a19 : PySem.W.nsIn K mainGlobals "_law_pull" = some (some (.ref f19))) (l19 : K.lookup f19 = some ⟨oc19, od19, .func (PySem.W.fnOf "_law_pull" "_law_pull" (defArgs s__law_pull) (defBody s__law_pull) (defScope s__law_pull) .none kV19 dc19 pm19 an19 cd19 ct19), sl19⟩) (c19 : PySem.W.codeIn K cd19 "_law_pull" = true) (k19 : PySem.W.keepIn K (.ref f19) = true)
    (a20 : PySem.W.nsIn K mainGlobals "_law_of" = some (some (.ref f20))) (l20 : K.lookup f20 = some ⟨oc20, od20, .func (PySem.W.fnOf "_law_of" "_law_of" (defArgs s__law_of) (defBody s__law_of) (defScope s__law_of) .none kV20 dc20 pm20 an20 cd20 ct20), sl20⟩) (c20 : PySem.W.codeIn K cd20 "_law_of" = true) (k20 : PySem.W.keepIn K (.ref f20) = true)
    (a21 : PySem.W.nsIn K mainGlobals "_law_end" = some (some (.ref f21))) (l21 : K.lookup f21 = some ⟨oc21, od21, .func (PySem.W.fnOf "_law_end" "_law_end" (defArgs s__law_end) (defBody s__law_end) (defScope s__law_end) .none kV21 dc21 pm21 an21 cd21 ct21), sl21⟩) (c21 : PySem.W.codeIn K cd21 "_law_end" = true) (k21 : PySem.W.keepIn K (.ref f21) = true)
    (a22 : PySem.W.nsIn K mainGlobals "_law_move" = some (some (.ref f22))) (l22 : K.lookup f22 = some ⟨oc22, od22, .func (PySem.W.fnOf "_law_move" "_law_move" (defArgs s__law_move) (defBody s__law_move) (defScope s__law_move) .none kV22 dc22 pm22 an22 cd22 ct22), sl22⟩) (c22 : PySem.W.codeIn K cd22 "_law_move" = true) (k22 : PySem.W.keepIn K (.ref f22) = true)
    (a23 : PySem.W.nsIn K mainGlobals "_law_depth" = some (some (.ref f23))) (l23 : K.lookup f23 = some ⟨oc23, od23, .func (PySem.W.fnOf "_law_depth" "_law_depth" (defArgs s__law_depth) (defBody s__law_depth) (defScope s__law_depth) .none kV23 dc23 pm23 an23 cd23 ct23), sl23⟩) (c23 : PySem.W.codeIn K cd23 "_law_depth" = true) (k23 : PySem.W.keepIn K (.ref f23) = true)
    (a24 : PySem.W.nsIn K mainGlobals "_law_spot" = some (some (.ref f24))) (l24 : K.lookup f24 = some ⟨oc24, od24, .func (PySem.W.fnOf "_law_spot" "_law_spot" (defArgs s__law_spot) (defBody s__law_spot) (defScope s__law_spot) .none kV24 dc24 pm24 an24 cd24 ct24), sl24⟩) (c24 : PySem.W.codeIn K cd24 "_law_spot" = true) (k24 : PySem.W.keepIn K (.ref f24) = true)
    (a25 : PySem.W.nsIn K mainGlobals "_law_flipped" = some (some (.ref f25))) (l25 : K.lookup f25 = some ⟨oc25, od25, .func (PySem.W.fnOf "_law_flipped" "_law_flipped" (defArgs s__law_flipped) (defBody s__law_flipped) (defScope s__law_flipped) .none kV25 dc25 pm25 an25 cd25 ct25), sl25⟩) (c25 : PySem.W.codeIn K cd25 "_law_flipped" = true) (k25 : PySem.W.keepIn K (.ref f25) = true)
    (a26 : PySem.W.nsIn K mainGlobals "_law_dealt" = some (some (.ref f26))) (l26 : K.lookup f26 = some ⟨oc26, od26, .func (PySem.W.fnOf "_law_dealt" "_law_dealt" (defArgs s__law_dealt) (defBody s__law_dealt) (defScope s__law_dealt) .none kV26 dc26 pm26 an26 cd26 ct26), sl26⟩) (c26 : PySem.W.codeIn K cd26 "_law_dealt" = true) (k26 : PySem.W.keepIn K (.ref f26) = true)
    (a27 : PySem.W.nsIn K mainGlobals "_law_images" = some (some (.ref f27))) (l27 : K.lookup f27 = some ⟨oc27, od27, .func (PySem.W.fnOf "_law_images" "_law_images" (defArgs s__law_images) (defBody s__law_images) (defScope s__law_images) .none kV27 dc27 pm27 an27 cd27 ct27), sl27⟩) (c27 : PySem.W.codeIn K cd27 "_law_images" = true) (k27 : PySem.W.keepIn K (.ref f27) = true)
    (a28 : PySem.W.nsIn K mainGlobals "_law_goes" = some (some (.ref f28))) (l28 : K.lookup f28 = some ⟨oc28, od28, .func (PySem.W.fnOf "_law_goes" "_law_goes" (defArgs s__law_goes) (defBody s__law_goes) (defScope s__law_goes) .none kV28 dc28 pm28 an28 cd28 ct28), sl28⟩) (c28 : PySem.W.codeIn K cd28 "_law_goes" = true) (k28 : PySem.W.keepIn K (.ref f28) = true)
    (a29 : PySem.W.nsIn K mainGlobals "_law_then" = some (some (.ref f29))) (l29 : K.lookup f29 = some ⟨oc29, od29, .func (PySem.W.fnOf "_law_then" "_law_then" (defArgs s__law_then) (defBody s__law_then) (defScope s__law_then) .none kV29 dc29 pm29 an29 cd29 ct29), sl29⟩) (c29 : PySem.W.codeIn K cd29 "_law_then" = true) (k29 : PySem.W.keepIn K (.ref f29) = true)
    (a30 : PySem.W.nsIn K mainGlobals "_law_great" = some (some (.ref f30))) (l30 : K.lookup f30 = some ⟨oc30, od30, .func (PySem.W.fnOf "_law_great" "_law_great" (defArgs s__law_great) (defBody s__law_great) (defScope s__law_great) .none kV30 dc30 pm30 an30 cd30 ct30), sl30⟩) (c30 : PySem.W.codeIn K cd30 "_law_great" = true) (k30 : PySem.W.keepIn K (.ref f30) = true)
    (a31 : PySem.W.nsIn K mainGlobals "_law_place_of" = some (some (.ref f31))) (l31 : K.lookup f31 = some ⟨oc31, od31, .func (PySem.W.fnOf "_law_place_of" "_law_place_of" (defArgs s__law_place_of) (defBody s__law_place_of) (defScope s__law_place_of) .none kV31 dc31 pm31 an31 cd31 ct31), sl31⟩) (c31 : PySem.W.codeIn K cd31 "_law_place_of" = true) (k31 : PySem.W.keepIn K (.ref f31) = true)
    (a32 : PySem.W.nsIn K mainGlobals "law" = some (some (.ref f32))) (l32 : K.lookup f32 = some ⟨oc32, od32, .func (PySem.W.fnOf "law" "law" (defArgs s_law) (defBody s_law) (defScope s_law) .none kV32 dc32 pm32 an32 cd32 ct32), sl32⟩) (c32 : PySem.W.codeIn K cd32 "law" = true) (k32 : PySem.W.keepIn K (.ref f32) = true)
    (z_abs : PySem.W.nsIn K mainGlobals "abs" = some none)
    (z_action : PySem.W.nsIn K mainGlobals "action" = some none)
    (z_bool : PySem.W.nsIn K mainGlobals "bool" = some none)
    (z_int : PySem.W.nsIn K mainGlobals "int" = some none)
    (z_isinstance : PySem.W.nsIn K mainGlobals "isinstance" = some none)
    (z_len : PySem.W.nsIn K mainGlobals "len" = some none)
    (z_list : PySem.W.nsIn K mainGlobals "list" = some none)
    (z_max : PySem.W.nsIn K mainGlobals "max" = some none)
    (z_min : PySem.W.nsIn K mainGlobals "min" = some none)
    (z_range : PySem.W.nsIn K mainGlobals "range" = some none)
    (z_str : PySem.W.nsIn K mainGlobals "str" = some none)
    (z_tuple : PySem.W.nsIn K mainGlobals "tuple" = some none)
    (z_zip : PySem.W.nsIn K mainGlobals "zip" = some none)
    (y_MOST_DEPTH : PySem.W.nsIn K mainGlobals "MOST_DEPTH" = some (some (.int 399 t_MOST_DEPTH)))
    (y_MOST_CARDS : PySem.W.nsIn K mainGlobals "MOST_CARDS" = some (some (.int 1000000000000000000000000000000 t_MOST_CARDS)))
    (y_MOST_BLOCK : PySem.W.nsIn K mainGlobals "MOST_BLOCK" = some (some (.int 400 t_MOST_BLOCK)))
    (y_SHAPES : PySem.W.nsIn K mainGlobals "SHAPES" = some (some (.ref a_SHAPES))) (l_SHAPES : K.lookup a_SHAPES = some ⟨.type "dict", none, .dict es_SHAPES n_SHAPES, #[]⟩) (k_SHAPES : PySem.W.KeysLit w.params es_SHAPES.toList) (s_SHAPES : (a_SHAPES == sysModules) = false)
    (e_SHAPES_swap : PySem.W.nsIn K a_SHAPES "swap" = some (some (.ref a_SHAPES_swap))) (l_SHAPES_swap : K.lookup a_SHAPES_swap = some ⟨.type "tuple", dd_SHAPES_swap, .seq #[.str "place" u_SHAPES_swap_0, .str "place" u_SHAPES_swap_1] m_SHAPES_swap, sl_SHAPES_swap⟩)
    (e_SHAPES_carry : PySem.W.nsIn K a_SHAPES "carry" = some (some (.ref a_SHAPES_carry))) (l_SHAPES_carry : K.lookup a_SHAPES_carry = some ⟨.type "tuple", dd_SHAPES_carry, .seq #[.str "place" u_SHAPES_carry_0, .str "place" u_SHAPES_carry_1] m_SHAPES_carry, sl_SHAPES_carry⟩)
    (e_SHAPES_cut : PySem.W.nsIn K a_SHAPES "cut" = some (some (.ref a_SHAPES_cut))) (l_SHAPES_cut : K.lookup a_SHAPES_cut = some ⟨.type "tuple", dd_SHAPES_cut, .seq #[.str "signed" u_SHAPES_cut_0] m_SHAPES_cut, sl_SHAPES_cut⟩)
    (e_SHAPES_turn : PySem.W.nsIn K a_SHAPES "turn" = some (some (.ref a_SHAPES_turn))) (l_SHAPES_turn : K.lookup a_SHAPES_turn = some ⟨.type "tuple", dd_SHAPES_turn, .seq #[.str "end" u_SHAPES_turn_0, .str "block" u_SHAPES_turn_1] m_SHAPES_turn, sl_SHAPES_turn⟩)
    (e_SHAPES_over : PySem.W.nsIn K a_SHAPES "over" = some (some (.ref a_SHAPES_over))) (l_SHAPES_over : K.lookup a_SHAPES_over = some ⟨.type "tuple", dd_SHAPES_over, .seq #[] m_SHAPES_over, sl_SHAPES_over⟩)
    (e_SHAPES_face : PySem.W.nsIn K a_SHAPES "face" = some (some (.ref a_SHAPES_face))) (l_SHAPES_face : K.lookup a_SHAPES_face = some ⟨.type "tuple", dd_SHAPES_face, .seq #[.str "place" u_SHAPES_face_0] m_SHAPES_face, sl_SHAPES_face⟩)
    (y_IMAGES : PySem.W.nsIn K mainGlobals "IMAGES" = some (some (.ref a_IMAGES))) (l_IMAGES : K.lookup a_IMAGES = some ⟨.type "dict", none, .dict es_IMAGES n_IMAGES, #[]⟩) (k_IMAGES : PySem.W.KeysLit w.params es_IMAGES.toList) (s_IMAGES : (a_IMAGES == sysModules) = false)
    (e_IMAGES_swap : PySem.W.nsIn K a_IMAGES "swap" = some (some (.ref f12)))
    (e_IMAGES_carry : PySem.W.nsIn K a_IMAGES "carry" = some (some (.ref f13)))
    (e_IMAGES_cut : PySem.W.nsIn K a_IMAGES "cut" = some (some (.ref f14)))
    (e_IMAGES_turn : PySem.W.nsIn K a_IMAGES "turn" = some (some (.ref f15)))
    (e_IMAGES_over : PySem.W.nsIn K a_IMAGES "over" = some (some (.ref f16)))
    (e_IMAGES_face : PySem.W.nsIn K a_IMAGES "face" = some (some (.ref f17)))
    : ∃ fd : FuncData, (∀ (s : Shared) (v : Value), BindsTo s fd ⟨[v], []⟩ [("_law_script", v)]) ∧ ∀ base : Heap, K.In base → base.Ns mainGlobals mg → FnOk (PySem.Challenge.rw_pileports_k06_moves_undone).prog w K mg base CX0 9 fa fd ["_law_script"] (spLaw K) := by
  have e := hfa.symm.trans (PySem.W.mg_of X G a32)
  cases e
  have F0 := fun_mk (st := s_is_number) l0 c0 k0
  have F1 := fun_mk (st := s_is_end) l1 c1 k1
  have F2 := fun_mk (st := s_is_end_place) l2 c2 k2
  have F3 := fun_mk (st := s_check_size) l3 c3 k3
  have F4 := fun_mk (st := s_check_place) l4 c4 k4
  have F5 := fun_mk (st := s_resolve) l5 c5 k5
  have F6 := fun_mk (st := s_is_move) l6 c6 k6
  have F7 := fun_mk (st := s_fits) l7 c7 k7
  have F8 := fun_mk (st := s_check_move) l8 c8 k8
  have F9 := fun_mk (st := s_reach) l9 c9 k9
  have F10 := fun_mk (st := s_undoing) l10 c10 k10
  have F11 := fun_mk (st := s_image) l11 c11 k11
  have F12 := fun_mk (st := s_swap_image) l12 c12 k12
  have F13 := fun_mk (st := s_carry_image) l13 c13 k13
  have F14 := fun_mk (st := s_cut_image) l14 c14 k14
  have F15 := fun_mk (st := s_turn_image) l15 c15 k15
  have F16 := fun_mk (st := s_over_image) l16 c16 k16
  have F17 := fun_mk (st := s_face_image) l17 c17 k17
  have F18 := fun_mk (st := s__law_bag) l18 c18 k18
  have F19 := fun_mk (st := s__law_pull) l19 c19 k19
  have F20 := fun_mk (st := s__law_of) l20 c20 k20
  have F21 := fun_mk (st := s__law_end) l21 c21 k21
  have F22 := fun_mk (st := s__law_move) l22 c22 k22
  have F23 := fun_mk (st := s__law_depth) l23 c23 k23
  have F24 := fun_mk (st := s__law_spot) l24 c24 k24
  have F25 := fun_mk (st := s__law_flipped) l25 c25 k25
  have F26 := fun_mk (st := s__law_dealt) l26 c26 k26
  have F27 := fun_mk (st := s__law_images) l27 c27 k27
  have F28 := fun_mk (st := s__law_goes) l28 c28 k28
  have F29 := fun_mk (st := s__law_then) l29 c29 k29
  have F30 := fun_mk (st := s__law_great) l30 c30 k30
  have F31 := fun_mk (st := s__law_place_of) l31 c31 k31
  have F32 := fun_mk (st := s_law) l32 c32 k32
  let T : Txt K mg w := {
    a_is_number := _,
    d_is_number := _,
    F_is_number := F0,
    g_is_number := PySem.W.mg_of X G a0,
    b_is_number := F0.binds (ps := P_is_number) fun _ _ _ _ _ _ us hl => match us, hl with | [_], _ => rfl,
    a_is_end := _,
    d_is_end := _,
    F_is_end := F1,
    g_is_end := PySem.W.mg_of X G a1,
    b_is_end := F1.binds (ps := P_is_end) fun _ _ _ _ _ _ us hl => match us, hl with | [_], _ => rfl,
    a_is_end_place := _,
    d_is_end_place := _,
    F_is_end_place := F2,
    g_is_end_place := PySem.W.mg_of X G a2,
    b_is_end_place := F2.binds (ps := P_is_end_place) fun _ _ _ _ _ _ us hl => match us, hl with | [_], _ => rfl,
    a_check_size := _,
    d_check_size := _,
    F_check_size := F3,
    g_check_size := PySem.W.mg_of X G a3,
    b_check_size := F3.binds (ps := P_check_size) fun _ _ _ _ _ _ us hl => match us, hl with | [_], _ => rfl,
    a_check_place := _,
    d_check_place := _,
    F_check_place := F4,
    g_check_place := PySem.W.mg_of X G a4,
    b_check_place := F4.binds (ps := P_check_place) fun _ _ _ _ _ _ us hl => match us, hl with | [_, _], _ => rfl,
    a_resolve := _,
    d_resolve := _,
    F_resolve := F5,
    g_resolve := PySem.W.mg_of X G a5,
    b_resolve := F5.binds (ps := P_resolve) fun _ _ _ _ _ _ us hl => match us, hl with | [_, _], _ => rfl,
    a_is_move := _,
    d_is_move := _,
    F_is_move := F6,
    g_is_move := PySem.W.mg_of X G a6,
    b_is_move := F6.binds (ps := P_is_move) fun _ _ _ _ _ _ us hl => match us, hl with | [_], _ => rfl,
    a_fits := _,
    d_fits := _,
    F_fits := F7,
    g_fits := PySem.W.mg_of X G a7,
    b_fits := F7.binds (ps := P_fits) fun _ _ _ _ _ _ us hl => match us, hl with | [_, _], _ => rfl,
    a_check_move := _,
    d_check_move := _,
    F_check_move := F8,
    g_check_move := PySem.W.mg_of X G a8,
    b_check_move := F8.binds (ps := P_check_move) fun _ _ _ _ _ _ us hl => match us, hl with | [_], _ => rfl,
    a_reach := _,
    d_reach := _,
    F_reach := F9,
    g_reach := PySem.W.mg_of X G a9,
    b_reach := F9.binds (ps := P_reach) fun _ _ _ _ _ _ us hl => match us, hl with | [_], _ => rfl,
    a_undoing := _,
    d_undoing := _,
    F_undoing := F10,
    g_undoing := PySem.W.mg_of X G a10,
    b_undoing := F10.binds (ps := P_undoing) fun _ _ _ _ _ _ us hl => match us, hl with | [_], _ => rfl,
    a_image := _,
    d_image := _,
    F_image := F11,
    g_image := PySem.W.mg_of X G a11,
    b_image := F11.binds (ps := P_image) fun _ _ _ _ _ _ us hl => match us, hl with | [_, _, _], _ => rfl,
    a_swap_image := _,
    d_swap_image := _,
    F_swap_image := F12,
    g_swap_image := PySem.W.mg_of X G a12,
    b_swap_image := F12.binds (ps := P_swap_image) fun _ _ _ _ _ _ us hl => match us, hl with | [_, _, _], _ => rfl,
    a_carry_image := _,
    d_carry_image := _,
    F_carry_image := F13,
    g_carry_image := PySem.W.mg_of X G a13,
    b_carry_image := F13.binds (ps := P_carry_image) fun _ _ _ _ _ _ us hl => match us, hl with | [_, _, _], _ => rfl,
    a_cut_image := _,
    d_cut_image := _,
    F_cut_image := F14,
    g_cut_image := PySem.W.mg_of X G a14,
    b_cut_image := F14.binds (ps := P_cut_image) fun _ _ _ _ _ _ us hl => match us, hl with | [_, _, _], _ => rfl,
    a_turn_image := _,
    d_turn_image := _,
    F_turn_image := F15,
    g_turn_image := PySem.W.mg_of X G a15,
    b_turn_image := F15.binds (ps := P_turn_image) fun _ _ _ _ _ _ us hl => match us, hl with | [_, _, _], _ => rfl,
    a_over_image := _,
    d_over_image := _,
    F_over_image := F16,
    g_over_image := PySem.W.mg_of X G a16,
    b_over_image := F16.binds (ps := P_over_image) fun _ _ _ _ _ _ us hl => match us, hl with | [_, _, _], _ => rfl,
    a_face_image := _,
    d_face_image := _,
    F_face_image := F17,
    g_face_image := PySem.W.mg_of X G a17,
    b_face_image := F17.binds (ps := P_face_image) fun _ _ _ _ _ _ us hl => match us, hl with | [_, _, _], _ => rfl,
    a__law_bag := _,
    d__law_bag := _,
    F__law_bag := F18,
    g__law_bag := PySem.W.mg_of X G a18,
    b__law_bag := F18.binds (ps := P__law_bag) fun _ _ _ _ _ _ us hl => match us, hl with | [_], _ => rfl,
    a__law_pull := _,
    d__law_pull := _,
    F__law_pull := F19,
    g__law_pull := PySem.W.mg_of X G a19,
    b__law_pull := F19.binds (ps := P__law_pull) fun _ _ _ _ _ _ us hl => match us, hl with | [_, _], _ => rfl,
    a__law_of := _,
    d__law_of := _,
    F__law_of := F20,
    g__law_of := PySem.W.mg_of X G a20,
    b__law_of := F20.binds (ps := P__law_of) fun _ _ _ _ _ _ us hl => match us, hl with | [_, _], _ => rfl,
    a__law_end := _,
    d__law_end := _,
    F__law_end := F21,
    g__law_end := PySem.W.mg_of X G a21,
    b__law_end := F21.binds (ps := P__law_end) fun _ _ _ _ _ _ us hl => match us, hl with | [_, _], _ => rfl,
    a__law_move := _,
    d__law_move := _,
    F__law_move := F22,
    g__law_move := PySem.W.mg_of X G a22,
    b__law_move := F22.binds (ps := P__law_move) fun _ _ _ _ _ _ us hl => match us, hl with | [_, _], _ => rfl,
    a__law_depth := _,
    d__law_depth := _,
    F__law_depth := F23,
    g__law_depth := PySem.W.mg_of X G a23,
    b__law_depth := F23.binds (ps := P__law_depth) fun _ _ _ _ _ _ us hl => match us, hl with | [_], _ => rfl,
    a__law_spot := _,
    d__law_spot := _,
    F__law_spot := F24,
    g__law_spot := PySem.W.mg_of X G a24,
    b__law_spot := F24.binds (ps := P__law_spot) fun _ _ _ _ _ _ us hl => match us, hl with | [_, _], _ => rfl,
    a__law_flipped := _,
    d__law_flipped := _,
    F__law_flipped := F25,
    g__law_flipped := PySem.W.mg_of X G a25,
    b__law_flipped := F25.binds (ps := P__law_flipped) fun _ _ _ _ _ _ us hl => match us, hl with | [_], _ => rfl,
    a__law_dealt := _,
    d__law_dealt := _,
    F__law_dealt := F26,
    g__law_dealt := PySem.W.mg_of X G a26,
    b__law_dealt := F26.binds (ps := P__law_dealt) fun _ _ _ _ _ _ us hl => match us, hl with | [_, _], _ => rfl,
    a__law_images := _,
    d__law_images := _,
    F__law_images := F27,
    g__law_images := PySem.W.mg_of X G a27,
    b__law_images := F27.binds (ps := P__law_images) fun _ _ _ _ _ _ us hl => match us, hl with | [_, _], _ => rfl,
    a__law_goes := _,
    d__law_goes := _,
    F__law_goes := F28,
    g__law_goes := PySem.W.mg_of X G a28,
    b__law_goes := F28.binds (ps := P__law_goes) fun _ _ _ _ _ _ us hl => match us, hl with | [_, _, _], _ => rfl,
    a__law_then := _,
    d__law_then := _,
    F__law_then := F29,
    g__law_then := PySem.W.mg_of X G a29,
    b__law_then := F29.binds (ps := P__law_then) fun _ _ _ _ _ _ us hl => match us, hl with | [_, _], _ => rfl,
    a__law_great := _,
    d__law_great := _,
    F__law_great := F30,
    g__law_great := PySem.W.mg_of X G a30,
    b__law_great := F30.binds (ps := P__law_great) fun _ _ _ _ _ _ us hl => match us, hl with | [_], _ => rfl,
    a__law_place_of := _,
    d__law_place_of := _,
    F__law_place_of := F31,
    g__law_place_of := PySem.W.mg_of X G a31,
    b__law_place_of := F31.binds (ps := P__law_place_of) fun _ _ _ _ _ _ us hl => match us, hl with | [_, _], _ => rfl,
    a_law := _,
    d_law := _,
    F_law := F32,
    g_law := PySem.W.mg_of X G a32,
    m_abs := PySem.W.mg_none_of X G z_abs,
    m_action := PySem.W.mg_none_of X G z_action,
    m_bool := PySem.W.mg_none_of X G z_bool,
    m_int := PySem.W.mg_none_of X G z_int,
    m_isinstance := PySem.W.mg_none_of X G z_isinstance,
    m_len := PySem.W.mg_none_of X G z_len,
    m_list := PySem.W.mg_none_of X G z_list,
    m_max := PySem.W.mg_none_of X G z_max,
    m_min := PySem.W.mg_none_of X G z_min,
    m_range := PySem.W.mg_none_of X G z_range,
    m_str := PySem.W.mg_none_of X G z_str,
    m_tuple := PySem.W.mg_none_of X G z_tuple,
    m_zip := PySem.W.mg_none_of X G z_zip,
    t_MOST_DEPTH := _,
    c_MOST_DEPTH := PySem.W.mg_of X G y_MOST_DEPTH,
    t_MOST_CARDS := _,
    c_MOST_CARDS := PySem.W.mg_of X G y_MOST_CARDS,
    t_MOST_BLOCK := _,
    c_MOST_BLOCK := PySem.W.mg_of X G y_MOST_BLOCK,
    a_SHAPES := _,
    c_SHAPES := PySem.W.mg_of X G y_SHAPES,
    d_SHAPES := ⟨_, _, l_SHAPES, k_SHAPES, s_SHAPES⟩,
    a_SHAPES_swap := _,
    e_SHAPES_swap := ⟨_, _, _, l_SHAPES, k_SHAPES, e_SHAPES_swap, rfl⟩,
    q_SHAPES_swap := fun _ => .inr ⟨_, _, _, l_SHAPES_swap, rfl, rfl, le_line (Nat.le_of_ble_eq_true rfl), (.cons ⟨_, rfl⟩ (.cons ⟨_, rfl⟩ .nil))⟩,
    a_SHAPES_carry := _,
    e_SHAPES_carry := ⟨_, _, _, l_SHAPES, k_SHAPES, e_SHAPES_carry, rfl⟩,
    q_SHAPES_carry := fun _ => .inr ⟨_, _, _, l_SHAPES_carry, rfl, rfl, le_line (Nat.le_of_ble_eq_true rfl), (.cons ⟨_, rfl⟩ (.cons ⟨_, rfl⟩ .nil))⟩,
    a_SHAPES_cut := _,
    e_SHAPES_cut := ⟨_, _, _, l_SHAPES, k_SHAPES, e_SHAPES_cut, rfl⟩,
    q_SHAPES_cut := fun _ => .inr ⟨_, _, _, l_SHAPES_cut, rfl, rfl, le_line (Nat.le_of_ble_eq_true rfl), (.cons ⟨_, rfl⟩ .nil)⟩,
    a_SHAPES_turn := _,
    e_SHAPES_turn := ⟨_, _, _, l_SHAPES, k_SHAPES, e_SHAPES_turn, rfl⟩,
    q_SHAPES_turn := fun _ => .inr ⟨_, _, _, l_SHAPES_turn, rfl, rfl, le_line (Nat.le_of_ble_eq_true rfl), (.cons ⟨_, rfl⟩ (.cons ⟨_, rfl⟩ .nil))⟩,
    a_SHAPES_over := _,
    e_SHAPES_over := ⟨_, _, _, l_SHAPES, k_SHAPES, e_SHAPES_over, rfl⟩,
    q_SHAPES_over := fun _ => .inr ⟨_, _, _, l_SHAPES_over, rfl, rfl, le_line (Nat.le_of_ble_eq_true rfl), .nil⟩,
    a_SHAPES_face := _,
    e_SHAPES_face := ⟨_, _, _, l_SHAPES, k_SHAPES, e_SHAPES_face, rfl⟩,
    q_SHAPES_face := fun _ => .inr ⟨_, _, _, l_SHAPES_face, rfl, rfl, le_line (Nat.le_of_ble_eq_true rfl), (.cons ⟨_, rfl⟩ .nil)⟩,
    a_IMAGES := _,
    c_IMAGES := PySem.W.mg_of X G y_IMAGES,
    d_IMAGES := ⟨_, _, l_IMAGES, k_IMAGES, s_IMAGES⟩,
    e_IMAGES_swap := ⟨_, _, _, l_IMAGES, k_IMAGES, e_IMAGES_swap, rfl⟩,
    e_IMAGES_carry := ⟨_, _, _, l_IMAGES, k_IMAGES, e_IMAGES_carry, rfl⟩,
    e_IMAGES_cut := ⟨_, _, _, l_IMAGES, k_IMAGES, e_IMAGES_cut, rfl⟩,
    e_IMAGES_turn := ⟨_, _, _, l_IMAGES, k_IMAGES, e_IMAGES_turn, rfl⟩,
    e_IMAGES_over := ⟨_, _, _, l_IMAGES, k_IMAGES, e_IMAGES_over, rfl⟩,
    e_IMAGES_face := ⟨_, _, _, l_IMAGES, k_IMAGES, e_IMAGES_face, rfl⟩ }
  exact ⟨_, fun s v => .of_eq rfl, fun base _ _ => ok_law T⟩
end Z
open PySem PySem.W PyProof.Rows
set_option maxHeartbeats 0 in
theorem PySem.Challenge.cw_pileports_k06_moves_undone_holds : PySem.Challenge.rw_pileports_k06_moves_undone.Holds := by
  w_on; o_law; k_head; (case hw => w_witness2)
  k_fill
  refine L2.walk_of (l := PySem.Challenge.rw_pileports_k06_moves_undone) (n := 63) (k := 9) (x := "_law_script") (CX := fun _ => L2.CX0) (sp := fun w => Z.spLaw _) rfl (by decide) rfl ⟨rfl, by decide, by decide⟩ (fun w h Y => PySem.W.kIn_of Y) ?F (fun _ _ a ns hl _ hS => ⟨a, ns, rfl, hS, hl, fun _ => rfl⟩) (fun _ _ _ _ _ h => h)
  case F =>
    intro w mg fa h KX G hmg
    refine' Z.all_mk KX G hmg ?a0 ?l0 ?c0 ?k0 ?a1 ?l1 ?c1 ?k1 ?a2 ?l2 ?c2 ?k2 ?a3 ?l3 ?c3 ?k3 ?a4 ?l4 ?c4 ?k4 ?a5 ?l5 ?c5 ?k5 ?a6 ?l6 ?c6 ?k6 ?a7 ?l7 ?c7 ?k7 ?a8 ?l8 ?c8 ?k8 ?a9 ?l9 ?c9 ?k9 ?a10 ?l10 ?c10 ?k10 ?a11 ?l11 ?c11 ?k11 ?a12 ?l12 ?c12 ?k12 ?a13 ?l13 ?c13 ?k13 ?a14 ?l14 ?c14 ?k14 ?a15 ?l15 ?c15 ?k15 ?a16 ?l16 ?c16 ?k16 ?a17 ?l17 ?c17 ?k17 ?a18 ?l18 ?c18 ?k18 ?a19 ?l19 ?c19 ?k19 ?a20 ?l20 ?c20 ?k20 ?a21 ?l21 ?c21 ?k21 ?a22 ?l22 ?c22 ?k22 ?a23 ?l23 ?c23 ?k23 ?a24 ?l24 ?c24 ?k24 ?a25 ?l25 ?c25 ?k25 ?a26 ?l26 ?c26 ?k26 ?a27 ?l27 ?c27 ?k27 ?a28 ?l28 ?c28 ?k28 ?a29 ?l29 ?c29 ?k29 ?a30 ?l30 ?c30 ?k30 ?a31 ?l31 ?c31 ?k31 ?a32 ?l32 ?c32 ?k32 ?z_abs ?z_action ?z_bool ?z_int ?z_isinstance ?z_len ?z_list ?z_max ?z_min ?z_range ?z_str ?z_tuple ?z_zip ?y_MOST_DEPTH ?y_MOST_CARDS ?y_MOST_BLOCK ?y_SHAPES ?l_SHAPES ?k_SHAPES ?s_SHAPES ?e_SHAPES_swap ?l_SHAPES_swap ?e_SHAPES_carry ?l_SHAPES_carry ?e_SHAPES_cut ?l_SHAPES_cut ?e_SHAPES_turn ?l_SHAPES_turn ?e_SHAPES_over ?l_SHAPES_over ?e_SHAPES_face ?l_SHAPES_face ?y_IMAGES ?l_IMAGES ?k_IMAGES ?s_IMAGES ?e_IMAGES_swap ?e_IMAGES_carry ?e_IMAGES_cut ?e_IMAGES_turn ?e_IMAGES_over ?e_IMAGES_face
    (case a0 => k_is); (case l0 => k_is); (case c0 => k_is); (case k0 => k_is); (case a1 => k_is); (case l1 => k_is); (case c1 => k_is); (case k1 => k_is); (case a2 => k_is); (case l2 => k_is); (case c2 => k_is); (case k2 => k_is); (case a3 => k_is); (case l3 => k_is); (case c3 => k_is); (case k3 => k_is); (case a4 => k_is); (case l4 => k_is); (case c4 => k_is); (case k4 => k_is); (case a5 => k_is); (case l5 => k_is); (case c5 => k_is); (case k5 => k_is); (case a6 => k_is); (case l6 => k_is); (case c6 => k_is); (case k6 => k_is); (case a7 => k_is); (case l7 => k_is); (case c7 => k_is); (case k7 => k_is); (case a8 => k_is); (case l8 => k_is); (case c8 => k_is); (case k8 => k_is); (case a9 => k_is); (case l9 => k_is); (case c9 => k_is); (case k9 => k_is); (case a10 => k_is); (case l10 => k_is); (case c10 => k_is); (case k10 => k_is); (case a11 => k_is); (case l11 => k_is); (case c11 => k_is); (case k11 => k_is); (case a12 => k_is); (case l12 => k_is); (case c12 => k_is); (case k12 => k_is); (case a13 => k_is); (case l13 => k_is); (case c13 => k_is); (case k13 => k_is); (case a14 => k_is); (case l14 => k_is); (case c14 => k_is); (case k14 => k_is); (case a15 => k_is); (case l15 => k_is); (case c15 => k_is); (case k15 => k_is); (case a16 => k_is); (case l16 => k_is); (case c16 => k_is); (case k16 => k_is); (case a17 => k_is); (case l17 => k_is); (case c17 => k_is); (case k17 => k_is); (case a18 => k_is); (case l18 => k_is); (case c18 => k_is); (case k18 => k_is); (case a19 => k_is); (case l19 => k_is); (case c19 => k_is); (case k19 => k_is); (case a20 => k_is); (case l20 => k_is); (case c20 => k_is); (case k20 => k_is); (case a21 => k_is); (case l21 => k_is); (case c21 => k_is); (case k21 => k_is); (case a22 => k_is); (case l22 => k_is); (case c22 => k_is); (case k22 => k_is); (case a23 => k_is); (case l23 => k_is); (case c23 => k_is); (case k23 => k_is); (case a24 => k_is); (case l24 => k_is); (case c24 => k_is); (case k24 => k_is); (case a25 => k_is); (case l25 => k_is); (case c25 => k_is); (case k25 => k_is); (case a26 => k_is); (case l26 => k_is); (case c26 => k_is); (case k26 => k_is); (case a27 => k_is); (case l27 => k_is); (case c27 => k_is); (case k27 => k_is); (case a28 => k_is); (case l28 => k_is); (case c28 => k_is); (case k28 => k_is); (case a29 => k_is); (case l29 => k_is); (case c29 => k_is); (case k29 => k_is); (case a30 => k_is); (case l30 => k_is); (case c30 => k_is); (case k30 => k_is); (case a31 => k_is); (case l31 => k_is); (case c31 => k_is); (case k31 => k_is); (case a32 => k_is); (case l32 => k_is); (case c32 => k_is); (case k32 => k_is); (case z_abs => k_is); (case z_action => k_is); (case z_bool => k_is); (case z_int => k_is); (case z_isinstance => k_is); (case z_len => k_is); (case z_list => k_is); (case z_max => k_is); (case z_min => k_is); (case z_range => k_is); (case z_str => k_is); (case z_tuple => k_is); (case z_zip => k_is); (case y_MOST_DEPTH => k_is); (case y_MOST_CARDS => k_is); (case y_MOST_BLOCK => k_is); (case y_SHAPES => k_is); (case l_SHAPES => k_is); (case k_SHAPES => k_keys); (case s_SHAPES => (first | rfl | decide)); (case e_SHAPES_swap => k_is); (case l_SHAPES_swap => k_is); (case e_SHAPES_carry => k_is); (case l_SHAPES_carry => k_is); (case e_SHAPES_cut => k_is); (case l_SHAPES_cut => k_is); (case e_SHAPES_turn => k_is); (case l_SHAPES_turn => k_is); (case e_SHAPES_over => k_is); (case l_SHAPES_over => k_is); (case e_SHAPES_face => k_is); (case l_SHAPES_face => k_is); (case y_IMAGES => k_is); (case l_IMAGES => k_is); (case k_IMAGES => k_keys); (case s_IMAGES => (first | rfl | decide)); (case e_IMAGES_swap => k_is); (case e_IMAGES_carry => k_is); (case e_IMAGES_cut => k_is); (case e_IMAGES_turn => k_is); (case e_IMAGES_over => k_is); (case e_IMAGES_face => k_is)
