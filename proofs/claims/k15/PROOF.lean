import PyProof.Rows.All
import Wide.All
import OpenK.AllK
import Wide.FinOn
import PySem.Challenge.RW_pileports_k15_forms_of_single_moves
import HandS.ForMost
import HandS.Wide
import HandS.WideMore
import HandS.IsInst
import HandS.Star
import HandS.NoneIn
import HandS.Zip
import HandS.Defaults
import HandS.Evl
import HandS.WrittenGet
import HandS.CallLocal
import HandS.TupAny
import HandS.Style
import HandS.More
import HandS.ExcInit
import HandS.ExcField
import HandS.ExcIs
import HandS.WordsExc
import HandS.ClsMeth
import HandS.HotCalls
import HandS.Lambda
import HandS.EndTab
import HandS.Deep
import KE.KNestM
import KE.GoesEnum
import KE.GoesMore
import HandS.FStr
import HandS.StrMore
import HandS.StrSplit
import HandS.Rev
import HandS.Walk
import HandS.Property
import HandS.MethStar
import HandS.OwnEq
import HandS.SlotsOwn
import HandS.Dict
import HandS.SortRule
import HandS.Conv
import KE.KCallOwn
import KE.KFmtOwn
import HandS.RaiseMore
set_option Elab.async false
set_option linter.all false
set_option maxRecDepth 100000
set_option maxHeartbeats 8000000
namespace Z
open PySem PySem.Spec PyProof.Rows L2
/-! ### rules whose reading names the written part by its own letter -/
section
variable {X : Cx} {K : PySem.W.Frag}
def rLenQ (K : PySem.W.Frag) : List V → Hp → VK → Prop := fun vs H Q => ∃ a us, vs = [.ref a] ∧ (SqL K H a us ∨ SqT K H a us) ∧ Q (.int us.length) H
def rListQ (K : PySem.W.Frag) : List V → Hp → VK → Prop := fun vs H Q => ∃ a us, vs = [.ref a] ∧ (SqL K H a us ∨ SqT K H a us) ∧ ∀ n, H n = none → Q (.ref n) (upd H n (.lst us))
def rTupleQ (K : PySem.W.Frag) : List V → Hp → VK → Prop := fun vs H Q => ∃ a us, vs = [.ref a] ∧ ((SqL K H a us ∧ ∀ n, H n = none → Q (.ref n) (upd H n (.tup us))) ∨ (SqT K H a us ∧ Q (.ref a) H))
theorem k_ixL (h : X.K = K := by rfl) : IxR X (rIxL K) := h ▸ ix_list
theorem k_ixT (h : X.K = K := by rfl) : IxR X (rIxT K) := h ▸ ix_tup
theorem k_slL (h : X.K = K := by rfl) : SlR X (rSlL K) := h ▸ sl_list
theorem k_len (h : X.K = K := by rfl) : CallR X (.builtin "len") (rLenQ K) := h ▸ call_len_seq
theorem k_list (h : X.K = K := by rfl) : CallR X (.type "list") (rListQ K) := h ▸ call_list_of
theorem k_tuple (h : X.K = K := by rfl) : CallR X (.type "tuple") (rTupleQ K) := h ▸ call_tuple_of
theorem k_max (hc : X.calm = true := by rfl) (h : X.K = K := by rfl) : CallR X (.builtin "max") (rMax K) := h ▸ cr_max hc
theorem k_min (hc : X.calm = true := by rfl) (h : X.K = K := by rfl) : CallR X (.builtin "min") (rMin K) := h ▸ cr_min hc
theorem k_all (hc : X.calm = true := by rfl) (h : X.K = K := by rfl) : CallR X (.builtin "all") (rAll K) := h ▸ cr_all hc
theorem k_isi (h : X.K = K := by rfl) : CallR X (.builtin "isinstance") (rIsi K) := h ▸ call_isi
theorem k_in (h : X.K = K := by rfl) : OpR X (compareOp .In) (rIn K false) := h ▸ op_in_seq
theorem k_notIn (h : X.K = K := by rfl) : OpR X (compareOp .NotIn) (rIn K true) := h ▸ op_notIn_seq
theorem k_eqD (hu : X.A.units + 64 < cLine) (h : X.K = K := by rfl) : OpR X (compareOp .Eq) (rEqD K) := h ▸ op_eqD hu
theorem k_neD (hu : X.A.units + 64 < cLine) (h : X.K = K := by rfl) : OpR X (compareOp .NotEq) (rNeD K) := h ▸ op_neD hu
theorem k_piL {tg l : Expr} {tl : TE} (hl : PE X l tl) (h : X.K = K := by rfl) : PI X tg l (iList K tl) := h ▸ pi_list hl
theorem k_piT {tg l : Expr} {tl : TE} (hl : PE X l tl) (h : X.K = K := by rfl) : PI X tg l (iTup K tl) := h ▸ pi_tup hl
theorem k_gT {es : List Expr} {k : Nat} {t : TGs} {n : Nat} {pos : Pos} (pt : PGs X es t) (hc : X.calm = true := by rfl) (hn : (assignEach es X.env).length = n := by rfl)
    (hst : (assignEach es X.env).findIdx? (·.1) = none := by rfl) (h : X.K = K := by rfl) : PG X (.Tuple es k pos) (gTup K n t) := h ▸ pg_tup hc pt hn hst
theorem k_gL {es : List Expr} {k : Nat} {t : TGs} {n : Nat} {pos : Pos} (pt : PGs X es t) (hc : X.calm = true := by rfl) (hn : (assignEach es X.env).length = n := by rfl)
    (hst : (assignEach es X.env).findIdx? (·.1) = none := by rfl) (h : X.K = K := by rfl) : PG X (.Tuple es k pos) (gUnl K n t) := h ▸ pg_unl hc pt hn hst
theorem k_zip {a b : Expr} {ta : TA} {p pos tpos : Pos} {elts : List Expr} {kk : Nat} (ha : PA X [a, b] ta) (hm : X.mg "zip" = none) (hg : Gl X "zip" := by rfl)
    (h1 : starEach [a, b] X.env = (false, eval a X.env) :: starEach [b] X.env := by rfl) (h2 : (backTo pos (starEach [b] X.env)).any (·.1) = false := by rfl) (h : X.K = K := by rfl) :
    PI X (.Tuple elts kk tpos) (.Call (.Name "zip" p) [a, b] [] pos) (RZ.iZipA K ta) := h ▸ RZ.pi_zipA hg hm ha h1 h2
theorem k_enum {e : Expr} {ta : TA} {p pos tpos : Pos} {elts : List Expr} {kk : Nat} (ha : PA X [e] ta) (hm : X.mg "enumerate" = none) (hg : Gl X "enumerate" := by rfl) (h1 : starEach [e] X.env = [(false, eval e X.env)] := by rfl) (h : X.K = K := by rfl) :
    PI X (.Tuple elts kk tpos) (.Call (.Name "enumerate" p) [e] [] pos) (iEnum K ta) := h ▸ pi_enum hg hm ha h1
end
/-! ### dicts of the module -/
section
variable {X : Cx} {K : PySem.W.Frag} {w : World}
theorem k_slT (h : X.K = K := by rfl) : SlR X (rSlT K) := h ▸ sl_tup
theorem k_ixK (h : X.K = K := by rfl) (h2 : X.w = w := by rfl) : IxR X (rIxD K w) := h ▸ h2 ▸ ix_kdict
def KD (K : PySem.W.Frag) (w : World) (a : Addr) : Prop := ∃ es n, K.lookup a = some ⟨.type "dict", none, .dict es n, #[]⟩ ∧ PySem.W.KeysLit w.params es.toList ∧ (a == sysModules) = false
def tKGet (K : PySem.W.Frag) (w : World) (a : Addr) (te : TE) : TE := fun σ H Q => te σ H fun y H2 => ∃ z, y = .str z ∧ ((∃ v, KDct K w a z v ∧ Q v H2) ∨ (KMiss K w a z ∧ Q .non H2))
theorem pe_kget {a : Addr} {o e : Expr} {apos cpos : Pos} {te : TE} (ho : PE X o (tC (.ref a))) (kd : KD K w a) (he : PE X e te) (m : M1 X o "get" apos e cpos) (h : X.K = K := by rfl) (h2 : X.w = w := by rfl) :
    PE X (.Call (.Attribute o "get" apos) [e] [] cpos) (tKGet K w a te) := by
  subst h h2
  obtain ⟨es, n, hl, hkl, low⟩ := kd
  constructor
  intro pins s σ H Q I hq
  refine wpAny_Call_method m.base m.few m.line PySem.F.plainAttrs_dict PySem.F.slot_dict_get PySem.F.type_dict_get (thn (ho.run pins s σ H (fun x H1 => x = .ref a ∧ H1 = H) I ⟨rfl, rfl⟩) fun u s1 ⟨x, H1, I1, rx, ex, eH⟩ => ?_)
  subst ex eH
  obtain rfl : u = Value.ref a := rx
  have hm := PySem.W.mapOf_K (prog := X.prog) (w := X.w) I1.kIn hl hkl
  refine ⟨hm.typeIs, ?_, ?_⟩
  · intro b eb
    cases eb
    exact ⟨_, I1.kIn _ _ hl, rfl⟩
  rw [m.trees]
  refine Calls.callWith_builtin rfl (Calls.evalArgs_plain (Calls.spliced_cons (thn (he.run pins s1 σ _ _ I1 hq) fun iv s2 ⟨y, H2, I2, ry, z, ey, q2⟩ => Calls.spliced_nil ?_)))
  subst ey
  obtain ⟨t, rfl⟩ := (show ∃ t, iv = Value.str z t from ry)
  have hm2 := PySem.W.mapOf_K (prog := X.prog) (w := X.w) I2.kIn hl hkl
  refine call_meetsIn PySem.F.slot_dict_get hm2.typeIs PySem.F.entry_dict_get (PySem.F.args_dict_get_2 _ _) (meets_dict_get (strKind X.prog X.w) a (strKind_is X.prog X.w z t) low) ⟨_, hm2, ?_⟩
  rcases q2 with ⟨v, ⟨es', n', u0, hl', hk', e, ru⟩, q⟩ | ⟨⟨es', n', hl', hk', low', e⟩, q⟩
  · rw [PySem.W.find_K hl e]
    exact ⟨v, H2, I2.tok _, ru, q⟩
  · rw [PySem.W.find_K hl e]
    exact ⟨.non, H2, I2.tok _, rfl, q⟩
end
/-! ### a def that stands in a class, called by the class's name -/
section
variable {X : Cx}
def tFnC (sp : Sp) (E : XK) (t : TA) : TE := fun σ H Q => t σ H fun vs H1 => sp vs H1 Q E
theorem pe_clsfn {CX : CXT} {k : Nat} {C g : Addr} {mc : Value} {fd : FuncData} {ps : List Str} {sp : Sp} {E : XK} {x m : Str} {e : Expr} {es : List Expr} {t : TA} {p1 p2 pos : Pos} {pl : Sem Bool}
    (hg : Gl X x) (hm : X.mg x = some (.ref C)) (r : ClX.CRead X.K C mc) (c : ClX.CVal X.K C mc m (.ref g) (.ref g)) (F : FnOk X.prog X.w X.K X.mg X.base CX k g fd ps sp) (hr : Room k X.A) (hk : PySem.W.keepIn X.K (.ref g) = true) (hb : Binds X.K fd ps []) (hx : Passes CX X E) (ha : PA X (e :: es) t)
    (hdb : (x == ("__debug__" : Str)) = false := by decide)
    (hst : starEach (e :: es) X.env = (false, eval e X.env) :: starEach es X.env := by rfl) (hpl : (backTo pos (starEach es X.env)).any (·.1) = false := by rfl)
    (ht : eval (.Call (.Attribute (.Name x p1) m p2) (e :: es) [] pos) X.env = (do
      let ov ← eval (.Name x p1) X.env
      standAt p2.atName
      let (f, first) ← holding [ov] (getMethod ov m pl)
      callWith pos f first (backTo pos (starEach (e :: es) X.env)) (backToKw pos (keywordEach [] X.env))) := by rfl) :
    PE X (.Call (.Attribute (.Name x p1) m p2) (e :: es) [] pos) (tFnC sp E t) := by
  refine ⟨fun pins s σ H Q I h => ?_⟩
  refine PySem.W.methodCall_KW (pl := pl) (ld_glob I hg hm ?_ hdb) ht
  refine PySem.W.method_cls I.kIn r.ga (ClX.getcval_ok I r c fun s2 I2 => ?_)
  refine PySem.W.callWith_K (h₀ := X.base) I2.ok.mod.kin hk (thn (ha.run pos pins s2 σ H _ I2 h) fun us s3 ⟨vs, H2, I3, rv, q2⟩ => ⟨I3.kIn, ?_⟩) hst hpl
  have q3 : sp (vs ++ []) H2 Q E := by rw [List.append_nil]; exact q2
  exact run_fn F hr hb .nil hx I3 rv q3
end
/-! ### a field of the exception that is pinned -/
/-- what the written part says of an exception's class: its field f is read -/
structure XRd (K : PySem.W.Frag) (C : Addr) (f : Str) : Prop where
  cls : XfC K C
  no : PySem.W.findIn K (.ref C) f = some none
def tXg (K : PySem.W.Frag) (a : Addr) (cls : Value) (d : Option Addr) (f : Str) (te : TE) : TE := fun σ H Q => te σ H fun x H1 => x = .ref a ∧ ∃ (C dd : Addr) (fs : List (Str × V)) (v : V), cls = .ref C ∧ d = some dd ∧ XRd K C f ∧ H1 dd = some (.xd fs) ∧ fs.lookup f = some v ∧ Q v H1
theorem pe_xg {X : Cx} {p : Addr × Obj} {cls : Value} {d : Option Addr} {e : Expr} {te : TE} {pos : Pos} {n : Str} (hp : p ∈ X.pn) (hz : Zc cls d p.2) (hf : ∃ vs, p.2.data = .fields vs) (he : PE X e te) (hb : attributeBase e n X.env (eval e X.env) = eval e X.env := by rfl) : PE X (.Attribute e n pos) (tXg X.K p.1 cls d n te) := by
  refine ⟨fun pins s σ H Q I h => ?_⟩
  refine attr_of hb (thn (he.run pins s σ H _ I h) fun u s1 hh => ?_)
  obtain ⟨x, H1, I1, rx, ex, C, dd, fs, v, hc0, hd0, T, ea, l, q⟩ := hh
  obtain ⟨vs, hd⟩ := hf
  have hc : p.2.cls = .ref C := hz.1.trans hc0
  have hdd : p.2.dict = some dd := hz.2.trans hd0
  subst ex
  obtain rfl : u = Value.ref p.1 := rx
  obtain ⟨ha, _⟩ := I1.pin p (List.mem_append_left _ hp)
  have hx : ObjOk X.prog X.w H1 s1.heap dd (.xd fs) := I1.hok dd _ ea
  obtain ⟨mA, hns, hr⟩ := hx
  obtain ⟨od, ho, hl⟩ := lookIn_ns hns
  obtain ⟨u, hu, ru⟩ := RelO.some_of (v := v) (o := mA n) (by rw [← l]; exact hr n)
  have J : PySem.W.InstAt s1.heap p.1 p.2 C (some od) := ⟨ha, hc, by unfold PySem.W.notCls; rw [hd] <;> rfl, by rw [hdd]; exact ho⟩
  exact HandSPX.exc_get I1.kIn J T.cls.ga T.cls.gg T.cls.exC (PySem.W.findObj_own T.cls.hdC T.no rfl (by rw [hl, hu])) (handed_of ru) ⟨v, H1, I1.tok _, ru, q⟩
theorem k_xg {K : PySem.W.Frag} {X : Cx} {p : Addr × Obj} {cls : Value} {d : Option Addr} {e : Expr} {te : TE} {pos : Pos} {n : Str} (hp : p ∈ X.pn) (hz : Zc cls d p.2) (hf : ∃ vs, p.2.data = .fields vs) (he : PE X e te) (hb : attributeBase e n X.env (eval e X.env) = eval e X.env := by rfl) (h : X.K = K := by rfl) : PE X (.Attribute e n pos) (tXg K p.1 cls d n te) := h ▸ pe_xg hp hz hf he hb
/-! ### a def called while the exception p is pinned -/
structure FnP (P : Program) (w : World) (K : PySem.W.Frag) (mg : Str → Option Value) (base : Heap) (k : Nat) (f : Addr) (fd : FuncData) (ps : List Str) (sp : Addr → Value → Option Addr → Sp) : Prop where
  len : ∀ a cls d vs H Q E, sp a cls d vs H Q E → vs.length = ps.length
  run : ∀ (A : Around) (outer : List Env) (s : Shared) (H : Hp) (args : Args) (us : List Value) (vs : List V) (Q : VK) (p : Addr × Obj) (cls : Value) (d : Option Addr), Zc cls d p.2 → (∃ vs, p.2.data = .fields vs) → L2H.RoomH k A → L2H.PinOk outer H s p → Env0 P w K mg base A outer s H → BindsTo s fd args (ps.zip us) → Vals vs us → sp p.1 cls d vs H Q E0 →
    codeAny (model P w) A (.call (.ref f) args) (CR CX0 outer P w H s Q E0) s
theorem fn_ofP {P : Program} {w : World} {K : PySem.W.Frag} {mg : Str → Option Value} {base : Heap} {k : Nat} {f : Addr} {name qual : Str} {params : Arguments} {body : List Stmt} {scope : Scope} {dV kV doc pm cdv ct oc : Value} {an od : Option Addr}
    {osl : Array (Option Value)} {N ps : List Str} {sp : Addr → Value → Option Addr → Sp} (lk : K.lookup f = some ⟨oc, od, .func (PySem.W.fnOf name qual params body scope dV kV doc pm an cdv ct), osl⟩) (hcd : PySem.W.codeIn K cdv qual = true) (S : FnScope N ps scope)
    (len : ∀ a cls d vs H Q E, sp a cls d vs H Q E → vs.length = ps.length)
    (hbody : ∀ (A : Around) (outer : List Env) (s : Shared) (H : Hp) (vs : List V) (Q : VK) (p : Addr × Obj) (cls : Value) (d : Option Addr), Zc cls d p.2 → (∃ vs, p.2.data = .fields vs) → L2H.RoomH k (A.deeper (envOfC qual scope s.heap.objs.size f cdv)) → sp p.1 cls d vs H Q E0 →
      ∃ t, PSs (L2H.cxH CX0 P w K mg base N qual scope f cdv A outer s H E0 p).nox body t ∧ t { nx := fun _ H' => Q .non H', rt := Q } (L2.start N vs) H) :
    FnP P w K mg base (k + 1) f (PySem.W.fnOf name qual params body scope dV kV doc pm an cdv ct) ps sp := by
  refine ⟨len, fun A outer s H args us vs Q p cls d hz hf hr hpin e0 hb r hsp => ?_⟩
  have hl := len _ _ _ _ _ _ _ hsp
  have KX : K.In s.heap := e0.mod.kin.keeps fun b o e => (e0.bs b o e).1
  have lim : s.heap.NoLimit := e0.mod.nolimit.keeps fun b o e => (e0.bs b o e).1
  have hkind : ∀ y ∈ ps.zip us, scope.names.lookup y.1 = some .local ∨ (scope.names.lookup y.1 = some .cell ∧ ((cellsFrom (s.heap.objs.size + 1) scope.names []).lookup y.1).isSome = true) := fun ⟨n, v⟩ hy => by
    rcases S.par n (List.of_mem_zip hy).1 with q | q
    · exact .inl q
    · exact .inr ⟨q, PySem.W.cellsFrom_some _ _ _ (.inl q)⟩
  refine codeAny_call_function hr.depth (KX _ _ lk) rfl S.co S.gen rfl (PySem.W.codeRec_of KX hcd) (hb _ _ _ _ ?_)
  refine wpAny_newFunctionEnv_cells S.kind hkind fun env he s1 x => ?_
  subst he
  refine ⟨lim.keeps x.toInCall.keep, codeAny_func ?_⟩
  obtain ⟨t, ht0, hq⟩ := hbody A outer s H vs Q p cls d hz hf (hr.deeper _) hsp
  have ht := ht0.nox
  have I : Inv (L2H.cxH CX0 P w K mg base N qual scope f cdv A outer s H E0 p) [] (L2.start N vs) H s1 := L2H.inv_startH S hpin e0 hl r x
  refine wpAny_mono (ht.run [] s1 (L2.start N vs) H _ I hq) (fun fl s' hs => ?_) fun e s' hs => hs
  have fin : ∀ {σ' : L2.St} {H' : Hp} {v : V} {u : Value}, Inv (L2H.cxH CX0 P w K mg base N qual scope f cdv A outer s H E0 p) [] σ' H' s' → RelV v u → Q v H' → CE outer P w H s Q u s' :=
    fun {σ' H' v u} J rv q => ⟨v, H', J.os, J.bare, J.base, J.hok, rv, q⟩
  cases fl with
  | ret u =>
    obtain ⟨v, σ', H', J, rv, q⟩ := hs
    exact fin J rv q
  | next =>
    obtain ⟨σ', H', J, q⟩ := hs
    exact fin (v := V.non) (u := Value.none) J rfl q
  | brk =>
    obtain ⟨_, _, _, q⟩ := hs
    exact False.elim q
  | cont =>
    obtain ⟨_, _, _, q⟩ := hs
    exact False.elim q
def tCallP (sp : Addr → Value → Option Addr → Sp) (a : Addr) (cls : Value) (d : Option Addr) (t : TA) : TE := fun σ H Q => t σ H fun vs H1 => sp a cls d vs H1 Q E0
theorem pe_callP {X : Cx} {k : Nat} {f : Addr} {fd : FuncData} {ps : List Str} {sp : Addr → Value → Option Addr → Sp} {x : Str} {q pos : Pos} {e : Expr} {es : List Expr} {t : TA} {p : Addr × Obj} {cls : Value} {d : Option Addr} (hp : p ∈ X.pn) (hz : Zc cls d p.2) (hf : ∃ vs, p.2.data = .fields vs) (F : FnP X.prog X.w X.K X.mg X.base k f fd ps sp) (hr : L2H.RoomH k X.A)
    (hg : Gl X x) (hm : X.mg x = some (.ref f)) (hk : PySem.W.keepIn X.K (.ref f) = true) (hb : Binds X.K fd ps [])
    (ha : PA X (e :: es) t) (hdb : (x == ("__debug__" : Str)) = false := by decide) (he : starEach (e :: es) X.env = (false, eval e X.env) :: starEach es X.env := by rfl) (hpl : (backTo pos (starEach es X.env)).any (·.1) = false := by rfl) :
    PE X (.Call (.Name x q) (e :: es) [] pos) (tCallP sp p.1 cls d t) := by
  refine ⟨fun pins s σ H Q I h => ?_⟩
  refine wpAny_Call_Name_kw (ld_glob I hg hm ?_ hdb)
  refine PySem.W.callWith_K (h₀ := X.base) I.ok.mod.kin hk (thn (ha.run pos pins s σ H _ I h) fun us s1 ⟨vs, H1, I1, r, q1⟩ => ⟨I1.kIn, ?_⟩) he hpl
  have hl : us.length = ps.length := by rw [← r.length]; exact F.len _ _ _ _ _ _ _ q1
  have b := hb s1 us I1.kIn (by rw [List.append_nil]; exact hl)
  rw [List.append_nil] at b
  have P1 := I1.pin p (List.mem_append_left _ hp)
  have hpin : L2H.PinOk X.stack H1 s1 p := ⟨P1.1, P1.2.1, fun hm => (List.mem_cons.mp (I1.stkSub p.1 hm)).elim P1.2.2.1 P1.2.2.2.1, P1.2.2.2.2⟩
  refine wpAny_call (codeAny_mono (F.run X.A X.stack s1 H1 ⟨us, []⟩ us vs Q p cls d hz hf hr hpin I1.env0 b r q1) fun r s' hq => ?_)
  cases r with
  | error e => exact (show False from hq).elim
  | ok fl =>
    cases fl with
    | ret u => exact I1.after hq
    | next => exact False.elim hq
    | brk => exact False.elim hq
    | cont => exact False.elim hq
/-! ### several except clauses with names -/
def wManyA (K : PySem.W.Frag) (n : Nat) (Wout : WX) (D : Ends) : List (Value × Nat × (Addr → Value → Option Addr → TS)) → WX
  | [] => Wout
  | (c, i, ts) :: r => fun cls d σ H => ∃ b, PySem.W.exmOne K cls c = some b ∧
      (b = true → ∀ a, H a = none → σ.length = n → ts a cls d { nx := fun σ' H' => D.nx (σ'.set i none) H', rt := D.rt, bk := fun σ' H' => D.bk (σ'.set i none) H', ct := fun σ' H' => D.ct (σ'.set i none) H' } (σ.set i (some (.ref a))) H) ∧
      (b = false → wManyA K n Wout D r cls d σ H)
inductive HdsA (X : Cx) : List ExceptHandler → List (Value × Nat × (Addr → Value → Option Addr → TS)) → Prop
  | nil : HdsA X [] []
  | cons {x n : Str} {c : Value} {i : Nat} {ts : Addr → Value → Option Addr → TS} {b₀ : Stmt} {suite : List Stmt} {np pos' : Pos} {hds : List ExceptHandler} {l : List (Value × Nat × (Addr → Value → Option Addr → TS))} (hc : Names X x c) (hi : X.N[i]? = some n) (hln : X.env.kindOf n = some .local)
      (hsu : ∀ (a : Addr) (oe : Obj) (cls : Value) (d : Option Addr) (pn : List (Addr × Obj)), Zc cls d oe → (∃ vs, oe.data = .fields vs) → PSs (X.suite a ((a, oe) :: pn)) (b₀ :: suite) (ts a cls d)) (r : HdsA X hds l) :
      HdsA X (.ExceptHandler (some (.Name x np)) (some n) (b₀ :: suite) pos' :: hds) ((c, i, ts) :: l)
section
variable {X : Cx} {body : List Stmt} {h₀ : ExceptHandler} {hds : List ExceptHandler} {l : List (Value × Nat × (Addr → Value → Option Addr → TS))} {pos : Pos} {tb : WX → TS} {Wout : WX}
theorem ps_try_manyA (hs : X.stack = X.env :: X.outer) (hf : X.env.frame = some X.env.locals) (hN : X.N.Nodup) (tk : Takes X Wout)
    (hb : ∀ (W : WX) (pn : List (Addr × Obj)) (xe : Value → Shared → Prop), Takes (X.tr pn xe) W → PassesOwn (model X.prog X.w) X.A X.env xe → PSs (X.tr pn xe) body (tb W))
    (hh : HdsA X (h₀ :: hds) l) : PS X (.Try body (h₀ :: hds) [] [] pos) (fun D σ H => tb (wManyA X.K X.N.length Wout D l) D σ H) := by
  refine ⟨fun pins s σ H D I h => ?_⟩
  have ok := I.ok
  have hfr : X.A.frames = some (X.env :: X.outer) := by rw [ok.frames, hs]
  refine wpAny_Try_except ?_
  refine wpAny_mono ((hb (wManyA X.K X.N.length Wout D l) (X.pn ++ pins) (fun e s₁ => wpAny (model X.prog X.w) X.A (noteFrame e X.env) (fun _ s₂ => wpAny (model X.prog X.w) X.A (setFlight e none) (fun _ s₃ =>
    wpAny (model X.prog X.w) X.A (handleBy e X.env (h₀ :: hds)) (SP X pins D) X.xe s₃) X.xe s₂) X.xe s₁) (fun u s' xx => ?_) PassesOwn.looking).run [] s σ H D (I.toTry _) h) (fun f s1 hsp => ?_) (fun e s1 he => he)
  · -- the catch
    obtain ⟨a, B, sI, pins', σ', H', cls, d, rfl, J', nb, up, sky, na, os, ag, w⟩ := xx
    have J : Inv X pins σ' H' sI := J'.ofTry ok
    have sky' : Sky B (X.env :: X.outer) a (Zc cls d) X.env.locals s'.heap := by rw [← hs]; exact sky
    show wpAny (model X.prog X.w) X.A (noteFrame (.ref a) X.env) _ _ _
    refine Sky.land Zc.steady hfr hf sky' fun h3 fl3 up3 => ?_
    have J3 : Inv X pins σ' H' { s' with heap := h3 } := J.landed nb fl3.1 (up.trans up3) os ag
    obtain ⟨oe3, vs3, he3, hz3, hd3⟩ := fl3.there
    have notFr : ∀ {h : Heap} {o : Obj} {vs : Array Value}, h.FunFrames B (X.env :: X.outer) → h.get? a = some o → o.data = .fields vs → a ∉ frs (X.env :: X.outer) := fun {h o vs} ff e dd hm => by
      obtain ⟨_, o', e', hnf⟩ := ff.mem hm
      rw [e] at e'; cases e'
      exact hnf _ dd
    have nfr := notFr fl3.2.2.1 he3 hd3
    have nL : a ≠ X.env.locals := fun z => nfr (List.mem_filterMap.mpr ⟨X.env, List.mem_cons_self, by rw [hf, z]⟩)
    have nF : a ∉ X.fs := fun hm => by
      obtain ⟨e, he, q⟩ := List.mem_filterMap.mp hm
      exact nfr (List.mem_filterMap.mpr ⟨e, List.mem_cons_of_mem _ he, q⟩)
    have S3 := J3.suite he3 hd3 na nL nF
    have go : ∀ {hds' : List ExceptHandler} {l' : List (Value × Nat × (Addr → Value → Option Addr → TS))}, HdsA X hds' l' → wManyA X.K X.N.length Wout D l' cls d σ' H' →
        wpAny (model X.prog X.w) X.A (handleBy (.ref a) X.env hds') (SP X pins D) X.xe { s' with heap := h3 } := by
      intro hds' l' hk
      induction hk with
      | nil =>
        intro w
        refine wpAny_handleBy_nil ?_
        obtain ⟨k1, k2, k3, oe, vs, T, oT, ts', he, hz, hd, h1, hr⟩ := id fl3
        unfold PySem.passOn
        refine wpAny_bind (wpAny_field he hd h1 ?_)
        rw [if_neg (show ¬ ((Value.ref T == Value.none) = true) from by simp)]
        have fin : wpAny (model X.prog X.w) X.A (setFlight (.ref a) X.env.frame) (fun _ s4 => wpAny (model X.prog X.w) X.A (throw (.ref a) : Sem Flow) (SP X pins D) X.xe s4) X.xe { s' with heap := h3 } := by
          rw [hf]
          refine HandSPX.setFlight_upZ fl3 fun h4 hh4 up4 => wpAny_throw (tk _ _ ?_)
          exact ⟨a, B, sI, pins, σ', H', cls, d, rfl, J, nb, (up.trans up3).trans up4, .inr (.inr (by rw [hs]; exact hh4)), na, os, ag, w⟩
        first
          | exact wpAny_bind (wpAny_pure (wpAny_bind fin))
          | exact wpAny_bind fin
      | @cons x n c i ts b₀ suite np pos' hds2 l2 hc hi hln hsu r ih =>
        intro w
        obtain ⟨b, hb1, hyes, hno⟩ := w
        have hloc : Loc X.env.scope n := .inl hln
        refine wpAny_handleBy_cons (codeAny_handlers_test ?_) (by intro q; cases q)
        have LT : PySem.W.Looks (model X.prog X.w) h3 (typeOf (.ref a)) cls := fun A Q E s k q => wpAny_typeOf_ref (k _ _ he3) (by rw [hz3.1]; exact q)
        have LM := PySem.W.exm_one (M := model X.prog X.w) (J3.kIn) LT hb1
        have test : ∀ {Q : Value → Shared → Prop} {E : Value → Shared → Prop}, Q c { s' with heap := h3 } → wpAny (model X.prog X.w) (X.A.mark (some (.ref a))) (eval (.Name x np) X.env) Q E { s' with heap := h3 } := fun {Q E} q => by
          obtain ⟨hg, hdbg, hm | ⟨hm, hv, hnn⟩⟩ := hc
          · exact ld_glob (X := X.suite a ((a, oe3) :: (X.pn ++ pins))) S3 hg hm q hdbg
          · exact ld_blt (X := X.suite a ((a, oe3) :: (X.pn ++ pins))) S3 hg hm hv q hnn hdbg
        refine test (LM.here ?_)
        cases b with
        | true =>
          refine codeAny_handlers_suite_as ?_
          refine HandSPX.lands_againZ fl3 fun h4 fl4 up4 => ?_
          have J4 : Inv X pins σ' H' { s' with heap := h4 } := J.landed nb fl4.1 ((up.trans up3).trans up4) os ag
          obtain ⟨oe4, vs4, he4, hz4, hd4⟩ := fl4.there
          have S4 := J4.suite he4 hd4 na nL nF
          refine store_ok (X := X.suite a ((a, oe4) :: (X.pn ++ pins))) (v := .ref a) S4 hN hi hloc rfl (fun s5 S5 => ?_) (.inr hln)
          refine wpAny_mono ((hsu a oe4 cls d (X.pn ++ pins) hz4 ⟨_, hd4⟩).run [] s5 _ H' _ S5 (hyes rfl a na J.len)) (fun f s6 hsp => ?_) (fun _ _ z => False.elim z)
          have end_ : ∀ {σ6 : L2.St} {H6 : Hp} {Q : Shared → Prop}, Inv (X.suite a ((a, oe4) :: (X.pn ++ pins))) [] σ6 H6 s6 → (∀ s7, Inv X pins (σ6.set i none) H6 s7 → Q s7) →
              wpAny (model X.prog X.w) X.A (do bindName X.env n .none; unbindBehindTheSuite X.env n pos') (fun _ s7 => Q s7) X.xe s6 := fun {σ6 H6 Q} S6 hq => gone_ok (S6.unsuite ok) hN hi hln hq
          cases f with
          | next =>
            obtain ⟨σ6, H6, S6, q6⟩ := hsp
            exact end_ S6 fun s7 J7 => ⟨_, _, J7, q6⟩
          | brk =>
            obtain ⟨σ6, H6, S6, q6⟩ := hsp
            exact end_ S6 fun s7 J7 => ⟨_, _, J7, q6⟩
          | cont =>
            obtain ⟨σ6, H6, S6, q6⟩ := hsp
            exact end_ S6 fun s7 J7 => ⟨_, _, J7, q6⟩
          | ret u =>
            obtain ⟨v6, σ6, H6, S6, r6, q6⟩ := hsp
            exact end_ S6 fun s7 J7 => ⟨_, _, _, J7, r6, q6⟩
        | false =>
          show wpAny _ X.A (handleBy (.ref a) X.env hds2) _ _ _
          exact ih (hno rfl)
    exact go hh w
  · cases f with
    | next =>
      obtain ⟨σ', H', J', q⟩ := hsp
      exact wpAny_execs_nil ⟨σ', H', J'.ofTry ok, q⟩
    | brk =>
      obtain ⟨σ', H', J', q⟩ := hsp
      exact ⟨σ', H', J'.ofTry ok, q⟩
    | cont =>
      obtain ⟨σ', H', J', q⟩ := hsp
      exact ⟨σ', H', J'.ofTry ok, q⟩
    | ret u =>
      obtain ⟨v, σ', H', J', r, q⟩ := hsp
      exact ⟨v, σ', H', J'.ofTry ok, r, q⟩
end
/-! ### what the written part says of the classes of errors, of the law's code -/
structure FunC (K : PySem.W.Frag) (x qual : Str) (st : Stmt) (f : Addr) (fd : FuncData) (c : Addr) : Prop where
  ex : ∃ (oc : Value) (od : Option Addr) (kV doc pm : Value) (an : Option Addr) (ct : Value) (osl : Array (Option Value)),
    fd = PySem.W.fnOf x qual (defArgs st) (defBody st) (defScope st) .none kV doc pm an (.ref c) ct ∧ K.lookup f = some ⟨oc, od, .func fd, osl⟩ ∧ PySem.W.codeIn K (.ref c) qual = true
  kp : PySem.W.keepIn K (.ref f) = true
theorem FunC.ok {P : Program} {w : World} {K : PySem.W.Frag} {mg : Str → Option Value} {base : Heap} {x qual : Str} {st : Stmt} {f c : Addr} {fd : FuncData} {N ps : List Str} {k : Nat} {sp : Sp} (F : FunC K x qual st f fd c) (S : FnScope N ps (defScope st)) (len : ∀ vs H Q E, sp vs H Q E → vs.length = ps.length)
    (hbody : ∀ (A : Around) (outer : List Env) (s : Shared) (H : Hp) (vs : List V) (Q : VK) (E : XK), Room k (A.deeper (envOfC qual (defScope st) s.heap.objs.size f (.ref c))) → sp vs H Q E →
      ∃ t, PSs (cxOf CX0 P w K mg base N qual (defScope st) f (.ref c) A outer s H E).nox (defBody st) t ∧ t { nx := fun _ H' => Q .non H', rt := Q } (start N vs) H) : FnOk P w K mg base CX0 (k + 1) f fd ps sp := by
  obtain ⟨oc, od, kV, doc, pm, an, ct, osl, rfl, lk, hcd⟩ := F.ex
  refine fn_of lk hcd S len fun A outer s H vs Q E hr hsp => ?_
  obtain ⟨t, h, q⟩ := hbody A outer s H vs Q E hr hsp
  exact ⟨t, h.nox, q⟩
structure ExcT (K : PySem.W.Frag) (C PE : Addr) (fs : List Str) : Prop where
  o : OexC K C
  x : XfC K C
  no : ∀ f ∈ fs, PySem.W.findIn K (.ref C) f = some none
  e : PySem.W.exmOne K (.ref C) (.ref PE) = some true
theorem ExcT.rd {K : PySem.W.Frag} {C PE : Addr} {fs : List Str} (T : ExcT K C PE fs) {f : Str} (h : f ∈ fs) : XRd K C f := ⟨T.x, T.no f h⟩
theorem tabs_nil {H : Hp} {P : Addr} {q : Str} (h : H P = some (.tbl #[])) : LamX.Tabs [(P, q)] H := fun p hp => by
  rw [List.mem_singleton.mp hp]
  exact LamX.TabS.nil h
/-! ### a dict of the module that has no such key -/
def keysIn (ks : List Str) (es : List DictEntry) : Bool := es.all fun e => !e.refKey && (match e.key with | .str y _ => ks.contains y | _ => false)
theorem miss_of {K : PySem.W.Frag} {w : World} {a : Addr} {es : Array DictEntry} {n : Nat} {ks : List Str} (hl : K.lookup a = some ⟨.type "dict", none, .dict es n, #[]⟩) (hk : PySem.W.KeysLit w.params es.toList) (hs : (a == sysModules) = false)
    (h : keysIn ks es.toList = true) (z : Str) (hz : z ∉ ks) : KMiss K w a z := by
  refine ⟨es, n, hl, hk, hs, ?_⟩
  unfold PySem.W.nsIn
  rw [hl]
  have h' := List.all_eq_true.mp h
  have e1 : es.toList.find? (·.key.isStr z) = none := by
    refine List.find?_eq_none.mpr fun e he q => ?_
    obtain ⟨_, h2⟩ := Bool.and_eq_true_iff.mp (h' e he)
    split at h2
    · rename_i y t ey
      rw [ey] at q
      have : y = z := by
        first
          | exact eq_of_beq q
          | simpa [Value.isStr] using q
      rw [this] at h2
      exact hz (List.contains_iff_mem.mp h2)
    · cases h2
  have e2 : es.toList.any (·.refKey) = false := by
    refine Bool.eq_false_iff.mpr fun q => ?_
    obtain ⟨e, he, q⟩ := List.any_eq_true.mp q
    obtain ⟨h1, _⟩ := Bool.and_eq_true_iff.mp (h' e he)
    rw [q] at h1
    cases h1
  dsimp only
  rw [e1, e2]
  rfl
/-! ### enumerate of a tuple; a list or a tuple walked -/
theorem pi_or {X : Cx} {tg iter : Expr} {w1 w2 : TI} (h1 : PI X tg iter w1) (h2 : PI X tg iter w2) : PI X tg iter (fun σ H R => w1 σ H R ∨ w2 σ H R) :=
  ⟨fun pins s σ H R I h => h.elim (h1.run pins s σ H R I) (h2.run pins s σ H R I)⟩
set_option maxHeartbeats 1000000 in
theorem meets_enum1 {v : Value} {o : Obj} {H : Heap → Prop} (B : Begins v o H) :
    Meets (Builtin.«enumerate.__new__» ⟨[.type "enumerate", v], []⟩) (fun _ R s => H s.heap ∧
      R (.ok (.ret (.ref (s.heap.push o).objs.size))) { s with heap := (s.heap.push o).push { cls := .type "enumerate", data := .fields #[.none, .bool false, .ref s.heap.objs.size, rawInt 0, .none, .none] } }) :=
  .of_wp fun prog w A R s h => by
    obtain ⟨hp, g, d, tk, os⟩ := s; obtain ⟨h1, h⟩ := h
    have hsub := sub_enumerate
    have q1 : ∀ {A' : Around} {E : Value → Shared → Prop} {Q : Value → Shared → Prop}, Q (.ref hp.objs.size) ⟨hp.push o, g, d, tk, os⟩ → wpAny (model prog w) A' (pyIter v) Q E ⟨hp, g, d, tk, os⟩ :=
      fun q => B.iter prog w _ _ ⟨hp, g, d, tk, os⟩ _ h1 q
    wp_walk using q1
    refine wpAny_stack_any fun st => wpAny_pure ?_
    split
    · rename_i c _ _ _ _ _
      cases (c == Value.type "enumerate")
      · wp_walk using q1
        exact ⟨_, rfl, h⟩
      · wp_walk using q1
        exact ⟨_, rfl, h⟩
    · wp_walk using q1
      exact ⟨_, rfl, h⟩
theorem enum1_begins {prog : Program} {w : World} {A : Around} {E : Value → Shared → Prop} {s : Shared} {v : Value} {o : Obj} {H : Heap → Prop} {Q : Value → Shared → Prop} (B : Begins v o H) (h1 : H s.heap)
    (h : ∀ h', IsEnum h' (s.heap.objs.size + 1) s.heap.objs.size 0 .none → h'.get? s.heap.objs.size = some o → h'.objs.size = s.heap.objs.size + 2 →
      (∀ b o, s.heap.get? b = some o → h'.get? b = some o) → Q (.ref (s.heap.objs.size + 1)) { s with heap := h' }) :
    wpAny (model prog w) A (call (.type "enumerate") [v]) Q E s := by
  refine callType_new F.called_enumerate (by decide) (F.typeCall_enumerate_1 _) (F.newCall_enumerate_1 _) (fun obj => F.args_object_init_2 obj _) F.entry_enumerate_new
    (meets_enum1 B) ⟨h1, ?_⟩
  have hz : (s.heap.push o).objs.size = s.heap.objs.size + 1 := Heap.size_push ..
  show _ ∧ _
  rw [hz]
  have he : IsEnum ((s.heap.push o).push { cls := .type "enumerate", data := .fields #[.none, .bool false, .ref s.heap.objs.size, rawInt 0, .none, .none] }) (s.heap.objs.size + 1) s.heap.objs.size 0 .none := by
    have := Heap.get?_push_size (s.heap.push o) (o := { cls := .type "enumerate", data := .fields #[.none, .bool false, .ref s.heap.objs.size, rawInt 0, .none, .none] }) rfl
    rw [hz] at this; exact this
  refine ⟨⟨_, he, rfl⟩, h _ he (Heap.get?_push_of_some _ (Heap.get?_push_size _ B.free)) (by rw [Heap.size_push, hz]) fun b o x => Heap.get?_push_of_some _ (Heap.get?_push_of_some _ x)⟩
def Itet (K : PySem.W.Frag) (a : Addr) : It :=
  ⟨fun i H => ∃ (xs : List V) (x : V), SqT K H a xs ∧ xs[i]? = some x, fun i H v H' => ∃ T x, v = .ref T ∧ H T = none ∧ H' = upd H T (.tup [.int (i : Nat), x]) ∧ ∀ xs, SqT K H a xs → xs[i]? = some x, fun i H => ∃ xs : List V, SqT K H a xs ∧ xs.length ≤ i⟩
theorem turn_enumT {P : Program} {w : World} {K : PySem.W.Frag} {elts : List Expr} {kk : Nat} {tpos : Pos} (a e it : Addr) :
    Turn P w K (.Tuple elts kk tpos) (Itet K a) [e, it] e (fun i h => (∃ old, IsEnum h e it ((i : Nat) : Int) old) ∧ h.IsTupleIter it a i ∧ e ≠ it ∧ e ≠ a ∧ a ≠ it) where
  mem := by simp
  obj := fun i h st b hb => by
    obtain ⟨⟨old, he⟩, ⟨o, ho, hc, hd⟩, _⟩ := st
    have e' : b = e ∨ b = it := by simpa using hb
    rcases e' with z | z
    · rw [z]; exact ⟨_, he, fun v q => nomatch q⟩
    · rw [z]; exact ⟨o, ho, fun v q => by rw [hd] at q; cases q⟩
  keep := fun i h h' st k => let ⟨⟨old, he⟩, hi, hne⟩ := st; ⟨⟨old, k e (by simp) _ he⟩, hi.at fun o q => k it (by simp) o q, hne⟩
  item := by
    intro X hP hw hK hc i pins s σ H E I hf st hg
    subst hP hw hK
    obtain ⟨⟨old, he⟩, hit, hne, hne2, hne3⟩ := st
    obtain ⟨xs, x, hq, hx⟩ := hg
    obtain ⟨its, rv, p, hz⟩ := I.tuple hq
    have hel : e < s.heap.objs.size := Heap.lt_size he
    have hil : it < s.heap.objs.size := by obtain ⟨_, q, _⟩ := hit; exact Heap.lt_size q
    have hn : i < its.toArray.size := by
      have h1 := (List.getElem?_eq_some_iff.mp hx).1
      have h2 := rv.length
      simp
      omega
    have D := Draws.tuple (prog := X.prog) (w := X.w) (A := X.A.in1) (I.ok.hd hc) it a hne3 its.toArray
    refine wpAny_pyNext_enum_itemD D he ⟨hit, p⟩ hn hne (by simp [hne, hne2]) fun u h' tk hu ho hst' hT hsz hk => ?_
    obtain ⟨u', hu', ru⟩ := rv.get hx
    have eu : u = u' := by
      have h1 : its[i]? = some u := by simpa using hu
      rw [hu'] at h1
      exact (Option.some.inj h1).symm
    subst eu
    refine ⟨_, rfl, wpAny_letOwnedTupleGo_enum (s := { s with heap := h', toks := tk + 1 }) ho fun h'' he' sb => ?_⟩
    have hT2 : h''.get? s.heap.objs.size = some { cls := .type "tuple", data := .seq #[.int i tk, u] } := (sb.2 _ (Nat.ne_of_gt hel)).trans hT
    have new : ObjOk X.prog X.w (upd H s.heap.objs.size (.tup [.int (i : Nat), x])) h'' s.heap.objs.size (.tup [.int (i : Nat), x]) :=
      ⟨by show 2 ≤ sizeLine; decide, [.int i tk, u], .cons ⟨_, rfl⟩ (.cons ru .nil), ⟨_, hT2, rfl, _, rfl⟩⟩
    have I1 : Inv X pins σ (upd H s.heap.objs.size (.tup [.int (i : Nat), x])) { s with heap := h'', toks := tk + 1 } :=
      I.turnedNew (ch := [e, it]) (fun b ob hb q => (sb.2 b (fun z => hb (by simp [z]))).trans (hk b ob (fun z => hb (by simp [z])) (fun z => hb (by simp [z])) q)) hf (Nat.le_refl _) new
    refine ⟨.ref s.heap.objs.size, _, I1, rfl, ⟨_, x, rfl, I.hok.fresh (Nat.le_refl _), rfl, fun ys hy => by rw [I.tuple_inj hy hq]; exact hx⟩, ⟨⟨u, ?_⟩, hst'.1.at fun o q => (sb.2 it (Ne.symm hne)).trans q, hne, hne2, hne3⟩, fun b hb => ?_⟩
    · have e1 : ((i + 1 : Nat) : Int) = (i : Int) + 1 := by omega
      rw [e1]; exact he'
    · have hb' : b < s.heap.objs.size := by
        have e' : b = e ∨ b = it := by simpa using hb
        rcases e' with z | z
        · rw [z]; exact hel
        · rw [z]; exact hil
      rw [upd_ne (Nat.ne_of_lt hb')]
      exact (hf b hb).1
  done := by
    intro X hP hw hK hc i pins s σ H E I hf st hg
    subst hP hw hK
    obtain ⟨⟨old, he⟩, hit, hne, hne2, hne3⟩ := st
    obtain ⟨xs, hq, hx⟩ := hg
    obtain ⟨its, rv, p, hz⟩ := I.tuple hq
    obtain ⟨f0, f1, f2, f3, f4, f5⟩ := hf it (by simp)
    have hl := rv.length
    have hend : its.toArray[i]? = none := by simp; omega
    have hT : s.TypeIs (.ref e) "enumerate" := ⟨_, he, rfl⟩
    unfold pyNext
    refine wpAny_bind (wpAny_attempt (wpAny_callSpecial?_slot (name := Str.ofString "__next__") hT F.slot_enumerate_next
      (wpAny_call_entry F.slot_enumerate_next hT F.entry_enumerate_next ?_ (F.args_enumerate_next_1 _))))
    show wpAny _ _ (field (.ref e) 2 >>= _) _ _ _
    refine wpAny_bind (wpAny_field he rfl (x := .ref it) rfl ?_)
    refine wpAny_bind (wpAny_nextOf_tuple_end (A := X.A.in1) (I.ok.hd hc) hit p hend fun h' x eb hx' => ?_)
    obtain ⟨o, ho, hc'⟩ := hx'
    refine wpAny_bind (wpAny_isInstance (T := "StopIteration") (b := true) ⟨o, ho, hc'⟩ isSubtype_stop ?_)
    exact wpAny_pure ⟨rfl, I.turned (t' := s.toks) (fun b o hb q => eb b o hb q) f0 f1 f3 f4 f5⟩
  self := fun A i s Q E st h => let ⟨⟨_, he⟩, _⟩ := st; wpAny_pyIter_enum he h
def iEnumT (K : PySem.W.Frag) (ta : TA) : TI := fun σ H R => ta σ H fun vs H1 => ∃ a xs, vs = [.ref a] ∧ SqT K H1 a xs ∧ R (Itet K a) H1
theorem pi_enumT {X : Cx} {e : Expr} {ta : TA} {p pos tpos : Pos} {elts : List Expr} {kk : Nat} (hg : Gl X "enumerate") (hm : X.mg "enumerate" = none) (ha : PA X [e] ta) (hs : starEach [e] X.env = [(false, eval e X.env)] := by rfl) :
    PI X (.Tuple elts kk tpos) (.Call (.Name "enumerate" p) [e] [] pos) (iEnumT X.K ta) := by
  refine ⟨fun pins s σ H R I h => ?_⟩
  refine Call_ (ld_blt I hg hm boot_enumerate (PyProof.Rows.callWith_type1 (thn (ha.run pos pins s σ H _ I h) fun us s1 ⟨vs, H1, I1, r1, q1⟩ => ?_) hs rfl))
  obtain ⟨a, xs, ex, hq, q⟩ := q1
  subst ex
  cases r1 with
  | cons r rr =>
    cases rr
    cases r
    obtain ⟨its, rv, p', hz⟩ := I1.tuple hq
    refine enum1_begins (begins_tuple a its.toArray) p' fun h' he hit hsz hk => wpAny_pyIter_enum he ?_
    have I2 : Inv X pins σ H1 { s1 with heap := h' } := I1.kept (t' := s1.toks) hk
    have hlt : a < s1.heap.objs.size := by
      obtain ⟨o, q, _⟩ := p'
      exact Heap.lt_size q
    refine ⟨s1.heap.objs.size + 1, [s1.heap.objs.size + 1, s1.heap.objs.size], _, _, H1, rfl, I2, turn_enumT a (s1.heap.objs.size + 1) s1.heap.objs.size, ⟨⟨.none, he⟩, ⟨_, hit, rfl, rfl⟩, Nat.succ_ne_self _, Nat.ne_of_gt (Nat.lt_succ_of_lt hlt), Nat.ne_of_lt hlt⟩, fun b hb => ?_, q⟩
    have e' : b = s1.heap.objs.size + 1 ∨ b = s1.heap.objs.size := by simpa using hb
    have hle : s1.heap.objs.size ≤ b := by
      rcases e' with z | z
      · rw [z]; exact Nat.le_add_right _ _
      · rw [z]; exact Nat.le_refl _
    exact I1.fpOk hle (I1.hok.fresh hle)
section
variable {X : Cx} {K : PySem.W.Frag}
theorem k_enumT {e : Expr} {ta : TA} {p pos tpos : Pos} {elts : List Expr} {kk : Nat} (ha : PA X [e] ta) (hm : X.mg "enumerate" = none) (hg : Gl X "enumerate" := by rfl) (h1 : starEach [e] X.env = [(false, eval e X.env)] := by rfl) (h : X.K = K := by rfl) :
    PI X (.Tuple elts kk tpos) (.Call (.Name "enumerate" p) [e] [] pos) (iEnumT K ta) := h ▸ pi_enumT hg hm ha h1
end
/-! ### calls without arguments, by keywords alone, of a starred def -/
section
variable {X : Cx} {CX : CXT} {k : Nat} {f : Addr} {fd : FuncData} {ps ks : List Str} {sp : Sp} {E : XK} {x : Str} {p pos : Pos} {e : Expr} {es : List Expr} {kws : List Keyword} {t tk : TA}
def tR (sp : Sp) (E : XK) (t : TA) : TE := fun σ H Q => t σ H fun vs H1 => sp vs H1 Q E
theorem pe_callR (F : FnR X.prog X.w X.K X.mg X.base CX k f sp) (hr : Room k X.A) (hk : PySem.W.keepIn X.K (.ref f) = true) (hg : Gl X x) (hm : X.mg x = some (.ref f)) (hx : Passes CX X E)
    (args : PA X (e :: es) t) (no_dbg : (x == ("__debug__" : Str)) = false := by decide) (h1 : starEach (e :: es) X.env = (false, eval e X.env) :: starEach es X.env := by rfl)
    (h2 : (backTo pos (starEach es X.env)).any (·.1) = false := by rfl) : PE X (.Call (.Name x p) (e :: es) [] pos) (tR sp E t) :=
  ⟨fun pins s σ H Q I h => wpAny_Call_Name_kw (ld_glob I hg hm (PySem.W.callWith_K (h₀ := X.base) I.ok.mod.kin hk
    (thn (args.run pos pins s σ H _ I h) fun us s1 ⟨vs, H1, I1, r, q⟩ => ⟨I1.kIn, wpAny_call (run_fnR F hr hx I1 r q)⟩) h1 h2) no_dbg)⟩
theorem pe_callR0 (F : FnR X.prog X.w X.K X.mg X.base CX k f sp) (hr : Room k X.A) (hk : PySem.W.keepIn X.K (.ref f) = true) (hg : Gl X x) (hm : X.mg x = some (.ref f)) (hx : Passes CX X E)
    (no_dbg : (x == ("__debug__" : Str)) = false := by decide) : PE X (.Call (.Name x p) [] [] pos) (tR sp E tNil) :=
  ⟨fun pins s σ H Q I h => wpAny_Call_Name_kw (ld_glob I hg hm (PySem.W.callWith_K0 I.kIn hk (wpAny_call (run_fnR (us := []) F hr hx I .nil h))) no_dbg)⟩
theorem pe_callK0 {g : List Value → List Value → List Value} {gV : List V → List V → List V} (F : FnOk X.prog X.w X.K X.mg X.base CX k f fd ps sp) (hr : Room k X.A) (hg : Gl X x) (hm : X.mg x = some (.ref f))
    (hk : PySem.W.keepIn X.K (.ref f) = true) (hb : KBinds X.K fd ps ks g gV) (hx : Passes CX X E) (hkw : PK X kws tk) (hall : (backToKw pos (keywordEach kws X.env)).all (·.1.isSome) = true := by rfl)
    (hks : (backToKw pos (keywordEach kws X.env)).filterMap (·.1) = ks := by rfl) (no_dbg : (x == ("__debug__" : Str)) = false := by decide)
    (hpl : ((backTo pos (starEach [] X.env)).any (·.1) || (backToKw pos (keywordEach kws X.env)).any (·.1.isNone)) = false := by rfl) : PE X (.Call (.Name x p) [] kws pos) (tCallK sp gV E tNil tk) := by
  constructor
  intro pins s σ H Q I h
  refine wpAny_Call_Name_kw (ld_glob I hg hm (PySem.W.callWith_KW0 (h₀ := X.base) I.ok.mod.kin hk hall (thn (hkw.run pos pins s σ H _ I h) fun ws s2 ⟨zs, H2, I2, rz, q2⟩ => ⟨I2.kIn, ?_⟩) hpl) no_dbg)
  rw [hks]
  exact run_fnk (us := []) F hr hb hx I2 .nil rz q2
end
/-! ### tests -/
theorem iteD {p : Prop} [Decidable p] {A B : Prop} (h1 : p → A) (h2 : ¬ p → B) : if decide p = true then A else B := by
  by_cases h : p
  · simp only [h, decide_true, if_true]; exact h1 h
  · simp only [h, decide_false, Bool.false_eq_true, if_false]; exact h2 h
theorem iteND {p : Prop} [Decidable p] {A B : Prop} (h1 : ¬ p → A) (h2 : p → B) : if (!decide p) = true then A else B := by
  by_cases h : p
  · simp only [h, decide_true, Bool.not_true, Bool.false_eq_true, if_false]; exact h2 h
  · simp only [h, decide_false, Bool.not_false, if_true]; exact h1 h
theorem iteE {i j : Int} {A B : Prop} (h1 : i = j → A) (h2 : i ≠ j → B) : if decide (V.int i = V.int j) = true then A else B :=
  iteD (fun h => h1 (V.int.inj h)) fun h => h2 fun e => h (by rw [e])
theorem iteNE {i j : Int} {A B : Prop} (h1 : i ≠ j → A) (h2 : i = j → B) : if (!decide (V.int i = V.int j)) = true then A else B :=
  iteND (fun h => h1 fun e => h (by rw [e])) fun h => h2 (V.int.inj h)
/-! ### the bag of drawn numbers -/
theorem same_new {H : Hp} {p : Addr} {o : HO} (h : H p = none) : Same H (upd H p o) := fun b x e => by rw [upd_ne (ne_of_none e h)]; exact e
def But (b : Addr) (H H' : Hp) : Prop := ∀ a o, a ≠ b → H a = some o → H' a = some o
theorem But.refl (b : Addr) (H : Hp) : But b H H := fun _ _ _ h => h
theorem But.trans {b : Addr} {H H1 H2 : Hp} (x : But b H H1) (y : But b H1 H2) : But b H H2 := fun a o n h => y a o n (x a o n h)
theorem But.upd {b : Addr} {H H' : Hp} {o : HO} (x : But b H H') : But b H (upd H' b o) := fun a u n h => by rw [upd_ne n]; exact x a u n h
theorem Same.but {b : Addr} {H H' : Hp} (x : Same H H') : But b H H' := fun a o _ h => x a o h
theorem But.new {b p : Addr} {H H' : Hp} {o : HO} (x : But b H H') (h : H' p = none) : But b H (L2.upd H' p o) := x.trans (Same.but (same_new h))
theorem But.get {b a : Addr} {H H' : Hp} {o : HO} (x : But b H H') (n : a ≠ b) (h : H a = some o) : H' a = some o := x a o n h
/-- the bag stands at b: its cells at l, the place, what is held, the seed -/
structure BagAt (H : Hp) (b l : Addr) (cs : List Int) (i h s : Int) : Prop where
  at_ : H b = some (.lst [.ref l, .int i, .int h, .int s])
  cells : H l = some (.lst (cs.map V.int))
  ne : l ≠ b
  len : cs.length ≤ 63
  i0 : 0 ≤ i
  h0 : 0 ≤ h
  s0 : 0 ≤ s
  s1 : s < 2147483647
def Bag (H : Hp) (b l : Addr) : Prop := ∃ cs i h s, BagAt H b l cs i h s
theorem BagAt.same {H H' : Hp} {b l : Addr} {cs : List Int} {i h s : Int} (x : BagAt H b l cs i h s) (e : Same H H') : BagAt H' b l cs i h s := ⟨e _ _ x.at_, e _ _ x.cells, x.ne, x.len, x.i0, x.h0, x.s0, x.s1⟩
theorem Bag.same {H H' : Hp} {b l : Addr} (x : Bag H b l) (e : Same H H') : Bag H' b l := by
  obtain ⟨cs, i, h, s, y⟩ := x
  exact ⟨cs, i, h, s, y.same e⟩
theorem Bag.ne {H : Hp} {a b l : Addr} (x : Bag H b l) (h : H a = none) : a ≠ b := by
  obtain ⟨cs, i, hh, s, y⟩ := x
  exact (ne_of_none y.at_ h).symm
theorem Bag.nl {H : Hp} {a b l : Addr} (x : Bag H b l) (h : H a = none) : a ≠ l := by
  obtain ⟨cs, i, hh, s, y⟩ := x
  exact (ne_of_none y.cells h).symm
theorem Bag.mut {H : Hp} {a b l : Addr} {o : HO} (x : Bag H b l) (h1 : a ≠ b) (h2 : a ≠ l) : Bag (upd H a o) b l := by
  obtain ⟨cs, i, hh, s, y⟩ := x
  exact ⟨cs, i, hh, s, by rw [upd_ne h1.symm]; exact y.at_, by rw [upd_ne h2.symm]; exact y.cells, y.ne, y.len, y.i0, y.h0, y.s0, y.s1⟩
theorem BagAt.set {H : Hp} {b l : Addr} {cs : List Int} {i h s i' h' s' : Int} {o : List V} (x : BagAt H b l cs i h s) (e : o = [.ref l, .int i', .int h', .int s']) (a1 : 0 ≤ i') (a2 : 0 ≤ h') (a3 : 0 ≤ s') (a4 : s' < 2147483647) :
    BagAt (upd H b (.lst o)) b l cs i' h' s' := ⟨by rw [upd_same, e], by rw [upd_ne x.ne]; exact x.cells, x.ne, x.len, a1, a2, a3, a4⟩
theorem bag_set {H : Hp} {b l : Addr} {cs : List Int} {i h s i' h' s' k : Int} {j : Nat} {v : V} {Q : Hp → Prop} (x : BagAt H b l cs i h s) (hj : ixN 4 k = some j)
    (e : ([.ref l, .int i, .int h, .int s] : List V).set j v = [.ref l, .int i', .int h', .int s']) (a1 : 0 ≤ i') (a2 : 0 ≤ h') (a3 : 0 ≤ s') (a4 : s' < 2147483647)
    (q : ∀ H', BagAt H' b l cs i' h' s' → But b H H' → Q H') : rSetL (.ref b) (.int k) v H Q :=
  ⟨b, _, k, j, rfl, rfl, x.at_, hj, q _ (x.set e a1 a2 a3 a4) (But.refl b H).upd⟩
theorem fmod_lo (a : Int) {m : Int} (h : 0 < m) : 0 ≤ a.fmod m := by rw [Int.fmod_eq_emod_of_nonneg _ (by omega)]; exact Int.emod_nonneg _ (by omega)
theorem fmod_hi (a : Int) {m : Int} (h : 0 < m) : a.fmod m < m := by rw [Int.fmod_eq_emod_of_nonneg _ (by omega)]; exact Int.emod_lt_of_pos _ h
theorem nat_lt {z : Int} {n : Nat} (h0 : 0 ≤ z) (h1 : z < 2 ^ n) : z.natAbs < 2 ^ n := by
  have : ((z.natAbs : Int)) < ((2 ^ n : Nat) : Int) := by rw [Int.natAbs_of_nonneg h0]; rw [Int.natCast_pow]; exact h1
  omega
def sp_bag (K : PySem.W.Frag) : Sp := fun vs H Q _ => ∃ (a : Addr) (ns : List Int), vs = [.ref a] ∧ SqL K H a (ns.map V.int) ∧ ns.length ≤ 63 ∧ ∀ b l H', H b = none → H l = none → Same H H' → Bag H' b l → Q (.ref b) H'
/-- an amount that // takes -/
def Fit (n : Int) : Prop := n.natAbs < 2 ^ 8000
theorem Fit.of {n : Int} (h0 : 0 ≤ n) (h : n < 1000000000000000000000000000000000000000000) : Fit n := Nat.lt_of_lt_of_le (show n.natAbs < 2 ^ 140 by omega) (Nat.pow_le_pow_right (by decide) (by decide))
def sp_pull : Sp := fun vs H Q _ => ∃ (b l : Addr) (n : Int), vs = [.ref b, .int n] ∧ Bag H b l ∧ 0 < n ∧ Fit n ∧ ∀ r H', 0 ≤ r → r < n → Bag H' b l → But b H H' → Q (.int r) H'
/-! ### steps of a reading -/
theorem mul_ok {i j : Int} (h1 : i.natAbs < 2 ^ 20000) (h2 : j.natAbs < 2 ^ 20000) : CMulW i j := wide_mul h1 h2 (by decide) (by decide) (by decide)
theorem small_pow {i : Int} {a b : Nat} (h : i.natAbs < 2 ^ a) (hab : a ≤ b) : i.natAbs < 2 ^ b := Nat.lt_of_lt_of_le h (Nat.pow_le_pow_right (by decide) hab)
theorem small_abs {i : Int} (h : i.natAbs < 1000000000000000000000000000000000000000000) : i.natAbs < 2 ^ 20000 := small_pow (a := 140) (Nat.lt_of_lt_of_le h (by decide)) (by decide)
theorem div_ok {i j : Int} (h : 0 < j) (h1 : Fit j) : CDivW i j := wide_div h h1 (by decide) (by decide)
theorem div_small {i j : Int} (h : 0 < j) (h1 : j < 1000000000000000000000000000000) : CDivW i j := div_ok h (Fit.of (by omega) (by omega))
theorem le_line {n : Nat} (h : n ≤ 1000) : n ≤ sizeLine := Nat.le_trans h (by decide)
theorem lt_line {n : Nat} (h : n < 1000) : n < sizeLine := Nat.lt_of_lt_of_le h (by decide)
theorem at0 {a b c d : V} : atI [a, b, c, d] 0 = some a := rfl
theorem at1 {a b c d : V} : atI [a, b, c, d] 1 = some b := rfl
theorem at2 {a b c d : V} : atI [a, b, c, d] 2 = some c := rfl
theorem at3 {a b c d : V} : atI [a, b, c, d] 3 = some d := rfl
/-! ### isinstance of built-in kinds -/
theorem kb_int_list : kitB "int" "list" = some false := by decide +kernel
theorem kb_int_tuple : kitB "int" "tuple" = some false := by decide +kernel
theorem kb_int_dict : kitB "int" "dict" = some false := by decide +kernel
theorem kb_int_bool : kitB "int" "bool" = some false := by decide +kernel
theorem kb_int_int : kitB "int" "int" = some true := by decide +kernel
theorem kb_int_str : kitB "int" "str" = some false := by decide +kernel
theorem kb_str_list : kitB "str" "list" = some false := by decide +kernel
theorem kb_str_tuple : kitB "str" "tuple" = some false := by decide +kernel
theorem kb_str_dict : kitB "str" "dict" = some false := by decide +kernel
theorem kb_str_bool : kitB "str" "bool" = some false := by decide +kernel
theorem kb_str_int : kitB "str" "int" = some false := by decide +kernel
theorem kb_str_str : kitB "str" "str" = some true := by decide +kernel
theorem kb_bool_list : kitB "bool" "list" = some false := by decide +kernel
theorem kb_bool_tuple : kitB "bool" "tuple" = some false := by decide +kernel
theorem kb_bool_dict : kitB "bool" "dict" = some false := by decide +kernel
theorem kb_bool_bool : kitB "bool" "bool" = some true := by decide +kernel
theorem kb_bool_int : kitB "bool" "int" = some true := by decide +kernel
theorem kb_bool_str : kitB "bool" "str" = some false := by decide +kernel
theorem kb_NoneType_list : kitB "NoneType" "list" = some false := by decide +kernel
theorem kb_NoneType_tuple : kitB "NoneType" "tuple" = some false := by decide +kernel
theorem kb_NoneType_dict : kitB "NoneType" "dict" = some false := by decide +kernel
theorem kb_NoneType_bool : kitB "NoneType" "bool" = some false := by decide +kernel
theorem kb_NoneType_int : kitB "NoneType" "int" = some false := by decide +kernel
theorem kb_NoneType_str : kitB "NoneType" "str" = some false := by decide +kernel
theorem kb_list_list : kitB "list" "list" = some true := by decide +kernel
theorem kb_list_tuple : kitB "list" "tuple" = some false := by decide +kernel
theorem kb_list_dict : kitB "list" "dict" = some false := by decide +kernel
theorem kb_list_bool : kitB "list" "bool" = some false := by decide +kernel
theorem kb_list_int : kitB "list" "int" = some false := by decide +kernel
theorem kb_list_str : kitB "list" "str" = some false := by decide +kernel
theorem kb_tuple_list : kitB "tuple" "list" = some false := by decide +kernel
theorem kb_tuple_tuple : kitB "tuple" "tuple" = some true := by decide +kernel
theorem kb_tuple_dict : kitB "tuple" "dict" = some false := by decide +kernel
theorem kb_tuple_bool : kitB "tuple" "bool" = some false := by decide +kernel
theorem kb_tuple_int : kitB "tuple" "int" = some false := by decide +kernel
theorem kb_tuple_str : kitB "tuple" "str" = some false := by decide +kernel
theorem tyL {K : PySem.W.Frag} {H : Hp} {a : Addr} {xs : List V} (h : SqL K H a xs) : TyX K H (.ref a) (.type "list") := by
  rcases h with (h | ⟨o, h⟩) | ⟨o, its, n, h1, h2, _⟩
  · exact .base (.lst h)
  · exact .base (.frz h)
  · exact .kList h1 h2
theorem tyT {K : PySem.W.Frag} {H : Hp} {a : Addr} {xs : List V} (h : SqT K H a xs) : TyX K H (.ref a) (.type "tuple") := by
  rcases h with (h | ⟨o, h⟩) | ⟨o, its, n, h1, h2, _⟩
  · exact .base (.tup h)
  · exact .fTuple h
  · exact .kTuple h1 h2
/-! ### loops over anything -/
theorem lc_by {J : It} {n : Nat} {g : TG} {tt : TT} {te : TE} {vs : List Nat} {σ : L2.St} {H1 : Hp} {D : Addr} {Qd : Hp → Prop} (Pv : Nat → Hp → Prop) (h0 : Pv 0 (upd H1 D (.lst []))) (hgo : ∀ i H, i < n → Pv i H → J.go i H) (hstop : ∀ H, Pv n H → J.stop n H)
    (hs : ∀ i H x H', i < n → Pv i H → J.yld i H x H' → g x (wipe σ vs) H' fun σ2 H2 => wipe σ2 vs = wipe σ vs ∧ tt σ2 H2 fun b H3 =>
      if b = true then te σ2 H3 fun y H4 => ∃ acc, H4 D = some (.lst acc) ∧ acc.length < sizeLine ∧ Pv (i + 1) (upd H4 D (.lst (acc ++ [y]))) else Pv (i + 1) H3) (hd : ∀ H, Pv n H → Qd H) :
    ∃ W : Nat → Nat → Hp → Prop, (∃ m, W 0 m (upd H1 D (.lst []))) ∧ ∀ i m H, W i m H →
      (J.stop i H ∧ Qd H) ∨ (J.go i H ∧ ∃ Nx : Hp → Prop, (∀ H', Nx H' → ∃ m', m' < m ∧ W (i + 1) m' H') ∧ ∀ x H', J.yld i H x H' → g x (wipe σ vs) H' fun σ2 H2 => wipe σ2 vs = wipe σ vs ∧ tt σ2 H2 fun b H3 =>
        if b = true then te σ2 H3 fun y H4 => ∃ acc, H4 D = some (.lst acc) ∧ acc.length < sizeLine ∧ Nx (upd H4 D (.lst (acc ++ [y]))) else Nx H3) := by
  refine ⟨fun i m H => m = n - i ∧ i ≤ n ∧ Pv i H, ⟨n, by simp, Nat.zero_le _, h0⟩, ?_⟩
  rintro i m H ⟨em, hi, pv⟩
  by_cases hlt : i < n
  · exact .inr ⟨hgo i H hlt pv, Pv (i + 1), fun H' p' => ⟨n - (i + 1), by omega, rfl, hlt, p'⟩, fun x H' y => hs i H x H' hlt pv y⟩
  · have e : i = n := by omega
    rw [e] at pv ⊢
    exact .inl ⟨hstop H pv, hd H pv⟩
theorem for_by {J : It} {n : Nat} {g : TG} {tb : TS} {D : Ends} {σ : L2.St} {H : Hp} (Pv : Nat → L2.St → Hp → Prop) (h0 : Pv 0 σ H) (hgo : ∀ i σ H, i < n → Pv i σ H → J.go i H) (hstop : ∀ σ H, Pv n σ H → J.stop n H)
    (hs : ∀ i σ H x H', i < n → Pv i σ H → J.yld i H x H' → g x σ H' fun σ2 H2 => tb { D with nx := Pv (i + 1), ct := Pv (i + 1), bk := D.nx } σ2 H2) (hd : ∀ σ H, Pv n σ H → D.nx σ H) :
    ∃ W : Nat → Nat → L2.St → Hp → Prop, (∃ m, W 0 m σ H) ∧ ∀ i m σ H, W i m σ H →
      (J.stop i H ∧ D.nx σ H) ∨ (J.go i H ∧ ∃ N : L2.St → Hp → Prop, (∀ σ' H', N σ' H' → ∃ m', m' < m ∧ W (i + 1) m' σ' H') ∧ ∀ x H', J.yld i H x H' → g x σ H' fun σ2 H2 => tb { D with nx := N, ct := N, bk := D.nx } σ2 H2) := by
  refine ⟨fun i m σ H => m = n - i ∧ i ≤ n ∧ Pv i σ H, ⟨n, by simp, Nat.zero_le _, h0⟩, ?_⟩
  rintro i m σ H ⟨em, hi, pv⟩
  by_cases hlt : i < n
  · exact .inr ⟨hgo i σ H hlt pv, Pv (i + 1), fun σ' H' p' => ⟨n - (i + 1), by omega, rfl, hlt, p'⟩, fun x H' y => hs i σ H x H' hlt pv y⟩
  · have e : i = n := by omega
    rw [e] at pv ⊢
    exact .inl ⟨hstop σ H pv, hd σ H pv⟩
theorem at_zero {α : Type} {x : α} {xs : List α} : atI (x :: xs) 0 = some x := by
  show atI (x :: xs) ((0 : Nat) : Int) = some x
  exact atI_nat rfl
theorem Same.mut {H H' : Hp} {p : Addr} {o : HO} (e : Same H H') (h : H p = none) : Same H (upd H' p o) := fun a u ha => by
  rw [upd_ne (ne_of_none ha h)]
  exact e a u ha
theorem Same.new {H H' : Hp} {p : Addr} {o : HO} (e : Same H H') (h : H' p = none) : Same H (upd H' p o) := Same.trans e (same_new h)
theorem Same.tup {K : PySem.W.Frag} {H H' : Hp} {a : Addr} {xs : List V} (e : Same H H') (h : SqT K H a xs) : SqT K H' a xs := by
  rcases h with (h | ⟨o, h⟩) | h
  · exact .inl (.inl (e _ _ h))
  · exact .inl (.inr ⟨o, e _ _ h⟩)
  · exact .inr h

/-! ### data -/
/-- data at any depth; an instance that is not changed; an address -/
inductive D where
  | non | bl (b : Bool) | int (i : Int) | str (z : Str)
  | tup (l : List D) | lst (l : List D)
  | ins (C : Addr) (l : List (Str × D))
  | oth (v : V)
  | fn (l : List (Addr × HO))
  | any
abbrev Ads := List Addr
mutual
/-- v is the data d; O: what may be changed, which d does not hold -/
inductive At (K : PySem.W.Frag) (O : Ads) (H : Hp) : V → D → Prop
  | non : At K O H .non .non
  | bl (b : Bool) : At K O H (.bl b) (.bl b)
  | int (i : Int) : At K O H (.int i) (.int i)
  | str (z : Str) : At K O H (.str z) (.str z)
  | tup {a : Addr} {xs : List V} {ds : List D} : SqT K H a xs → (a ∉ O ∨ ∀ H', SqT K H' a xs) → AtAll K O H xs ds → At K O H (.ref a) (.tup ds)
  | lst {a : Addr} {xs : List V} {ds : List D} : H a = some (.lst xs) → a ∉ O → AtAll K O H xs ds → At K O H (.ref a) (.lst ds)
  | ins {a C dx : Addr} {fs : List (Str × V)} {ds : List (Str × D)} : H a = some (.ins C dx fs) → a ∉ O → AtFs K O H fs ds → At K O H (.ref a) (.ins C ds)
  | oth (v : V) : At K O H v (.oth v)
  | fn {f : Addr} {o : HO} {r : List (Addr × HO)} : (∀ p ∈ (f, o) :: r, H p.1 = some p.2 ∧ p.1 ∉ O ∧ ∀ ps, p.2 ≠ .tbl ps) → At K O H (.ref f) (.fn ((f, o) :: r))
  | any (a : Addr) : At K O H (.ref a) .any
inductive AtAll (K : PySem.W.Frag) (O : Ads) (H : Hp) : List V → List D → Prop
  | nil : AtAll K O H [] []
  | cons {v : V} {vs : List V} {d : D} {ds : List D} : At K O H v d → AtAll K O H vs ds → AtAll K O H (v :: vs) (d :: ds)
inductive AtFs (K : PySem.W.Frag) (O : Ads) (H : Hp) : List (Str × V) → List (Str × D) → Prop
  | nil : AtFs K O H [] []
  | cons {x : Str} {v : V} {vs : List (Str × V)} {d : D} {ds : List (Str × D)} : At K O H v d → AtFs K O H vs ds → AtFs K O H ((x, v) :: vs) ((x, d) :: ds)
end
/-- all but N is as it was -/
def Fr (N : Ads) (H H' : Hp) : Prop := ∀ a o, a ∉ N → H a = some o → (∀ ps, o ≠ .tbl ps) → H' a = some o
theorem Fr.refl (N : Ads) (H : Hp) : Fr N H H := fun _ _ _ h _ => h
theorem Fr.trans {N : Ads} {H H1 H2 : Hp} (x : Fr N H H1) (y : Fr N H1 H2) : Fr N H H2 := fun a o n h t => y a o n (x a o n h t) t
theorem Fr.mono {N M : Ads} {H H' : Hp} (x : Fr N H H') (h : ∀ a ∈ N, a ∈ M) : Fr M H H' := fun a o n => x a o fun m => n (h a m)
theorem Fr.of {N : Ads} {H H' : Hp} (x : Same H H') : Fr N H H' := fun a o _ h _ => x a o h
theorem Fr.sqT {K : PySem.W.Frag} {N : Ads} {H H' : Hp} {a : Addr} {xs : List V} (x : Fr N H H') (h : SqT K H a xs) (n : a ∉ N ∨ ∀ H', SqT K H' a xs) : SqT K H' a xs := by
  rcases n with n | n
  · rcases h with (h | ⟨o, h⟩) | h
    · exact .inl (.inl (x _ _ n h fun _ z => nomatch z))
    · exact .inl (.inr ⟨o, x _ _ n h fun _ z => nomatch z⟩)
    · exact .inr h
  · exact n _
theorem Fr.sqL {K : PySem.W.Frag} {N : Ads} {H H' : Hp} {a : Addr} {xs : List V} (x : Fr N H H') (h : SqL K H a xs) (n : a ∉ N ∨ ∀ H', SqL K H' a xs) : SqL K H' a xs := by
  rcases n with n | n
  · rcases h with (h | ⟨o, h⟩) | h
    · exact .inl (.inl (x _ _ n h fun _ z => nomatch z))
    · exact .inl (.inr ⟨o, x _ _ n h fun _ z => nomatch z⟩)
    · exact .inr h
  · exact n _
section
variable {K : PySem.W.Frag} {O O' : Ads} {H H' : Hp}
mutual
theorem At.fr (x : Fr O H H') : ∀ {v : V} {d : D}, At K O H v d → At K O H' v d
  | _, _, .fn h => .fn fun p m => ⟨x _ _ (h p m).2.1 (h p m).1 (h p m).2.2, (h p m).2⟩
  | _, _, .any v => .any v
  | _, _, .non => .non
  | _, _, .bl b => .bl b
  | _, _, .int i => .int i
  | _, _, .str z => .str z
  | _, _, .tup h n t => .tup (x.sqT h n) n (AtAll.fr x t)
  | _, _, .lst h n t => .lst (x _ _ n h fun _ z => nomatch z) n (AtAll.fr x t)
  | _, _, .ins h n t => .ins (x _ _ n h fun _ z => nomatch z) n (AtFs.fr x t)
  | _, _, .oth v => .oth v
theorem AtAll.fr (x : Fr O H H') : ∀ {v : List V} {d : List D}, AtAll K O H v d → AtAll K O H' v d
  | _, _, .nil => .nil
  | _, _, .cons h t => .cons (At.fr x h) (AtAll.fr x t)
theorem AtFs.fr (x : Fr O H H') : ∀ {v : List (Str × V)} {d : List (Str × D)}, AtFs K O H v d → AtFs K O H' v d
  | _, _, .nil => .nil
  | _, _, .cons h t => .cons (At.fr x h) (AtFs.fr x t)
end
mutual
/-- what is known to be elsewhere may be excluded too; less may be excluded -/
theorem At.ex (x : ∀ a, a ∉ O → (∃ o, H a = some o) → a ∉ O') (k : ∀ a xs, SqT K H a xs → a ∉ O → a ∉ O' ∨ ∀ H', SqT K H' a xs) : ∀ {v : V} {d : D}, At K O H v d → At K O' H v d
  | _, _, .fn h => .fn fun p m => ⟨(h p m).1, x _ (h p m).2.1 ⟨_, (h p m).1⟩, (h p m).2.2⟩
  | _, _, .any v => .any v
  | _, _, .non => .non
  | _, _, .bl b => .bl b
  | _, _, .int i => .int i
  | _, _, .str z => .str z
  | _, _, .tup h n t => .tup h (n.elim (k _ _ h) .inr) (AtAll.ex x k t)
  | _, _, .lst h n t => .lst h (x _ n ⟨_, h⟩) (AtAll.ex x k t)
  | _, _, .ins h n t => .ins h (x _ n ⟨_, h⟩) (AtFs.ex x k t)
  | _, _, .oth v => .oth v
theorem AtAll.ex (x : ∀ a, a ∉ O → (∃ o, H a = some o) → a ∉ O') (k : ∀ a xs, SqT K H a xs → a ∉ O → a ∉ O' ∨ ∀ H', SqT K H' a xs) : ∀ {v : List V} {d : List D}, AtAll K O H v d → AtAll K O' H v d
  | _, _, .nil => .nil
  | _, _, .cons h t => .cons (At.ex x k h) (AtAll.ex x k t)
theorem AtFs.ex (x : ∀ a, a ∉ O → (∃ o, H a = some o) → a ∉ O') (k : ∀ a xs, SqT K H a xs → a ∉ O → a ∉ O' ∨ ∀ H', SqT K H' a xs) : ∀ {v : List (Str × V)} {d : List (Str × D)}, AtFs K O H v d → AtFs K O' H v d
  | _, _, .nil => .nil
  | _, _, .cons h t => .cons (At.ex x k h) (AtFs.ex x k t)
end
theorem At.less (x : ∀ a, a ∈ O' → a ∈ O) {v : V} {d : D} (h : At K O H v d) : At K O' H v d := At.ex (fun _ n _ m => n (x _ m)) (fun _ _ _ n => .inl fun m => n (x _ m)) h
theorem AtAll.less (x : ∀ a, a ∈ O' → a ∈ O) {v : List V} {d : List D} (h : AtAll K O H v d) : AtAll K O' H v d := AtAll.ex (fun _ n _ m => n (x _ m)) (fun _ _ _ n => .inl fun m => n (x _ m)) h
/-- a written tuple, at any heap -/
theorem sqT_any {a : Addr} {xs : List V} (h : SqT K H a xs) : (∃ o, H a = some o) ∨ ∀ H', SqT K H' a xs := by
  rcases h with (h | ⟨o, h⟩) | h
  · exact .inl ⟨_, h⟩
  · exact .inl ⟨_, h⟩
  · exact .inr fun _ => .inr h
theorem sqL_any {a : Addr} {xs : List V} (h : SqL K H a xs) : (∃ o, H a = some o) ∨ ∀ H', SqL K H' a xs := by
  rcases h with (h | ⟨o, h⟩) | h
  · exact .inl ⟨_, h⟩
  · exact .inl ⟨_, h⟩
  · exact .inr fun _ => .inr h
/-- what did not stand in H may be excluded -/
theorem At.new (x : ∀ a, a ∈ O' → a ∈ O ∨ H a = none) {v : V} {d : D} (h : At K O H v d) : At K O' H v d := by
  have y : ∀ a, a ∉ O → (∃ o, H a = some o) → a ∉ O' := fun a n ⟨o, e⟩ m => (x a m).elim n fun q => by rw [q] at e; cases e
  exact At.ex y (fun a xs h n => (sqT_any h).elim (fun e => .inl (y a n e)) .inr) h
theorem AtAll.new (x : ∀ a, a ∈ O' → a ∈ O ∨ H a = none) {v : List V} {d : List D} (h : AtAll K O H v d) : AtAll K O' H v d := by
  have y : ∀ a, a ∉ O → (∃ o, H a = some o) → a ∉ O' := fun a n ⟨o, e⟩ m => (x a m).elim n fun q => by rw [q] at e; cases e
  exact AtAll.ex y (fun a xs h n => (sqT_any h).elim (fun e => .inl (y a n e)) .inr) h
theorem AtAll.length {vs : List V} {ds : List D} (h : AtAll K O H vs ds) : vs.length = ds.length := by
  induction vs generalizing ds with
  | nil => cases h; rfl
  | cons v vs ih =>
    cases h with
    | cons a b => rw [List.length_cons, List.length_cons, ih b]
theorem AtAll.get {vs : List V} {ds : List D} (h : AtAll K O H vs ds) {i : Nat} {v : V} (e : vs[i]? = some v) : ∃ d, ds[i]? = some d ∧ At K O H v d := by
  induction vs generalizing ds i with
  | nil => simp at e
  | cons x vs ih =>
    cases h with
    | cons a b =>
      cases i with
      | zero => cases e; exact ⟨_, rfl, a⟩
      | succ i => exact ih b (by simpa using e)
theorem AtAll.getD {vs : List V} {ds : List D} (h : AtAll K O H vs ds) {i : Nat} {d : D} (e : ds[i]? = some d) : ∃ v, vs[i]? = some v ∧ At K O H v d := by
  induction vs generalizing ds i with
  | nil => cases h; simp at e
  | cons x vs ih =>
    cases h with
    | cons a b =>
      cases i with
      | zero => cases e; exact ⟨_, rfl, a⟩
      | succ i => exact ih b (by simpa using e)
theorem AtAll.append {vs ws : List V} {ds es : List D} (h : AtAll K O H vs ds) (g : AtAll K O H ws es) : AtAll K O H (vs ++ ws) (ds ++ es) := by
  induction vs generalizing ds with
  | nil => cases h; exact g
  | cons x vs ih =>
    cases h with
    | cons a b => exact .cons a (ih b)
theorem AtAll.take {vs : List V} {ds : List D} (h : AtAll K O H vs ds) (n : Nat) : AtAll K O H (vs.take n) (ds.take n) := by
  induction vs generalizing ds n with
  | nil => cases h; simp; exact .nil
  | cons x vs ih =>
    cases h with
    | cons a b =>
      cases n with
      | zero => exact .nil
      | succ n => exact .cons a (ih b n)
theorem AtAll.drop {vs : List V} {ds : List D} (h : AtAll K O H vs ds) (n : Nat) : AtAll K O H (vs.drop n) (ds.drop n) := by
  induction vs generalizing ds n with
  | nil => cases h; simp; exact .nil
  | cons x vs ih =>
    cases h with
    | cons a b =>
      cases n with
      | zero => exact .cons a b
      | succ n => exact ih b n
theorem AtAll.set {vs : List V} {ds : List D} (h : AtAll K O H vs ds) (i : Nat) {v : V} {d : D} (g : At K O H v d) : AtAll K O H (vs.set i v) (ds.set i d) := by
  induction vs generalizing ds i with
  | nil => cases h; exact .nil
  | cons x vs ih =>
    cases h with
    | cons a b =>
      cases i with
      | zero => exact .cons g b
      | succ i => exact .cons a (ih b i)
theorem AtAll.reverse {vs : List V} {ds : List D} (h : AtAll K O H vs ds) : AtAll K O H vs.reverse ds.reverse := by
  induction vs generalizing ds with
  | nil => cases h; exact .nil
  | cons x vs ih =>
    cases h with
    | cons a b => rw [List.reverse_cons, List.reverse_cons]; exact (ih b).append (.cons a .nil)
theorem AtAll.dropLast {vs : List V} {ds : List D} (h : AtAll K O H vs ds) : AtAll K O H vs.dropLast ds.dropLast := by
  rw [List.dropLast_eq_take, List.dropLast_eq_take, h.length]
  exact h.take _
theorem AtAll.of {vs : List V} {ds : List D} (hl : vs.length = ds.length) (h : ∀ (i : Nat) (v : V) (d : D), vs[i]? = some v → ds[i]? = some d → At K O H v d) : AtAll K O H vs ds := by
  induction vs generalizing ds with
  | nil =>
    cases ds with
    | nil => exact .nil
    | cons d ds => cases hl
  | cons v vs ih =>
    cases ds with
    | nil => cases hl
    | cons d ds => exact .cons (h 0 _ _ rfl rfl) (ih (Nat.succ.inj hl) fun i a b e1 e2 => h (i + 1) a b (by simpa using e1) (by simpa using e2))
end

theorem AtAll.one {K : PySem.W.Frag} {O : Ads} {H : Hp} {v : V} {d : D} (h : At K O H v d) : AtAll K O H [v] [d] := .cons h .nil
/-! ### what the slots hold -/
/-- an object that is one's own: a list, an instance -/
inductive Cd where
  | lst (l : List D) | ins (C dx : Addr) (l : List (Str × D)) | dK (l : List (Key × D)) | dT (l : List (List Key × D))
@[reducible] def Cd.d : Cd → D
  | .lst l => .lst l
  | .ins C _ l => .ins C l
  | _ => .any
inductive CAt (K : PySem.W.Frag) (O : Ads) (H : Hp) : HO → Cd → Prop
  | lst {vs : List V} {ds : List D} : AtAll K O H vs ds → CAt K O H (.lst vs) (.lst ds)
  | ins {C dx : Addr} {fs : List (Str × V)} {ds : List (Str × D)} : AtFs K O H fs ds → CAt K O H (.ins C dx fs) (.ins C dx ds)
  | dK {kvs : List (Key × V)} {l : List (Key × D)} : kvs.map (·.1) = l.map (·.1) → AtAll K O H (kvs.map (·.2)) (l.map (·.2)) → CAt K O H (.dK kvs) (.dK l)
  | dT {kvs : List (List Key × V)} {l : List (List Key × D)} : kvs.map (·.1) = l.map (·.1) → AtAll K O H (kvs.map (·.2)) (l.map (·.2)) → CAt K O H (.dT kvs) (.dT l)
section
variable {K : PySem.W.Frag} {O O' : Ads} {H H' : Hp} {o : HO} {c : Cd}
theorem CAt.fr (a : CAt K O H o c) (x : Fr O H H') : CAt K O H' o c := by
  cases a with
  | lst a => exact .lst (a.fr x)
  | ins a => exact .ins (AtFs.fr x a)
  | dK e a => exact .dK e (a.fr x)
  | dT e a => exact .dT e (a.fr x)
theorem CAt.less (x : ∀ a, a ∈ O' → a ∈ O) (a : CAt K O H o c) : CAt K O' H o c := by
  cases a with
  | lst a => exact .lst (a.less x)
  | ins a => exact .ins (AtFs.ex (fun _ n _ m => n (x _ m)) (fun _ _ _ n => .inl fun m => n (x _ m)) a)
  | dK e a => exact .dK e (a.less x)
  | dT e a => exact .dT e (a.less x)
theorem CAt.new (x : ∀ a, a ∈ O' → a ∈ O ∨ H a = none) (a : CAt K O H o c) : CAt K O' H o c := by
  have y : ∀ a, a ∉ O → (∃ o, H a = some o) → a ∉ O' := fun a n ⟨o, e⟩ m => (x a m).elim n fun q => by rw [q] at e; cases e
  cases a with
  | lst a => exact .lst (a.new x)
  | ins a => exact .ins (AtFs.ex y (fun a xs h n => (sqT_any h).elim (fun e => .inl (y a n e)) .inr) a)
  | dK e a => exact .dK e (a.new x)
  | dT e a => exact .dT e (a.new x)
theorem CAt.nt (a : CAt K O H o c) : ∀ ps, o ≠ .tbl ps := by
  cases a with
  | lst a => exact fun _ z => nomatch z
  | ins a => exact fun _ z => nomatch z
  | dK e a => exact fun _ z => nomatch z
  | dT e a => exact fun _ z => nomatch z
theorem CAt.at_ {p : Addr} (a : CAt K O H o c) (h : H p = some o) (n : p ∉ O) : At K O H (.ref p) c.d := by
  cases a with
  | lst a => exact .lst h n a
  | ins a => exact .ins h n a
  | dK e a => exact .any _
  | dT e a => exact .any _
end
inductive Sl where
  | no | val (d : D) | cell (p : Addr) (c : Cd)
@[reducible] def Sl.own (p : Addr) (l : List D) : Sl := .cell p (.lst l)
def Sl.o : Sl → Ads
  | .cell p _ => [p]
  | _ => []
def owns : List Sl → Ads
  | [] => []
  | s :: ρ => s.o ++ owns ρ
inductive SlAt (K : PySem.W.Frag) (O : Ads) (H : Hp) : Option V → Sl → Prop
  | no (x : Option V) : SlAt K O H x .no
  | val {v : V} {d : D} : At K O H v d → SlAt K O H (some v) (.val d)
  | cell {p : Addr} {o : HO} {c : Cd} : H p = some o → CAt K O H o c → SlAt K O H (some (.ref p)) (.cell p c)
inductive Sls (K : PySem.W.Frag) (O : Ads) (H : Hp) : L2.St → List Sl → Prop
  | nil : Sls K O H [] []
  | cons {v : Option V} {σ : L2.St} {s : Sl} {ρ : List Sl} : SlAt K O H v s → Sls K O H σ ρ → Sls K O H (v :: σ) (s :: ρ)
structure Ex where
  C : Addr
  fld : Str
  code : Str
  val : D
/-- where a reading stands: O0 what callers may change, H0 the heap at the def's beginning, N what the def may change, hv hd what is held besides, E X what may leave it -/
structure Cz where
  O0 : Ads
  H0 : Hp
  N : Ads
  bags : List (Addr × Addr)
  hv : List V
  hd : List D
  E : XK
  X : Ex → Prop
  tabs : Ads
def Raised (C : Addr) (fld code : Str) (v : V) (H : Hp) (E : XK) : Prop := ∀ dd, H dd = none → E (.ref C) (some dd) (upd H dd (.xd [(fld, v), ("code", .str code)]))
abbrev Os (C : Cz) (ρ : List Sl) : Ads := C.O0 ++ owns ρ
/-- a table of the law's lambdas -/
abbrev qLamS : Str := "law.<locals>.<lambda>"
abbrev Tab (H : Hp) (p : Addr) : Prop := LamX.TabS H p qLamS
theorem Tab.upd {H : Hp} {p a : Addr} {o : HO} (t : Tab H p) (ha : (∃ xs, H a = some (.lst xs)) ∨ (∃ C dx fs, H a = some (.ins C dx fs)) ∨ (∃ kvs, H a = some (.dK kvs)) ∨ ∃ kvs, H a = some (.dT kvs)) : Tab (L2.upd H a o) p := by
  obtain ⟨ps, h1, h2, h3⟩ := t
  have k : ∀ b u, H b = some u → (∀ xs, u ≠ .lst xs) → (∀ C dx fs, u ≠ .ins C dx fs) → (∀ kvs, u ≠ .dK kvs) → (∀ kvs, u ≠ .dT kvs) → L2.upd H a o b = some u := fun b u e n1 n2 n3 n4 => by
    rw [upd_ne]
    · exact e
    · intro z
      subst z
      rcases ha with ⟨xs, z⟩ | ⟨C, dx, fs, z⟩ | ⟨kvs, z⟩ | ⟨kvs, z⟩
      · exact n1 xs (Option.some.inj (e.symm.trans z))
      · exact n2 C dx fs (Option.some.inj (e.symm.trans z))
      · exact n3 kvs (Option.some.inj (e.symm.trans z))
      · exact n4 kvs (Option.some.inj (e.symm.trans z))
  refine ⟨ps, k _ _ h1 (fun _ z => nomatch z) (fun _ _ _ z => nomatch z) (fun _ z => nomatch z) (fun _ z => nomatch z), h2, fun pos cv hc => ?_⟩
  obtain ⟨c, e1, e2⟩ := h3 pos cv hc
  exact ⟨c, e1, k _ _ e2 (fun _ z => nomatch z) (fun _ _ _ z => nomatch z) (fun _ z => nomatch z) (fun _ z => nomatch z)⟩
/-- the bag alone has changed -/
theorem Tab.but {H H' : Hp} {p a : Addr} (t : Tab H p) (e : But a H H') (ha : ∃ xs, H a = some (.lst xs)) : Tab H' p := by
  obtain ⟨ps, h1, h2, h3⟩ := t
  have k : ∀ b u, H b = some u → (∀ xs, u ≠ .lst xs) → H' b = some u := fun b u e1 n1 => e b u (fun z => by
    subst z
    obtain ⟨xs, z⟩ := ha
    exact n1 xs (Option.some.inj (e1.symm.trans z))) e1
  refine ⟨ps, k _ _ h1 (fun _ z => nomatch z), h2, fun pos cv hc => ?_⟩
  obtain ⟨c, e1, e2⟩ := h3 pos cv hc
  exact ⟨c, e1, k _ _ e2 (fun _ z => nomatch z)⟩
/-- nothing stood there, but a table -/
def Void (H : Hp) (p : Addr) : Prop := ∀ o, H p = some o → ∃ ps, o = .tbl ps
theorem Void.of {H : Hp} {p : Addr} (h : H p = none) : Void H p := fun o e => by rw [h] at e; cases e
structure St (K : PySem.W.Frag) (C : Cz) (ρ : List Sl) (σ : L2.St) (H : Hp) : Prop where
  sl : Sls K (Os C ρ) H σ ρ
  nd : (owns ρ).Nodup
  fr : Fr C.N C.H0 H
  lv : ∀ p, p ∈ Os C ρ → H p ≠ none
  nO : (∀ p, p ∈ C.N → p ∈ C.O0) ∧ ∀ q, q ∈ C.bags → q.1 ∈ C.N ∨ C.H0 q.1 = none
  fresh : ∀ p, p ∈ owns ρ → Void C.H0 p ∧ p ∉ C.O0
  bg : ∀ q, q ∈ C.bags → Bag H q.1 q.2 ∧ q.1 ∈ C.O0 ∧ q.2 ∉ Os C ρ
  held : AtAll K (Os C ρ) H C.hv C.hd
  ex : ∀ x, C.X x → ∀ v H', Fr C.N C.H0 H' → (∀ p, p ∈ C.O0 → H' p ≠ none) → (∀ q, q ∈ C.bags → Bag H' q.1 q.2) → (∀ p, p ∈ C.tabs → Tab H' p) → At K C.O0 H' v x.val → Raised x.C x.fld x.code v H' C.E
  tb : ∀ p, p ∈ C.tabs → Tab H p
/-- what an expression may change: the bags -/
abbrev Bs (C : Cz) : Ads := C.bags.map (·.1)
/-- the expression gives a data of which P holds -/
def Ev (K : PySem.W.Frag) (C : Cz) (te : TE) (ρ : List Sl) (P : D → Prop) : Prop := ∀ σ H Q, St K C ρ σ H → (∀ d v H', P d → St K C ρ σ H' → Fr (Bs C) H H' → At K (Os C ρ) H' v d → Q v H') → te σ H Q
def EvA (K : PySem.W.Frag) (C : Cz) (ta : TA) (ρ : List Sl) (P : List D → Prop) : Prop := ∀ σ H Q, St K C ρ σ H → (∀ ds vs H', P ds → St K C ρ σ H' → Fr (Bs C) H H' → AtAll K (Os C ρ) H' vs ds → Q vs H') → ta σ H Q
def EvT (K : PySem.W.Frag) (C : Cz) (tt : TT) (ρ : List Sl) (P : Bool → Prop) : Prop := ∀ σ H Q, St K C ρ σ H → (∀ b H', P b → St K C ρ σ H' → Fr (Bs C) H H' → Q b H') → tt σ H Q
/-- the expression gives a new list -/
def EvF (K : PySem.W.Frag) (C : Cz) (te : TE) (ρ : List Sl) (P : List D → Prop) : Prop := ∀ σ H Q, St K C ρ σ H → (∀ ds p H', P ds → St K C (ρ ++ [.own p ds]) (σ ++ [some (.ref p)]) H' → Fr (Bs C) H H' → Q (.ref p) H') → te σ H Q
inductive Out where
  | nx (ρ : List Sl) | rt (d : D) | bk (ρ : List Sl) | ct (ρ : List Sl)
structure Sat (K : PySem.W.Frag) (C : Cz) (En : Ends) (P : Out → Prop) : Prop where
  nx : ∀ ρ σ H, P (.nx ρ) → St K C ρ σ H → En.nx σ H
  rt : ∀ d v ρ σ H, P (.rt d) → St K C ρ σ H → At K C.O0 H v d → En.rt v H
  bk : ∀ ρ σ H, P (.bk ρ) → St K C ρ σ H → En.bk σ H
  ct : ∀ ρ σ H, P (.ct ρ) → St K C ρ σ H → En.ct σ H
def Run (K : PySem.W.Frag) (C : Cz) (ts : TS) (ρ : List Sl) (P : Out → Prop) : Prop := ∀ En σ H, St K C ρ σ H → Sat K C En P → ts En σ H

/-! ### slots -/
section
variable {K : PySem.W.Frag} {O O' : Ads} {H H' : Hp} {σ : L2.St} {ρ : List Sl} {s : Sl} {v : V} {d : D} {i : Nat}
theorem Sls.length (h : Sls K O H σ ρ) : σ.length = ρ.length := by
  induction h with
  | nil => rfl
  | cons _ _ ih => rw [List.length_cons, List.length_cons, ih]
theorem Sls.get (h : Sls K O H σ ρ) {i : Nat} (e : ρ[i]? = some s) : ∃ x, σ[i]? = some x ∧ SlAt K O H x s := by
  induction h generalizing i with
  | nil => simp at e
  | cons a _ ih =>
    cases i with
    | zero => cases e; exact ⟨_, rfl, a⟩
    | succ i => exact ih (by simpa using e)
theorem Sls.set (h : Sls K O H σ ρ) (i : Nat) {x : Option V} (a : SlAt K O H x s) : Sls K O H (σ.set i x) (ρ.set i s) := by
  induction h generalizing i with
  | nil => exact .nil
  | cons b t ih =>
    cases i with
    | zero => exact .cons a t
    | succ i => exact .cons b (ih i)
theorem SlAt.map {x : Option V} (h : SlAt K O H x s) (hv : ∀ v d, At K O H v d → At K O' H' v d) (ho : ∀ p xs ds, s = .cell p ds → H p = some xs → CAt K O H xs ds → ∃ ys, H' p = some ys ∧ CAt K O' H' ys ds) : SlAt K O' H' x s := by
  cases h with
  | no => exact .no _
  | val a => exact .val (hv _ _ a)
  | cell e a =>
    obtain ⟨ys, e', a'⟩ := ho _ _ _ rfl e a
    exact .cell e' a'
theorem Sls.map (h : Sls K O H σ ρ) (hv : ∀ v d, At K O H v d → At K O' H' v d) (ho : ∀ p xs ds, Sl.cell p ds ∈ ρ → H p = some xs → CAt K O H xs ds → ∃ ys, H' p = some ys ∧ CAt K O' H' ys ds) : Sls K O' H' σ ρ := by
  induction h with
  | nil => exact .nil
  | cons a t ih => exact .cons (a.map hv fun p xs ds e => ho p xs ds (e ▸ List.mem_cons_self)) (ih fun p xs ds m => ho p xs ds (List.mem_cons_of_mem _ m))
theorem Sls.same (h : Sls K O H σ ρ) (e : Same H H') : Sls K O H' σ ρ :=
  h.map (fun _ _ a => a.fr (.of e)) fun _ _ _ _ h a => ⟨_, e _ _ h, a.fr (.of e)⟩
theorem mem_owns {p : Addr} : ∀ {ρ : List Sl}, p ∈ owns ρ ↔ ∃ l, Sl.cell p l ∈ ρ
  | [] => ⟨fun h => (nomatch h), fun ⟨_, h⟩ => (nomatch h)⟩
  | s :: ρ => by
    have ih := mem_owns (p := p) (ρ := ρ)
    show p ∈ s.o ++ owns ρ ↔ _
    rw [List.mem_append, ih]
    constructor
    · rintro (h | ⟨l, h⟩)
      · cases s with
        | cell q l => cases List.mem_singleton.mp h; exact ⟨l, List.mem_cons_self⟩
        | no => exact nomatch h
        | val d => exact nomatch h
      · exact ⟨l, List.mem_cons_of_mem _ h⟩
    · rintro ⟨l, h⟩
      rcases List.mem_cons.mp h with h | h
      · subst h; exact .inl (List.mem_singleton.mpr rfl)
      · exact .inr ⟨l, h⟩
theorem owns_set_sub (hs : s.o = []) : ∀ (ρ : List Sl) (i : Nat), List.Sublist (owns (ρ.set i s)) (owns ρ)
  | [], i => by simp [owns]
  | t :: ρ, 0 => by
    show List.Sublist (s.o ++ owns ρ) (t.o ++ owns ρ)
    rw [hs]
    exact List.sublist_append_right _ _
  | t :: ρ, i + 1 => (List.Sublist.refl _).append (owns_set_sub hs ρ i)
theorem owns_append (ρ ρ' : List Sl) : owns (ρ ++ ρ') = owns ρ ++ owns ρ' := by
  induction ρ with
  | nil => rfl
  | cons s ρ ih =>
    show s.o ++ owns (ρ ++ ρ') = (s.o ++ owns ρ) ++ owns ρ'
    rw [ih, List.append_assoc]
theorem owns_set_own {p : Addr} {l l' : Cd} : ∀ {ρ : List Sl} {i : Nat}, ρ[i]? = some (.cell p l) → owns (ρ.set i (.cell p l')) = owns ρ
  | [], _, h => by simp at h
  | t :: ρ, 0, h => by cases h; rfl
  | t :: ρ, i + 1, h => by
    show t.o ++ owns (ρ.set i _) = t.o ++ owns ρ
    rw [owns_set_own (by simpa using h)]
end
/-! ### states -/
section
variable {K : PySem.W.Frag} {C : Cz} {H H' : Hp} {σ : L2.St} {ρ : List Sl} {v : V} {d : D} {i : Nat}
theorem St.same (s : St K C ρ σ H) (e : Same H H') : St K C ρ σ H' where
  sl := s.sl.same e
  nd := s.nd
  fr := s.fr.trans (.of e)
  lv := fun p m z => s.lv p m (e.free z)
  nO := s.nO
  fresh := s.fresh
  bg := fun q m => ⟨(s.bg q m).1.same e, (s.bg q m).2⟩
  held := s.held.fr (.of e)
  ex := s.ex
  tb := fun p m => (s.tb p m).ext e
/-- a slot stored -/
theorem St.set (s : St K C ρ σ H) (i : Nat) (a : At K (Os C ρ) H v d) : St K C (ρ.set i (.val d)) (σ.set i (some v)) H := by
  have sub := (owns_set_sub (s := .val d) rfl ρ i)
  have sub2 : ∀ a, a ∈ Os C (ρ.set i (.val d)) → a ∈ Os C ρ := fun a m => (List.mem_append.mp m).elim (fun h => List.mem_append_left _ h) fun h => List.mem_append_right _ (sub.subset h)
  refine ⟨?_, s.nd.sublist sub, s.fr, fun p m => s.lv p (sub2 _ m), s.nO, fun p m => s.fresh p (sub.subset m), fun q m => ⟨(s.bg q m).1, (s.bg q m).2.1, fun z => (s.bg q m).2.2 (sub2 _ z)⟩, s.held.less sub2, s.ex, s.tb⟩
  exact (s.sl.set i (.val a)).map (fun _ _ a => a.less sub2) fun p xs ds _ e a => ⟨_, e, a.less sub2⟩
theorem St.wipe1 (s : St K C ρ σ H) (i : Nat) (x : Option V) : St K C (ρ.set i .no) (σ.set i x) H := by
  have sub := (owns_set_sub (s := .no) rfl ρ i)
  have sub2 : ∀ a, a ∈ Os C (ρ.set i .no) → a ∈ Os C ρ := fun a m => (List.mem_append.mp m).elim (fun h => List.mem_append_left _ h) fun h => List.mem_append_right _ (sub.subset h)
  refine ⟨?_, s.nd.sublist sub, s.fr, fun p m => s.lv p (sub2 _ m), s.nO, fun p m => s.fresh p (sub.subset m), fun q m => ⟨(s.bg q m).1, (s.bg q m).2.1, fun z => (s.bg q m).2.2 (sub2 _ z)⟩, s.held.less sub2, s.ex, s.tb⟩
  exact (s.sl.set i (.no x)).map (fun _ _ a => a.less sub2) fun p xs ds _ e a => ⟨_, e, a.less sub2⟩
theorem own_not_mem {p : Addr} {ds : Cd} : ∀ {ρ : List Sl} {i : Nat}, (owns ρ).Nodup → ρ[i]? = some (.cell p ds) → p ∉ owns (ρ.set i .no)
  | [], _, _, e => by simp at e
  | t :: ρ, 0, nd, e => by
    cases e
    have nd' : (p :: owns ρ).Nodup := nd
    exact (List.nodup_cons.mp nd').1
  | t :: ρ, i + 1, nd, e => by
    have nd' : (t.o ++ owns ρ).Nodup := nd
    have e' : ρ[i]? = some (.cell p ds) := by simpa using e
    intro m
    have m' : p ∈ t.o ++ owns (ρ.set i .no) := m
    rcases List.mem_append.mp m' with m' | m'
    · exact (List.nodup_append.mp nd').2.2 p m' p (mem_owns.mpr ⟨ds, List.mem_of_getElem? e'⟩) rfl
    · exact own_not_mem (List.nodup_append.mp nd').2.1 e' m'
/-- a slot's list is changed no more -/
theorem St.freeze {p : Addr} {ds : Cd} (s : St K C ρ σ H) (e : ρ[i]? = some (.cell p ds)) : σ[i]? = some (some (.ref p)) ∧ At K (Os C (ρ.set i .no)) H (.ref p) ds.d := by
  obtain ⟨x, e1, a⟩ := s.sl.get e
  cases a with
  | cell h b =>
    refine ⟨e1, (b.less fun a m => ?_).at_ h (fun m => ?_)⟩
    rotate_left
    · have mo : p ∈ owns ρ := mem_owns.mpr ⟨ds, List.mem_of_getElem? e⟩
      exact (List.mem_append.mp m).elim (s.fresh p mo).2 (own_not_mem s.nd e)
    · exact (List.mem_append.mp m).elim (fun h => List.mem_append_left _ h) fun h => List.mem_append_right _ ((owns_set_sub (s := .no) rfl ρ i).subset h)
theorem set_set_eq {α : Type} {l : List α} {i : Nat} {a b : α} : (l.set i a).set i b = l.set i b := by simp
theorem set_self {α : Type} {l : List α} {i : Nat} {a : α} (h : l[i]? = some a) : l.set i a = l := by
  apply List.ext_getElem?
  intro j
  by_cases e : i = j
  · subst e
    rw [h]
    obtain ⟨h1, h2⟩ := List.getElem?_eq_some_iff.mp h
    rw [List.getElem?_set_self h1]
  · rw [List.getElem?_set_ne e]
theorem St.frozen {p : Addr} {ds : Cd} (s : St K C ρ σ H) (e : ρ[i]? = some (.cell p ds)) : St K C (ρ.set i (.val ds.d)) σ H := by
  obtain ⟨e1, a⟩ := s.freeze e
  have s1 := (s.wipe1 i none).set i (v := .ref p) (d := ds.d) a
  rw [set_set_eq, set_set_eq, set_self e1] at s1
  exact s1
/-- the list of a slot is changed -/
theorem St.mutC {p : Addr} {ds ds' : Cd} {vs' : HO} (s : St K C ρ σ H) (e : ρ[i]? = some (.cell p ds)) (a : CAt K (Os C ρ) H vs' ds') : St K C (ρ.set i (.cell p ds')) σ (upd H p vs') := by
  have eo := owns_set_own (l' := ds') e
  have mo : p ∈ owns ρ := mem_owns.mpr ⟨ds, List.mem_of_getElem? e⟩
  have mO : p ∈ Os C ρ := List.mem_append_right _ mo
  have f : Fr (Os C ρ) H (upd H p vs') := fun a o n h _ => by rw [upd_ne fun z => n (by rw [z]; exact mO)]; exact h
  obtain ⟨x, e1, b⟩ := s.sl.get e
  have lv : ∀ q, H q ≠ none → upd H p vs' q ≠ none := fun q h => by
    by_cases z : q = p
    · rw [z, upd_same]; simp
    · rw [upd_ne z]; exact h
  have bg : ∀ q, q ∈ C.bags → Bag (upd H p vs') q.1 q.2 := fun q m => by
    obtain ⟨⟨cs, i, h, sd, y⟩, m1, m2⟩ := s.bg q m
    have n1 : q.1 ≠ p := fun z => (s.fresh p mo).2 (z ▸ m1)
    have n2 : q.2 ≠ p := fun z => m2 (z ▸ mO)
    exact ⟨cs, i, h, sd, by rw [upd_ne n1]; exact y.at_, by rw [upd_ne n2]; exact y.cells, y.ne, y.len, y.i0, y.h0, y.s0, y.s1⟩
  cases b with
  | cell h b =>
    refine ⟨?_, by rw [eo]; exact s.nd, fun b o n h0 nt => ?_, fun q m => lv q (s.lv q (by show q ∈ C.O0 ++ owns ρ; rw [← eo]; exact m)), s.nO, fun q m => s.fresh q (by rw [← eo]; exact m), fun q m => ⟨bg q m, (s.bg q m).2.1, ?_⟩, ?_, s.ex, fun q m => (s.tb q m).upd ?_⟩
    · show Sls K (C.O0 ++ owns _) _ _ _
      rw [eo]
      have sl := s.sl
      have nd := s.nd
      have h1 : ∀ q, q ∈ owns ρ → q ≠ p → ∀ xs, H q = some xs → upd H p vs' q = some xs := fun q m n xs h => by rw [upd_ne n]; exact h
      have key : ∀ {σ' : L2.St} {ρ' : List Sl} {j : Nat}, Sls K (Os C ρ) H σ' ρ' → ρ'[j]? = some (.cell p ds) → (owns ρ').Nodup → Sls K (Os C ρ) (upd H p vs') σ' (ρ'.set j (.cell p ds')) := by
        intro σ' ρ' j t
        induction t generalizing j with
        | nil => intro e _; simp at e
        | @cons x σ1 s1 ρ1 a1 t1 ih =>
          intro e nd
          have nd' : (s1.o ++ owns ρ1).Nodup := nd
          cases j with
          | zero =>
            cases e
            cases a1 with
            | cell h2 b2 =>
              refine .cons (.cell upd_same (a.fr f)) (t1.map (fun _ _ a => a.fr f) fun q xs ls m h3 a3 => ⟨xs, ?_, a3.fr f⟩)
              rw [upd_ne]
              · exact h3
              · intro z
                subst z
                have nd2 : (q :: owns ρ1).Nodup := nd'
                exact (List.nodup_cons.mp nd2).1 (mem_owns.mpr ⟨ls, m⟩)
          | succ j =>
            have e' : ρ1[j]? = some (.cell p ds) := by simpa using e
            refine .cons (a1.map (fun _ _ a => a.fr f) fun q xs ls m h3 a3 => ⟨xs, ?_, a3.fr f⟩) (ih e' (List.nodup_append.mp nd').2.1)
            rw [upd_ne]
            · exact h3
            · intro z
              subst z
              subst m
              exact (List.nodup_append.mp nd').2.2 q (List.mem_singleton.mpr rfl) q (mem_owns.mpr ⟨ds, List.mem_of_getElem? e'⟩) rfl
      exact key sl e nd
    · have := s.fr b o n h0 nt
      rw [upd_ne]
      · exact this
      · intro z
        subst z
        obtain ⟨ps, e⟩ := (s.fresh b mo).1 o h0
        exact nt ps e
    · show q.2 ∉ C.O0 ++ owns _
      rw [eo]
      exact (s.bg q m).2.2
    · show AtAll K (C.O0 ++ owns _) _ _ _
      rw [eo]
      exact s.held.fr f
    · cases b with
      | lst b => exact .inl ⟨_, h⟩
      | ins b => exact .inr (.inl ⟨_, _, _, h⟩)
      | dK e b => exact .inr (.inr (.inl ⟨_, h⟩))
      | dT e b => exact .inr (.inr (.inr ⟨_, h⟩))
theorem St.mut {p : Addr} {ds ds' : List D} {vs' : List V} (s : St K C ρ σ H) (e : ρ[i]? = some (.own p ds)) (a : AtAll K (Os C ρ) H vs' ds') : St K C (ρ.set i (.own p ds')) σ (upd H p (.lst vs')) := s.mutC e (.lst a)
/-- a new list of one's own -/
theorem St.ownC {p : Addr} {vs : HO} {ds : Cd} (s : St K C ρ σ H) (n : H p = none) (a : CAt K (Os C ρ) H vs ds) : St K C (ρ ++ [.cell p ds]) (σ ++ [some (.ref p)]) (upd H p vs) := by
  have e : Same H (upd H p vs) := fun b o h => by rw [upd_ne (ne_of_none h n)]; exact h
  have eo : owns (ρ ++ [.cell p ds]) = owns ρ ++ [p] := owns_append ρ _
  have x : ∀ a, a ∈ Os C (ρ ++ [.cell p ds]) → a ∈ Os C ρ ∨ H a = none := fun a m => by
    rw [show Os C (ρ ++ [.cell p ds]) = C.O0 ++ (owns ρ ++ [p]) by rw [← eo], ← List.append_assoc] at m
    rcases List.mem_append.mp m with m | m
    · exact .inl m
    · rw [List.mem_singleton.mp m]; exact .inr n
  have np : p ∉ Os C ρ := fun m => s.lv p m n
  have nN : p ∉ C.N := fun m => np (List.mem_append_left _ (s.nO.1 p m))
  refine ⟨?_, ?_, s.fr.trans (.of e), fun q m => ?_, s.nO, fun q m => ?_, fun q m => ⟨(s.bg q m).1.same e, (s.bg q m).2.1, fun z => ?_⟩, (s.held.new x).fr (.of e), s.ex, fun q m => (s.tb q m).ext e⟩
  · have h1 : Sls K (Os C (ρ ++ [.cell p ds])) (upd H p vs) σ ρ := s.sl.map (fun _ _ a => (a.new x).fr (.of e)) fun _ _ _ _ h a => ⟨_, e _ _ h, (a.new x).fr (.of e)⟩
    have h2 : SlAt K (Os C (ρ ++ [.cell p ds])) (upd H p vs) (some (.ref p)) (.cell p ds) := .cell upd_same ((a.new x).fr (.of e))
    generalize Os C (ρ ++ [.cell p ds]) = O at h1 h2
    clear e eo x np nN s a
    induction h1 with
    | nil => exact .cons h2 .nil
    | cons a t ih => exact .cons a ih
  · rw [eo]
    exact List.nodup_append.mpr ⟨s.nd, by simp, fun a ha b hb z => by rw [List.mem_singleton.mp hb] at z; subst z; exact np (List.mem_append_right _ ha)⟩
  · rcases x q m with h | h
    · exact fun z => s.lv q h (e.free z)
    · rw [show Os C (ρ ++ [.cell p ds]) = C.O0 ++ (owns ρ ++ [p]) by rw [← eo], ← List.append_assoc] at m
      rcases List.mem_append.mp m with m | m
      · exact absurd h (s.lv q m)
      · rw [List.mem_singleton.mp m, upd_same]; simp
  · rw [eo] at m
    rcases List.mem_append.mp m with m | m
    · exact s.fresh q m
    · rw [List.mem_singleton.mp m]
      refine ⟨fun o h => Classical.byContradiction fun z => ?_, fun z => np (List.mem_append_left _ z)⟩
      have := s.fr p o nN h fun ps e => z ⟨ps, e⟩
      rw [n] at this
      cases this
  · rcases x _ z with h | h
    · exact (s.bg q m).2.2 h
    · obtain ⟨cs, i, h', sd, y⟩ := (s.bg q m).1
      rw [y.cells] at h
      cases h
theorem St.own {p : Addr} {vs : List V} {ds : List D} (s : St K C ρ σ H) (n : H p = none) (a : AtAll K (Os C ρ) H vs ds) : St K C (ρ ++ [.own p ds]) (σ ++ [some (.ref p)]) (upd H p (.lst vs)) := s.ownC n (.lst a)
/-- the own list at the end stored in a slot -/
theorem St.land {p : Addr} {ds : Cd} {i : Nat} (s : St K C (ρ ++ [.cell p ds]) (σ ++ [some (.ref p)]) H) (hi : i < ρ.length) : St K C (ρ.set i (.cell p ds)) (σ.set i (some (.ref p))) H := by
  have l0 : σ.length = ρ.length := by
    have := s.sl.length
    simpa using this
  have key : ∀ {σ' : L2.St} {ρ' : List Sl} {j : Nat} {O : Ads}, Sls K O H (σ' ++ [some (.ref p)]) (ρ' ++ [.cell p ds]) → σ'.length = ρ'.length → j < ρ'.length → Sls K O H (σ'.set j (some (.ref p))) (ρ'.set j (.cell p ds)) := by
    intro σ' ρ' j O h l hj
    have last : SlAt K O H (some (.ref p)) (.cell p ds) := by
      obtain ⟨x, e1, a⟩ := h.get (i := ρ'.length) (s := .cell p ds) (by rw [List.getElem?_append_right (Nat.le_refl _)]; simp)
      rw [List.getElem?_append_right (by omega)] at e1
      rw [show ρ'.length - σ'.length = 0 by omega] at e1
      cases e1
      exact a
    have hh : Sls K O H σ' ρ' := by
      clear hj last
      induction σ' generalizing ρ' with
      | nil =>
        cases ρ' with
        | nil => exact .nil
        | cons t ρ' => cases l
      | cons x σ' ih =>
        cases ρ' with
        | nil => cases l
        | cons t ρ' =>
          cases h with
          | cons a b => exact .cons a (ih b (Nat.succ.inj l))
    exact hh.set j last
  have eo : owns (ρ ++ [.cell p ds]) = owns ρ ++ [p] := owns_append ρ _
  have nd := s.nd
  rw [eo] at nd
  have sub : ∀ {ρ' : List Sl} {j : Nat} {a : Addr}, j < ρ'.length → a ∈ owns (ρ'.set j (.cell p ds)) → a ∈ owns ρ' ∨ a = p := by
    intro ρ' j a hj m
    obtain ⟨l, m⟩ := mem_owns.mp m
    rcases List.mem_or_eq_of_mem_set m with m | m
    · exact .inl (mem_owns.mpr ⟨l, m⟩)
    · cases m; exact .inr rfl
  have sub1 : ∀ a, a ∈ owns (ρ.set i (.cell p ds)) → a ∈ owns (ρ ++ [.cell p ds]) := fun a m => by
    rw [eo]
    rcases sub hi m with m | m
    · exact List.mem_append_left _ m
    · exact List.mem_append_right _ (List.mem_singleton.mpr m)
  have sub2 : ∀ a, a ∈ Os C (ρ.set i (.cell p ds)) → a ∈ Os C (ρ ++ [.cell p ds]) := fun a m => (List.mem_append.mp m).elim (fun h => List.mem_append_left _ h) fun h => List.mem_append_right _ (sub1 a h)
  refine ⟨(key s.sl l0 hi).map (fun _ _ a => a.less sub2) fun _ _ _ _ h a => ⟨_, h, a.less sub2⟩, ?_, s.fr, fun q m => s.lv q (sub2 q m), s.nO, fun q m => s.fresh q (sub1 q m), fun q m => ⟨(s.bg q m).1, (s.bg q m).2.1, fun z => (s.bg q m).2.2 (sub2 _ z)⟩, s.held.less sub2, s.ex, s.tb⟩
  have nd1 := (List.nodup_append.mp nd).1
  have np : p ∉ owns ρ := fun m => (List.nodup_append.mp nd).2.2 p m p (List.mem_singleton.mpr rfl) rfl
  have k2 : ∀ {ρ' : List Sl} {j : Nat}, (owns ρ').Nodup → p ∉ owns ρ' → j < ρ'.length → (owns (ρ'.set j (.cell p ds))).Nodup := by
    intro ρ'
    induction ρ' with
    | nil => intro j h1 h2 h3; exact h1
    | cons t ρ' ih =>
      intro j h1 h2 h3
      have h1' : (t.o ++ owns ρ').Nodup := h1
      have h2' : p ∉ t.o ++ owns ρ' := h2
      cases j with
      | zero =>
        show (p :: owns ρ').Nodup
        exact List.nodup_cons.mpr ⟨fun m => h2' (List.mem_append_right _ m), (List.nodup_append.mp h1').2.1⟩
      | succ j =>
        show (t.o ++ owns (ρ'.set j _)).Nodup
        refine List.nodup_append.mpr ⟨(List.nodup_append.mp h1').1, ih (List.nodup_append.mp h1').2.1 (fun m => h2' (List.mem_append_right _ m)) (Nat.lt_of_succ_lt_succ h3), fun a ha b hb z => ?_⟩
        subst z
        rcases sub (Nat.lt_of_succ_lt_succ h3) hb with m | m
        · exact (List.nodup_append.mp h1').2.2 a ha a m rfl
        · subst m; exact h2' (List.mem_append_left _ ha)
  exact k2 nd1 np hi
/-- the own list at the end as a value -/
theorem St.loose {p : Addr} {ds : Cd} (s : St K C (ρ ++ [.cell p ds]) (σ ++ [some (.ref p)]) H) : St K C ρ σ H ∧ At K (Os C ρ) H (.ref p) ds.d := by
  have eo : owns (ρ ++ [.cell p ds]) = owns ρ ++ [p] := owns_append ρ _
  have sub1 : ∀ a, a ∈ owns ρ → a ∈ owns (ρ ++ [.cell p ds]) := fun a m => by rw [eo]; exact List.mem_append_left _ m
  have sub2 : ∀ a, a ∈ Os C ρ → a ∈ Os C (ρ ++ [.cell p ds]) := fun a m => (List.mem_append.mp m).elim (fun h => List.mem_append_left _ h) fun h => List.mem_append_right _ (sub1 a h)
  have nd := s.nd
  rw [eo] at nd
  have l0 : σ.length = ρ.length := by
    have := s.sl.length
    simpa using this
  have key : ∀ {σ' : L2.St} {ρ' : List Sl} {O : Ads}, Sls K O H (σ' ++ [some (.ref p)]) (ρ' ++ [.cell p ds]) → σ'.length = ρ'.length → Sls K O H σ' ρ' ∧ SlAt K O H (some (.ref p)) (.cell p ds) := by
    intro σ'
    induction σ' with
    | nil =>
      intro ρ' O h l
      cases ρ' with
      | nil =>
        cases h with
        | cons a _ => exact ⟨.nil, a⟩
      | cons t ρ' => cases l
    | cons x σ' ih =>
      intro ρ' O h l
      cases ρ' with
      | nil => cases l
      | cons t ρ' =>
        cases h with
        | cons a b =>
          obtain ⟨h1, h2⟩ := ih b (Nat.succ.inj l)
          exact ⟨.cons a h1, h2⟩
  obtain ⟨k1, k2⟩ := key s.sl l0
  refine ⟨⟨k1.map (fun _ _ a => a.less sub2) fun _ _ _ _ h a => ⟨_, h, a.less sub2⟩, (List.nodup_append.mp nd).1, s.fr, fun q m => s.lv q (sub2 q m), s.nO, fun q m => s.fresh q (sub1 q m), fun q m => ⟨(s.bg q m).1, (s.bg q m).2.1, fun z => (s.bg q m).2.2 (sub2 _ z)⟩, s.held.less sub2, s.ex, s.tb⟩, ?_⟩
  cases k2 with
  | cell h a =>
    refine (a.less sub2).at_ h (fun m => ?_)
    rcases List.mem_append.mp m with m | m
    · exact (s.fresh p (by rw [eo]; exact List.mem_append_right _ (List.mem_singleton.mpr rfl))).2 m
    · exact (List.nodup_append.mp nd).2.2 p m p (List.mem_singleton.mpr rfl) rfl
theorem St.up (s : St K C ρ σ H) {H1 H2 : Hp} (f : Fr (Bs C) H1 H2) : Fr (Os C ρ) H1 H2 := f.mono fun a m => by
  obtain ⟨q, hq, rfl⟩ := List.mem_map.mp m
  exact List.mem_append_left _ (s.bg q hq).2.1
theorem St.bfr (s : St K C ρ σ H) (f : Fr (Bs C) H H') (fr : Fr C.N C.H0 H') (lv : ∀ p, p ∈ Os C ρ → H' p ≠ none) (bg : ∀ q, q ∈ C.bags → Bag H' q.1 q.2) (tb : ∀ p, p ∈ C.tabs → Tab H' p) : St K C ρ σ H' :=
  ⟨s.sl.map (fun _ _ a => a.fr (s.up f)) (fun p xs ds m h a => ⟨xs, f p _ (fun z => by
      obtain ⟨q, hq, rfl⟩ := List.mem_map.mp z
      exact (s.fresh _ (mem_owns.mpr ⟨ds, m⟩)).2 (s.bg q hq).2.1) h a.nt, a.fr (s.up f)⟩), s.nd, fr, lv, s.nO, s.fresh, fun q m => ⟨bg q m, (s.bg q m).2⟩, s.held.fr (s.up f), s.ex, tb⟩
/-- bags and tables aside, all is as it was -/
theorem St.kept (s : St K C ρ σ H) (f : Fr [] H H') (lv : ∀ p, p ∈ Os C ρ → H' p ≠ none) (tb : ∀ p, p ∈ C.tabs → Tab H' p) : St K C ρ σ H' :=
  s.bfr (f.mono fun _ m => nomatch m) (s.fr.trans (f.mono fun _ m => nomatch m)) lv (fun q m => by
    obtain ⟨cs, i, hh, sd, y⟩ := (s.bg q m).1
    exact ⟨cs, i, hh, sd, f _ _ List.not_mem_nil y.at_ (fun _ z => nomatch z), f _ _ List.not_mem_nil y.cells (fun _ z => nomatch z), y.ne, y.len, y.i0, y.h0, y.s0, y.s1⟩) tb
theorem St.free {p : Addr} (s : St K C ρ σ H) (n : H p = none) : p ∉ Os C ρ := fun m => s.lv p m n
/-- a new tuple -/
theorem At.mkTup {O : Ads} {p : Addr} {vs : List V} {ds : List D} (n : H p = none) (np : p ∉ O) (a : AtAll K O H vs ds) : At K O (upd H p (.tup vs)) (.ref p) (.tup ds) :=
  .tup (.inl (.inl upd_same)) (.inl np) (a.fr (.of fun b o h => by rw [upd_ne (ne_of_none h n)]; exact h))
theorem same_upd {p : Addr} {o : HO} (n : H p = none) : Same H (upd H p o) := fun b x h => by rw [upd_ne (ne_of_none h n)]; exact h
end

/-! ### readings by names -/
def rIsN : R2 := fun x y H Q => y = .non ∧ Q (.bl (decide (x = .non))) H
def rNotN : R2 := fun x y H Q => y = .non ∧ Q (.bl (!decide (x = .non))) H
def rAddS : R2 := fun x y H Q => ∃ i j, x = .str i ∧ y = .str j ∧ i.length + j.length ≤ sizeLine ∧ Q (.str (i ++ j)) H
def rMulS : R2 := fun x y H Q => ∃ z n, x = .str z ∧ y = .int n ∧ MulOk z n ∧ Q (.str (Txt.mul z n)) H
def rInSg : R2 := fun x y H Q => ∃ (c : Nat) (z : Str), x = .str ⟨#[c]⟩ ∧ y = .str z ∧ Q (.bl (decide (c ∈ z.cps.toList))) H
def rNotInSg : R2 := fun x y H Q => ∃ (c : Nat) (z : Str), x = .str ⟨#[c]⟩ ∧ y = .str z ∧ Q (.bl (!decide (c ∈ z.cps.toList))) H
abbrev RC := List V → Hp → VK → Prop
def rLenS : RC := fun xs H Q => ∃ z, xs = [.str z] ∧ z.length ≤ sizeLine ∧ Q (.int z.length) H
def rAbs : RC := fun xs H Q => ∃ i, xs = [.int i] ∧ Q (.int (if i < 0 then -i else i)) H
def rInt1 : RC := fun xs H Q => (∃ i, xs = [.int i] ∧ Q (.int i) H) ∨ ∃ k, xs = [.bl k] ∧ Q (.int (if k then 1 else 0)) H
def rIntS : RC := fun xs H Q => ∃ a n, xs = [.str a] ∧ PySem.intText? a = some n ∧ a.length ≤ 640 ∧ Q (.int n) H
def rStrI : RC := fun xs H Q => ∃ i, xs = [.int i] ∧ i.natAbs.log2 < 1920 ∧ Q (.str (toString i)) H
def rMax2 : RC := fun xs H Q => ∃ i j, xs = [.int i, .int j] ∧ Q (.int (if j > i then j else i)) H
def rMin2 : RC := fun xs H Q => ∃ i j, xs = [.int i, .int j] ∧ Q (.int (if j < i then j else i)) H
abbrev RM := V → List V → Hp → VK → Prop
def rStarts : RM := fun x xs H Q => ∃ a b, x = .str a ∧ xs = [.str b] ∧ Q (.bl (Txt.startswith a b)) H
def rEnds : RM := fun x xs H Q => ∃ a b, x = .str a ∧ xs = [.str b] ∧ Q (.bl (Txt.endswith a b)) H
def rSplitS : RM := fun x xs H Q => ∃ a b, x = .str a ∧ xs = [.str b] ∧ (b.length == 0) = false ∧ a.length + 2 ≤ sizeLine ∧ rNewStrs (Txt.split a b) H Q
def rJoinS (K : PySem.W.Frag) : RM := fun x xs H Q => ∃ a p, ∃ ys : List Str, x = .str a ∧ xs = [.ref p] ∧ (SqL K H p (ys.map V.str) ∨ SqT K H p (ys.map V.str)) ∧
    (ys.map (·.length)).sum + ys.length * a.length ≤ 16777216 ∧ Q (.str (Txt.join a ys)) H
section
variable {X : Cx} {K : PySem.W.Frag} {w : World}
theorem k_isN : OpR X (compareOp .Is) rIsN := op_isN
theorem k_notN : OpR X (compareOp .IsNot) rNotN := op_notN
theorem k_addS : OpR X (binaryOp .Add) rAddS := op_add_str
theorem k_mulS : OpR X (binaryOp .Mult) rMulS := by
  intro pins s σ H x y v u Q I rx ry h
  obtain ⟨z, n, rfl, rfl, hz, q⟩ := h
  obtain ⟨t, rfl⟩ := rx
  obtain ⟨t', rfl⟩ := ry
  exact PySem.SB.mul hz fun t' tk => ⟨.str (Txt.mul z n), H, I.tok _, ⟨_, rfl⟩, q⟩
theorem k_inSg : OpR X (compareOp .In) rInSg := op_in_sign
theorem k_notInSg : OpR X (compareOp .NotIn) rNotInSg := op_notIn_sign
theorem k_lenS : CallR X (.builtin "len") rLenS := call_len_str
theorem k_abs : CallR X (.builtin "abs") rAbs := call_abs
theorem k_int1 : CallR X (.type "int") rInt1 := call_int1
theorem k_intS : CallR X (.type "int") rIntS := call_int_str
theorem k_strI : CallR X (.type "str") rStrI := call_str_int
theorem k_max2 (hc : X.calm = true := by rfl) : CallR X (.builtin "max") rMax2 := call_max2 hc
theorem k_min2 (hc : X.calm = true := by rfl) : CallR X (.builtin "min") rMin2 := call_min2 hc
theorem k_starts : MtR X "str.startswith" rStarts := mt_startswith
theorem k_ends : MtR X "str.endswith" rEnds := mt_endswith
theorem k_split : MtR X "str.split" rSplitS := mt_split
theorem k_join (h : X.K = K := by rfl) : MtR X "str.join" (rJoinS K) := h ▸ mt_join
theorem k_any (hc : X.calm = true := by rfl) (h : X.K = K := by rfl) : CallR X (.builtin "any") (rAny K) := h ▸ cr_any hc
theorem k_sum (hc : X.calm = true := by rfl) (h : X.K = K := by rfl) : CallR X (.builtin "sum") (rSum K) := h ▸ cr_sum hc
end
/-! ### what data is -/
@[reducible] def asI : D → (Int → Prop) → Prop
  | .int i, k => k i
  | _, _ => False
@[reducible] def asB : D → (Bool → Prop) → Prop
  | .bl b, k => k b
  | _, _ => False
@[reducible] def asS : D → (Str → Prop) → Prop
  | .str z, k => k z
  | _, _ => False
@[reducible] def asV : D → (V → Prop) → Prop
  | .non, k => k .non
  | .bl b, k => k (.bl b)
  | .int i, k => k (.int i)
  | .str z, k => k (.str z)
  | .oth v, k => k v
  | _, _ => False
@[reducible] def asT : D → (List D → Prop) → Prop
  | .tup l, k => k l
  | _, _ => False
@[reducible] def asL : D → (List D → Prop) → Prop
  | .lst l, k => k l
  | _, _ => False
@[reducible] def asQ : D → (List D → Prop) → Prop
  | .lst l, k => k l
  | .tup l, k => k l
  | _, _ => False
@[reducible] def vD : V → D
  | .non => .non
  | .bl b => .bl b
  | .int i => .int i
  | .str z => .str z
  | v => .oth v
@[reducible] def as1 : List D → (D → Prop) → Prop
  | [d], k => k d
  | _, _ => False
@[reducible] def as2 : List D → (D → D → Prop) → Prop
  | [d, e], k => k d e
  | _, _ => False
section
variable {K : PySem.W.Frag} {O : Ads} {H : Hp}
theorem at_vD (v : V) : At K O H v (vD v) := by
  cases v <;> constructor
theorem at_int {v : V} {d : D} {k : Int → Prop} (a : At K O H v d) (h : asI d k) : ∃ i, v = .int i ∧ d = .int i ∧ k i := by
  cases a <;> first | exact h.elim | exact ⟨_, rfl, rfl, h⟩
theorem at_bl {v : V} {d : D} {k : Bool → Prop} (a : At K O H v d) (h : asB d k) : ∃ i, v = .bl i ∧ d = .bl i ∧ k i := by
  cases a <;> first | exact h.elim | exact ⟨_, rfl, rfl, h⟩
theorem at_str {v : V} {d : D} {k : Str → Prop} (a : At K O H v d) (h : asS d k) : ∃ i, v = .str i ∧ d = .str i ∧ k i := by
  cases a <;> first | exact h.elim | exact ⟨_, rfl, rfl, h⟩
theorem at_V {v : V} {d : D} {k : V → Prop} (a : At K O H v d) (h : asV d k) : k v := by
  cases a <;> first | exact h.elim | exact h
theorem at_T {v : V} {d : D} {k : List D → Prop} (a : At K O H v d) (h : asT d k) : ∃ p xs ds, v = .ref p ∧ d = .tup ds ∧ SqT K H p xs ∧ (p ∉ O ∨ ∀ H', SqT K H' p xs) ∧ AtAll K O H xs ds ∧ k ds := by
  cases a <;> first | exact h.elim | exact ⟨_, _, _, rfl, rfl, by assumption, by assumption, by assumption, h⟩
theorem at_L {v : V} {d : D} {k : List D → Prop} (a : At K O H v d) (h : asL d k) : ∃ p xs ds, v = .ref p ∧ d = .lst ds ∧ H p = some (.lst xs) ∧ p ∉ O ∧ AtAll K O H xs ds ∧ k ds := by
  cases a <;> first | exact h.elim | exact ⟨_, _, _, rfl, rfl, by assumption, by assumption, by assumption, h⟩
theorem at_Q {v : V} {d : D} {k : List D → Prop} (a : At K O H v d) (h : asQ d k) : ∃ p xs ds, v = .ref p ∧ (SqL K H p xs ∨ SqT K H p xs) ∧ AtAll K O H xs ds ∧ k ds := by
  cases a <;> first | exact h.elim | exact ⟨_, _, _, rfl, .inl (SqL.of (by assumption)), by assumption, h⟩ | exact ⟨_, _, _, rfl, .inr (by assumption), by assumption, h⟩
theorem all_1 {vs : List V} {ds : List D} {k : D → Prop} (a : AtAll K O H vs ds) (h : as1 ds k) : ∃ v d, vs = [v] ∧ At K O H v d ∧ k d := by
  match ds, a, h with
  | [d], .cons a .nil, h => exact ⟨_, _, rfl, a, h⟩
theorem all_2 {vs : List V} {ds : List D} {k : D → D → Prop} (a : AtAll K O H vs ds) (h : as2 ds k) : ∃ v w d e, vs = [v, w] ∧ At K O H v d ∧ At K O H w e ∧ k d e := by
  match ds, a, h with
  | [d, e], .cons a (.cons b .nil), h => exact ⟨_, _, _, _, rfl, a, b, h⟩
end
/-! ### operators -/
class OpD (K : PySem.W.Frag) (r : R2) (f : outParam (D → D → (D → Prop) → Prop)) : Prop where
  op : ∀ O H x y d e (Q : VK) P, At K O H x d → At K O H y e → f d e P → (∀ p, p ∈ O → H p ≠ none) → (∀ d' v H', P d' → Same H H' → At K O H' v d' → Q v H') → r x y H Q
section
variable {K : PySem.W.Frag}
instance opd_I0 {g : Int → Int → V} : OpD K (rI0 g) (fun d e P => asI d fun i => asI e fun j => P (vD (g i j))) := ⟨fun O H x y d e Q P a b h _ q => by
  obtain ⟨i, rfl, rfl, h⟩ := at_int a h
  obtain ⟨j, rfl, rfl, h⟩ := at_int b h
  exact ⟨i, j, rfl, rfl, q _ _ _ h (Same.refl H) (at_vD _)⟩⟩
instance opd_I {c : Int → Int → Prop} {g : Int → Int → V} : OpD K (rI c g) (fun d e P => asI d fun i => asI e fun j => c i j ∧ P (vD (g i j))) := ⟨fun O H x y d e Q P a b h _ q => by
  obtain ⟨i, rfl, rfl, h⟩ := at_int a h
  obtain ⟨j, rfl, rfl, h⟩ := at_int b h
  exact ⟨i, j, rfl, rfl, h.1, q _ _ _ h.2 (Same.refl H) (at_vD _)⟩⟩
instance opd_eq : OpD K rEq (fun d e P => asV d fun x => asV e fun y => scal x y = true ∧ P (.bl (decide (x = y)))) := ⟨fun O H x y d e Q P a b h _ q => by
  have h1 := at_V b (at_V a h)
  exact ⟨h1.1, q _ _ _ h1.2 (Same.refl H) (.bl _)⟩⟩
instance opd_ne : OpD K rNe (fun d e P => asV d fun x => asV e fun y => scal x y = true ∧ P (.bl (!decide (x = y)))) := ⟨fun O H x y d e Q P a b h _ q => by
  have h1 := at_V b (at_V a h)
  exact ⟨h1.1, q _ _ _ h1.2 (Same.refl H) (.bl _)⟩⟩
@[reducible] def isN : D → Bool
  | .non => true
  | .oth v => decide (v = .non)
  | _ => false
theorem at_isN {O : Ads} {H : Hp} {v : V} {d : D} (a : At K O H v d) : decide (v = .non) = isN d := by
  cases a <;> first | rfl | exact decide_eq_false (fun z => nomatch z)
instance opd_isN : OpD K rIsN (fun d e P => asV e fun y => y = .non ∧ P (.bl (isN d))) := ⟨fun O H x y d e Q P a b h _ q => by
  have h1 := at_V b h
  exact ⟨h1.1, by rw [at_isN a]; exact q _ _ _ h1.2 (Same.refl H) (.bl _)⟩⟩
instance opd_notN : OpD K rNotN (fun d e P => asV e fun y => y = .non ∧ P (.bl (!isN d))) := ⟨fun O H x y d e Q P a b h _ q => by
  have h1 := at_V b h
  exact ⟨h1.1, by rw [at_isN a]; exact q _ _ _ h1.2 (Same.refl H) (.bl _)⟩⟩
instance opd_isB : OpD K rIsB (fun d e P => asB d fun i => asB e fun j => P (.bl (decide (i = j)))) := ⟨fun O H x y d e Q P a b h _ q => by
  obtain ⟨i, rfl, rfl, h⟩ := at_bl a h
  obtain ⟨j, rfl, rfl, h⟩ := at_bl b h
  exact ⟨i, j, rfl, rfl, q _ _ _ h (Same.refl H) (.bl _)⟩⟩
instance opd_notB : OpD K rNotB (fun d e P => asB d fun i => asB e fun j => P (.bl (!decide (i = j)))) := ⟨fun O H x y d e Q P a b h _ q => by
  obtain ⟨i, rfl, rfl, h⟩ := at_bl a h
  obtain ⟨j, rfl, rfl, h⟩ := at_bl b h
  exact ⟨i, j, rfl, rfl, q _ _ _ h (Same.refl H) (.bl _)⟩⟩
instance opd_addS : OpD K rAddS (fun d e P => asS d fun i => asS e fun j => i.length + j.length ≤ sizeLine ∧ P (.str (i ++ j))) := ⟨fun O H x y d e Q P a b h _ q => by
  obtain ⟨i, rfl, rfl, h⟩ := at_str a h
  obtain ⟨j, rfl, rfl, h⟩ := at_str b h
  exact ⟨i, j, rfl, rfl, h.1, q _ _ _ h.2 (Same.refl H) (.str _)⟩⟩
instance opd_mulS : OpD K rMulS (fun d e P => asS d fun i => asI e fun j => MulOk i j ∧ P (.str (Txt.mul i j))) := ⟨fun O H x y d e Q P a b h _ q => by
  obtain ⟨i, rfl, rfl, h⟩ := at_str a h
  obtain ⟨j, rfl, rfl, h⟩ := at_int b h
  exact ⟨i, j, rfl, rfl, h.1, q _ _ _ h.2 (Same.refl H) (.str _)⟩⟩
theorem atI_all {O : Ads} {H : Hp} {xs : List V} {ds : List D} {i : Int} {d : D} (a : AtAll K O H xs ds) (h : atI ds i = some d) : ∃ v, atI xs i = some v ∧ At K O H v d := by
  unfold atI at h ⊢
  rw [a.length]
  cases e : ixN ds.length i with
  | none => rw [e] at h; cases h
  | some j => rw [e] at h; exact a.getD h
instance opd_ixL : OpD K (rIxL K) (fun d e P => asL d fun ds => asI e fun i => ∃ x, atI ds i = some x ∧ P x) := ⟨fun O H x y d e Q P a b h _ q => by
  obtain ⟨p, xs, ds, rfl, rfl, h1, _, h3, h⟩ := at_L a h
  obtain ⟨i, rfl, rfl, x, h4, h5⟩ := at_int b h
  obtain ⟨v, h6, h7⟩ := atI_all h3 h4
  exact ⟨p, xs, i, v, rfl, rfl, SqL.of h1, h6, q _ _ _ h5 (Same.refl H) h7⟩⟩
instance opd_ixT : OpD K (rIxT K) (fun d e P => asT d fun ds => asI e fun i => ∃ x, atI ds i = some x ∧ P x) := ⟨fun O H x y d e Q P a b h _ q => by
  obtain ⟨p, xs, ds, rfl, rfl, h1, _, h3, h⟩ := at_T a h
  obtain ⟨i, rfl, rfl, x, h4, h5⟩ := at_int b h
  obtain ⟨v, h6, h7⟩ := atI_all h3 h4
  exact ⟨p, xs, i, v, rfl, rfl, h1, h6, q _ _ _ h5 (Same.refl H) h7⟩⟩
instance opd_catT : OpD K (rCatT K) (fun d e P => asT d fun ds => asT e fun es => ds ≠ [] ∧ ds.length + es.length ≤ sizeLine ∧ P (.tup (ds ++ es))) := ⟨fun O H x y d e Q P a b h lv q => by
  obtain ⟨p, xs, ds, rfl, rfl, h1, n1, h3, h⟩ := at_T a h
  obtain ⟨p2, ys, es, rfl, rfl, h4, n2, h6, h⟩ := at_T b h
  have l1 := h3.length
  have l2 := h6.length
  refine ⟨p, p2, xs, ys, rfl, rfl, h1, h4, fun z => ?_, by omega, ?_⟩
  · subst z
    cases h3
    exact h.1 rfl
  · first
      | (refine ⟨fun z => ?_, fun _ c nc => ?_⟩
         · subst z; cases h6
           refine q _ _ _ h.2.2 (Same.refl H) ?_
           rw [List.append_nil]
           exact .tup h1 n1 h3
         · exact q _ _ _ h.2.2 (same_upd nc) (At.mkTup nc (fun m => lv c m nc) (h3.append h6)))⟩
instance opd_cat : OpD K rCat (fun d e P => asL d fun ds => asL e fun es => ds.length + es.length ≤ sizeLine ∧ P (.lst (ds ++ es))) := ⟨fun O H x y d e Q P a b h lv q => by
  obtain ⟨p, xs, ds, rfl, rfl, h1, n1, h3, h⟩ := at_L a h
  obtain ⟨p2, ys, es, rfl, rfl, h4, n2, h6, h⟩ := at_L b h
  have l1 := h3.length
  have l2 := h6.length
  exact ⟨p, p2, xs, ys, rfl, rfl, h1, h4, by omega, fun c nc => q _ _ _ h.2 (same_upd nc) (.lst upd_same (fun m => lv c m nc) ((h3.append h6).fr (.of (same_upd nc))))⟩⟩
theorem AtAll.rep {O : Ads} {H : Hp} {xs : List V} {ds : List D} (h : AtAll K O H xs ds) : ∀ n : Nat, AtAll K O H (List.replicate n xs).flatten (List.replicate n ds).flatten
  | 0 => .nil
  | n + 1 => by
    rw [List.replicate_succ, List.replicate_succ, List.flatten_cons, List.flatten_cons]
    exact h.append (AtAll.rep h n)
class UnD (K : PySem.W.Frag) (r : V → Hp → VK → Prop) (f : outParam (D → (D → Prop) → Prop)) : Prop where
  op : ∀ O H x d (Q : VK) P, At K O H x d → f d P → (∀ d' v H', P d' → Same H H' → At K O H' v d' → Q v H') → r x H Q
instance und_U {g : Int → V} : UnD K (rU g) (fun d P => asI d fun i => P (vD (g i))) := ⟨fun O H x d Q P a h q => by
  obtain ⟨i, rfl, rfl, h⟩ := at_int a h
  exact ⟨i, rfl, q _ _ _ h (Same.refl H) (at_vD _)⟩⟩
end
/-! ### the data as the library's == has it -/
mutual
def D.py : D → PyData
  | .non => .none
  | .bl b => .bool b
  | .int i => .int i
  | .str z => .str z
  | .tup l => .tuple (pys l)
  | .lst l => .list (pys l)
  | _ => .none
def pys : List D → List PyData
  | [] => []
  | d :: l => d.py :: pys l
end
mutual
def D.pure : D → Bool
  | .non => true
  | .bl _ => true
  | .int _ => true
  | .str _ => true
  | .tup l => pures l
  | .lst l => pures l
  | _ => false
def pures : List D → Bool
  | [] => true
  | d :: l => d.pure && pures l
end
section
variable {K : PySem.W.Frag} {O : Ads} {H : Hp}
mutual
theorem At.dp : ∀ {v : V} {d : D}, At K O H v d → d.pure = true → Dp K H v d.py
  | _, _, .non, _ => .non
  | _, _, .bl b, _ => .bl b
  | _, _, .int i, _ => .int i
  | _, _, .str z, _ => .str z
  | _, _, .tup h _ t, p => .tup h (AtAll.dp t p)
  | _, _, .lst h _ t, p => .lst (SqL.of h) (AtAll.dp t p)
  | _, _, .ins _ _ _, p => nomatch p
  | _, _, .oth _, p => nomatch p
theorem AtAll.dp : ∀ {v : List V} {d : List D}, AtAll K O H v d → pures d = true → DpAll K H v (pys d)
  | _, _, .nil, _ => .nil
  | _, _, .cons h t, p => .cons (At.dp h (Bool.and_eq_true_iff.mp p).1) (AtAll.dp t (Bool.and_eq_true_iff.mp p).2)
end
instance opd_eqD : OpD K (rEqD K) (fun d e P => d.pure = true ∧ e.pure = true ∧ SeqAt.shaped d.py = true ∧ SeqAt.shaped e.py = true ∧ P (.bl (PyData.eqv d.py e.py))) := ⟨fun O H x y d e Q P a b h _ q => ⟨_, _, a.dp h.1, b.dp h.2.1, h.2.2.1, h.2.2.2.1, q _ _ _ h.2.2.2.2 (Same.refl H) (.bl _)⟩⟩
instance opd_neD : OpD K (rNeD K) (fun d e P => d.pure = true ∧ e.pure = true ∧ SeqAt.shaped d.py = true ∧ SeqAt.shaped e.py = true ∧ P (.bl (!PyData.eqv d.py e.py))) := ⟨fun O H x y d e Q P a b h _ q => ⟨_, _, a.dp h.1, b.dp h.2.1, h.2.2.1, h.2.2.2.1, q _ _ _ h.2.2.2.2 (Same.refl H) (.bl _)⟩⟩
end
/-! ### expressions -/
section
variable {K : PySem.W.Frag} {C : Cz} {ρ : List Sl} {P : D → Prop} {ta tb tc : TE} {d : D} {i : Nat}
theorem ev_mono {P' : D → Prop} (h : Ev K C ta ρ P) (k : ∀ d, P d → P' d) : Ev K C ta ρ P' := fun σ H Q s q => h σ H Q s fun d v H' p => q d v H' (k d p)
theorem ev_var (e : ρ[i]? = some (.val d)) (p : P d) : Ev K C (tVar i) ρ P := fun σ H Q s k => by
  obtain ⟨x, e1, a⟩ := s.sl.get e
  cases a with
  | val a => exact ⟨_, e1, k _ _ _ p s (Fr.refl _ _) a⟩
theorem ev_cV {v : V} (p : P (vD v)) : Ev K C (tC v) ρ P := fun σ H Q s k => k _ _ _ p s (Fr.refl _ _) (at_vD v)
theorem ev_int {z : Int} (p : P (.int z)) : Ev K C (tC (.int z)) ρ P := ev_cV p
theorem ev_str {z : Str} (p : P (.str z)) : Ev K C (tC (.str z)) ρ P := ev_cV p
theorem ev_bl {b : Bool} (p : P (.bl b)) : Ev K C (tC (.bl b)) ρ P := ev_cV p
theorem ev_non (p : P .non) : Ev K C (tC .non) ρ P := ev_cV p
theorem ev_ref {a : Addr} (p : P (.oth (.ref a))) : Ev K C (tC (.ref a)) ρ P := ev_cV p
theorem ev_ty {n : String} (p : P (.oth (.ty n))) : Ev K C (tC (.ty n)) ρ P := ev_cV p
/-- a written tuple of the module -/
theorem ev_refT {a : Addr} {xs : List V} {ds : List D} (h : ∀ H, SqT K H a xs) (g : ∀ O H, AtAll K O H xs ds) (p : P (.tup ds)) : Ev K C (tC (.ref a)) ρ P := fun σ H Q s k => k _ _ _ p s (Fr.refl _ _) (.tup (h H) (.inr h) (g _ _))
theorem ev_op {r : R2} {f : D → D → (D → Prop) → Prop} [o : OpD K r f] (h : Ev K C ta ρ fun d => Ev K C tb ρ fun e => f d e P) : Ev K C (tOp r ta tb) ρ P := fun σ H Q s k =>
  h σ H _ s fun d v H1 q s1 f1 a1 => q σ H1 _ s1 fun e w H2 q2 s2 f2 a2 => o.op (Os C ρ) H2 v w d e _ P (a1.fr (s.up f2)) a2 q2 s2.lv fun d' v' H' p e3 a3 => k _ _ _ p (s2.same e3) ((f1.trans f2).trans (Fr.of e3)) a3
theorem ev_un {r : V → Hp → VK → Prop} {f : D → (D → Prop) → Prop} [o : UnD K r f] (h : Ev K C ta ρ fun d => f d P) : Ev K C (tUn r ta) ρ P := fun σ H Q s k =>
  h σ H _ s fun d v H1 q s1 f1 a1 => o.op (Os C ρ) H1 v d _ P a1 q fun d' v' H' p e3 a3 => k _ _ _ p (s1.same e3) (f1.trans (Fr.of e3)) a3
theorem ev_if {t : TT} (h : EvT K C t ρ fun c => if c = true then Ev K C ta ρ P else Ev K C tb ρ P) : Ev K C (tIf t ta tb) ρ P := fun σ H Q s k =>
  h σ H _ s fun c H1 q s1 f1 => by
    cases c with
    | true => exact iteT ((show Ev K C ta ρ P from q) σ H1 Q s1 fun d v H2 p s2 f2 a2 => k d v H2 p s2 (f1.trans f2) a2)
    | false => exact iteF ((show Ev K C tb ρ P from q) σ H1 Q s1 fun d v H2 p s2 f2 a2 => k d v H2 p s2 (f1.trans f2) a2)
theorem ev_and (h : Ev K C ta ρ fun d => asB d fun c => if c = true then Ev K C tb ρ P else P (.bl false)) : Ev K C (tAndV ta tb) ρ P := fun σ H Q s k =>
  h σ H _ s fun d v H1 q s1 f1 a1 => by
    obtain ⟨c, rfl, rfl, q⟩ := at_bl a1 q
    refine ⟨c, rfl, ?_⟩
    cases c with
    | true => exact iteT ((show Ev K C tb ρ P from q) σ H1 Q s1 fun d v H2 p s2 f2 a2 => k d v H2 p s2 (f1.trans f2) a2)
    | false => exact iteF (k _ _ _ q s1 f1 (.bl _))
theorem ev_or (h : Ev K C ta ρ fun d => asB d fun c => if c = true then P (.bl true) else Ev K C tb ρ P) : Ev K C (tOrV ta tb) ρ P := fun σ H Q s k =>
  h σ H _ s fun d v H1 q s1 f1 a1 => by
    obtain ⟨c, rfl, rfl, q⟩ := at_bl a1 q
    refine ⟨c, rfl, ?_⟩
    cases c with
    | true => exact iteT (k _ _ _ q s1 f1 (.bl _))
    | false => exact iteF ((show Ev K C tb ρ P from q) σ H1 Q s1 fun d v H2 p s2 f2 a2 => k d v H2 p s2 (f1.trans f2) a2)
theorem ev_not (h : Ev K C ta ρ fun d => asB d fun c => P (.bl (!c))) : Ev K C (tNotV ta) ρ P := fun σ H Q s k =>
  h σ H _ s fun d v H1 q s1 f1 a1 => by
    obtain ⟨c, rfl, rfl, q⟩ := at_bl a1 q
    exact ⟨c, rfl, k _ _ _ q s1 f1 (.bl _)⟩
theorem ev_chain {r r' : R2} {f f' : D → D → (D → Prop) → Prop} [o : OpD K r f] [o' : OpD K r' f']
    (h : Ev K C ta ρ fun d => Ev K C tb ρ fun e => f d e fun z => asB z fun c => if c = true then Ev K C tc ρ fun g => f' e g P else P (.bl false)) : Ev K C (tChain r r' ta tb tc) ρ P := fun σ H Q s k =>
  h σ H _ s fun d v H1 q s1 f1 a1 => q σ H1 _ s1 fun e w H2 q2 s2 f2 a2 => o.op (Os C ρ) H2 v w d e _ _ (a1.fr (s.up f2)) a2 q2 s2.lv fun d' v' H3 p e3 a3 => by
    obtain ⟨c, rfl, rfl, p⟩ := at_bl a3 p
    refine ⟨c, rfl, ?_⟩
    have s3 := s2.same e3
    have f3 := (f1.trans f2).trans (Fr.of e3)
    cases c with
    | true => exact iteT ((show Ev K C tc ρ _ from p) σ H3 _ s3 fun g u H4 q4 s4 f4 a4 => o'.op (Os C ρ) H4 w u e g _ P ((a2.fr (Fr.of e3)).fr (s.up f4)) a4 q4 s4.lv fun d' v' H5 p5 e5 a5 => k _ _ _ p5 (s4.same e5) ((f3.trans f4).trans (Fr.of e5)) a5)
    | false => exact iteF (k _ _ _ p s3 f3 (.bl _))
/-! ### tests -/
variable {PB : Bool → Prop} {t u : TT}
theorem evt_b (h : Ev K C ta ρ fun d => asB d PB) : EvT K C (tB ta) ρ PB := fun σ H Q s k =>
  h σ H _ s fun d v H1 q s1 f1 a1 => by
    obtain ⟨c, rfl, rfl, q⟩ := at_bl a1 q
    exact ⟨c, rfl, k _ _ q s1 f1⟩
theorem evt_t (h : Ev K C ta ρ fun d => asB d PB) : EvT K C (tTest ta) ρ PB := fun σ H Q s k =>
  h σ H _ s fun d v H1 q s1 f1 a1 => by
    obtain ⟨c, rfl, rfl, q⟩ := at_bl a1 q
    exact ⟨c, rfl, k _ _ q s1 f1⟩
theorem evt_and (h : EvT K C t ρ fun c => if c = true then EvT K C u ρ PB else PB false) : EvT K C (tAnd t u) ρ PB := fun σ H Q s k =>
  h σ H _ s fun c H1 q s1 f1 => by
    cases c with
    | true => exact iteT ((show EvT K C u ρ PB from q) σ H1 Q s1 fun d H2 p s2 f2 => k d H2 p s2 (f1.trans f2))
    | false => exact iteF (k _ _ q s1 f1)
theorem evt_or (h : EvT K C t ρ fun c => if c = true then PB true else EvT K C u ρ PB) : EvT K C (tOr t u) ρ PB := fun σ H Q s k =>
  h σ H _ s fun c H1 q s1 f1 => by
    cases c with
    | true => exact iteT (k _ _ q s1 f1)
    | false => exact iteF ((show EvT K C u ρ PB from q) σ H1 Q s1 fun d H2 p s2 f2 => k d H2 p s2 (f1.trans f2))
theorem evt_not (h : EvT K C t ρ fun c => PB (!c)) : EvT K C (tNot t) ρ PB := fun σ H Q s k => h σ H _ s fun c H1 q s1 f1 => k _ _ q s1 f1
theorem evt_yes (p : PB true) : EvT K C tYes ρ PB := fun σ H Q s k => k _ _ p s (Fr.refl _ _)
/-! ### arguments, displays -/
variable {PL : List D → Prop} {tr : TA}
theorem eva_nil (p : PL []) : EvA K C tNil ρ PL := fun σ H Q s k => k _ _ _ p s (Fr.refl _ _) .nil
theorem eva_cons (h : Ev K C ta ρ fun d => EvA K C tr ρ fun ds => PL (d :: ds)) : EvA K C (tCons ta tr) ρ PL := fun σ H Q s k =>
  h σ H _ s fun d v H1 q s1 f1 a1 => q σ H1 _ s1 fun ds vs H2 q2 s2 f2 a2 => k _ _ _ q2 s2 (f1.trans f2) (.cons (a1.fr (s.up f2)) a2)
theorem eva_star (h : Ev K C ta ρ fun d => asQ d fun es => EvA K C tr ρ fun ds => PL (es ++ ds)) : EvA K C (StX.tStar K ta tr) ρ PL := fun σ H Q s k =>
  h σ H _ s fun d v H1 q s1 f1 a1 => by
    obtain ⟨p, xs, es, rfl, h1, h2, q⟩ := at_Q a1 q
    exact ⟨p, xs, rfl, h1.symm, q σ H1 _ s1 fun ds vs H2 q2 s2 f2 a2 => k _ _ _ q2 s2 (f1.trans f2) ((h2.fr (s.up f2)).append a2)⟩
theorem ev_tup (h : EvA K C tr ρ fun ds => ds.length ≤ sizeLine ∧ P (.tup ds)) : Ev K C (tTup tr) ρ P := fun σ H Q s k =>
  h σ H _ s fun ds vs H1 q s1 f1 a1 => ⟨by rw [a1.length]; exact q.1, fun p n => k _ _ _ q.2 (s1.same (same_upd n)) (f1.trans (Fr.of (same_upd n))) (At.mkTup n (s1.free n) a1)⟩
theorem evf_lst (h : EvA K C tr ρ fun ds => ds.length ≤ sizeLine ∧ PL ds) : EvF K C (tLst tr) ρ PL := fun σ H Q s k =>
  h σ H _ s fun ds vs H1 q s1 f1 a1 => ⟨by rw [a1.length]; exact q.1, fun p n => k _ _ _ q.2 (s1.own n a1) (f1.trans (Fr.of (same_upd n)))⟩
theorem ev_f (h : EvF K C ta ρ fun ds => P (.lst ds)) : Ev K C ta ρ P := fun σ H Q s k =>
  h σ H _ s fun ds p H1 q s1 f1 => k _ _ _ q s1.loose.1 f1 s1.loose.2
theorem ev_lst (h : EvA K C tr ρ fun ds => ds.length ≤ sizeLine ∧ P (.lst ds)) : Ev K C (tLst tr) ρ P := ev_f (evf_lst h)
/-! ### built-ins -/
class CbD (K : PySem.W.Frag) (r : RC) (f : outParam (List D → (D → Prop) → Prop)) : Prop where
  cb : ∀ O H vs ds (Q : VK) P, AtAll K O H vs ds → f ds P → (∀ p, p ∈ O → H p ≠ none) → (∀ d' v H', P d' → Same H H' → At K O H' v d' → Q v H') → r vs H Q
class CbF (K : PySem.W.Frag) (r : RC) (f : outParam (List D → (List D → Prop) → Prop)) : Prop where
  cb : ∀ O H vs ds (Q : VK) P, AtAll K O H vs ds → f ds P → (∀ ds' vs' p, P ds' → H p = none → AtAll K O H vs' ds' → Q (.ref p) (upd H p (.lst vs'))) → r vs H Q
theorem ev_cb {r : RC} {f : List D → (D → Prop) → Prop} [o : CbD K r f] (h : EvA K C tr ρ fun ds => f ds P) : Ev K C (tCB r tr) ρ P := fun σ H Q s k =>
  h σ H _ s fun ds vs H1 q s1 f1 a1 => o.cb (Os C ρ) H1 vs ds _ P a1 q s1.lv fun d' v' H' p e3 a3 => k _ _ _ p (s1.same e3) (f1.trans (Fr.of e3)) a3
theorem evf_cb {r : RC} {f : List D → (List D → Prop) → Prop} [o : CbF K r f] (h : EvA K C tr ρ fun ds => f ds PL) : EvF K C (tCB r tr) ρ PL := fun σ H Q s k =>
  h σ H _ s fun ds vs H1 q s1 f1 a1 => o.cb (Os C ρ) H1 vs ds _ PL a1 q fun ds' vs' p pl n a3 => k _ _ _ pl (s1.own n a3) (f1.trans (Fr.of (same_upd n)))
theorem ev_cbf {r : RC} {f : List D → (List D → Prop) → Prop} [o : CbF K r f] (h : EvA K C tr ρ fun ds => f ds fun l => P (.lst l)) : Ev K C (tCB r tr) ρ P := ev_f (evf_cb h)
end
section
variable {K : PySem.W.Frag}
instance cbd_lenS : CbD K rLenS (fun ds P => as1 ds fun d => asS d fun z => z.length ≤ sizeLine ∧ P (.int z.length)) := ⟨fun O H vs ds Q P a h _ q => by
  obtain ⟨v, d, rfl, a, h⟩ := all_1 a h
  obtain ⟨z, rfl, rfl, h⟩ := at_str a h
  exact ⟨z, rfl, h.1, q _ _ _ h.2 (Same.refl H) (.int _)⟩⟩
instance cbd_lenQ : CbD K (rLenQ K) (fun ds P => as1 ds fun d => asQ d fun l => P (.int l.length)) := ⟨fun O H vs ds Q P a h _ q => by
  obtain ⟨v, d, rfl, a, h⟩ := all_1 a h
  obtain ⟨p, xs, l, rfl, h1, h2, h⟩ := at_Q a h
  exact ⟨p, xs, rfl, h1, by rw [h2.length]; exact q _ _ _ h (Same.refl H) (.int _)⟩⟩
instance cbf_list : CbF K (rListQ K) (fun ds P => as1 ds fun d => asQ d fun l => P l) := ⟨fun O H vs ds Q P a h q => by
  obtain ⟨v, d, rfl, a, h⟩ := all_1 a h
  obtain ⟨p, xs, l, rfl, h1, h2, h⟩ := at_Q a h
  exact ⟨p, xs, rfl, h1, fun n nn => q _ _ _ h nn h2⟩⟩
instance cbd_tuple : CbD K (rTupleQ K) (fun ds P => as1 ds fun d => asQ d fun l => P (.tup l)) := ⟨fun O H vs ds Q P a h lv q => by
  obtain ⟨v, d, rfl, a, h⟩ := all_1 a h
  cases a with
  | lst h1 n h2 => exact ⟨_, _, rfl, .inl ⟨SqL.of h1, fun c nc => q _ _ _ h (same_upd nc) (At.mkTup nc (fun m => lv c m nc) h2)⟩⟩
  | tup h1 n h2 => exact ⟨_, _, rfl, .inr ⟨h1, q _ _ _ h (Same.refl H) (.tup h1 n h2)⟩⟩
  | _ => exact h.elim⟩
instance cbd_abs : CbD K rAbs (fun ds P => as1 ds fun d => asI d fun i => P (.int (if i < 0 then -i else i))) := ⟨fun O H vs ds Q P a h _ q => by
  obtain ⟨v, d, rfl, a, h⟩ := all_1 a h
  obtain ⟨z, rfl, rfl, h⟩ := at_int a h
  exact ⟨z, rfl, q _ _ _ h (Same.refl H) (.int _)⟩⟩
@[reducible] def asIB : D → (Int → Prop) → Prop
  | .int i, k => k i
  | .bl b, k => k (if b = true then 1 else 0)
  | _, _ => False
instance cbd_int1 : CbD K rInt1 (fun ds P => as1 ds fun d => asIB d fun i => P (.int i)) := ⟨fun O H vs ds Q P a h _ q => by
  obtain ⟨v, d, rfl, a, h⟩ := all_1 a h
  cases a with
  | int i => exact .inl ⟨i, rfl, q _ _ _ h (Same.refl H) (.int _)⟩
  | bl b => exact .inr ⟨b, rfl, q _ _ _ h (Same.refl H) (.int _)⟩
  | _ => exact h.elim⟩
instance cbd_intS : CbD K rIntS (fun ds P => as1 ds fun d => asS d fun z => ∃ n, PySem.intText? z = some n ∧ z.length ≤ 640 ∧ P (.int n)) := ⟨fun O H vs ds Q P a h _ q => by
  obtain ⟨v, d, rfl, a, h⟩ := all_1 a h
  obtain ⟨z, rfl, rfl, n, h1, h2, h⟩ := at_str a h
  exact ⟨z, n, rfl, h1, h2, q _ _ _ h (Same.refl H) (.int _)⟩⟩
instance cbd_strI : CbD K rStrI (fun ds P => as1 ds fun d => asI d fun i => i.natAbs.log2 < 1920 ∧ P (.str (Str.ofString (toString i)))) := ⟨fun O H vs ds Q P a h _ q => by
  obtain ⟨v, d, rfl, a, h⟩ := all_1 a h
  obtain ⟨z, rfl, rfl, h⟩ := at_int a h
  exact ⟨z, rfl, h.1, q _ _ _ h.2 (Same.refl H) (.str _)⟩⟩
instance cbd_max2 : CbD K rMax2 (fun ds P => as2 ds fun d e => asI d fun i => asI e fun j => P (.int (max i j))) := ⟨fun O H vs ds Q P a h _ q => by
  obtain ⟨v, w, d, e, rfl, a, b, h⟩ := all_2 a h
  obtain ⟨i, rfl, rfl, h⟩ := at_int a h
  obtain ⟨j, rfl, rfl, h⟩ := at_int b h
  refine ⟨i, j, rfl, ?_⟩
  rw [show (if j > i then j else i) = max i j by split <;> omega]
  exact q _ _ _ h (Same.refl H) (.int _)⟩
instance cbd_min2 : CbD K rMin2 (fun ds P => as2 ds fun d e => asI d fun i => asI e fun j => P (.int (min i j))) := ⟨fun O H vs ds Q P a h _ q => by
  obtain ⟨v, w, d, e, rfl, a, b, h⟩ := all_2 a h
  obtain ⟨i, rfl, rfl, h⟩ := at_int a h
  obtain ⟨j, rfl, rfl, h⟩ := at_int b h
  refine ⟨i, j, rfl, ?_⟩
  rw [show (if j < i then j else i) = min i j by split <;> omega]
  exact q _ _ _ h (Same.refl H) (.int _)⟩
/-- a list of ints, of truth values, of texts -/
@[reducible] def asIs : List D → (List Int → Prop) → Prop
  | [], k => k []
  | .int i :: l, k => asIs l fun r => k (i :: r)
  | _ :: _, _ => False
theorem all_ints {O : Ads} {H : Hp} {vs : List V} {ds : List D} {k : List Int → Prop} (a : AtAll K O H vs ds) (h : asIs ds k) : ∃ ns, vs = ns.map V.int ∧ ds = ns.map D.int ∧ k ns := by
  induction ds generalizing vs k with
  | nil => cases a; exact ⟨[], rfl, rfl, h⟩
  | cons d ds ih =>
    cases a with
    | cons b t =>
      cases d with
      | int i =>
        cases b
        obtain ⟨ns, rfl, rfl, g⟩ := ih t h
        exact ⟨i :: ns, rfl, rfl, g⟩
      | _ => exact h.elim
theorem as_ints {ns : List Int} {k : List Int → Prop} (h : k ns) : asIs (ns.map D.int) k := by
  induction ns generalizing k with
  | nil => exact h
  | cons i ns ih => exact ih h
@[reducible] def asBs : List D → (List Bool → Prop) → Prop
  | [], k => k []
  | .bl i :: l, k => asBs l fun r => k (i :: r)
  | _ :: _, _ => False
theorem all_bls {O : Ads} {H : Hp} {vs : List V} {ds : List D} {k : List Bool → Prop} (a : AtAll K O H vs ds) (h : asBs ds k) : ∃ ns, vs = ns.map V.bl ∧ ds = ns.map D.bl ∧ k ns := by
  induction ds generalizing vs k with
  | nil => cases a; exact ⟨[], rfl, rfl, h⟩
  | cons d ds ih =>
    cases a with
    | cons b t =>
      cases d with
      | bl i =>
        cases b
        obtain ⟨ns, rfl, rfl, g⟩ := ih t h
        exact ⟨i :: ns, rfl, rfl, g⟩
      | _ => exact h.elim
theorem as_bls {ns : List Bool} {k : List Bool → Prop} (h : k ns) : asBs (ns.map D.bl) k := by
  induction ns generalizing k with
  | nil => exact h
  | cons i ns ih => exact ih h
@[reducible] def asSs : List D → (List Str → Prop) → Prop
  | [], k => k []
  | .str i :: l, k => asSs l fun r => k (i :: r)
  | _ :: _, _ => False
theorem all_strs {O : Ads} {H : Hp} {vs : List V} {ds : List D} {k : List Str → Prop} (a : AtAll K O H vs ds) (h : asSs ds k) : ∃ ns, vs = ns.map V.str ∧ ds = ns.map D.str ∧ k ns := by
  induction ds generalizing vs k with
  | nil => cases a; exact ⟨[], rfl, rfl, h⟩
  | cons d ds ih =>
    cases a with
    | cons b t =>
      cases d with
      | str i =>
        cases b
        obtain ⟨ns, rfl, rfl, g⟩ := ih t h
        exact ⟨i :: ns, rfl, rfl, g⟩
      | _ => exact h.elim
theorem as_strs {ns : List Str} {k : List Str → Prop} (h : k ns) : asSs (ns.map D.str) k := by
  induction ns generalizing k with
  | nil => exact h
  | cons i ns ih => exact ih h
instance cbd_max : CbD K (rMax K) (fun ds P => as1 ds fun d => asL d fun l => asIs l fun ns => 0 < ns.length ∧ ∀ m, m ∈ ns → (∀ y, y ∈ ns → y ≤ m) → P (.int m)) := ⟨fun O H vs ds Q P a h _ q => by
  obtain ⟨v, d, rfl, a, h⟩ := all_1 a h
  obtain ⟨p, xs, l, rfl, rfl, h1, _, h3, h⟩ := at_L a h
  obtain ⟨ns, rfl, rfl, g⟩ := all_ints h3 h
  exact ⟨p, ns, rfl, SqL.of h1, g.1, fun m h1 h2 => q _ _ _ (g.2 m h1 h2) (Same.refl H) (.int _)⟩⟩
instance cbd_min : CbD K (rMin K) (fun ds P => as1 ds fun d => asL d fun l => asIs l fun ns => 0 < ns.length ∧ ∀ m, m ∈ ns → (∀ y, y ∈ ns → m ≤ y) → P (.int m)) := ⟨fun O H vs ds Q P a h _ q => by
  obtain ⟨v, d, rfl, a, h⟩ := all_1 a h
  obtain ⟨p, xs, l, rfl, rfl, h1, _, h3, h⟩ := at_L a h
  obtain ⟨ns, rfl, rfl, g⟩ := all_ints h3 h
  exact ⟨p, ns, rfl, SqL.of h1, g.1, fun m h1 h2 => q _ _ _ (g.2 m h1 h2) (Same.refl H) (.int _)⟩⟩
instance cbd_sum : CbD K (rSum K) (fun ds P => as1 ds fun d => asL d fun l => asIs l fun ns => P (.int ns.sum)) := ⟨fun O H vs ds Q P a h _ q => by
  obtain ⟨v, d, rfl, a, h⟩ := all_1 a h
  obtain ⟨p, xs, l, rfl, rfl, h1, _, h3, h⟩ := at_L a h
  obtain ⟨ns, rfl, rfl, g⟩ := all_ints h3 h
  exact ⟨p, ns, rfl, SqL.of h1, q _ _ _ g (Same.refl H) (.int _)⟩⟩
instance cbd_all : CbD K (rAll K) (fun ds P => as1 ds fun d => asL d fun l => asBs l fun ns => P (.bl (ns.all id))) := ⟨fun O H vs ds Q P a h _ q => by
  obtain ⟨v, d, rfl, a, h⟩ := all_1 a h
  obtain ⟨p, xs, l, rfl, rfl, h1, _, h3, h⟩ := at_L a h
  obtain ⟨ns, rfl, rfl, g⟩ := all_bls h3 h
  exact ⟨p, ns, rfl, SqL.of h1, q _ _ _ g (Same.refl H) (.bl _)⟩⟩
instance cbd_any : CbD K (rAny K) (fun ds P => as1 ds fun d => asL d fun l => asBs l fun ns => P (.bl (ns.any id))) := ⟨fun O H vs ds Q P a h _ q => by
  obtain ⟨v, d, rfl, a, h⟩ := all_1 a h
  obtain ⟨p, xs, l, rfl, rfl, h1, _, h3, h⟩ := at_L a h
  obtain ⟨ns, rfl, rfl, g⟩ := all_bls h3 h
  exact ⟨p, ns, rfl, SqL.of h1, q _ _ _ g (Same.refl H) (.bl _)⟩⟩
end

/-! ### statements -/
section
variable {K : PySem.W.Frag} {C : Cz} {ρ : List Sl} {P : Out → Prop} {te : TE} {a b : TS} {i j : Nat}
@[reducible] def seqP (K : PySem.W.Frag) (C : Cz) (b : TS) (P : Out → Prop) : Out → Prop
  | .nx ρ => Run K C b ρ P
  | .rt d => P (.rt d)
  | .bk ρ => P (.bk ρ)
  | .ct ρ => P (.ct ρ)
theorem run_seq (h : Run K C a ρ (seqP K C b P)) : Run K C (tSeq a b) ρ P := fun En σ H s k =>
  h { En with nx := b En } σ H s ⟨fun ρ' σ' H' q s' => q En σ' H' s' k, fun d v ρ' σ' H' q => k.rt d v ρ' σ' H' q, fun ρ' σ' H' q => k.bk ρ' σ' H' q, fun ρ' σ' H' q => k.ct ρ' σ' H' q⟩
theorem run_mono {P' : Out → Prop} (h : Run K C a ρ P) (k : ∀ o, P o → P' o) : Run K C a ρ P' := fun En σ H s q =>
  h En σ H s ⟨fun ρ' σ' H' p => q.nx ρ' σ' H' (k _ p), fun d v ρ' σ' H' p => q.rt d v ρ' σ' H' (k _ p), fun ρ' σ' H' p => q.bk ρ' σ' H' (k _ p), fun ρ' σ' H' p => q.ct ρ' σ' H' (k _ p)⟩
theorem run_next (p : P (.nx ρ)) : Run K C tNext ρ P := fun En σ H s k => k.nx _ _ _ p s
theorem run_break (p : P (.bk ρ)) : Run K C tBreak ρ P := fun En σ H s k => k.bk _ _ _ p s
theorem run_cont (p : P (.ct ρ)) : Run K C tCont ρ P := fun En σ H s k => k.ct _ _ _ p s
theorem run_ret (h : Ev K C te ρ fun d => P (.rt d)) : Run K C (tRet te) ρ P := fun En σ H s k => h σ H _ s fun d v H' p s' f a => k.rt d v ρ σ H' p s' (a.less fun _ m => List.mem_append_left _ m)
theorem run_retN (p : P (.rt .non)) : Run K C tRetN ρ P := fun En σ H s k => k.rt .non .non ρ σ H p s .non
theorem run_drop (h : Ev K C te ρ fun _ => P (.nx ρ)) : Run K C (tDrop te) ρ P := fun En σ H s k => h σ H _ s fun d v H' p s' _ _ => k.nx _ _ _ p s'
theorem run_if {c : TT} (h : EvT K C c ρ fun x => if x = true then Run K C a ρ P else Run K C b ρ P) : Run K C (tIfS c a b) ρ P := fun En σ H s k =>
  h σ H _ s fun x H' p s' _ => by
    cases x with
    | true => exact iteT ((show Run K C a ρ P from p) En σ H' s' k)
    | false => exact iteF ((show Run K C b ρ P from p) En σ H' s' k)
theorem run_set (h : Ev K C te ρ fun d => P (.nx (ρ.set i (.val d)))) : Run K C (tAsg te (gName i)) ρ P := fun En σ H s k => h σ H _ s fun d v H' p s' _ a => k.nx _ _ _ p (s'.set i a)
/-- a new list that the def goes on changing -/
theorem run_own (h : EvF K C te ρ fun ds => i < ρ.length ∧ ∀ p, P (.nx (ρ.set i (.own p ds)))) : Run K C (tAsg te (gName i)) ρ P := fun En σ H s k => h σ H _ s fun ds p H' q s' _ => k.nx _ _ _ (q.2 p) (s'.land q.1)
theorem run_freeze {p : Addr} {ds : List D} (i : Nat) (e : ρ[i]? = some (.own p ds)) (h : Run K C a (ρ.set i (.val (.lst ds))) P) : Run K C a ρ P := fun En σ H s k => h En σ H (s.frozen e) k
theorem ev_freeze {p : Addr} {ds : List D} {PD : D → Prop} (i : Nat) (e : ρ[i]? = some (.own p ds)) (h : Ev K C te (ρ.set i (.val (.lst ds))) PD) (hp : ∀ d, PD d → ∀ z : D, True) : True := trivial
/-- the def's way out gives its own list -/
theorem run_retO {p : Addr} {ds : List D} (e : ρ[i]? = some (.own p ds)) (h : P (.rt (.lst ds))) : Run K C (tRet (tVar i)) ρ P := run_freeze i e (run_ret (ev_var (d := .lst ds) (by
  obtain ⟨h1, _⟩ := List.getElem?_eq_some_iff.mp e
  rw [List.getElem?_set_self h1]) h))
theorem run_par {ta : TA} (h : EvA K C ta ρ fun ds => as2 ds fun d e => P (.nx ((ρ.set i (.val d)).set j (.val e)))) : Run K C (tPar i j ta) ρ P := fun En σ H s k => h σ H _ s fun ds vs H' p s' _ a => by
  obtain ⟨v, w, d, e, rfl, a1, a2, p⟩ := all_2 a p
  refine ⟨v, w, rfl, k.nx _ _ _ p ((s'.set i a1).set j (a2.less fun x m => ?_))⟩
  exact (List.mem_append.mp m).elim (fun h => List.mem_append_left _ h) fun h => List.mem_append_right _ ((owns_set_sub (s := .val d) rfl ρ i).subset h)
class IpD (K : PySem.W.Frag) (r : TIp) (f : outParam (D → D → (D → Prop) → Prop)) : Prop where
  op : ∀ O H x y d e (Q : VK) P, At K O H x d → At K O H y e → f d e P → (∀ d' v H', P d' → Same H H' → At K O H' v d' → Q v H') → r x y H Q
instance ipd_I {g : Int → Int → Int} : IpD K (ipI g) (fun d e P => asI d fun i => asI e fun j => P (.int (g i j))) := ⟨fun O H x y d e Q P a b h q => by
  obtain ⟨i, rfl, rfl, h⟩ := at_int a h
  obtain ⟨j, rfl, rfl, h⟩ := at_int b h
  exact ⟨i, j, rfl, rfl, q _ _ _ h (Same.refl H) (.int _)⟩⟩
theorem run_aug {r : TIp} {f : D → D → (D → Prop) → Prop} [o : IpD K r f] {d : D} (e : ρ[i]? = some (.val d)) (h : Ev K C te ρ fun e => f d e fun z => P (.nx (ρ.set i (.val z)))) : Run K C (tAug i te r) ρ P := fun En σ H s k => by
  obtain ⟨x, e1, a⟩ := s.sl.get e
  cases a with
  | val a =>
    exact ⟨_, e1, h σ H _ s fun y w H' p s' f a2 => o.op (Os C ρ) H' _ w d y _ _ (a.fr (s.up f)) a2 p fun d' v' H2 p2 e2 a3 => k.nx _ _ _ p2 ((s'.same e2).set i a3)⟩
def D.flat : D → Bool
  | .non => true
  | .bl _ => true
  | .int _ => true
  | .str _ => true
  | _ => false
theorem At.flat {O O' : Ads} {H H' : Hp} {v : V} {d : D} (a : At K O H v d) (h : d.flat = true) : At K O' H' v d := by
  cases a <;> first | exact .non | exact .bl _ | exact .int _ | exact .str _ | exact Bool.noConfusion h
/-! ### one's own lists -/
theorem own_V {O : Ads} {H : Hp} {σ : L2.St} {p : Addr} {ds : List D} (s : Sls K O H σ ρ) (e : ρ[i]? = some (.own p ds)) : ∃ vs, σ[i]? = some (some (.ref p)) ∧ H p = some (.lst vs) ∧ AtAll K O H vs ds := by
  obtain ⟨x, e1, a⟩ := s.get e
  cases a with
  | cell h a =>
    cases a with
    | lst a => exact ⟨_, e1, h, a⟩
theorem run_append {p : Addr} {ds : List D} (e : ρ[i]? = some (.own p ds)) (h : Ev K C te ρ fun d => ds.length < sizeLine ∧ P (.nx (ρ.set i (.own p (ds ++ [d]))))) :
    Run K C (tDrop (tBM K "list" rAppend (tVar i) (tCons te tNil))) ρ P := fun En σ H s k => by
  obtain ⟨vs0, e1, h0, _⟩ := own_V s.sl e
  refine ⟨_, e1, .inl ⟨rfl, _, SqL.of h0⟩, h σ H _ s fun d v H' q s' f a => ?_⟩
  obtain ⟨vs, _, h1, a1⟩ := own_V s'.sl e
  exact ⟨p, vs, v, rfl, rfl, h1, by rw [a1.length]; exact q.1, k.nx _ _ _ q.2 (s'.mut e (a1.append (.one a)))⟩
theorem run_extend {p : Addr} {ds : List D} (e : ρ[i]? = some (.own p ds)) (h : Ev K C te ρ fun d => asL d fun es => ds.length + es.length ≤ sizeLine ∧ P (.nx (ρ.set i (.own p (ds ++ es))))) :
    Run K C (tDrop (tBM K "list" rExtend (tVar i) (tCons te tNil))) ρ P := fun En σ H s k => by
  obtain ⟨vs0, e1, h0, _⟩ := own_V s.sl e
  refine ⟨_, e1, .inl ⟨rfl, _, SqL.of h0⟩, h σ H _ s fun d v H' q s' f a => ?_⟩
  obtain ⟨vs, _, h1, a1⟩ := own_V s'.sl e
  obtain ⟨p2, ys, es, rfl, rfl, h2, _, a2, q⟩ := at_L a q
  have l1 := a1.length
  have l2 := a2.length
  exact ⟨p, p2, vs, ys, rfl, rfl, h1, h2, by omega, k.nx _ _ _ q.2 (s'.mut e (a1.append a2))⟩
theorem run_pop {p : Addr} {ds : List D} (e : ρ[i]? = some (.own p ds)) (n : ds ≠ []) (h : P (.nx (ρ.set i (.own p ds.dropLast)))) :
    Run K C (tDrop (tBM0 K "list" rPop (tVar i))) ρ P := fun En σ H s k => by
  obtain ⟨vs, e1, h0, a⟩ := own_V s.sl e
  have l := a.length
  have hl : vs.length - 1 < vs.length := by
    cases ds with
    | nil => exact absurd rfl n
    | cons d ds => rw [List.length_cons] at l; omega
  exact ⟨_, e1, .inl ⟨rfl, _, SqL.of h0⟩, p, vs, _, rfl, rfl, h0, List.getElem?_eq_getElem hl, k.nx _ _ _ h (s.mut e a.dropLast)⟩
theorem run_setix {p : Addr} {ds : List D} {ti : TE} (e : ρ[i]? = some (.own p ds)) (h : Ev K C te ρ fun d => Ev K C ti ρ fun x => asI x fun z => ∃ j, ixN ds.length z = some j ∧ P (.nx (ρ.set i (.own p (ds.set j d))))) :
    Run K C (tAsg te (gSub (tVar i) ti rSetL)) ρ P := fun En σ H s k => h σ H _ s fun d v H1 q s1 f1 a => by
  obtain ⟨vs0, e1, h0, _⟩ := own_V s1.sl e
  refine ⟨_, e1, q σ H1 _ s1 fun x u H2 q s2 f2 a2 => ?_⟩
  obtain ⟨z, rfl, rfl, j, hj, q⟩ := at_int a2 q
  obtain ⟨vs, _, h1, a1⟩ := own_V s2.sl e
  exact ⟨p, vs, z, j, rfl, rfl, h1, by rw [a1.length]; exact hj, k.nx _ _ _ q (s2.mut e (a1.set j (a.fr (s1.up f2))))⟩
/-- reading one's own list -/
theorem ev_lenO {p : Addr} {ds : List D} {PD : D → Prop} (e : ρ[i]? = some (.own p ds)) (h : PD (.int ds.length)) : Ev K C (tCB (rLenQ K) (tCons (tVar i) tNil)) ρ PD := fun σ H Q s k => by
  obtain ⟨vs, e1, h0, a⟩ := own_V s.sl e
  exact ⟨_, e1, p, vs, rfl, .inl (SqL.of h0), by rw [a.length]; exact k _ _ _ h s (Fr.refl _ _) (.int _)⟩
theorem ev_ixO {p : Addr} {ds : List D} {ti : TE} {PD : D → Prop} (e : ρ[i]? = some (.own p ds)) (h : Ev K C ti ρ fun x => asI x fun z => ∃ d, atI ds z = some d ∧ PD d) : Ev K C (tOp (rIxL K) (tVar i) ti) ρ PD := fun σ H Q s k => by
  obtain ⟨vs, e1, h0, a⟩ := own_V s.sl e
  refine ⟨_, e1, h σ H _ s fun x u H2 q s2 f2 a2 => ?_⟩
  obtain ⟨z, rfl, rfl, d, hd, q⟩ := at_int a2 q
  obtain ⟨vs, _, h1, a1⟩ := own_V s2.sl e
  obtain ⟨v, hv, a3⟩ := atI_all a1 hd
  exact ⟨p, vs, z, v, rfl, rfl, SqL.of h1, hv, k _ _ _ q s2 f2 a3⟩
theorem ev_tupO {p : Addr} {ds : List D} {PD : D → Prop} (e : ρ[i]? = some (.own p ds)) (h : PD (.tup ds)) : Ev K C (tCB (rTupleQ K) (tCons (tVar i) tNil)) ρ PD := fun σ H Q s k => by
  obtain ⟨vs, e1, h0, a⟩ := own_V s.sl e
  exact ⟨_, e1, p, vs, rfl, .inl ⟨SqL.of h0, fun c nc => k _ _ _ h (s.same (same_upd nc)) (Fr.of (same_upd nc)) (At.mkTup nc (s.free nc) a)⟩⟩
/-- a built-in of one's own list that gives a number, a text, a truth value -/
theorem ev_cbO {r : RC} {f : List D → (D → Prop) → Prop} [o : CbD K r f] {p : Addr} {ds : List D} {PD : D → Prop} (e : ρ[i]? = some (.own p ds)) (h : f [.lst ds] fun d => d.flat = true ∧ PD d) : Ev K C (tCB r (tCons (tVar i) tNil)) ρ PD := fun σ H Q s k => by
  obtain ⟨e1, a⟩ := s.freeze e
  refine ⟨_, e1, o.cb (Os C (ρ.set i .no)) H _ _ _ _ (.one a) h (fun p m => s.lv p ((List.mem_append.mp m).elim (fun h => List.mem_append_left _ h) fun h => List.mem_append_right _ ((owns_set_sub (s := .no) rfl ρ i).subset h))) fun d' v' H' p2 e3 a3 => ?_⟩
  exact k _ _ _ p2.2 (s.same e3) (Fr.of e3) (a3.flat p2.1)
end
/-! ### targets -/
def nown (ρ : List Sl) (i : Nat) : Bool := match ρ[i]? with
  | some (.cell _ _) => false
  | _ => true
theorem owns_set_eq {s : Sl} (hs : s.o = []) : ∀ {ρ : List Sl} {i : Nat}, nown ρ i = true → owns (ρ.set i s) = owns ρ
  | [], _, _ => rfl
  | t :: ρ, 0, h => by
    show s.o ++ owns ρ = t.o ++ owns ρ
    rw [hs]
    cases t with
    | cell p l => exact nomatch h
    | _ => rfl
  | t :: ρ, i + 1, h => by
    show t.o ++ owns (ρ.set i s) = t.o ++ owns ρ
    rw [owns_set_eq hs (by simpa [nown] using h)]
/-- names are stored -/
def EvG (K : PySem.W.Frag) (C : Cz) (g : TG) (d : D) (is : List Nat) (ρ : List Sl) (P : List Sl → Prop) : Prop := ∀ v σ H (Q : L2.St → Hp → Prop), St K C ρ σ H → At K (Os C ρ) H v d →
  (∀ ρ' σ', P ρ' → St K C ρ' σ' H → owns ρ' = owns ρ → σ'.length = σ.length → (∀ j, j ∉ is → σ'[j]? = σ[j]?) → Q σ' H) → g v σ H Q
def EvGs (K : PySem.W.Frag) (C : Cz) (g : TGs) (ds : List D) (is : List Nat) (ρ : List Sl) (P : List Sl → Prop) : Prop := ∀ vs σ H (Q : L2.St → Hp → Prop), St K C ρ σ H → AtAll K (Os C ρ) H vs ds →
  (∀ ρ' σ', P ρ' → St K C ρ' σ' H → owns ρ' = owns ρ → σ'.length = σ.length → (∀ j, j ∉ is → σ'[j]? = σ[j]?) → Q σ' H) → g vs σ H Q
section
variable {K : PySem.W.Frag} {C : Cz} {ρ : List Sl} {d : D} {i n : Nat} {is js : List Nat} {g : TG} {gs : TGs} {P : List Sl → Prop}
theorem evg_name (h : nown ρ i = true) (m : i ∈ is) (p : P (ρ.set i (.val d))) : EvG K C (gName i) d is ρ P := fun v σ H Q s a k =>
  k _ _ p (s.set i a) (owns_set_eq rfl h) (List.length_set) fun j hj => List.getElem?_set_ne fun e => hj (by rw [← e]; exact m)
theorem evgs_nil (p : P ρ) : EvGs K C gNil [] is ρ P := fun vs σ H Q s a k => by
  cases a
  exact ⟨rfl, k _ _ p s rfl rfl fun _ _ => rfl⟩
theorem evgs_cons {ds : List D} (h : EvG K C g d is ρ fun ρ' => EvGs K C gs ds is ρ' P) : EvGs K C (gCons g gs) (d :: ds) is ρ P := fun vs σ H Q s a k => by
  cases a with
  | cons a b =>
    refine ⟨_, _, rfl, h _ σ H _ s a fun ρ' σ' p s' e1 l1 f1 => ?_⟩
    refine p _ σ' H _ s' (by show AtAll K (C.O0 ++ owns ρ') _ _ _; rw [e1]; exact b) fun ρ2 σ2 p2 s2 e2 l2 f2 => ?_
    exact k _ _ p2 s2 (e2.trans e1) (l2.trans l1) fun j hj => (f2 j hj).trans (f1 j hj)
theorem evg_tup (h : asT d fun ds => ds.length = n ∧ EvGs K C gs ds is ρ P) : EvG K C (gTup K n gs) d is ρ P := fun v σ H Q s a k => by
  obtain ⟨p, xs, ds, rfl, rfl, h1, _, h3, h⟩ := at_T a h
  exact ⟨p, xs, rfl, h1, by rw [h3.length]; exact h.1, h.2 xs σ H Q s h3 k⟩
theorem evg_lst (h : asL d fun ds => ds.length = n ∧ EvGs K C gs ds is ρ P) : EvG K C (gUnl K n gs) d is ρ P := fun v σ H Q s a k => by
  obtain ⟨p, xs, ds, rfl, rfl, h1, _, h3, h⟩ := at_L a h
  exact ⟨p, xs, rfl, SqL.of h1, by rw [h3.length]; exact h.1, h.2 xs σ H Q s h3 k⟩
/-- the same, whichever names are stored -/
def EvX (K : PySem.W.Frag) (C : Cz) (g : TG) (d : D) (ρ : List Sl) (P : List Sl → Prop) : Prop := ∀ v σ H (Q : L2.St → Hp → Prop), St K C ρ σ H → At K (Os C ρ) H v d → (∀ ρ' σ', P ρ' → St K C ρ' σ' H → owns ρ' = owns ρ → Q σ' H) → g v σ H Q
def EvXs (K : PySem.W.Frag) (C : Cz) (g : TGs) (ds : List D) (ρ : List Sl) (P : List Sl → Prop) : Prop := ∀ vs σ H (Q : L2.St → Hp → Prop), St K C ρ σ H → AtAll K (Os C ρ) H vs ds → (∀ ρ' σ', P ρ' → St K C ρ' σ' H → owns ρ' = owns ρ → Q σ' H) → g vs σ H Q
theorem evx_name (h : nown ρ i = true) (p : P (ρ.set i (.val d))) : EvX K C (gName i) d ρ P := fun v σ H Q s a k => k _ _ p (s.set i a) (owns_set_eq rfl h)
theorem evxs_nil (p : P ρ) : EvXs K C gNil [] ρ P := fun vs σ H Q s a k => by
  cases a
  exact ⟨rfl, k _ _ p s rfl⟩
theorem evxs_cons {ds : List D} (h : EvX K C g d ρ fun ρ' => EvXs K C gs ds ρ' P) : EvXs K C (gCons g gs) (d :: ds) ρ P := fun vs σ H Q s a k => by
  cases a with
  | cons a b =>
    exact ⟨_, _, rfl, h _ σ H _ s a fun ρ' σ' p s' e1 => p _ σ' H _ s' (by show AtAll K (C.O0 ++ owns ρ') _ _ _; rw [e1]; exact b) fun ρ2 σ2 p2 s2 e2 => k _ _ p2 s2 (e2.trans e1)⟩
theorem evx_tup (h : asT d fun ds => ds.length = n ∧ EvXs K C gs ds ρ P) : EvX K C (gTup K n gs) d ρ P := fun v σ H Q s a k => by
  obtain ⟨p, xs, ds, rfl, rfl, h1, _, h3, h⟩ := at_T a h
  exact ⟨p, xs, rfl, h1, by rw [h3.length]; exact h.1, h.2 xs σ H Q s h3 k⟩
theorem evx_lst (h : asL d fun ds => ds.length = n ∧ EvXs K C gs ds ρ P) : EvX K C (gUnl K n gs) d ρ P := fun v σ H Q s a k => by
  obtain ⟨p, xs, ds, rfl, rfl, h1, _, h3, h⟩ := at_L a h
  exact ⟨p, xs, rfl, SqL.of h1, by rw [h3.length]; exact h.1, h.2 xs σ H Q s h3 k⟩
theorem run_asg {te : TE} {PO : Out → Prop} (h : Ev K C te ρ fun d => EvX K C g d ρ fun ρ' => PO (.nx ρ')) : Run K C (tAsg te g) ρ PO := fun En σ H s k => h σ H _ s fun d v H' p s' _ a => p v σ H' _ s' a fun ρ' σ' p' s2 _ => k.nx _ _ _ p' s2
end
/-! ### what is walked -/
@[reducible] def Cz.hold (C : Cz) (vs : List V) (ds : List D) : Cz := { C with hv := vs ++ C.hv, hd := ds ++ C.hd }
def Walks (K : PySem.W.Frag) (J : It) (hv : List V) (hd : List D) (items : List D) : Prop := ∀ O H, AtAll K O H hv hd → (∀ i, i < items.length → J.go i H) ∧ J.stop items.length H ∧
  ∀ i x H', i < items.length → J.yld i H x H' → ∃ d, items[i]? = some d ∧ Same H H' ∧ ((∀ p, p ∈ O → H p ≠ none) → At K O H' x d)
def EvI (K : PySem.W.Frag) (C : Cz) (wi : TI) (ρ : List Sl) (P : List D → Prop) : Prop := ∀ σ H (R : It → Hp → Prop), St K C ρ σ H →
  (∀ items J H' hv hd, P items → St K C ρ σ H' → Fr (Bs C) H H' → AtAll K (Os C ρ) H' hv hd → Walks K J hv hd items → R J H') → wi σ H R
section
variable {K : PySem.W.Frag} {C : Cz} {ρ : List Sl} {P : List D → Prop} {te : TE} {ta : TA}
theorem walks_list {a : Addr} {ds : List D} : Walks K (Itl K a) [.ref a] [.lst ds] ds := fun O H h => by
  cases h with
  | cons h _ =>
    cases h with
    | lst h1 _ h3 =>
      have hl := h3.length
      refine ⟨fun i hi => ⟨_, _, SqL.of h1, List.getElem?_eq_getElem (by omega)⟩, ⟨_, SqL.of h1, by omega⟩, fun i x H' hi y => ?_⟩
      obtain ⟨rfl, y⟩ := y
      obtain ⟨d, e, a⟩ := h3.get (y _ (SqL.of h1))
      exact ⟨d, e, Same.refl _, fun _ => a⟩
theorem walks_tup {a : Addr} {ds : List D} : Walks K (Itt K a) [.ref a] [.tup ds] ds := fun O H h => by
  cases h with
  | cons h _ =>
    cases h with
    | tup h1 _ h3 =>
      have hl := h3.length
      refine ⟨fun i hi => ⟨_, _, h1, List.getElem?_eq_getElem (by omega)⟩, ⟨_, h1, by omega⟩, fun i x H' hi y => ?_⟩
      obtain ⟨rfl, y⟩ := y
      obtain ⟨d, e, a⟩ := h3.get (y _ h1)
      exact ⟨d, e, Same.refl _, fun _ => a⟩
def rngD (lo : Int) (n : Nat) : List D := (List.range n).map fun (i : Nat) => .int (lo + ((i : Nat) : Int))
theorem walks_rng {lo : Int} {n : Nat} : Walks K (Itr lo n) [] [] (rngD lo n) := fun O H h => by
  have hl : (rngD lo n).length = n := by unfold rngD; simp
  rw [hl]
  refine ⟨fun i hi => hi, Nat.le_refl _, fun i x H' hi y => ?_⟩
  obtain ⟨rfl, rfl⟩ := y
  exact ⟨.int (lo + i), by unfold rngD; simp [hi], Same.refl _, fun _ => .int _⟩
theorem evi_list (h : Ev K C te ρ fun d => asL d P) : EvI K C (iList K te) ρ P := fun σ H R s k => h σ H _ s fun d v H1 q s1 f1 a1 => by
  obtain ⟨p, xs, ds, rfl, rfl, h1, _, h3, q⟩ := at_L a1 q
  exact ⟨p, rfl, ⟨_, SqL.of h1⟩, k ds _ H1 [.ref p] [.lst ds] q s1 f1 (.one a1) walks_list⟩
theorem evi_tup (h : Ev K C te ρ fun d => asT d P) : EvI K C (iTup K te) ρ P := fun σ H R s k => h σ H _ s fun d v H1 q s1 f1 a1 => by
  obtain ⟨p, xs, ds, rfl, rfl, h1, _, h3, q⟩ := at_T a1 q
  exact ⟨p, rfl, ⟨_, h1⟩, k ds _ H1 [.ref p] [.tup ds] q s1 f1 (.one a1) walks_tup⟩
theorem evi_rng1 (h : EvA K C ta ρ fun ds => as1 ds fun d => asI d fun j => -(2 ^ 62) ≤ j ∧ j < 2 ^ 62 ∧ P (rngD 0 j.toNat)) : EvI K C (iRng1 ta) ρ P := fun σ H R s k => h σ H _ s fun ds vs H1 q s1 f1 a1 => by
  obtain ⟨v, d, rfl, a, q⟩ := all_1 a1 q
  obtain ⟨j, rfl, rfl, q⟩ := at_int a q
  exact ⟨j, rfl, q.1, q.2.1, k _ _ H1 [] [] q.2.2 s1 f1 .nil walks_rng⟩
theorem evi_rng2 (h : EvA K C ta ρ fun ds => as2 ds fun d e => asI d fun i => asI e fun j => (-(2 ^ 62) ≤ i ∧ i < 2 ^ 62 ∧ -(2 ^ 62) ≤ j ∧ j < 2 ^ 62) ∧ P (rngD i (j - i).toNat)) : EvI K C (iRng2 ta) ρ P := fun σ H R s k => h σ H _ s fun ds vs H1 q s1 f1 a1 => by
  obtain ⟨v, w, d, e, rfl, a, b, q⟩ := all_2 a1 q
  obtain ⟨i, rfl, rfl, q⟩ := at_int a q
  obtain ⟨j, rfl, rfl, q⟩ := at_int b q
  exact ⟨i, j, rfl, q.1, k _ _ H1 [] [] q.2 s1 f1 .nil walks_rng⟩
def enumD (ds : List D) : List D := (List.range ds.length).map fun (i : Nat) => .tup [.int ((i : Nat) : Int), ds.getD i .non]
theorem enumD_get {ds : List D} {i : Nat} {d : D} (h : ds[i]? = some d) : (enumD ds)[i]? = some (.tup [.int (i : Int), d]) := by
  have hi := (List.getElem?_eq_some_iff.mp h).1
  unfold enumD
  simp [hi, List.getD, h]
  have := (List.getElem?_eq_some_iff.mp h).2
  exact this
theorem enumD_len (ds : List D) : (enumD ds).length = ds.length := by unfold enumD; simp
theorem walks_enum {a : Addr} {ds : List D} : Walks K (Ite K a) [.ref a] [.lst ds] (enumD ds) := fun O H h => by
  cases h with
  | cons h _ =>
    cases h with
    | @lst _ xs _ h1 _ h3 =>
      have hl := h3.length
      have W := walk_enum (K := K) (a := a) (xs := xs)
      rw [enumD_len]
      refine ⟨fun i hi => W.goes i H (by omega) (SqL.of h1), by rw [← hl]; exact W.stops H (SqL.of h1), fun i x H' hi y => ?_⟩
      obtain ⟨T, u, z, rfl, nT, rfl, e1, e2⟩ := W.yields i H x H' (by omega) (SqL.of h1) y
      obtain ⟨d, e, a⟩ := h3.get e2
      cases e1
      exact ⟨_, enumD_get e, same_upd nT, fun lv => At.mkTup nT (fun m => lv _ m nT) (.cons (.int _) (.one a))⟩
theorem evi_enum (h : EvA K C ta ρ fun ds => as1 ds fun d => asL d fun l => P (enumD l)) : EvI K C (iEnum K ta) ρ P := fun σ H R s k => h σ H _ s fun ds vs H1 q s1 f1 a1 => by
  obtain ⟨v, d, rfl, a, q⟩ := all_1 a1 q
  obtain ⟨p, xs, ds, rfl, rfl, h1, _, h3, q⟩ := at_L a q
  exact ⟨p, _, rfl, SqL.of h1, k _ _ H1 [.ref p] [.lst ds] q s1 f1 (.one a) walks_enum⟩
def zipD (ds es : List D) : List D := List.zipWith (fun d e => .tup [d, e]) ds es
theorem zipD_get {ds es : List D} {i : Nat} {d e : D} (h : ds[i]? = some d) (g : es[i]? = some e) : (zipD ds es)[i]? = some (.tup [d, e]) := by
  unfold zipD
  rw [List.getElem?_zipWith, h, g]
theorem zipD_len (ds es : List D) : (zipD ds es).length = min ds.length es.length := by unfold zipD; exact List.length_zipWith
theorem walks_zip {a b : Addr} {ds es : List D} : Walks K (Itz K a b) [.ref a, .ref b] [.lst ds, .lst es] (zipD ds es) := fun O H h => by
  cases h with
  | cons h g =>
    cases g with
    | cons g _ =>
      cases h with
      | @lst _ xs _ h1 _ h3 =>
        cases g with
        | @lst _ ys _ g1 _ g3 =>
          have hl := h3.length
          have gl := g3.length
          have W := walk_zip (K := K) (a := a) (b := b) (xs := xs) (ys := ys) rfl
          rw [zipD_len, ← hl, ← gl]
          refine ⟨fun i hi => W.goes i H hi ⟨SqL.of h1, SqL.of g1⟩, W.stops H ⟨SqL.of h1, SqL.of g1⟩, fun i x H' hi y => ?_⟩
          obtain ⟨T, u, z, rfl, nT, rfl, e1, e2⟩ := W.yields i H x H' hi ⟨SqL.of h1, SqL.of g1⟩ y
          obtain ⟨d, e, a⟩ := h3.get e1
          obtain ⟨d2, e', a2⟩ := g3.get e2
          exact ⟨_, zipD_get e e', same_upd nT, fun lv => At.mkTup nT (fun m => lv _ m nT) (.cons a (.one a2))⟩
theorem walks_zipT {a b : Addr} {ds es : List D} : Walks K (RZ.ItzT K a b) [.ref a, .ref b] [.tup ds, .tup es] (zipD ds es) := fun O H h => by
  cases h with
  | cons h g =>
    cases g with
    | cons g _ =>
      cases h with
      | @tup _ xs _ h1 _ h3 =>
        cases g with
        | @tup _ ys _ g1 _ g3 =>
          have hl := h3.length
          have gl := g3.length
          rw [zipD_len, ← hl, ← gl]
          refine ⟨fun i hi => ⟨xs, ys, xs[i]'(by omega), ys[i]'(by omega), h1, g1, List.getElem?_eq_getElem (by omega), List.getElem?_eq_getElem (by omega)⟩, ⟨xs, ys, h1, g1, by omega⟩, fun i x H' hi y => ?_⟩
          obtain ⟨T, u, z, rfl, nT, rfl, f1, f2⟩ := y
          obtain ⟨d, e, a⟩ := h3.get (f1 _ h1)
          obtain ⟨d2, e', a2⟩ := g3.get (f2 _ g1)
          exact ⟨_, zipD_get e e', same_upd nT, fun lv => At.mkTup nT (fun m => lv _ m nT) (.cons a (.one a2))⟩
@[reducible] def asLL : D → D → (List D → List D → Prop) → Prop
  | .lst l, .lst m, k => k l m
  | .tup l, .tup m, k => k l m
  | _, _, _ => False
theorem evi_zip (h : EvA K C ta ρ fun ds => as2 ds fun d e => asLL d e fun l m => P (zipD l m)) : EvI K C (RZ.iZipA K ta) ρ P := fun σ H R s k => h σ H _ s fun ds vs H1 q s1 f1 a1 => by
  obtain ⟨v, w, d, e, rfl, a, b, q⟩ := all_2 a1 q
  cases a with
  | lst h1 n1 h3 =>
    cases b with
    | lst g1 n2 g3 => exact ⟨_, _, _, _, rfl, .inl ⟨SqL.of h1, SqL.of g1, k _ _ H1 [_, _] [_, _] q s1 f1 (.cons (.lst h1 n1 h3) (.one (.lst g1 n2 g3))) walks_zip⟩⟩
    | _ => exact q.elim
  | tup h1 n1 h3 =>
    cases b with
    | tup g1 n2 g3 => exact ⟨_, _, _, _, rfl, .inr ⟨h1, g1, k _ _ H1 [_, _] [_, _] q s1 f1 (.cons (.tup h1 n1 h3) (.one (.tup g1 n2 g3))) walks_zipT⟩⟩
    | _ => exact q.elim
  | _ => exact q.elim
end

section
variable {K : PySem.W.Frag} {C : Cz} {ρ : List Sl} {σ : L2.St} {H : Hp}
theorem St.hold (s : St K C ρ σ H) {vs : List V} {ds : List D} (a : AtAll K (Os C ρ) H vs ds) : St K (C.hold vs ds) ρ σ H := ⟨s.sl, s.nd, s.fr, s.lv, s.nO, s.fresh, s.bg, a.append s.held, s.ex, s.tb⟩
theorem AtAll.left {O : Ads} {vs ws : List V} {ds es : List D} (h : AtAll K O H (vs ++ ws) (ds ++ es)) (l : vs.length = ds.length) : AtAll K O H vs ds ∧ AtAll K O H ws es := by
  induction vs generalizing ds with
  | nil =>
    cases ds with
    | nil => exact ⟨.nil, h⟩
    | cons d ds => cases l
  | cons v vs ih =>
    cases ds with
    | nil => cases l
    | cons d ds =>
      cases h with
      | cons a b =>
        obtain ⟨h1, h2⟩ := ih b (Nat.succ.inj l)
        exact ⟨.cons a h1, h2⟩
theorem St.unhold {vs : List V} {ds : List D} (s : St K (C.hold vs ds) ρ σ H) (l : vs.length = ds.length) : St K C ρ σ H ∧ AtAll K (Os C ρ) H vs ds := by
  obtain ⟨h1, h2⟩ := AtAll.left (show AtAll K _ H (vs ++ C.hv) (ds ++ C.hd) from s.held) l
  exact ⟨⟨s.sl, s.nd, s.fr, s.lv, s.nO, s.fresh, s.bg, h2, s.ex, s.tb⟩, h1⟩
@[reducible] def loopP (I : List Sl → Prop) (P : Out → Prop) : Out → Prop
  | .nx ρ => I ρ
  | .ct ρ => I ρ
  | .bk ρ => P (.nx ρ)
  | .rt d => P (.rt d)
/-- for: I by the turn -/
theorem run_for {wi : TI} {g : TG} {tb : TS} {P : Out → Prop}
    (h : EvI K C wi ρ fun items => ∃ I : Nat → List Sl → Prop, I 0 ρ ∧ (∀ hv hd i d ρ', items[i]? = some d → I i ρ' → EvX K (C.hold hv hd) g d ρ' fun ρ2 => Run K (C.hold hv hd) tb ρ2 (loopP (I (i + 1)) P)) ∧ ∀ ρ', I items.length ρ' → P (.nx ρ')) :
    Run K C (tFor wi g tb) ρ P := fun En σ H s k => h σ H _ s fun items J H1 hv hd ⟨I, h0, hs, he⟩ s1 f1 a1 wk => by
  have hl := a1.length
  refine ⟨fun i m σ H => m = items.length - i ∧ i ≤ items.length ∧ ∃ ρ', I i ρ' ∧ St K (C.hold hv hd) ρ' σ H, ⟨_, rfl, Nat.zero_le _, ρ, h0, s1.hold a1⟩, ?_⟩
  rintro i m σ2 H2 ⟨rfl, hi, ρ', hI, s2⟩
  obtain ⟨s2', a2⟩ := s2.unhold hl
  obtain ⟨w1, w2, w3⟩ := wk _ H2 a2
  by_cases hlt : i < items.length
  · refine .inr ⟨w1 i hlt, fun σ' H' => ∃ ρ', I (i + 1) ρ' ∧ St K (C.hold hv hd) ρ' σ' H', fun σ' H' p => ⟨items.length - (i + 1), by omega, rfl, hlt, p⟩, fun x H' y => ?_⟩
    obtain ⟨d, hd2, e, a⟩ := w3 i x H' hlt y
    have s3 := s2.same e
    refine hs hv hd i d ρ' hd2 hI x σ2 H' _ s3 (a s2.lv) fun ρ2 σ3 hr s4 _ => ?_
    refine hr _ σ3 H' s4 ⟨fun ρ5 σ5 H5 p s5 => ⟨ρ5, p, s5⟩, fun d5 v5 ρ5 σ5 H5 p s5 a5 => k.rt d5 v5 ρ5 σ5 H5 p (s5.unhold hl).1 a5, fun ρ5 σ5 H5 p s5 => k.nx ρ5 σ5 H5 p (s5.unhold hl).1, fun ρ5 σ5 H5 p s5 => ⟨ρ5, p, s5⟩⟩
  · have e : i = items.length := by omega
    subst e
    exact .inl ⟨w2, k.nx ρ' σ2 H2 (he ρ' hI) s2'⟩
/-- while: I, a measure -/
theorem run_while {c : TT} {tb : TS} {P : Out → Prop} (I : List Sl → Prop) (μ : List Sl → Nat) (h0 : I ρ)
    (hs : ∀ ρ', I ρ' → EvT K C c ρ' fun b => if b = true then Run K C tb ρ' (loopP (fun ρ2 => I ρ2 ∧ μ ρ2 < μ ρ') P) else P (.nx ρ')) : Run K C (tWhile c tb) ρ P := fun En σ H s k => by
  refine ⟨fun m σ H => ∃ ρ', I ρ' ∧ m = μ ρ' ∧ St K C ρ' σ H, ⟨_, ρ, h0, rfl, s⟩, ?_⟩
  rintro m σ2 H2 ⟨ρ', hI, rfl, s2⟩
  refine hs ρ' hI σ2 H2 _ s2 fun b H3 q s3 _ => ?_
  cases b with
  | true =>
    refine ⟨fun σ' H' => ∃ ρ2, (I ρ2 ∧ μ ρ2 < μ ρ') ∧ St K C ρ2 σ' H', fun σ' H' ⟨ρ2, p, s4⟩ => ⟨_, p.2, ρ2, p.1, rfl, s4⟩, ?_⟩
    exact (show Run K C tb ρ' _ from q) _ σ2 H3 s3 ⟨fun ρ5 σ5 H5 p s5 => ⟨ρ5, p, s5⟩, k.rt, fun ρ5 σ5 H5 p s5 => k.nx ρ5 σ5 H5 p s5, fun ρ5 σ5 H5 p s5 => ⟨ρ5, p, s5⟩⟩
  | false => exact k.nx _ _ _ q s3
/-! ### comprehensions -/
def wipeR (ρ : List Sl) : List Nat → List Sl
  | [] => ρ
  | v :: vs => (wipeR ρ vs).set v .no
def nowns (ρ : List Sl) (vs : List Nat) : Bool := vs.all (nown ρ)
theorem nown_set {i j : Nat} {s : Sl} (hs : s.o = []) (h : nown ρ i = true) : nown (ρ.set j s) i = true := by
  unfold nown at *
  by_cases e : j = i
  · subst e
    by_cases hl : j < ρ.length
    · rw [List.getElem?_set_self hl]
      cases s <;> first | rfl | exact nomatch hs
    · rw [List.getElem?_eq_none (by simpa using hl)]
  · rw [List.getElem?_set_ne e]
    exact h
theorem nown_wipe {i : Nat} (h : nown ρ i = true) : ∀ vs, nown (wipeR ρ vs) i = true
  | [] => h
  | v :: vs => nown_set rfl (nown_wipe h vs)
theorem owns_wipe : ∀ {vs : List Nat}, nowns ρ vs = true → owns (wipeR ρ vs) = owns ρ
  | [], _ => rfl
  | v :: vs, h => by
    have h' : (nown ρ v && vs.all (nown ρ)) = true := h
    obtain ⟨h1, h2⟩ := Bool.and_eq_true_iff.mp h'
    show owns ((wipeR ρ vs).set v .no) = owns ρ
    rw [owns_set_eq rfl (nown_wipe h1 vs), owns_wipe (show nowns ρ vs = true from h2)]
theorem St.wipe (s : St K C ρ σ H) : ∀ vs, St K C (wipeR ρ vs) (L2.wipe σ vs) H
  | [] => s
  | v :: vs => (s.wipe vs).wipe1 v none
theorem wipe_same {σ2 : L2.St} {vs : List Nat} (hl : σ2.length = (wipe σ vs).length) (h : ∀ j, j ∉ vs → σ2[j]? = (wipe σ vs)[j]?) : wipe σ2 vs = wipe σ vs := by
  have g : ∀ (τ : L2.St) (vs : List Nat) (j : Nat), j ∈ vs → j < τ.length → (wipe τ vs)[j]? = some none := by
    intro τ vs
    induction vs with
    | nil => intro j hj; exact nomatch hj
    | cons v vs ih =>
      intro j hj hl
      show ((wipe τ vs).set v none)[j]? = _
      by_cases e : v = j
      · subst e
        rw [List.getElem?_set_self (by rw [wipe_length]; exact hl)]
      · rw [List.getElem?_set_ne e]
        rcases List.mem_cons.mp hj with z | z
        · exact absurd z.symm e
        · exact ih j z hl
  have g2 : ∀ (τ : L2.St) (vs : List Nat) (j : Nat), j ∉ vs → (wipe τ vs)[j]? = τ[j]? := by
    intro τ vs
    induction vs with
    | nil => intro j _; rfl
    | cons v vs ih =>
      intro j hj
      show ((wipe τ vs).set v none)[j]? = _
      rw [List.getElem?_set_ne fun e => hj (by rw [e]; exact List.mem_cons_self), ih j fun m => hj (List.mem_cons_of_mem _ m)]
  apply List.ext_getElem?
  intro j
  by_cases hj : j ∈ vs
  · by_cases hlt : j < σ.length
    · rw [g _ _ _ hj hlt, g _ _ _ hj (by rw [hl, wipe_length]; exact hlt)]
    · rw [List.getElem?_eq_none (by rw [wipe_length, hl, wipe_length]; omega), List.getElem?_eq_none (by rw [wipe_length]; omega)]
  · rw [g2 _ _ _ hj, h j hj]
/-- within a comprehension: D is being made -/
theorem St.inner {p : Addr} {ds : Cd} {vs : List Nat} (s : St K C (ρ ++ [.cell p ds]) (σ ++ [some (.ref p)]) H) (hv : nowns ρ vs = true) : St K { C with O0 := p :: C.O0 } (wipeR ρ vs) (L2.wipe σ vs) H := by
  have eo : owns (ρ ++ [.cell p ds]) = owns ρ ++ [p] := owns_append ρ _
  have ew := owns_wipe hv
  have s1 := s.loose.1
  have s2 := s1.wipe vs
  have nd := s.nd
  rw [eo] at nd
  have sub : ∀ a, a ∈ Os { C with O0 := p :: C.O0 } (wipeR ρ vs) → a ∈ Os C (ρ ++ [.cell p ds]) := fun a m => by
    have m' : a ∈ (p :: C.O0) ++ owns (wipeR ρ vs) := m
    show a ∈ C.O0 ++ owns (ρ ++ [.cell p ds])
    rw [eo]
    rw [ew] at m'
    rcases List.mem_append.mp m' with m' | m'
    · rcases List.mem_cons.mp m' with m' | m'
      · exact List.mem_append_right _ (List.mem_append_right _ (List.mem_singleton.mpr m'))
      · exact List.mem_append_left _ m'
    · exact List.mem_append_right _ (List.mem_append_left _ m')
  have sl : Sls K (Os { C with O0 := p :: C.O0 } (wipeR ρ vs)) H σ ρ := by
    have l0 : σ.length = ρ.length := by
      have := s.sl.length
      simpa using this
    have key : ∀ {σ' : L2.St} {ρ' : List Sl} {O : Ads}, Sls K O H (σ' ++ [some (.ref p)]) (ρ' ++ [.cell p ds]) → σ'.length = ρ'.length → Sls K O H σ' ρ' := by
      intro σ'
      induction σ' with
      | nil =>
        intro ρ' O h l
        cases ρ' with
        | nil => exact .nil
        | cons t ρ' => cases l
      | cons x σ' ih =>
        intro ρ' O h l
        cases ρ' with
        | nil => cases l
        | cons t ρ' =>
          cases h with
          | cons a b => exact .cons a (ih b (Nat.succ.inj l))
    exact (key s.sl l0).map (fun _ _ a => a.less sub) fun _ _ _ _ h a => ⟨_, h, a.less sub⟩
  have slw : ∀ vs', Sls K (Os { C with O0 := p :: C.O0 } (wipeR ρ vs)) H (L2.wipe σ vs') (wipeR ρ vs') := by
    intro vs'
    induction vs' with
    | nil => exact sl
    | cons v vs' ih => exact ih.set v (.no none)
  refine ⟨slw vs, by rw [ew]; exact s1.nd, s.fr, fun q m => s.lv q (sub q m), ⟨fun q m => List.mem_cons_of_mem _ (s.nO.1 q m), s.nO.2⟩, fun q m => ?_, fun q m => ⟨(s.bg q m).1, List.mem_cons_of_mem _ (s.bg q m).2.1, fun z => (s.bg q m).2.2 (sub _ z)⟩, s.held.less sub, fun x hx v H' f lv bg tb a => s.ex x hx v H' f (fun q m => lv q (List.mem_cons_of_mem _ m)) bg tb (a.less fun _ m => List.mem_cons_of_mem _ m), s.tb⟩
  rw [ew] at m
  refine ⟨(s1.fresh q m).1, fun z => ?_⟩
  rcases List.mem_cons.mp z with z | z
  · subst z
    exact (List.nodup_append.mp nd).2.2 q m q (List.mem_singleton.mpr rfl) rfl
  · exact (s1.fresh q m).2 z
def optP (I : List D → Prop) (ys : List D) (b : Option D) : Prop := match b with
  | some y => ys.length < sizeLine ∧ I (ys ++ [y])
  | none => I ys
/-- [e for g in wi if t]: I by the turn and by what is made so far -/
theorem evf_lc {wi : TI} {g : TG} {tt : TT} {te : TE} {vs : List Nat} {P : List D → Prop} (hv : nowns ρ vs = true)
    (h : EvI K C wi ρ fun items => ∃ I : Nat → List D → Prop, I 0 [] ∧ (∀ C' : Cz, C'.E = C.E → C'.X = C.X → C'.bags = C.bags → ∀ i d ys, items[i]? = some d → I i ys → EvG K C' g d vs (wipeR ρ vs) fun ρ2 =>
      EvT K C' tt ρ2 fun b => if b = true then Ev K C' te ρ2 fun y => ys.length < sizeLine ∧ I (i + 1) (ys ++ [y]) else I (i + 1) ys) ∧ ∀ ys, I items.length ys → P ys) :
    EvF K C (tLc wi g tt te vs) ρ P := fun σ H Q s k => h σ H _ s fun items J H1 hv' hd ⟨I, h0, hs, he⟩ s1 f1 a1 wk => by
  have hl := a1.length
  intro D nD
  have s1h := s1.hold a1
  refine ⟨fun i m H => m = items.length - i ∧ i ≤ items.length ∧ Fr (Bs C) H1 H ∧ ∃ ys, I i ys ∧ St K (C.hold hv' hd) (ρ ++ [.own D ys]) (σ ++ [some (.ref D)]) H, ⟨_, rfl, Nat.zero_le _, Fr.of (same_upd nD), [], h0, s1h.own nD .nil⟩, ?_⟩
  rintro i m H2 ⟨rfl, hi2, f2, ys, hI, s2⟩
  obtain ⟨s2', a2⟩ := s2.unhold hl
  obtain ⟨w1, w2, w3⟩ := wk _ H2 a2
  by_cases hlt : i < items.length
  · refine .inr ⟨w1 i hlt, fun H' => Fr (Bs C) H1 H' ∧ ∃ ys, I (i + 1) ys ∧ St K (C.hold hv' hd) (ρ ++ [.own D ys]) (σ ++ [some (.ref D)]) H', fun H' p => ⟨items.length - (i + 1), by omega, rfl, hlt, p⟩, fun x H' y => ?_⟩
    obtain ⟨d, hd2, e, a⟩ := w3 i x H' hlt y
    have s3 := s2.same e
    have si := s3.inner hv
    have ew := owns_wipe hv
    have eo : owns (ρ ++ [.own D ys]) = owns ρ ++ [D] := owns_append ρ _
    have eO : ∀ a, a ∈ Os { C.hold hv' hd with O0 := D :: (C.hold hv' hd).O0 } (wipeR ρ vs) → a ∈ Os (C.hold hv' hd) (ρ ++ [.own D ys]) := fun a m => by
      have m' : a ∈ (D :: C.O0) ++ owns (wipeR ρ vs) := m
      show a ∈ C.O0 ++ owns (ρ ++ [.own D ys])
      rw [eo]
      rw [ew] at m'
      rcases List.mem_append.mp m' with m' | m'
      · rcases List.mem_cons.mp m' with m' | m'
        · exact List.mem_append_right _ (List.mem_append_right _ (List.mem_singleton.mpr m'))
        · exact List.mem_append_left _ m'
      · exact List.mem_append_right _ (List.mem_append_left _ m')
    refine hs { C.hold hv' hd with O0 := D :: (C.hold hv' hd).O0 } rfl rfl rfl i d ys hd2 hI x _ H' _ si ((a s2.lv).less eO) fun ρ2 σ3 hr s4 eo2 l4 g4 => ?_
    refine ⟨wipe_same l4 g4, ?_⟩
    refine hr σ3 H' _ s4 fun b H4 q s5 f5 => ?_
    have back : ∀ {H5 : Hp}, Fr (Bs C) H' H5 → St K { C.hold hv' hd with O0 := D :: (C.hold hv' hd).O0 } ρ2 σ3 H5 → St K (C.hold hv' hd) (ρ ++ [.own D ys]) (σ ++ [some (.ref D)]) H5 := fun {H5} f s6 => by
      refine s3.bfr f s6.fr (fun p m => s6.lv p ?_) (fun q m => (s6.bg q m).1) s6.tb
      have m' : p ∈ C.O0 ++ owns (ρ ++ [.own D ys]) := m
      show p ∈ (D :: C.O0) ++ owns ρ2
      rw [eo2, ew]
      rw [eo] at m'
      rcases List.mem_append.mp m' with m' | m'
      · exact List.mem_append_left _ (List.mem_cons_of_mem _ m')
      · rcases List.mem_append.mp m' with m' | m'
        · exact List.mem_append_right _ m'
        · exact List.mem_append_left _ (by rw [List.mem_singleton.mp m']; exact List.mem_cons_self)
    cases b with
    | false => exact iteF ⟨(f2.trans (Fr.of e)).trans f5, ys, q, back f5 s5⟩
    | true =>
      refine iteT ((show Ev K _ te ρ2 _ from q) σ3 H4 _ s5 fun y v H5 q5 s6 f6 a6 => ?_)
      have s7 := back (f5.trans f6) s6
      obtain ⟨acc, e1, e2, e3⟩ := own_V (i := ρ.length) s7.sl (p := D) (ds := ys) (by rw [List.getElem?_append_right (Nat.le_refl _)]; simp)
      refine ⟨acc, e2, by rw [e3.length]; exact q5.1, ?_, ys ++ [y], q5.2, ?_⟩
      · intro b o n h
        rw [upd_ne (ne_of_none h nD)]
        exact ((f2.trans (Fr.of e)).trans (f5.trans f6)) b o n h
      · have s8 := s7.mut (i := ρ.length) (p := D) (ds := ys) (ds' := ys ++ [y]) (by rw [List.getElem?_append_right (Nat.le_refl _)]; simp) (e3.append (.one (a6.less fun a m => ?_)))
        · rw [show (ρ ++ [Sl.own D ys]).set ρ.length (Sl.own D (ys ++ [y])) = ρ ++ [Sl.own D (ys ++ [y])] by rw [List.set_append_right _ _ (Nat.le_refl _)]; simp] at s8
          exact s8
        · have m' : a ∈ C.O0 ++ owns (ρ ++ [.own D ys]) := m
          show a ∈ (D :: C.O0) ++ owns ρ2
          rw [eo2, ew]
          rw [eo] at m'
          rcases List.mem_append.mp m' with m' | m'
          · exact List.mem_append_left _ (List.mem_cons_of_mem _ m')
          · rcases List.mem_append.mp m' with m' | m'
            · exact List.mem_append_right _ m'
            · exact List.mem_append_left _ (by rw [List.mem_singleton.mp m']; exact List.mem_cons_self)
  · have e : i = items.length := by omega
    subst e
    exact .inl ⟨w2, k ys D H2 (he ys hI) s2'  (f1.trans f2)⟩
end

/-! ### defs by data -/
inductive Rs where
  | ok (d : D)
  | er (x : Ex)
/-- what a def does with data: its arguments, what is wanted of its answer -/
abbrev Sd := List (Addr × Addr) → List D → (Rs → Prop) → Prop
def spD (K : PySem.W.Frag) (S : Sd) : Sp := fun vs H Q E => ∃ (O ts : Ads) (bs : List (Addr × Addr)) (ds : List D) (Pq : Rs → Prop), AtAll K O H vs ds ∧ (∀ p, p ∈ O → H p ≠ none) ∧ (∀ q, q ∈ bs → Bag H q.1 q.2 ∧ q.1 ∈ O ∧ q.2 ∉ O) ∧ (∀ p, p ∈ ts → Tab H p) ∧ S bs ds Pq ∧
  (∀ d v H', Pq (.ok d) → Fr (bs.map (·.1)) H H' → (∀ p, p ∈ O → H' p ≠ none) → (∀ q, q ∈ bs → Bag H' q.1 q.2) → (∀ p, p ∈ ts → Tab H' p) → At K O H' v d → Q v H') ∧
  (∀ x, Pq (.er x) → ∀ v H', Fr (bs.map (·.1)) H H' → (∀ p, p ∈ O → H' p ≠ none) → (∀ q, q ∈ bs → Bag H' q.1 q.2) → (∀ p, p ∈ ts → Tab H' p) → At K O H' v x.val → Raised x.C x.fld x.code v H' E)
@[reducible] def okP (P : D → Prop) : Rs → Prop
  | .ok d => P d
  | .er _ => False
@[reducible] def exP (C : Cz) (P : D → Prop) : Rs → Prop
  | .ok d => P d
  | .er x => C.X x
/-- what stands behind a def's body -/
@[reducible] def endP (Pq : Rs → Prop) : Out → Prop
  | .rt d => Pq (.ok d)
  | .nx _ => Pq (.ok .non)
  | _ => False
@[reducible] def slots (n : Nat) (ds : List D) : List Sl := ds.map Sl.val ++ List.replicate (n - ds.length) Sl.no
theorem owns_vals (ds : List D) (n : Nat) : owns (ds.map Sl.val ++ List.replicate n Sl.no) = [] := by
  rw [owns_append]
  have h1 : owns (ds.map Sl.val) = [] := by
    induction ds with
    | nil => rfl
    | cons d ds ih => exact ih
  have h2 : owns (List.replicate n Sl.no) = [] := by
    induction n with
    | zero => rfl
    | succ n ih => exact ih
  rw [h1, h2]
  rfl
theorem sls_start {K : PySem.W.Frag} {O : Ads} {H : Hp} {vs : List V} {ds : List D} (a : AtAll K O H vs ds) (n : Nat) : Sls K O H (vs.map some ++ List.replicate n none) (ds.map Sl.val ++ List.replicate n Sl.no) := by
  induction vs generalizing ds with
  | nil =>
    cases a
    induction n with
    | zero => exact .nil
    | succ n ih => exact .cons (.no _) ih
  | cons v vs ih =>
    cases a with
    | cons a b => exact .cons (.val a) (ih b)
/-- from a promise to a run -/
theorem run_of {K : PySem.W.Frag} {S : Sd} {N : List Str} {vs : List V} {H : Hp} {Q : VK} {E : XK} {t : TS} (h : spD K S vs H Q E)
    (hr : ∀ (C : Cz) (ds : List D) (Pq : Rs → Prop), C.E = E → (∀ x, Pq (.er x) → C.X x) → S C.bags ds Pq → Run K C t (slots N.length ds) (endP Pq)) :
    t { nx := fun _ H' => Q .non H', rt := Q } (L2.start N vs) H := by
  obtain ⟨O, ts, bs, ds, Pq, a, lv, bg, ht, hS, q1, q2⟩ := h
  have hl := a.length
  have eo : owns (slots N.length ds) = [] := owns_vals ds _
  have eO : ∀ H : Hp, (∀ p, p ∈ O → H p ≠ none) → ∀ p, p ∈ O ++ owns (slots N.length ds) → H p ≠ none := fun H lv p m => by
    rw [eo, List.append_nil] at m
    exact lv p m
  refine hr ⟨O, H, bs.map (·.1), bs, [], [], E, fun x => Pq (.er x), ts⟩ ds Pq rfl (fun x h => h) hS _ _ H ?_ ?_
  · refine ⟨?_, by rw [eo]; exact List.nodup_nil, Fr.refl _ _, eO H lv, ⟨fun p m => ?_, fun q m => .inl (List.mem_map.mpr ⟨q, m, rfl⟩)⟩, fun p m => ?_, fun q m => ⟨(bg q m).1, (bg q m).2.1, ?_⟩, .nil, fun x hx v H' f lv bg tb a => q2 x hx v H' f lv bg tb a, ht⟩
    · show Sls K (O ++ owns (slots N.length ds)) H (L2.start N vs) _
      rw [eo, List.append_nil]
      unfold L2.start slots
      rw [hl]
      exact sls_start a _
    · obtain ⟨q, hq, rfl⟩ := List.mem_map.mp m
      exact (bg q hq).2.1
    · rw [eo] at m; exact nomatch m
    · show q.2 ∉ O ++ owns (slots N.length ds)
      rw [eo, List.append_nil]
      exact (bg q m).2.2
  · refine ⟨fun ρ σ H' p s => q1 .non .non H' p s.fr (fun x m => s.lv x (List.mem_append_left _ m)) (fun q m => (s.bg q m).1) s.tb .non, fun d v ρ σ H' p s a => q1 d v H' p s.fr (fun x m => s.lv x (List.mem_append_left _ m)) (fun q m => (s.bg q m).1) s.tb a, fun _ _ _ p => p.elim, fun _ _ _ p => p.elim⟩
theorem sp_len {K : PySem.W.Frag} {S : Sd} {n : Nat} (len : ∀ bs ds Pq, S bs ds Pq → ds.length = n) {vs : List V} {H : Hp} {Q : VK} {E : XK} (h : spD K S vs H Q E) : vs.length = n := by
  obtain ⟨O, ts, bs, ds, Pq, a, _, _, _, hS, _⟩ := h
  rw [a.length, len _ _ _ hS]
section
variable {P : Program} {w : World} {K : PySem.W.Frag} {mg : Str → Option Value} {base : Heap}
/-- THE RULE for a def by data; for one that may raise -/
theorem okD {x qual : Str} {st : Stmt} {f : Addr} {fd : FuncData} {N ps : List Str} {k : Nat} {S : Sd} (F : Fun K x qual st f fd) (sc : FnScope N ps (defScope st)) (len : ∀ bs ds Pq, S bs ds Pq → ds.length = ps.length)
    (hbody : ∀ (cdv : Value) (A : Around) (outer : List Env) (s : Shared) (H : Hp) (E : XK), Room k (A.deeper (envOfC qual (defScope st) s.heap.objs.size f cdv)) →
      ∃ t, PSs (cxOf CX0 P w K mg base N qual (defScope st) f cdv A outer s H E).nox (defBody st) t ∧ ∀ (C : Cz) (ds : List D) (Pq : Rs → Prop), C.E = E → (∀ x, Pq (.er x) → C.X x) → S C.bags ds Pq → Run K C t (slots N.length ds) (endP Pq)) : FnOk P w K mg base CX0 (k + 1) f fd ps (spD K S) :=
  F.ok sc (fun vs H Q E h => sp_len len h) fun cdv A outer s H vs Q E hr h => by
    obtain ⟨t, h1, h2⟩ := hbody cdv A outer s H E hr
    exact ⟨t, h1, run_of h h2⟩
theorem okDX {x qual : Str} {st : Stmt} {f : Addr} {fd : FuncData} {N ps : List Str} {k : Nat} {S : Sd} (F : Fun K x qual st f fd) (sc : FnScope N ps (defScope st)) (len : ∀ bs ds Pq, S bs ds Pq → ds.length = ps.length)
    (hbody : ∀ (cdv : Value) (A : Around) (outer : List Env) (s : Shared) (H : Hp) (E : XK), Room k (A.deeper (envOfC qual (defScope st) s.heap.objs.size f cdv)) →
      ∃ t, PSs (cxOf (L2.CX P w) P w K mg base N qual (defScope st) f cdv A outer s H E) (defBody st) t ∧ ∀ (C : Cz) (ds : List D) (Pq : Rs → Prop), C.E = E → (∀ x, Pq (.er x) → C.X x) → S C.bags ds Pq → Run K C t (slots N.length ds) (endP Pq)) : FnOk P w K mg base (L2.CX P w) (k + 1) f fd ps (spD K S) :=
  F.okX sc (fun vs H Q E h => sp_len len h) fun cdv A outer s H vs Q E hr h => by
    obtain ⟨t, h1, h2⟩ := hbody cdv A outer s H E hr
    exact ⟨t, h1, run_of h h2⟩
end
/-! ### calls -/
section
variable {K : PySem.W.Frag} {C : Cz} {ρ : List Sl} {P : D → Prop} {ta : TA} {S : Sd} {E : XK}
theorem call_core {bs : List (Addr × Addr)} (hb : ∀ q, q ∈ bs → q ∈ C.bags) {Pq : Rs → Prop} {dvs : List V} {dds : List D} (hd : ∀ O H, AtAll K O H dvs dds) (hok : ∀ d, Pq (.ok d) → P d) (hex : ∀ x, Pq (.er x) → C.X x ∧ E = C.E) (h : EvA K C ta ρ fun ds => S bs (ds ++ dds) Pq) : Ev K C (tCall (spD K S) dvs E ta) ρ P := fun σ H Q s k =>
  h σ H _ s fun ds vs H1 q s1 f1 a1 => by
    have up : ∀ {H'}, Fr (bs.map (·.1)) H1 H' → Fr (Bs C) H1 H' := fun f => f.mono fun a m => by
      obtain ⟨q, hq, rfl⟩ := List.mem_map.mp m
      exact List.mem_map.mpr ⟨q, hb q hq, rfl⟩
    have nN : ∀ a, a ∈ bs.map (·.1) → a ∈ C.O0 := fun a m => by
      obtain ⟨q, hq, rfl⟩ := List.mem_map.mp m
      exact (s1.bg q (hb q hq)).2.1
    have st : ∀ H', Fr (bs.map (·.1)) H1 H' → (∀ p, p ∈ Os C ρ → H' p ≠ none) → (∀ q, q ∈ bs → Bag H' q.1 q.2) → (∀ p, p ∈ C.tabs → Tab H' p) → Fr C.N C.H0 H' → St K C ρ σ H' := fun H' f lv bg tb fr => by
      refine s1.bfr (up f) fr lv (fun q m => ?_) tb
      by_cases z : q.1 ∈ bs.map (·.1)
      · obtain ⟨q', hq', e'⟩ := List.mem_map.mp z
        have b1 := bg q' hq'
        obtain ⟨cs, i, hh, sd, y⟩ := (s1.bg q m).1
        obtain ⟨cs', i', hh', sd', y'⟩ := (s1.bg q' (hb q' hq')).1
        have e2 : q.2 = q'.2 := by
          have := y.at_
          rw [← e', y'.at_] at this
          injection this with this
          injection this with this
          injection this with h1 h2
          injection h1 with h1
          exact h1.symm
        rw [← e', e2]
        exact b1
      · obtain ⟨cs, i, hh, sd, y⟩ := (s1.bg q m).1
        by_cases z2 : q.2 ∈ bs.map (·.1)
        · exact absurd (List.mem_append_left _ (nN _ z2)) (s1.bg q m).2.2
        · exact ⟨cs, i, hh, sd, f _ _ z y.at_ (fun _ z => nomatch z), f _ _ z2 y.cells (fun _ z => nomatch z), y.ne, y.len, y.i0, y.h0, y.s0, y.s1⟩
    have frN : ∀ H', Fr (bs.map (·.1)) H1 H' → Fr C.N C.H0 H' := fun H' f b o n h0 nt => by
      have h1 := s1.fr b o n h0 nt
      by_cases z : b ∈ bs.map (·.1)
      · obtain ⟨q, hq, rfl⟩ := List.mem_map.mp z
        rcases s1.nO.2 q (hb q hq) with z2 | z2
        · exact absurd z2 n
        · rw [z2] at h0; cases h0
      · exact f b o z h1 nt
    refine ⟨Os C ρ, C.tabs, bs, ds ++ dds, Pq, a1.append (hd _ _), s1.lv, fun q m => s1.bg q (hb q m) |> fun ⟨h1, h2, h3⟩ => ⟨h1, List.mem_append_left _ h2, h3⟩, s1.tb, q, fun d v H' p f lv bg tb a => ?_, fun x p v H' f lv bg tb a => ?_⟩
    · exact k d v H' (hok d p) (st H' f lv bg tb (frN H' f)) (f1.trans (up f)) a
    · obtain ⟨h1, h2⟩ := hex x p
      rw [h2]
      exact s1.ex x h1 v H' (frN H' f) (fun p m => lv p (List.mem_append_left _ m)) (fun q m => ((st H' f lv bg tb (frN H' f)).bg q m).1) tb (a.less fun _ m => List.mem_append_left _ m)
theorem ev_call (h : EvA K C ta ρ fun ds => S [] ds (okP P)) : Ev K C (tCall (spD K S) [] E ta) ρ P :=
  call_core (bs := []) (dds := []) (fun _ m => nomatch m) (fun _ _ => .nil) (fun _ p => p) (fun _ p => False.elim p) (by simpa using h)
theorem ev_callB (h : EvA K C ta ρ fun ds => S C.bags ds (okP P)) : Ev K C (tCall (spD K S) [] E ta) ρ P :=
  call_core (bs := C.bags) (dds := []) (fun _ m => m) (fun _ _ => .nil) (fun _ p => p) (fun _ p => False.elim p) (by simpa using h)
theorem ev_callC {bs : List (Addr × Addr)} (e : C.bags = bs) (h : EvA K C ta ρ fun ds => S bs ds (okP P)) : Ev K C (tCall (spD K S) [] E ta) ρ P := by
  subst e
  exact ev_callB h
theorem ev_callX (he : E = C.E) (h : EvA K C ta ρ fun ds => S [] ds (exP C P)) : Ev K C (tCall (spD K S) [] E ta) ρ P :=
  call_core (bs := []) (dds := []) (fun _ m => nomatch m) (fun _ _ => .nil) (fun _ p => p) (fun _ p => ⟨p, he⟩) (by simpa using h)
end
/-! ### a dict of the module -/
section
variable {K : PySem.W.Frag} {C : Cz} {ρ : List Sl} {P : D → Prop} {te : TE} {w : World}
/-- v as data, whatever the heap -/
def KAt (K : PySem.W.Frag) (v : V) (d : D) : Prop := ∀ O H, At K O H v d
theorem ev_kget {a : Addr} (h : Ev K C te ρ fun d => asS d fun z => (∃ v e, KDct K w a z v ∧ KAt K v e ∧ P e) ∨ (KMiss K w a z ∧ P .non)) : Ev K C (tKGet K w a te) ρ P := fun σ H Q s k => h σ H _ s fun d v H1 q s1 f1 a1 => by
  obtain ⟨z, rfl, rfl, q⟩ := at_str a1 q
  refine ⟨z, rfl, ?_⟩
  rcases q with ⟨v, e, h1, h2, q⟩ | ⟨h1, q⟩
  · exact .inl ⟨v, h1, k _ _ _ q s1 f1 (h2 _ _)⟩
  · exact .inr ⟨h1, k _ _ _ q s1 f1 .non⟩
instance opd_ixD : OpD K (rIxD K w) (fun d e P => asV d fun x => asS e fun z => ∃ p, x = .ref p ∧ ∃ v u, KDct K w p z v ∧ KAt K v u ∧ P u) := ⟨fun O H x y d e Q P a b h _ q => by
  have h1 := at_V a h
  obtain ⟨z, rfl, rfl, p, rfl, v, u, h2, h3, h4⟩ := at_str b h1
  exact ⟨p, z, v, rfl, rfl, h2, q _ _ _ h4 (Same.refl H) (h3 _ _)⟩⟩
end

/-! ### errors are made -/
def sp_pe (K : PySem.W.Frag) : Sp := fun vs H Q _ => ∃ (a C : Addr) (z : Str), vs = [.ref a, .str z] ∧ OexC K C ∧ PySem.W.findIn K (.ref C) "code" = some none ∧ H a = some (exo a C none) ∧ ∀ dx, H dx = none → dx ≠ a → Q .non (upd (upd H dx (exd dx [("code", .str z)])) a (exo a C (some dx)))
def sp_x1 (K : PySem.W.Frag) (C : Addr) (fld z : Str) : Sp := fun vs H Q _ => ∃ (a : Addr) (v : V), vs = [.ref a, v] ∧ H a = some (exo a C none) ∧ ∀ dx H', H dx = none → dx ≠ a → H' a = some (exo a C (some dx)) → H' dx = some (exd dx [(fld, v), ("code", .str z)]) → (∀ b, b ≠ a → b ≠ dx → H' b = H b) → Q .non H'
theorem mk_x1 {K : PySem.W.Frag} {C : Addr} {fld z : Str} {H1 : Hp} {v : V} {W : Option Addr → Hp → Prop} (h : ∀ d, H1 d = none → W (some d) (upd H1 d (.xd [(fld, v), ("code", .str z)]))) :
    ∀ a, H1 a = none → sp_x1 K C fld z (.ref a :: ([v] ++ [])) (upd H1 a (exo a C none)) (fun y H2 => y = .non ∧ ∃ (d : Addr) (fs : List (Str × V)), H2 a = some (exo a C (some d)) ∧ H2 d = some (exd d fs) ∧ H1 d = none ∧ W (some d) (upd (del H2 a) d (.xd fs))) (fun _ _ _ => False) := by
  intro a na
  refine ⟨a, v, rfl, upd_same, fun dx H' n ne e1 e2 e3 => ⟨rfl, dx, _, e1, e2, by rwa [upd_ne ne] at n, ?_⟩⟩
  have e : upd (del H' a) dx (.xd [(fld, v), ("code", .str z)]) = upd H1 dx (.xd [(fld, v), ("code", .str z)]) := by
    funext b
    by_cases h1 : b = dx
    · rw [h1, upd_same, upd_same]
    · rw [upd_ne h1, upd_ne h1]
      by_cases h2 : b = a
      · rw [h2, del_same, na]
      · rw [del_ne h2, e3 b h2 h1, upd_ne h2]
  rw [e]
  exact h dx (by rwa [upd_ne ne] at n)
section
variable {K : PySem.W.Frag} {C : Cz} {ρ : List Sl} {P : D → Prop} {te tl th : TE} {ta : TA}
theorem run_raise {PO : Out → Prop} {E : XK} {Ce : Addr} {fld z : Str} (he : C.E = E) (h : EvA K C ta ρ fun ds => as1 ds fun d => C.X ⟨Ce, fld, z, d⟩) : Run K C (fun _ σ H => tMkO Ce (sp_x1 K Ce fld z) [] ta σ H fun cls d H' => E cls d H') ρ PO := fun En σ H s k => h σ H _ s fun ds vs H1 q s1 f1 a1 => by
  obtain ⟨v, d, rfl, a, q⟩ := all_1 a1 q
  refine ⟨by show (1 : Nat) ≤ 1000; decide, ?_⟩
  have r := s1.ex _ q v H1 s1.fr (fun p m => s1.lv p (List.mem_append_left _ m)) (fun q m => (s1.bg q m).1) s1.tb (a.less fun _ m => List.mem_append_left _ m)
  rw [he] at r
  exact mk_x1 (W := fun d H' => E (.ref Ce) d H') r
/-! ### isinstance of built-in kinds -/
inductive Ty6 where
  | list | tuple | dict | bool | int | str
def Ty6.nm : Ty6 → String
  | .list => "list" | .tuple => "tuple" | .dict => "dict" | .bool => "bool" | .int => "int" | .str => "str"
@[reducible] def isi : D → Ty6 → Bool
  | .lst _, .list => true
  | .tup _, .tuple => true
  | .bl _, .bool => true
  | .bl _, .int => true
  | .int _, .int => true
  | .str _, .str => true
  | _, _ => false
@[reducible] def isiOk : D → Bool
  | .ins _ _ => false
  | .oth _ => false
  | .fn _ => false
  | .any => false
  | _ => true
def kits : List (String × Ty6 × Bool) := [("list", .list, true), ("list", .tuple, false)]
def tIsi (K : PySem.W.Frag) (T : Ty6) (te : TE) : TE := tCB (rIsi K) (tCons te (tCons (tC (.ty T.nm)) tNil))
theorem kb_non (T : Ty6) : kitB "NoneType" T.nm = some false := by cases T <;> decide +kernel
theorem kb_bl (T : Ty6) : kitB "bool" T.nm = some (isi (.bl true) T) := by cases T <;> decide +kernel
theorem kb_int (T : Ty6) : kitB "int" T.nm = some (isi (.int 0) T) := by cases T <;> decide +kernel
theorem kb_str (T : Ty6) : kitB "str" T.nm = some (isi (.str "") T) := by cases T <;> decide +kernel
theorem kb_tup (T : Ty6) : kitB "tuple" T.nm = some (isi (.tup []) T) := by cases T <;> decide +kernel
theorem kb_lst (T : Ty6) : kitB "list" T.nm = some (isi (.lst []) T) := by cases T <;> decide +kernel
theorem ev_isi {T : Ty6} (h : Ev K C te ρ fun d => isiOk d = true ∧ P (.bl (isi d T))) : Ev K C (tIsi K T te) ρ P := fun σ H Q s k => h σ H _ s fun d v H1 q s1 f1 a1 => by
  have fin : ∀ {b : Bool}, P (.bl b) → Q (.bl b) H1 := fun {b} p => k _ _ _ p s1 f1 (.bl b)
  cases a1 with
  | non => exact ⟨_, _, _, _, _, rfl, .ty _, .base .non, kit_ty (kb_non T), fin (by have := q.2; cases T <;> exact this)⟩
  | bl b => exact ⟨_, _, _, _, _, rfl, .ty _, .base (.bl b), kit_ty (kb_bl T), fin (by have := q.2; cases T <;> exact this)⟩
  | int b => exact ⟨_, _, _, _, _, rfl, .ty _, .base (.int b), kit_ty (kb_int T), fin (by have := q.2; cases T <;> exact this)⟩
  | str b => exact ⟨_, _, _, _, _, rfl, .ty _, .base (.str b), kit_ty (kb_str T), fin (by have := q.2; cases T <;> exact this)⟩
  | tup h1 _ _ => exact ⟨_, _, _, _, _, rfl, .ty _, tyT h1, kit_ty (kb_tup T), fin (by have := q.2; cases T <;> exact this)⟩
  | lst h1 _ _ => exact ⟨_, _, _, _, _, rfl, .ty _, tyL (SqL.of h1), kit_ty (kb_lst T), fin (by have := q.2; cases T <;> exact this)⟩
  | _ => exact nomatch q.1
/-! ### slices -/
def cutD (xs : List D) (lo hi : Option Int) : List D := (xs.drop (HT.sIx xs.length 0 lo)).take (HT.sIx xs.length xs.length hi - HT.sIx xs.length 0 lo)
theorem AtAll.cut {O : Ads} {H : Hp} {xs : List V} {ds : List D} (h : AtAll K O H xs ds) (lo hi : Option Int) : AtAll K O H (cutV xs lo hi) (cutD ds lo hi) := by
  unfold cutV cutD
  rw [h.length]
  exact (h.drop _).take _
theorem cutD_tail (x : D) (xs : List D) : cutD (x :: xs) (some 1) none = xs := by
  unfold cutD
  have e : HT.sIx (x :: xs).length 0 (some 1) = 1 := by
    have h := HT.sIx_nat (x :: xs).length 0 1
    rw [show ((1 : Nat) : Int) = 1 from rfl] at h
    rw [h, List.length_cons]
    omega
  rw [e, HT.sIx_none]
  show List.take ((x :: xs).length - 1) xs = xs
  rw [List.length_cons, Nat.add_sub_cancel]
  exact List.take_length
def EvO (K : PySem.W.Frag) (C : Cz) (to : TO) (ρ : List Sl) (P : Option Int → Prop) : Prop := ∀ σ H (Q : Option Int → Hp → Prop), St K C ρ σ H → (∀ z H', P z → St K C ρ σ H' → Fr (Bs C) H H' → Q z H') → to σ H Q
variable {PO : Option Int → Prop} {tol toh : TO}
theorem evo_none (p : PO none) : EvO K C tNoPart ρ PO := fun σ H Q s k => k _ _ p s (Fr.refl _ _)
theorem evo_some (h : Ev K C te ρ fun d => asI d fun i => PO (some i)) : EvO K C (tPart te) ρ PO := fun σ H Q s k => h σ H _ s fun d v H1 q s1 f1 a1 => by
  obtain ⟨i, rfl, rfl, q⟩ := at_int a1 q
  exact ⟨i, rfl, k _ _ q s1 f1⟩
class SlD (K : PySem.W.Frag) (r : V → Option Int → Option Int → Hp → VK → Prop) (f : outParam (D → Option Int → Option Int → (D → Prop) → Prop)) : Prop where
  op : ∀ O H x d lo hi (Q : VK) P, At K O H x d → f d lo hi P → (∀ p, p ∈ O → H p ≠ none) → (∀ d' v H', P d' → Same H H' → At K O H' v d' → Q v H') → r x lo hi H Q
theorem ev_sl {r : V → Option Int → Option Int → Hp → VK → Prop} {f : D → Option Int → Option Int → (D → Prop) → Prop} [o : SlD K r f] (h : Ev K C te ρ fun d => EvO K C tol ρ fun lo => EvO K C toh ρ fun hi => f d lo hi P) : Ev K C (tSl r te tol toh) ρ P := fun σ H Q s k =>
  h σ H _ s fun d v H1 q s1 f1 a1 => q σ H1 _ s1 fun lo H2 q2 s2 f2 => q2 σ H2 _ s2 fun hi H3 q3 s3 f3 => o.op (Os C ρ) H3 v d lo hi _ P ((a1.fr (s.up f2)).fr (s.up f3)) q3 s3.lv fun d' v' H' p e3 a3 => k _ _ _ p (s3.same e3) (((f1.trans f2).trans f3).trans (Fr.of e3)) a3
instance sld_str : SlD K rSlS (fun d lo hi P => asS d fun z => z.length ≤ sizeLine ∧ P (.str (cutS z lo hi))) := ⟨fun O H x d lo hi Q P a h _ q => by
  obtain ⟨z, rfl, rfl, h⟩ := at_str a h
  exact ⟨z, rfl, h.1, q _ _ _ h.2 (Same.refl H) (.str _)⟩⟩
instance sld_lst : SlD K (rSlL K) (fun d lo hi P => asL d fun l => P (.lst (cutD l lo hi))) := ⟨fun O H x d lo hi Q P a h lv q => by
  obtain ⟨p, xs, ds, rfl, rfl, h1, _, h3, h⟩ := at_L a h
  exact ⟨p, xs, rfl, SqL.of h1, fun c nc => q _ _ _ h (same_upd nc) (.lst upd_same (fun m => lv c m nc) ((h3.cut lo hi).fr (.of (same_upd nc))))⟩⟩
instance sld_tup : SlD K (rSlT K) (fun d lo hi P => asT d fun l => ¬ (HT.sIx l.length 0 lo = 0 ∧ HT.sIx l.length l.length hi = l.length) ∧ P (.tup (cutD l lo hi))) := ⟨fun O H x d lo hi Q P a h lv q => by
  obtain ⟨p, xs, ds, rfl, rfl, h1, _, h3, h⟩ := at_T a h
  exact ⟨p, xs, rfl, h1, by rw [h3.length]; exact h.1, fun c nc => q _ _ _ h.2 (same_upd nc) (At.mkTup nc (fun m => lv c m nc) (h3.cut lo hi))⟩⟩
theorem cut1_ok {x : D} {l : List D} : ¬ (HT.sIx (x :: l).length 0 (some 1) = 0 ∧ HT.sIx (x :: l).length (x :: l).length none = (x :: l).length) := by
  rintro ⟨h1, _⟩
  have h := HT.sIx_nat (x :: l).length 0 1
  rw [show ((1 : Nat) : Int) = 1 from rfl, h1, List.length_cons] at h
  omega
/-! ### texts -/
class MtD (K : PySem.W.Frag) (r : RM) (f : outParam (Str → D → (D → Prop) → Prop)) : Prop where
  op : ∀ O H z y e (Q : VK) P, At K O H y e → f z e P → (∀ p, p ∈ O → H p ≠ none) → (∀ d' v H', P d' → Same H H' → At K O H' v d' → Q v H') → r (.str z) [y] H Q
theorem ev_m1 {r : RM} {f : Str → D → (D → Prop) → Prop} [o : MtD K r f] (h : Ev K C te ρ fun d => asS d fun z => Ev K C tl ρ fun e => f z e P) : Ev K C (tM1 r te tl) ρ P := fun σ H Q s k => h σ H _ s fun d v H1 q s1 f1 a1 => by
  obtain ⟨z, rfl, rfl, q⟩ := at_str a1 q
  exact ⟨⟨z, rfl⟩, q σ H1 _ s1 fun e w H2 q2 s2 f2 a2 => o.op (Os C ρ) H2 z w e _ P a2 q2 s2.lv fun d' v' H' p e3 a3 => k _ _ _ p (s2.same e3) ((f1.trans f2).trans (Fr.of e3)) a3⟩
instance mtd_starts : MtD K rStarts (fun z e P => asS e fun y => P (.bl (Txt.startswith z y))) := ⟨fun O H z y e Q P a h _ q => by
  obtain ⟨y, rfl, rfl, h⟩ := at_str a h
  exact ⟨z, y, rfl, rfl, q _ _ _ h (Same.refl H) (.bl _)⟩⟩
instance mtd_ends : MtD K rEnds (fun z e P => asS e fun y => P (.bl (Txt.endswith z y))) := ⟨fun O H z y e Q P a h _ q => by
  obtain ⟨y, rfl, rfl, h⟩ := at_str a h
  exact ⟨z, y, rfl, rfl, q _ _ _ h (Same.refl H) (.bl _)⟩⟩
theorem AtAll.strs {O : Ads} {H : Hp} : ∀ ys : List Str, AtAll K O H (ys.map V.str) (ys.map D.str)
  | [] => .nil
  | y :: ys => .cons (.str y) (AtAll.strs ys)
theorem AtAll.ints {O : Ads} {H : Hp} : ∀ ys : List Int, AtAll K O H (ys.map V.int) (ys.map D.int)
  | [] => .nil
  | y :: ys => .cons (.int y) (AtAll.ints ys)
instance mtd_split : MtD K rSplitS (fun z e P => asS e fun y => (y.length == 0) = false ∧ z.length + 2 ≤ sizeLine ∧ P (.lst ((Txt.split z y).map D.str))) := ⟨fun O H z y e Q P a h lv q => by
  obtain ⟨y, rfl, rfl, h⟩ := at_str a h
  exact ⟨z, y, rfl, rfl, h.1, h.2.1, fun p n => q _ _ _ h.2.2 (same_upd n) (.lst upd_same (fun m => lv p m n) (AtAll.strs _))⟩⟩
instance mtd_join : MtD K (rJoinS K) (fun z e P => asQ e fun l => asSs l fun ys => (ys.map (·.length)).sum + ys.length * z.length ≤ 16777216 ∧ P (.str (Txt.join z ys))) := ⟨fun O H z y e Q P a h lv q => by
  obtain ⟨p, xs, l, rfl, h1, h3, h⟩ := at_Q a h
  obtain ⟨ys, rfl, rfl, g⟩ := all_strs h3 h
  exact ⟨z, p, ys, rfl, rfl, h1, g.1, q _ _ _ g.2 (Same.refl H) (.str _)⟩⟩
/-- sep.join of one's own list -/
theorem ev_joinO {p : Addr} {ds : List D} {i : Nat} (e : ρ[i]? = some (.own p ds)) (h : Ev K C te ρ fun d => asS d fun z => asSs ds fun ys => (ys.map (·.length)).sum + ys.length * z.length ≤ 16777216 ∧ P (.str (Txt.join z ys))) : Ev K C (tM1 (rJoinS K) te (tVar i)) ρ P := fun σ H Q s k => h σ H _ s fun d v H1 q s1 f1 a1 => by
  obtain ⟨z, rfl, rfl, q⟩ := at_str a1 q
  obtain ⟨vs, e1, h0, a⟩ := own_V s1.sl e
  obtain ⟨ys, rfl, rfl, g⟩ := all_strs a q
  exact ⟨⟨z, rfl⟩, _, e1, z, p, ys, rfl, rfl, .inl (SqL.of h0), g.1, k _ _ _ g.2 s1 f1 (.str _)⟩
/-- f-strings -/
theorem ev_fmt (h : Ev K C te ρ fun d => match d with
    | .str y => y.length ≤ sizeLine ∧ P (.str y)
    | .int i => i.natAbs.log2 < 1920 ∧ P (.str (Str.ofString (toString i)))
    | _ => False) : Ev K C (tFmt te) ρ P := fun σ H Q s k => h σ H _ s fun d v H1 q s1 f1 a1 => by
  cases a1 with
  | str y => exact .inl ⟨y, rfl, q.1, k _ _ _ q.2 s1 f1 (.str _)⟩
  | int i => exact .inr ⟨i, rfl, q.1, k _ _ _ q.2 s1 f1 (.str _)⟩
  | _ => exact q.elim
def EvJ (K : PySem.W.Frag) (C : Cz) (ts : List TE) (acc : Str) (ρ : List Sl) (P : Str → Prop) : Prop := ∀ σ H (Q : Str → Hp → Prop), St K C ρ σ H → (∀ z H', P z → St K C ρ σ H' → Fr (Bs C) H H' → Q z H') → tJs ts acc σ H Q
theorem evj_nil {acc : Str} {PS : Str → Prop} (p : PS acc) : EvJ K C [] acc ρ PS := fun σ H Q s k => k _ _ p s (Fr.refl _ _)
theorem evj_cons {acc : Str} {ts : List TE} {PS : Str → Prop} (h : Ev K C te ρ fun d => asS d fun y => (acc ++ y).length ≤ sizeLine ∧ EvJ K C ts (acc ++ y) ρ PS) : EvJ K C (te :: ts) acc ρ PS := fun σ H Q s k => h σ H _ s fun d v H1 q s1 f1 a1 => by
  obtain ⟨y, rfl, rfl, q⟩ := at_str a1 q
  exact ⟨y, rfl, q.1, q.2 σ H1 _ s1 fun z H2 p s2 f2 => k _ _ p s2 (f1.trans f2)⟩
def tJoin (ts : List TE) : TE := fun σ H Q => tJs ts Str.empty σ H fun out H1 => Q (.str out) H1
theorem ev_join {ts : List TE} (h : EvJ K C ts Str.empty ρ fun z => P (.str z)) : Ev K C (tJoin ts) ρ P := fun σ H Q s k => h σ H _ s fun z H1 p s1 f1 => k _ _ _ p s1 f1 (.str _)
end
section
variable {K : PySem.W.Frag} {C : Cz} {ρ : List Sl} {P : D → Prop} {te : TE}
/-- [e for g in wi], each item by f -/
theorem ev_lcm (f : D → D) {wi : TI} {g : TG} {tt : TT} {vs : List Nat} (hv : nowns ρ vs = true)
    (h : EvI K C wi ρ fun items => items.length ≤ 100000 ∧ (∀ C' : Cz, C'.E = C.E → C'.X = C.X → C'.bags = C.bags → ∀ (i : Nat) (d : D), items[i]? = some d → EvG K C' g d vs (wipeR ρ vs) fun ρ2 => EvT K C' tt ρ2 fun b => b = true ∧ Ev K C' te ρ2 fun y => y = f d) ∧ P (.lst (items.map f))) : Ev K C (tLc wi g tt te vs) ρ P := by
  refine ev_f (evf_lc hv fun σ H R s k => h σ H R s fun items J H' hv' hd q s1 f1 a1 w => k items J H' hv' hd ?_ s1 f1 a1 w)
  obtain ⟨q1, q2, q3⟩ := q
  refine ⟨fun i ys => ys = (items.take i).map f, rfl, fun C' e1 e2 e3 i d ys hi hI => ?_, fun ys hI => ?_⟩
  · intro v σ H Q s a k
    refine q2 C' e1 e2 e3 i d hi v σ H Q s a fun ρ' σ' p => k ρ' σ' fun σ2 H2 Q2 s2 k2 => p σ2 H2 Q2 s2 fun b H3 pb s3 f3 => k2 b H3 ?_ s3 f3
    have hlt := (List.getElem?_eq_some_iff.mp hi).1
    have e : (items.take (i + 1)).map f = (items.take i).map f ++ [f d] := by rw [List.take_add_one, hi, List.map_append]; rfl
    dsimp only
    rw [if_pos pb.1]
    refine ev_mono pb.2 fun y hy => ⟨?_, ?_⟩
    · rw [hI, List.length_map, List.length_take]
      exact Nat.lt_of_lt_of_le (show min i items.length < 200000 by omega) (by decide)
    · rw [hI, hy, e]
  · rw [hI, List.take_length]
    exact q3
instance cbf_sorted : CbF K (rSorted K) (fun ds P => as1 ds fun d => asL d fun l => asIs l fun ns => ns.length < 64 ∧ ∀ ns' : List Int, ns'.Perm ns → ns'.Pairwise (· ≤ ·) → P (ns'.map D.int)) := ⟨fun O H vs ds Q P a h q => by
  obtain ⟨v, d, rfl, a, h⟩ := all_1 a h
  obtain ⟨p, xs, l, rfl, rfl, h1, _, h3, h⟩ := at_L a h
  obtain ⟨ns, rfl, rfl, g⟩ := all_ints h3 h
  exact ⟨p, ns, rfl, SqL.of h1, g.1, fun ns' c hp hs nc => q _ _ _ (g.2 ns' hp hs) nc (AtAll.ints ns')⟩⟩
end
theorem k_sorted {X : Cx} {K : PySem.W.Frag} (h : X.K = K := by rfl) : CallR X (.builtin "sorted") (rSorted K) := h ▸ cr_sorted
theorem k_joined {X : Cx} {v1 v2 : Expr} {rest : List Expr} {ts : List TE} {pos : Pos} (h : PJ X (v1 :: v2 :: rest) ts) : PE X (.JoinedStr (v1 :: v2 :: rest) pos) (tJoin ts) := pe_joined h
theorem k_isi6 {X : Cx} {K : PySem.W.Frag} (T : Ty6) {e c : Expr} {te : TE} {p pos : Pos} (he : PE X e te) (hc : PE X c (tC (.ty T.nm))) (hg : Gl X "isinstance") (hm : X.mg "isinstance" = none) (h : X.K = K := by rfl)
    (h1 : starEach (e :: [c]) X.env = (false, eval e X.env) :: starEach [c] X.env := by rfl) (h2 : (backTo pos (starEach [c] X.env)).any (·.1) = false := by rfl) (hs2 : starEach (c :: []) X.env = (false, eval c X.env) :: starEach [] X.env := by rfl) : PE X (.Call (.Name "isinstance" p) [e, c] [] pos) (tIsi K T te) :=
  pe_callB (k_isi h) hg hm boot_isinstance (pa_cons he (pa_cons hc pa_nil (hs := hs2)) (hs := h1)) (he := h1) (hpl := h2)
/-! ### a def chosen by a table -/
theorem FnOk.weak {P : Program} {w : World} {K : PySem.W.Frag} {mg : Str → Option Value} {base : Heap} {CX : CXT} {k : Nat} {f : Addr} {fd : FuncData} {ps : List Str} {sp sp' : Sp} (F : FnOk P w K mg base CX k f fd ps sp) (h : ∀ vs H Q E, sp' vs H Q E → sp vs H Q E) : FnOk P w K mg base CX k f fd ps sp' :=
  ⟨fun vs H Q E q => F.len vs H Q E (h _ _ _ _ q), fun A outer s H args us vs Q E hr e0 hb hv q => F.run A outer s H args us vs Q E hr e0 hb hv (h _ _ _ _ q)⟩
theorem FnOk.lift {P : Program} {w : World} {K : PySem.W.Frag} {mg : Str → Option Value} {base : Heap} {k : Nat} {f : Addr} {fd : FuncData} {ps : List Str} {sp : Sp} (F : FnOk P w K mg base CX0 k f fd ps sp) : FnOk P w K mg base (L2.CX P w) k f fd ps sp :=
  ⟨F.len, fun A outer s H args us vs Q E hr e0 hb hv h => codeAny_mono (F.run A outer s H args us vs Q E hr e0 hb hv h) fun r s' q => by
    cases r with
    | error e => exact (show False from q).elim
    | ok fl => cases fl <;> exact q⟩
theorem FnOk.up {P : Program} {w : World} {K : PySem.W.Frag} {mg : Str → Option Value} {base : Heap} {CX : CXT} {k k' : Nat} {f : Addr} {fd : FuncData} {ps : List Str} {sp : Sp} (F : FnOk P w K mg base CX k f fd ps sp) (h : k ≤ k') : FnOk P w K mg base CX k' f fd ps sp :=
  ⟨F.len, fun A outer s H args us vs Q E hr e0 hb hv q => F.run A outer s H args us vs Q E (hr.mono h) e0 hb hv q⟩
theorem spD_mono {K : PySem.W.Frag} {S S' : Sd} (h : ∀ bs ds Pq, S' bs ds Pq → S bs ds Pq) {vs : List V} {H : Hp} {Q : VK} {E : XK} (q : spD K S' vs H Q E) : spD K S vs H Q E := by
  obtain ⟨O, ts, bs, ds, Pq, a, lv, bg, tb, hS, q1, q2⟩ := q
  exact ⟨O, ts, bs, ds, Pq, a, lv, bg, tb, h _ _ _ hS, q1, q2⟩
def tCallT {ι : Type} (K : PySem.W.Frag) (i : Nat) (adr : ι → Addr) (S : ι → Sd) (E : XK) (t : TA) : TE := fun σ H Q => ∃ x, σ[i]? = some (some (.ref (adr x))) ∧ t σ H fun vs H1 => spD K (S x) (vs ++ []) H1 Q E
theorem pe_callT {ι : Type} {X : Cx} {K : PySem.W.Frag} {CX : CXT} {k i : Nat} {x : Str} {p pos : Pos} {e : Expr} {es : List Expr} {t : TA} {E : XK} {adr : ι → Addr} {S : ι → Sd} (F : ∀ y, ∃ fd ps, FnOk X.prog X.w X.K X.mg X.base CX k (adr y) fd ps (spD K (S y)) ∧ PySem.W.keepIn X.K (.ref (adr y)) = true ∧ Binds X.K fd ps []) (hr : Room k X.A) (hN : X.N[i]? = some x) (hv : Vis X.env.scope x) (hx : Passes CX X E) (ha : PA X (e :: es) t)
    (hdb : (x == ("__debug__" : Str)) = false := by decide) (hcd : (x == ("__classdict__" : Str)) = false := by decide)
    (he : starEach (e :: es) X.env = (false, eval e X.env) :: starEach es X.env := by rfl) (hpl : (backTo pos (starEach es X.env)).any (·.1) = false := by rfl) : PE X (.Call (.Name x p) (e :: es) [] pos) (tCallT K i adr S E t) := by
  refine ⟨fun pins s σ H Q I h => ?_⟩
  obtain ⟨y, hs, ht⟩ := h
  obtain ⟨fd, ps, F1, hk, hb⟩ := F y
  exact (pe_callL (i := i) (f := adr y) (sp := spD K (S y)) (dvs := []) (E := E) F1 hr hN hv hk hb .nil hx ha hdb hcd he hpl).run pins s σ H Q I ⟨hs, ht⟩
section
variable {K : PySem.W.Frag} {C : Cz} {ρ : List Sl} {P : D → Prop} {ta : TA} {E : XK}
theorem ev_callT {ι : Type} {i : Nat} {adr : ι → Addr} {S : ι → Sd} (y : ι) (he : E = C.E) (e : ρ[i]? = some (.val (.oth (.ref (adr y))))) (h : EvA K C ta ρ fun ds => S y [] ds (exP C P)) : Ev K C (tCallT K i adr S E ta) ρ P := fun σ H Q s k => by
  obtain ⟨x, e1, a⟩ := s.sl.get e
  cases a with
  | val a =>
    cases a
    exact ⟨y, e1, ev_callX (S := S y) he h σ H Q s k⟩
end

/-! ### less is known of the slots -/
def Wk : List Sl → List Sl → Prop
  | [], [] => True
  | s :: ρ, s' :: ρ' => (s' = s ∨ (s' = .no ∧ s.o = [])) ∧ Wk ρ ρ'
  | _, _ => False
theorem Wk.refl : ∀ ρ, Wk ρ ρ
  | [] => True.intro
  | _ :: ρ => ⟨.inl rfl, Wk.refl ρ⟩
theorem Wk.owns_eq : ∀ {ρ ρ' : List Sl}, Wk ρ ρ' → owns ρ = owns ρ'
  | [], [], _ => rfl
  | s :: ρ, s' :: ρ', h => by
    show s.o ++ owns ρ = s'.o ++ owns ρ'
    rw [Wk.owns_eq h.2]
    rcases h.1 with rfl | ⟨rfl, e⟩
    · rfl
    · rw [e]; rfl
  | [], _ :: _, h => h.elim
  | _ :: _, [], h => h.elim
theorem Wk.trans : ∀ {ρ ρ1 ρ2 : List Sl}, Wk ρ ρ1 → Wk ρ1 ρ2 → Wk ρ ρ2
  | [], [], _, _, b => b
  | s :: ρ, s1 :: ρ1, [], _, b => b.elim
  | s :: ρ, s1 :: ρ1, s2 :: ρ2, a, b => ⟨by
      rcases b.1 with rfl | ⟨rfl, e⟩
      · exact a.1
      · rcases a.1 with rfl | ⟨rfl, e'⟩
        · exact .inr ⟨rfl, e⟩
        · exact .inr ⟨rfl, e'⟩, Wk.trans a.2 b.2⟩
  | [], _ :: _, _, a, _ => a.elim
  | _ :: _, [], _, a, _ => a.elim
theorem Wk.sls {K : PySem.W.Frag} {O : Ads} {H : Hp} : ∀ {ρ ρ' : List Sl} {σ : L2.St}, Wk ρ ρ' → Sls K O H σ ρ → Sls K O H σ ρ'
  | [], [], _, _, a => a
  | s :: ρ, s' :: ρ', _, h, .cons a b => .cons (by
      rcases h.1 with rfl | ⟨rfl, _⟩
      · exact a
      · exact .no _) (Wk.sls h.2 b)
  | [], _ :: _, _, h, _ => h.elim
  | _ :: _, [], _, h, _ => h.elim
section
variable {K : PySem.W.Frag} {C : Cz} {ρ ρ0 : List Sl} {σ : L2.St} {H : Hp}
theorem St.wk (s : St K C ρ σ H) (w : Wk ρ ρ0) : St K C ρ0 σ H := by
  have e := w.owns_eq
  have eo : Os C ρ = Os C ρ0 := by show _ ++ _ = _ ++ _; rw [e]
  exact ⟨eo ▸ w.sls s.sl, e ▸ s.nd, s.fr, eo ▸ s.lv, s.nO, e ▸ s.fresh, eo ▸ s.bg, eo ▸ s.held, s.ex, s.tb⟩
theorem run_wk {t : TS} {P : Out → Prop} (w : Wk ρ ρ0) (h : Run K C t ρ0 P) : Run K C t ρ P := fun En σ H s k => h En σ H (s.wk w) k
theorem evx_wk {g : TG} {d : D} {P : List Sl → Prop} (w : Wk ρ ρ0) (h : EvX K C g d ρ0 P) : EvX K C g d ρ P := fun v σ H Q s a k => h v σ H Q (s.wk w) (by rw [show Os C ρ0 = Os C ρ from congrArg (C.O0 ++ ·) w.owns_eq.symm]; exact a) fun ρ' σ' p s' e => k ρ' σ' p s' (e.trans w.owns_eq.symm)
/-- a loop that carries nothing -/
theorem forW (ρ0 : List Sl) {items : List D} {g : TG} {tb : TS} {P : Out → Prop} (w : Wk ρ ρ0)
    (h : ∀ (hv : List V) (hd : List D) (i : Nat) (d : D), items[i]? = some d → EvX K (C.hold hv hd) g d ρ0 fun ρ2 => Run K (C.hold hv hd) tb ρ2 (loopP (fun ρ3 => Wk ρ3 ρ0) P))
    (e : ∀ ρ3, Wk ρ3 ρ0 → P (.nx ρ3)) :
    ∃ I : Nat → List Sl → Prop, I 0 ρ ∧ (∀ hv hd i d ρ', items[i]? = some d → I i ρ' → EvX K (C.hold hv hd) g d ρ' fun ρ2 => Run K (C.hold hv hd) tb ρ2 (loopP (I (i + 1)) P)) ∧ ∀ ρ', I items.length ρ' → P (.nx ρ') :=
  ⟨fun _ ρ' => Wk ρ' ρ0, w, fun hv hd i d ρ' e hw => evx_wk hw (h hv hd i d e), fun ρ' hw => e ρ' hw⟩
end
/-- what follows, if less is known -/
theorem seq_wk {K : PySem.W.Frag} {C : Cz} {ρ0 : List Sl} {b : TS} {P : Out → Prop} (h : Run K C b ρ0 P) : ∀ ρ3, Wk ρ3 ρ0 → seqP K C b P (.nx ρ3) := fun _ w => run_wk w h
/-- a law's body, after its bag is made -/
theorem law_run {K : PySem.W.Frag} {t : TS} {Q : VK} {E : XK} {a b l : Addr} {H : Hp} {n : Nat} (hB : Bag H b l) (k : ∀ H', Q (.bl true) H')
    (h : ∀ C : Cz, C.E = E → C.bags = [(b, l)] → Run K C t (.val (.oth (.ref a)) :: .val (.oth (.ref b)) :: List.replicate n .no) fun o => o = .rt (.bl true)) :
    t { nx := fun _ H' => Q .non H', rt := Q } (some (.ref a) :: some (.ref b) :: List.replicate n none) H := by
  have eo : owns (.val (.oth (.ref a)) :: .val (.oth (.ref b)) :: List.replicate n Sl.no) = [] := owns_vals [.oth (.ref a), .oth (.ref b)] n
  have nl : l ∉ [b] := by
    obtain ⟨cs, i, hh, sd, y⟩ := hB
    exact fun m => y.ne (List.mem_singleton.mp m)
  have lb : H b ≠ none := by
    obtain ⟨cs, i, hh, sd, y⟩ := hB
    rw [y.at_]
    exact fun z => nomatch z
  refine h ⟨[b], H, [b], [(b, l)], [], [], E, fun _ => False, []⟩ rfl rfl _ _ H ?_ ?_
  · refine ⟨?_, by rw [eo]; exact List.nodup_nil, Fr.refl _ _, ?_, ⟨fun p m => m, fun q m => .inl ?_⟩, ?_, ?_, .nil, fun x h => h.elim, fun p m => nomatch m⟩
    · exact .cons (.val (.oth _)) (.cons (.val (.oth _)) (by
        clear eo h
        induction n with
        | zero => exact .nil
        | succ n ih => exact .cons (.no _) ih))
    · show ∀ p, p ∈ [b] ++ owns _ → _
      rw [eo, List.append_nil]
      exact fun p m => List.mem_singleton.mp m ▸ lb
    · obtain rfl := List.mem_singleton.mp m
      exact List.mem_singleton.mpr rfl
    · rw [eo]; exact fun p m => nomatch m
    · intro q m
      obtain rfl := List.mem_singleton.mp m
      refine ⟨hB, List.mem_singleton.mpr rfl, ?_⟩
      show l ∉ [b] ++ owns _
      rw [eo, List.append_nil]
      exact nl
  · exact ⟨fun _ _ _ p => (nomatch p), fun d v ρ σ H' p s a => by cases p; cases a; exact k _, fun _ _ _ p => (nomatch p), fun _ _ _ p => (nomatch p)⟩

/-! ### more of lists -/
def tRevQ (K : PySem.W.Frag) (te : TE) : TE := fun σ H Q => te σ H fun x H1 => ∃ a xs, x = .ref a ∧ SqL K H1 a xs ∧ ∀ p, H1 p = none → Q (.ref p) (upd H1 p (.lst xs.reverse))
theorem k_rev {X : Cx} {K : PySem.W.Frag} {e : Expr} {te : TE} {k : Nat} {p1 p2 p3 pos : Pos} (he : PE X e te) (h : X.K = K := by rfl) :
    PE X (.Subscript e (.Slice none none (some (.UnaryOp .USub (.Constant (.int 1) k p1) p2)) p3) pos) (tRevQ K te) := h ▸ pe_revL he
theorem mem_owns_set {x : Addr} {s : Sl} : ∀ {ρ : List Sl} {i : Nat}, x ∈ owns (ρ.set i s) → x ∈ s.o ∨ x ∈ owns ρ
  | [], _, h => .inr h
  | t :: ρ, 0, h => by
    rcases List.mem_append.mp h with h | h
    · exact .inl h
    · exact .inr (List.mem_append_right _ h)
  | t :: ρ, i + 1, h => by
    rcases List.mem_append.mp h with h | h
    · exact .inr (List.mem_append_left _ h)
    · rcases mem_owns_set h with h | h
      · exact .inl h
      · exact .inr (List.mem_append_right _ h)
section
variable {K : PySem.W.Frag} {C : Cz} {ρ : List Sl} {P : D → Prop} {te : TE} {i j : Nat} {PO : Out → Prop}
theorem ev_rev (h : Ev K C te ρ fun d => asL d fun l => P (.lst l.reverse)) : Ev K C (tRevQ K te) ρ P := fun σ H Q s k => h σ H _ s fun d v H1 q s1 f1 a1 => by
  obtain ⟨p, xs, ds, rfl, rfl, h1, _, h3, h⟩ := at_L a1 q
  exact ⟨p, xs, rfl, SqL.of h1, fun c nc => k _ _ _ h (s1.same (same_upd nc)) (f1.trans (Fr.of (same_upd nc))) (.lst upd_same (fun m => s1.lv c m nc) ((h3.reverse).fr (.of (same_upd nc))))⟩
theorem AtAll.flatRep {O : Ads} {H : Hp} {vs : List V} {ds : List D} (a : AtAll K O H vs ds) : ∀ n : Nat, AtAll K O H (List.replicate n vs).flatten (List.replicate n ds).flatten
  | 0 => .nil
  | n + 1 => by
    rw [List.replicate_succ, List.replicate_succ, List.flatten_cons, List.flatten_cons]
    exact a.append (AtAll.flatRep a n)
theorem flat_repD (d : D) : ∀ n : Nat, (List.replicate n [d]).flatten = List.replicate n d
  | 0 => rfl
  | n + 1 => by
    rw [List.replicate_succ, List.flatten_cons, flat_repD d n, List.replicate_succ]
    rfl
/-- one's own list of n times the items of another -/
theorem evf_rep {tn : TE} {PL : List D → Prop} (h : Ev K C te ρ fun d => asL d fun l => Ev K C tn ρ fun e => asI e fun n => -2 ^ 63 ≤ n ∧ n < 2 ^ 63 ∧ l.length * n.toNat ≤ sizeLine ∧ PL (List.replicate n.toNat l).flatten) : EvF K C (tOp rRep te tn) ρ PL := fun σ H Q s k =>
  h σ H _ s fun d v H1 q s1 f1 a1 => by
    obtain ⟨p, xs, ds, rfl, rfl, h1, h2, h3, q⟩ := at_L a1 q
    refine q σ H1 _ s1 fun e w H2 q s2 f2 a2 => ?_
    obtain ⟨n, rfl, rfl, n0, n1, n2, q⟩ := at_int a2 q
    have h1' : H2 p = some (.lst xs) := f2.mono (fun a m => by
      obtain ⟨q, hq, rfl⟩ := List.mem_map.mp m
      exact List.mem_append_left _ (s1.bg q hq).2.1) p _ h2 h1 fun _ z => nomatch z
    have h3' := h3.fr (s1.up f2)
    exact ⟨p, n, xs, rfl, rfl, h1', n0, n1, by rw [h3.length]; exact n2, fun c nc => k _ c _ q (s2.own nc (h3'.flatRep _)) ((f1.trans f2).trans (Fr.of (same_upd nc)))⟩
/-- a new list of one's own beside a value -/
theorem run_parO {te2 : TE} (h : EvF K C te ρ fun ds => i < ρ.length ∧ ∀ C' : Cz, C'.E = C.E → C'.X = C.X → C'.bags = C.bags → Ev K C' te2 ρ fun d => ∀ p, PO (.nx ((ρ.set i (.own p ds)).set j (.val d)))) : Run K C (tPar i j (tCons te (tCons te2 tNil))) ρ PO := fun En σ H s k =>
  h σ H _ s fun ds p H1 q s1 f1 => by
    have eo : owns (ρ ++ [.own p ds]) = owns ρ ++ [p] := owns_append ρ _
    have s2 : St K { C with O0 := p :: C.O0 } ρ σ H1 := s1.inner (vs := []) rfl
    refine q.2 { C with O0 := p :: C.O0 } rfl rfl rfl σ H1 _ s2 fun d w H2 pd s3 f3 a3 => ?_
    have s4 : St K C (ρ ++ [.own p ds]) (σ ++ [some (.ref p)]) H2 := s1.bfr f3 s3.fr (fun x m => s3.lv x (by
      have m : x ∈ C.O0 ++ owns (ρ ++ [.own p ds]) := m
      rw [eo] at m
      show x ∈ (p :: C.O0) ++ owns ρ
      rcases List.mem_append.mp m with m | m
      · exact List.mem_append_left _ (List.mem_cons_of_mem _ m)
      · rcases List.mem_append.mp m with m | m
        · exact List.mem_append_right _ m
        · rw [List.mem_singleton.mp m]; exact List.mem_append_left _ (List.mem_cons_self ..))) (fun x m => (s3.bg x m).1) s3.tb
    have s5 := s4.land q.1
    refine ⟨.ref p, w, rfl, k.nx _ _ _ (pd p) (s5.set j (a3.less fun x m => ?_))⟩
    have m : x ∈ C.O0 ++ owns (ρ.set i (.own p ds)) := m
    show x ∈ (p :: C.O0) ++ owns ρ
    rcases List.mem_append.mp m with m | m
    · exact List.mem_append_left _ (List.mem_cons_of_mem _ m)
    · rcases mem_owns_set m with m | m
      · rw [List.mem_singleton.mp (show x ∈ [p] from m)]; exact List.mem_append_left _ (List.mem_cons_self ..)
      · exact List.mem_append_right _ m
/-- pop(i) of one's own list -/
theorem run_popAt {p : Addr} {ds : List D} {r : Nat} (e : ρ[i]? = some (.own p ds)) (h : Ev K C te ρ fun x => asI x fun z => (-2 ^ 63 ≤ z ∧ z < 2 ^ 63) ∧ ∃ j d, seqIndex? z ds.length = some j ∧ ds[j]? = some d ∧ PO (.nx ((ρ.set i (.own p (ds.eraseIdx j))).set r (.val d)))) :
    Run K C (tAsg (tBM K "list" rPopAt (tVar i) (tCons te tNil)) (gName r)) ρ PO := fun En σ H s k => by
  obtain ⟨vs0, e1, h0, _⟩ := own_V s.sl e
  refine ⟨_, e1, .inl ⟨rfl, _, SqL.of h0⟩, h σ H _ s fun x u H2 q s2 f2 a2 => ?_⟩
  obtain ⟨z, rfl, rfl, ⟨z0, z1⟩, j, d, e2, e3, q⟩ := at_int a2 q
  obtain ⟨vs, e4, h1, a1⟩ := own_V s2.sl e
  obtain ⟨v, e5, a5⟩ := a1.getD e3
  have ae : AtAll K (Os C ρ) H2 (vs.eraseIdx j) (ds.eraseIdx j) := by
    rw [List.eraseIdx_eq_take_drop_succ, List.eraseIdx_eq_take_drop_succ]
    exact (a1.take j).append (a1.drop (j + 1))
  have s3 := s2.mut e ae
  have e6 : owns (ρ.set i (.own p (ds.eraseIdx j))) = owns ρ := owns_set_own e
  have hp : p ∈ Os C ρ := List.mem_append_right _ (mem_owns.mpr ⟨.lst ds, List.mem_of_getElem? e⟩)
  refine ⟨p, vs, z, j, v, rfl, rfl, h1, z0, z1, by rw [a1.length]; exact e2, e5, k.nx _ _ _ q (s3.set r ?_)⟩
  have eO : Os C (ρ.set i (.own p (ds.eraseIdx j))) = Os C ρ := congrArg (C.O0 ++ ·) e6
  rw [eO]
  exact a5.fr fun b o n hb _ => by rw [upd_ne (fun z : b = p => n (by rw [z]; exact hp))]; exact hb
def rIns : V → List V → Hp → VK → Prop := fun x vs H Q => ∃ l xs i y, x = .ref l ∧ vs = [.int i, y] ∧ H l = some (.lst xs) ∧ xs.length < sizeLine ∧ 0 ≤ i ∧ i < 2 ^ 63 ∧ Q .non (upd H l (.lst (xs.take i.toNat ++ [y] ++ xs.drop i.toNat)))
theorem k_insert {X : Cx} : MtR X "list.insert" rIns := mt_insert
theorem run_insert {p : Addr} {ds : List D} {te2 : TE} (e : ρ[i]? = some (.own p ds)) (h : Ev K C te ρ fun x => asI x fun z => Ev K C te2 ρ fun d => ds.length < sizeLine ∧ 0 ≤ z ∧ z < 2 ^ 63 ∧ PO (.nx (ρ.set i (.own p (ds.take z.toNat ++ [d] ++ ds.drop z.toNat))))) :
    Run K C (tDrop (tBM K "list" rIns (tVar i) (tCons te (tCons te2 tNil)))) ρ PO := fun En σ H s k => by
  obtain ⟨vs0, e1, h0, _⟩ := own_V s.sl e
  refine ⟨_, e1, .inl ⟨rfl, _, SqL.of h0⟩, h σ H _ s fun x u H2 q s2 f2 a2 => ?_⟩
  obtain ⟨z, rfl, rfl, q⟩ := at_int a2 q
  refine q σ H2 _ s2 fun d v H3 q s3 f3 a3 => ?_
  obtain ⟨vs, _, h1, a1⟩ := own_V s3.sl e
  exact ⟨p, vs, z, v, rfl, rfl, h1, by rw [a1.length]; exact q.1, q.2.1, q.2.2.1, k.nx _ _ _ q.2.2.2 (s3.mut e (((a1.take _).append (.one a3)).append (a1.drop _)))⟩
theorem run_parL {ta : TA} {te2 : TE} (h : EvF K C (tCB (rListQ K) ta) ρ fun ds => i < ρ.length ∧ ∀ C' : Cz, C'.E = C.E → C'.X = C.X → C'.bags = C.bags → Ev K C' te2 ρ fun d => ∀ p, PO (.nx ((ρ.set i (.own p ds)).set j (.val d)))) : Run K C (tPar i j (tCons (tCB (rListQ K) ta) (tCons te2 tNil))) ρ PO := run_parO h
theorem run_ownRep {tn : TE} (h : Ev K C te ρ fun d => asL d fun l => Ev K C tn ρ fun e => asI e fun n => -2 ^ 63 ≤ n ∧ n < 2 ^ 63 ∧ l.length * n.toNat ≤ sizeLine ∧ i < ρ.length ∧ ∀ p, PO (.nx (ρ.set i (.own p (List.replicate n.toNat l).flatten)))) : Run K C (tAsg (tOp rRep te tn) (gName i)) ρ PO := run_own (evf_rep h)
end
/-! ### calls by keywords -/
class KwD (K : PySem.W.Frag) (gV : List V → List V → List V) (gD : outParam (List D → List D → List D)) : Prop where
  kw : ∀ {O H vs us ds es}, AtAll K O H vs ds → AtAll K O H us es → AtAll K O H (gV vs us) (gD ds es)
section
variable {K : PySem.W.Frag} {C : Cz} {ρ : List Sl} {P : D → Prop} {ta tk : TA} {S : Sd} {E : XK} {gV : List V → List V → List V} {gD : List D → List D → List D}
def tKw (gV : List V → List V → List V) (ta tk : TA) : TA := fun σ H Q => ta σ H fun vs H1 => tk σ H1 fun us H2 => Q (gV vs us) H2
theorem eva_kw [o : KwD K gV gD] {PL : List D → Prop} (h : EvA K C ta ρ fun ds => EvA K C tk ρ fun es => PL (gD ds es)) : EvA K C (tKw gV ta tk) ρ PL := fun σ H Q s k =>
  h σ H _ s fun ds vs H1 q s1 f1 a1 => q σ H1 _ s1 fun es us H2 q2 s2 f2 a2 => k _ _ _ q2 s2 (f1.trans f2) (o.kw (a1.fr (s.up f2)) a2)
theorem tCallK_eq {sp : Sp} : tCallK sp gV E ta tk = tCall sp [] E (tKw gV ta tk) := by
  funext σ H Q
  show (ta σ H fun vs H1 => tk σ H1 fun zs H2 => sp (gV vs zs) H2 Q E) = (ta σ H fun vs H1 => tk σ H1 fun zs H2 => sp (gV vs zs ++ []) H2 Q E)
  simp only [List.append_nil]
theorem ev_callK [o : KwD K gV gD] (h : EvA K C ta ρ fun ds => EvA K C tk ρ fun es => S [] (gD ds es) (okP P)) : Ev K C (tCallK (spD K S) gV E ta tk) ρ P := by
  rw [tCallK_eq]
  exact ev_call (eva_kw h)
theorem ev_callKX [o : KwD K gV gD] (he : E = C.E) (h : EvA K C ta ρ fun ds => EvA K C tk ρ fun es => S [] (gD ds es) (exP C P)) : Ev K C (tCallK (spD K S) gV E ta tk) ρ P := by
  rw [tCallK_eq]
  exact ev_callX he (eva_kw h)
end
/-! ### methods of lists, with the written part's own letter -/
section
variable {X : Cx} {K : PySem.W.Frag} {o e : Expr} {es : List Expr} {to : TE} {t : TA} {name : Str} {apos cpos : Pos} {T id : String} {r : V → List V → Hp → VK → Prop}
theorem k_bm0 (pa : PlainAttrs T) (slot : Slot T name id) (hty : typeOf (.builtin id) = pure (.type "method_descriptor")) (hm : MtR X id r) (ho : PE X o to)
    (hbase : attributeBase o name X.env (eval o X.env) = eval o X.env := by rfl) (hline : (apos.endLine == cpos.line) = true := by rfl) (h : X.K = K := by rfl) : PE X (.Call (.Attribute o name apos) [] [] cpos) (tBM0 K T r to) :=
  h ▸ pe_bm0 pa slot hty hm ho hbase hline
theorem k_bm (pa : PlainAttrs T) (slot : Slot T name id) (hty : typeOf (.builtin id) = pure (.type "method_descriptor")) (hm : MtR X id r) (ho : PE X o to) (ha : PA X (e :: es) t)
    (hbase : attributeBase o name X.env (eval o X.env) = eval o X.env := by rfl)
    (hfew : ((backTo cpos (starEach (e :: es) X.env)).all (fun x => !x.1) && (backToKw cpos (keywordEach [] X.env)).all (fun x => x.1.isSome)
      && decide ((e :: es).length + ([] : List Keyword).length + (if ([] : List Keyword).isEmpty then 0 else 1) < 30)) = true := by rfl)
    (hline : (apos.endLine == cpos.line) = true := by rfl) (hs : starEach (e :: es) X.env = (false, eval e X.env) :: starEach es X.env := by rfl) (hplain : (backTo cpos (starEach es X.env)).any (·.1) = false := by rfl) (h : X.K = K := by rfl) :
    PE X (.Call (.Attribute o name apos) (e :: es) [] cpos) (tBM K T r to t) := h ▸ pe_bm pa slot hty hm ho ha hbase hfew hline hs hplain
end

/-! ### instances of own classes -/
@[reducible] def asIns (C : Addr) : D → (List (Str × D) → Prop) → Prop
  | .ins C' l, k => C' = C ∧ k l
  | _, _ => False
def putD (f : Str) (d : D) : List (Str × D) → List (Str × D)
  | [] => [(f, d)]
  | (g, x) :: r => if g = f then (g, d) :: r else (g, x) :: putD f d r
section
variable {K : PySem.W.Frag} {O : Ads} {H : Hp}
theorem at_ins {v : V} {d : D} {C : Addr} {k : List (Str × D) → Prop} (a : At K O H v d) (h : asIns C d k) : ∃ p dx fs l, v = .ref p ∧ d = .ins C l ∧ H p = some (.ins C dx fs) ∧ p ∉ O ∧ AtFs K O H fs l ∧ k l := by
  cases a with
  | ins h1 n h3 =>
    obtain ⟨e, h⟩ := h
    subst e
    exact ⟨_, _, _, _, rfl, rfl, h1, n, h3, h⟩
  | _ => exact h.elim
theorem AtFs.look {fs : List (Str × V)} {l : List (Str × D)} (a : AtFs K O H fs l) {f : Str} {d : D} (h : l.lookup f = some d) : ∃ v, fs.lookup f = some v ∧ At K O H v d := by
  induction l generalizing fs with
  | nil => cases h
  | cons z l ih =>
    cases a with
    | @cons x v vs d2 ds a b =>
      rw [List.lookup_cons] at h ⊢
      cases hx : f == x with
      | true => rw [hx] at h; cases h; exact ⟨_, rfl, a⟩
      | false => rw [hx] at h; exact ih b h
theorem AtFs.none_ {fs : List (Str × V)} {l : List (Str × D)} (a : AtFs K O H fs l) {f : Str} (h : l.lookup f = none) : fs.lookup f = none := by
  induction l generalizing fs with
  | nil => cases a; rfl
  | cons z l ih =>
    cases a with
    | @cons x v vs d2 ds a b =>
      rw [List.lookup_cons] at h ⊢
      cases hx : f == x with
      | true => rw [hx] at h; cases h
      | false => rw [hx] at h; exact ih b h
theorem AtFs.len {fs : List (Str × V)} {l : List (Str × D)} (a : AtFs K O H fs l) : fs.length = l.length := by
  induction l generalizing fs with
  | nil => cases a; rfl
  | cons z l ih =>
    cases a with
    | cons a b => rw [List.length_cons, List.length_cons, ih b]
theorem AtFs.put {fs : List (Str × V)} {l : List (Str × D)} (a : AtFs K O H fs l) {f : Str} {v : V} {d : D} (b : At K O H v d) : AtFs K O H (putF f v fs) (putD f d l) := by
  induction l generalizing fs with
  | nil => cases a; exact .cons b .nil
  | cons z l ih =>
    cases a with
    | @cons x u vs d2 ds a c =>
      show AtFs K O H (if x = f then (x, v) :: vs else (x, u) :: putF f v vs) (if x = f then (x, d) :: l else (x, d2) :: putD f d l)
      by_cases e : x = f
      · rw [if_pos e, if_pos e]; exact .cons b c
      · rw [if_neg e, if_neg e]; exact .cons a (ih c)
end
/-- e.f, an attribute of an instance of C -/
def tFldC (C : Addr) (f : Str) (ta : TE) : TE := fun σ H Q => ta σ H fun x H1 => ∃ a dx fs v, x = .ref a ∧ H1 a = some (.ins C dx fs) ∧ fs.lookup f = some v ∧ Q v H1
section
variable {X : Cx} {K : PySem.W.Frag} {C : Addr} {f : Str} {e o value : Expr} {pos pos' : Pos} {ta tv : TE}
theorem k_fld (c : Cls K C) (n : NoAttr K C f) (he : PE X e ta) (hb : attributeBase e f X.env (eval e X.env) = eval e X.env := by rfl) (h : X.K = K := by rfl) : PE X (.Attribute e f pos) (tFldC C f ta) := by
  subst h
  refine ⟨fun pins s σ H Q I h => ?_⟩
  refine attr_of hb (thn (he.run pins s σ H _ I h) fun u s1 ⟨x, H1, I1, rx, a, dx, fs, v, ex, ea, l, q⟩ => ?_)
  subst ex
  obtain rfl : u = Value.ref a := rx
  exact getattr_ok I1 ea c n l fun u' s2 I2 ru => ⟨v, H1, I2, ru, q⟩
theorem k_sfld (ha : PE X o ta) (hv : PE X value tv) (hs : swapsWith value (some (.Attribute o f pos')) pos.line X.env = pure false := by rfl) (h : X.K = K := by rfl) : PS X (.Assign [.Attribute o f pos'] value pos) (sFld K ta tv f) := h ▸ ps_fld ha hv hs
theorem k_cval {x : Str} {mc u : Value} {v : V} {p1 p2 : Pos} (hg : Gl X x) (hm : X.mg x = some (.ref C)) (r : ClX.CRead K C mc) (c : ClX.CVal K C mc f v u) (h : X.K = K := by rfl) (hd : (x == ("__debug__" : Str)) = false := by decide) (hb : attributeBase (.Name x p1) f X.env (eval (.Name x p1) X.env) = eval (.Name x p1) X.env := by rfl) : PE X (.Attribute (.Name x p1) f p2) (tC v) := by
  subst h
  exact ⟨fun pins s σ H Q I q => (ClX.pe_cval (pe_glob (v := .ref C) hg hm rfl hd) hb).run pins s σ H Q I ⟨C, mc, v, u, rfl, r, c, q⟩⟩
end
/-! ### made by __init__ -/
def spM (K : PySem.W.Frag) (Cl : Addr) (S : Sd) : Sp := fun vs H Q E => ∃ (x dx : Addr) (us : List V) (Hb : Hp) (O ts : Ads) (bs : List (Addr × Addr)) (ds : List D) (Pq : Rs → Prop), vs = .ref x :: us ∧ H = upd Hb x (.ins Cl dx []) ∧ Hb x = none ∧ AtAll K O Hb us ds ∧ (∀ p, p ∈ O → Hb p ≠ none) ∧ (∀ q, q ∈ bs → Bag Hb q.1 q.2 ∧ q.1 ∈ O ∧ q.2 ∉ O) ∧ (∀ p, p ∈ ts → Tab Hb p) ∧ S bs ds Pq ∧
  (∀ l H', Pq (.ok (.ins Cl l)) → Fr (bs.map (·.1)) Hb H' → (∀ p, p ∈ O → H' p ≠ none) → (∀ q, q ∈ bs → Bag H' q.1 q.2) → (∀ p, p ∈ ts → Tab H' p) → At K O H' (.ref x) (.ins Cl l) → Q .non H') ∧
  (∀ z, Pq (.er z) → ∀ v H', Fr (bs.map (·.1)) Hb H' → (∀ p, p ∈ O → H' p ≠ none) → (∀ q, q ∈ bs → Bag H' q.1 q.2) → (∀ p, p ∈ ts → Tab H' p) → At K O H' v z.val → Raised z.C z.fld z.code v H' E)
@[reducible] def endM (x Cl dx : Addr) (Pq : Rs → Prop) : Out → Prop
  | .nx ρ => ∃ l, ρ[0]? = some (.cell x (.ins Cl dx l)) ∧ Pq (.ok (.ins Cl l))
  | _ => False
@[reducible] def slotsM (n : Nat) (x Cl dx : Addr) (ds : List D) : List Sl := .cell x (.ins Cl dx []) :: (ds.map Sl.val ++ List.replicate (n - (ds.length + 1)) Sl.no)
theorem run_ofM {K : PySem.W.Frag} {Cl : Addr} {S : Sd} {N : List Str} {vs : List V} {H : Hp} {Q : VK} {E : XK} {t : TS} (h : spM K Cl S vs H Q E)
    (hr : ∀ (C : Cz) (ds : List D) (Pq : Rs → Prop) (x dx : Addr), C.E = E → (∀ z, Pq (.er z) → C.X z) → S C.bags ds Pq → Run K C t (slotsM N.length x Cl dx ds) (endM x Cl dx Pq)) :
    t { nx := fun _ H' => Q .non H', rt := Q } (L2.start N vs) H := by
  obtain ⟨x, dx, us, Hb, O, ts, bs, ds, Pq, rfl, rfl, hxb, a, lv, bg, ht, hS, q1, q2⟩ := h
  have hl := a.length
  have eo : owns (Sl.no :: (ds.map Sl.val ++ List.replicate (N.length - (ds.length + 1)) Sl.no)) = [] := owns_vals ds _
  have s0 : St K ⟨O, Hb, bs.map (·.1), bs, [], [], E, fun z => Pq (.er z), ts⟩ (Sl.no :: (ds.map Sl.val ++ List.replicate (N.length - (ds.length + 1)) Sl.no)) (L2.start N (.ref x :: us)) Hb := by
    refine ⟨?_, by rw [eo]; exact List.nodup_nil, Fr.refl _ _, ?_, ⟨fun p m => ?_, fun q m => .inl (List.mem_map.mpr ⟨q, m, rfl⟩)⟩, fun p m => ?_, fun q m => ⟨(bg q m).1, (bg q m).2.1, ?_⟩, .nil, fun z hz v H' f lv bg tb a => q2 z hz v H' f lv bg tb a, ht⟩
    · show Sls K (O ++ owns _) Hb (L2.start N (.ref x :: us)) _
      rw [eo, List.append_nil]
      have e1 : L2.start N (.ref x :: us) = some (.ref x) :: (us.map some ++ List.replicate (N.length - (ds.length + 1)) none) := by
        unfold L2.start
        rw [List.length_cons, hl]
        rfl
      rw [e1]
      exact .cons (.no _) (sls_start a _)
    · show ∀ p, p ∈ O ++ owns _ → _
      rw [eo, List.append_nil]
      exact lv
    · obtain ⟨q, hq, rfl⟩ := List.mem_map.mp m
      exact (bg q hq).2.1
    · rw [eo] at m; exact nomatch m
    · show q.2 ∉ O ++ owns _
      rw [eo, List.append_nil]
      exact (bg q m).2.2
  have s1 := s0.ownC (p := x) (vs := .ins Cl dx []) (ds := .ins Cl dx []) hxb (.ins .nil)
  have s2 := s1.land (i := 0) (Nat.succ_pos _)
  refine hr ⟨O, Hb, bs.map (·.1), bs, [], [], E, fun z => Pq (.er z), ts⟩ ds Pq x dx rfl (fun z h => h) hS _ _ _ s2 ?_
  refine ⟨fun ρ σ H' p s => ?_, fun d v ρ σ H' p s a => p.elim, fun _ _ _ p => p.elim, fun _ _ _ p => p.elim⟩
  obtain ⟨l, e, p⟩ := p
  obtain ⟨_, b⟩ := s.freeze e
  exact q1 l H' p s.fr (fun x m => s.lv x (List.mem_append_left _ m)) (fun q m => (s.bg q m).1) s.tb (b.less fun a m => List.mem_append_left _ m)
section
variable {P : Program} {w : World} {K : PySem.W.Frag} {mg : Str → Option Value} {base : Heap}
/-- an __init__ that may raise -/
theorem okMX {x qual : Str} {st : Stmt} {f Cl : Addr} {fd : FuncData} {N ps : List Str} {k : Nat} {S : Sd} (F : Fun K x qual st f fd) (sc : FnScope N ps (defScope st)) (len : ∀ bs ds Pq, S bs ds Pq → ds.length + 1 = ps.length)
    (hbody : ∀ (cdv : Value) (A : Around) (outer : List Env) (s : Shared) (H : Hp) (E : XK), Room k (A.deeper (envOfC qual (defScope st) s.heap.objs.size f cdv)) →
      ∃ t, PSs (cxOf (L2.CX P w) P w K mg base N qual (defScope st) f cdv A outer s H E) (defBody st) t ∧ ∀ (C : Cz) (ds : List D) (Pq : Rs → Prop) (x dx : Addr), C.E = E → (∀ z, Pq (.er z) → C.X z) → S C.bags ds Pq → Run K C t (slotsM N.length x Cl dx ds) (endM x Cl dx Pq)) : FnOk P w K mg base (L2.CX P w) (k + 1) f fd ps (spM K Cl S) :=
  F.okX sc (fun vs H Q E h => by
    obtain ⟨x, dx, us, Hb, O, ts, bs, ds, Pq, rfl, _, _, a, _, _, _, hS, _⟩ := h
    rw [List.length_cons, a.length]
    exact len _ _ _ hS) fun cdv A outer s H vs Q E hr h => by
    obtain ⟨t, h1, h2⟩ := hbody cdv A outer s H E hr
    exact ⟨t, h1, run_ofM h h2⟩
/-- def __init__(self, *xs) -/
theorem okMS {x qual pv : Str} {st : Stmt} {f Cl : Addr} {fd : FuncData} {N : List Str} {ps : List Str} {k : Nat} {S : Sd} (F : Fun K x qual st f fd) (sc : FnScope N (ps ++ [pv]) (defScope st)) (h1 : ps.length = 1) (len : ∀ bs ds Pq, S bs ds Pq → ds.length ≤ sizeLine)
    (hb : ∀ (kV doc pm : Value) (an : Option Addr) (cdv ct : Value) (us rest : List Value), us.length = ps.length → bindArgs (PySem.W.fnOf x qual (defArgs st) (defBody st) (defScope st) .none kV doc pm an cdv ct) ⟨us ++ rest, []⟩ = (newTuple rest >>= fun t => pure (ps.zip us ++ [(pv, t)])))
    (hbody : ∀ (cdv : Value) (A : Around) (outer : List Env) (s : Shared) (H : Hp) (E : XK), Room k (A.deeper (envOfC qual (defScope st) s.heap.objs.size f cdv)) →
      ∃ t, PSs (cxOf (L2.CX P w) P w K mg base N qual (defScope st) f cdv A outer s H E) (defBody st) t ∧ ∀ (C : Cz) (ds : List D) (Pq : Rs → Prop) (x dx : Addr), C.E = E → (∀ z, Pq (.er z) → C.X z) → S C.bags ds Pq → Run K C t (slotsM N.length x Cl dx [.tup ds]) (endM x Cl dx Pq)) : FnR P w K mg base (L2.CX P w) (k + 1) f (spM K Cl S) := by
  obtain ⟨oc, od, kV, doc, pm, an, cdv, ct, osl, rfl, lk, hcd⟩ := F.ex
  refine FnR.imp (StX.fn_star (sp := spM K Cl fun bs ds Pq => ∃ es, ds = [.tup es] ∧ S bs es Pq) lk hcd sc StX.cxUp (hb kV doc pm an cdv ct) fun A outer s H vs Q E hr hsp => ?_) fun vs H Q E h => ?_
  · obtain ⟨t, g1, g2⟩ := hbody cdv A outer s H E hr
    refine ⟨t, g1, run_ofM hsp fun C ds Pq x dx e1 e2 h => ?_⟩
    obtain ⟨es, rfl, h⟩ := h
    exact g2 C es Pq x dx e1 e2 h
  · obtain ⟨x, dx, us, Hb, O, ts, bs, ds, Pq, rfl, rfl, hxb, a, lv, bg, ht, hS, q1, q2⟩ := h
    refine ⟨[.ref x], us, rfl, h1.symm, by rw [a.length]; exact len _ _ _ hS, fun p hp => ?_⟩
    have px : p ≠ x := fun z => by rw [z, upd_same] at hp; cases hp
    have hpb : Hb p = none := by rwa [upd_ne px] at hp
    have e1 : Same Hb (upd Hb p (.tup us)) := same_upd hpb
    have eH : upd (upd Hb x (.ins Cl dx [])) p (.tup us) = upd (upd Hb p (.tup us)) x (.ins Cl dx []) := by
      funext b
      by_cases z : b = p
      · subst z; rw [upd_same, upd_ne px, upd_same]
      · by_cases z2 : b = x
        · subst z2; rw [upd_ne z, upd_same, upd_same]
        · rw [upd_ne z, upd_ne z2, upd_ne z2, upd_ne z]
    refine ⟨x, dx, [.ref p], upd Hb p (.tup us), O, ts, bs, [.tup ds], Pq, rfl, eH, by rw [upd_ne (Ne.symm px)]; exact hxb, .one (At.mkTup hpb (fun m => lv p m hpb) a), fun p m z => lv p m (e1.free z), fun q m => ⟨(bg q m).1.same e1, (bg q m).2⟩, fun p m => (ht p m).ext e1, ⟨ds, rfl, hS⟩, fun l H' p f => q1 l H' p ((Fr.of e1).trans f), fun z p v H' f => q2 z p v H' ((Fr.of e1).trans f)⟩
end
section
variable {K : PySem.W.Frag} {C : Cz} {ρ : List Sl} {P : D → Prop} {ta tb te : TE} {t : TA} {S : Sd} {E : XK} {Cl : Addr} {i : Nat} {f m : Str} {PO : Out → Prop}
theorem ev_fld (h : Ev K C ta ρ fun d => asIns Cl d fun l => ∃ v, l.lookup f = some v ∧ P v) : Ev K C (tFldC Cl f ta) ρ P := fun σ H Q s k => h σ H _ s fun d v H1 q s1 f1 a1 => by
  obtain ⟨p, dx, fs, l, rfl, rfl, h1, _, h3, u, hu, q⟩ := at_ins a1 q
  obtain ⟨v, hv, a⟩ := h3.look hu
  exact ⟨p, dx, fs, v, rfl, h1, hv, k _ _ _ q s1 f1 a⟩
theorem own_I {O : Ads} {H : Hp} {σ : L2.St} {p dx : Addr} {l : List (Str × D)} (s : Sls K O H σ ρ) (e : ρ[i]? = some (.cell p (.ins Cl dx l))) : ∃ fs, σ[i]? = some (some (.ref p)) ∧ H p = some (.ins Cl dx fs) ∧ AtFs K O H fs l := by
  obtain ⟨x, e1, a⟩ := s.get e
  cases a with
  | cell h a =>
    cases a with
    | ins a => exact ⟨_, e1, h, a⟩
theorem ev_fldO {p dx : Addr} {l : List (Str × D)} {d : D} (e : ρ[i]? = some (.cell p (.ins Cl dx l))) (hd : l.lookup f = some d) (h : P d) : Ev K C (tFldC Cl f (tVar i)) ρ P := fun σ H Q s k => by
  obtain ⟨fs, e1, h1, a⟩ := own_I s.sl e
  obtain ⟨v, hv, a⟩ := a.look hd
  exact ⟨_, e1, p, dx, fs, v, rfl, h1, hv, k _ _ _ h s (Fr.refl _ _) a⟩
theorem run_fld {p dx : Addr} {l : List (Str × D)} (c : Cls K Cl) (n : NoAttr K Cl f) (e : ρ[i]? = some (.cell p (.ins Cl dx l))) (h : Ev K C te ρ fun d => l.length < 1000 ∧ PO (.nx (ρ.set i (.cell p (.ins Cl dx (putD f d l)))))) : Run K C (sFld K (tVar i) te f) ρ PO := fun En σ H s k => h σ H _ s fun d v H1 q s1 f1 a1 => by
  obtain ⟨fs, e1, h1, a⟩ := own_I s1.sl e
  exact ⟨_, e1, p, Cl, dx, fs, rfl, h1, c, n, by rw [a.len]; exact q.1, k.nx _ _ _ q.2 (s1.mutC e (.ins (a.put a1)))⟩
/-- methods -/
def tRecv (C : Addr) (m : Str) (ta : TE) (t : TA) : TA := fun σ H Q => ta σ H fun x H1 => ∃ a dx fs, x = .ref a ∧ H1 a = some (.ins C dx fs) ∧ fs.lookup m = none ∧ t σ H1 fun vs H2 => Q (x :: vs) H2
theorem eva_recv {PL : List D → Prop} (h : Ev K C ta ρ fun d => asIns Cl d fun l => l.lookup m = none ∧ EvA K C t ρ fun ds => PL (.ins Cl l :: ds)) : EvA K C (tRecv Cl m ta t) ρ PL := fun σ H Q s k => h σ H _ s fun d v H1 q s1 f1 a1 => by
  obtain ⟨p, dx, fs, l, rfl, rfl, h1, _, h3, hn, q⟩ := at_ins a1 q
  exact ⟨p, dx, fs, rfl, h1, h3.none_ hn, q σ H1 _ s1 fun ds vs H2 q2 s2 f2 a2 => k _ _ _ q2 s2 (f1.trans f2) (.cons (a1.fr (s.up f2)) a2)⟩
theorem ev_meth (h : Ev K C ta ρ fun d => asIns Cl d fun l => l.lookup m = none ∧ EvA K C t ρ fun ds => S [] (.ins Cl l :: ds) (okP P)) : Ev K C (tMeth Cl m (spD K S) [] E ta t) ρ P := ev_call (eva_recv (m := m) h)
theorem ev_methX (he : E = C.E) (h : Ev K C ta ρ fun d => asIns Cl d fun l => l.lookup m = none ∧ EvA K C t ρ fun ds => S [] (.ins Cl l :: ds) (exP C P)) : Ev K C (tMeth Cl m (spD K S) [] E ta t) ρ P := ev_callX he (eva_recv (m := m) h)
/-- properties -/
def tPropA (C : Addr) (ta : TE) : TA := fun σ H Q => ta σ H fun x H1 => ∃ a dx fs, x = .ref a ∧ H1 a = some (.ins C dx fs) ∧ Q [.ref a] H1
theorem eva_prop {PL : List D → Prop} (h : Ev K C ta ρ fun d => asIns Cl d fun l => PL [.ins Cl l]) : EvA K C (tPropA Cl ta) ρ PL := fun σ H Q s k => h σ H _ s fun d v H1 q s1 f1 a1 => by
  obtain ⟨p, dx, fs, l, rfl, rfl, h1, _, h3, q⟩ := at_ins a1 q
  exact ⟨p, dx, fs, rfl, h1, k _ _ _ q s1 f1 (.one a1)⟩
theorem ev_prop (h : Ev K C ta ρ fun d => asIns Cl d fun l => S [] [.ins Cl l] (okP P)) : Ev K C (tProp Cl (spD K S) [] E ta) ρ P := ev_call (ta := tPropA Cl ta) (eva_prop h)
/-- made -/
theorem make_core {Pq : Rs → Prop} (hok : ∀ l, Pq (.ok (.ins Cl l)) → P (.ins Cl l)) (hex : ∀ z, Pq (.er z) → C.X z ∧ E = C.E) (h : EvA K C t ρ fun ds => S [] ds Pq) : Ev K C (StX.tMakeR Cl (spM K Cl S) E t) ρ P := fun σ H Q s k => h σ H _ s fun ds vs H1 q s1 f1 a1 x dx hx hdx ne => by
  have e1 : Same H1 (upd H1 dx (.own x)) := same_upd hdx
  have s2 := s1.same e1
  have hxb : upd H1 dx (.own x) x = none := by rw [upd_ne (Ne.symm ne)]; exact hx
  refine ⟨x, dx, vs, upd H1 dx (.own x), Os C ρ, C.tabs, [], ds, Pq, rfl, rfl, hxb, a1.fr (.of e1), s2.lv, (fun q m => nomatch m), s2.tb, q, fun l H' p f lv bg tb a => ⟨rfl, ?_⟩, fun z p v H' f lv bg tb a => ?_⟩
  · exact k _ _ _ (hok l p) (s2.kept f lv tb) ((f1.trans (Fr.of e1)).trans (f.mono fun _ m => nomatch m)) a
  · obtain ⟨h1, h2⟩ := hex z p
    rw [h2]
    have s3 := s2.kept f lv tb
    exact s3.ex z h1 v H' s3.fr (fun p m => lv p (List.mem_append_left _ m)) (fun q m => (s3.bg q m).1) s3.tb (a.less fun _ m => List.mem_append_left _ m)
theorem ev_make (h : EvA K C t ρ fun ds => S [] ds (okP P)) : Ev K C (StX.tMakeR Cl (spM K Cl S) E t) ρ P := make_core (fun _ p => p) (fun _ p => False.elim p) h
theorem ev_makeX (he : E = C.E) (h : EvA K C t ρ fun ds => S [] ds (exP C P)) : Ev K C (StX.tMakeR Cl (spM K Cl S) E t) ρ P := make_core (fun _ p => p) (fun _ p => ⟨p, he⟩) h
end
/-! ### how they are made, called -/
section
variable {X : Cx} {CX : CXT} {k : Nat} {f C : Addr} {fd : FuncData} {ps : List Str} {sp : Sp} {E : XK} {x : Str} {p pos sp_ : Pos} {e : Expr} {t : TA} {te : TE}
theorem pe_makeR0 (M : Mk X.K C f) (F : FnR X.prog X.w X.K X.mg X.base CX k f sp) (hr : Room (k + 1) X.A) (hg : Gl X x) (hm : X.mg x = some (.ref C)) (hx : Passes CX X E) (hdb : (x == ("__debug__" : Str)) = false := by decide) : PE X (.Call (.Name x p) [] [] pos) (StX.tMakeR C sp E tNil) := by
  refine ⟨fun pins s σ H Q I h => ?_⟩
  refine wpAny_Call_Name_kw (ld_glob I hg hm ?_ hdb)
  exact PySem.W.callWith_K0 I.kIn M.kp (StX.run_makeR M F hr hx I .nil h)
/-- the items of a tuple, a list -/
def tItems (K : PySem.W.Frag) (te : TE) : TA := fun σ H Q => te σ H fun y H1 => ∃ a xs, y = V.ref a ∧ (SqT K H1 a xs ∨ SqL K H1 a xs) ∧ Q xs H1
theorem pe_makeS (M : Mk X.K C f) (F : FnR X.prog X.w X.K X.mg X.base CX k f sp) (hr : Room (k + 1) X.A) (hg : Gl X x) (hm : X.mg x = some (.ref C)) (hx : Passes CX X E) (he : PE X e te) (hd : (x == ("__debug__" : Str)) = false := by decide)
    (hst : starEach [.Starred e sp_] X.env = [(true, eval e X.env)] := by rfl) : PE X (.Call (.Name x p) [.Starred e sp_] [] pos) (StX.tMakeR C sp E (tItems X.K te)) := by
  refine ⟨fun pins s σ H Q I h => ?_⟩
  refine wpAny_Call_Name_kw (ld_glob I hg hm ?_ hd)
  refine PySem.W.callWith_S (h₀ := X.base) I.ok.mod.kin M.kp (thn (he.run pins s σ H _ I h) fun v s1 ⟨y, H1, I1, ry, a, xs, ey, hxs, q⟩ => ?_) hst
  subst ey
  obtain rfl : v = Value.ref a := ry
  exact StX.star_any I1 hxs fun us s2 I2 rv => ⟨I2.kIn, StX.run_makeR M F hr hx I2 rv q⟩
theorem k_makeS {K : PySem.W.Frag} (M : Mk X.K C f) (F : FnR X.prog X.w X.K X.mg X.base CX k f sp) (hr : Room (k + 1) X.A) (hg : Gl X x) (hm : X.mg x = some (.ref C)) (hx : Passes CX X E) (he : PE X e te) (hd : (x == ("__debug__" : Str)) = false := by decide)
    (hst : starEach [.Starred e sp_] X.env = [(true, eval e X.env)] := by rfl) (h : X.K = K := by rfl) : PE X (.Call (.Name x p) [.Starred e sp_] [] pos) (StX.tMakeR C sp E (tItems K te)) := h ▸ pe_makeS M F hr hg hm hx he hd hst
end
section
variable {K : PySem.W.Frag} {C : Cz} {ρ : List Sl} {P : D → Prop} {ta tb te : TE} {S : Sd} {E : XK} {Cl : Addr}
theorem eva_items {PL : List D → Prop} (h : Ev K C te ρ fun d => asQ d PL) : EvA K C (tItems K te) ρ PL := fun σ H Q s k => h σ H _ s fun d v H1 q s1 f1 a1 => by
  obtain ⟨p, xs, es, rfl, h1, h2, q⟩ := at_Q a1 q
  exact ⟨p, xs, rfl, h1.symm, k _ _ _ q s1 f1 h2⟩
end
/-! ### an own class's operators -/
structure OwnOp (K : PySem.W.Frag) (C f : Addr) (nm : Str) : Prop where
  first : PySem.W.selfFirst K C = true
  at_ : PySem.W.findIn K (.ref C) nm = some (some (.ref f))
  fn : PySem.W.isFn K (.ref f) = true
def rOwn (C : Addr) (sp : Sp) (E : XK) : R2 := fun x y H Q => ∃ a dx fs b dy gs, x = .ref a ∧ y = .ref b ∧ H a = some (.ins C dx fs) ∧ H b = some (.ins C dy gs) ∧ sp [x, y] H Q E
section
variable {X : Cx} {CX : CXT} {k : Nat} {f C : Addr} {fd : FuncData} {ps : List Str} {sp : Sp} {E : XK}
theorem op_own {op : Operator} (M : OwnOp X.K C f (PySem.dunder op.info.2)) (F : FnOk X.prog X.w X.K X.mg X.base CX k f fd ps sp) (hb : Binds X.K fd ps []) (hr : Room k X.A) (hx : Passes CX X E) : OpR X (binaryOp op) (rOwn C sp E) := by
  intro pins s σ H x y v u Q I rx ry hq
  obtain ⟨a, dx, fs, b, dy, gs, rfl, rfl, ha, hb', q⟩ := hq
  obtain rfl : v = Value.ref a := rx
  obtain rfl : u = Value.ref b := ry
  obtain ⟨mA, J, _⟩ := ins_get I.hok ha
  obtain ⟨mB, J', _⟩ := ins_get I.hok hb'
  obtain ⟨od, J, _⟩ := J.look
  obtain ⟨od', J', _⟩ := J'.look
  obtain ⟨m, hF⟩ := I.fr
  refine PySem.W.binop_K hF I.ok.mod.kin J J'.type M.first M.at_ M.fn ?_
  refine wpAny_mono (run_fn (vs := [.ref a, .ref b]) (us := [.ref a, .ref b]) (dvs := []) (ds := []) F hr hb .nil hx I (.cons rfl (.cons rfl .nil)) q) (fun z s' ⟨y, H', I', rz, q⟩ => SlX.cmpback rz ⟨y, H', I', rz, q⟩) fun _ _ z => z
theorem op_ownEq (M : OwnOp X.K C f "__eq__") (F : FnOk X.prog X.w X.K X.mg X.base CX k f fd ps sp) (hb : Binds X.K fd ps []) (hr : Room k X.A) (hx : Passes CX X E) : OpR X (compareOp .Eq) (rOwn C sp E) := by
  intro pins s σ H x y v u Q I rx ry hq
  obtain ⟨a, dx, fs, b, dy, gs, rfl, rfl, ha, hb', q⟩ := hq
  obtain rfl : v = Value.ref a := rx
  obtain rfl : u = Value.ref b := ry
  obtain ⟨mA, J, _⟩ := ins_get I.hok ha
  obtain ⟨mB, J', _⟩ := ins_get I.hok hb'
  obtain ⟨od, J, _⟩ := J.look
  obtain ⟨od', J', _⟩ := J'.look
  obtain ⟨m, hF⟩ := I.fr
  show wpAny (model X.prog X.w) X.A (richCompare .Eq (.ref a) (.ref b)) (EP X pins σ Q) X.xe s
  refine PySem.W.cmp_K (op := .Eq) (tb := .ref C) hr.units0 hF I.ok.mod.kin J J'.type (by simp [PySem.W.notFirst]) M.at_ M.fn ?_
  refine wpAny_mono (run_fn (vs := [.ref a, .ref b]) (us := [.ref a, .ref b]) (dvs := []) (ds := []) F hr hb .nil hx I (.cons rfl (.cons rfl .nil)) q) (fun z s' ⟨y, H', I', rz, q⟩ => SlX.cmpback rz ⟨y, H', I', rz, q⟩) fun _ _ z => z
end
section
variable {K : PySem.W.Frag} {C : Cz} {ρ : List Sl} {P : D → Prop} {ta tb te : TE} {S : Sd} {E : XK} {Cl : Addr}
def tOwnA (C : Addr) (ta tb : TE) : TA := fun σ H Q => ta σ H fun x H1 => tb σ H1 fun y H2 => ∃ a dx fs b dy gs, x = .ref a ∧ y = .ref b ∧ H2 a = some (.ins C dx fs) ∧ H2 b = some (.ins C dy gs) ∧ Q [x, y] H2
theorem eva_own {PL : List D → Prop} (h : Ev K C ta ρ fun d => Ev K C tb ρ fun e => asIns Cl d fun l => asIns Cl e fun r => PL [.ins Cl l, .ins Cl r]) : EvA K C (tOwnA Cl ta tb) ρ PL := fun σ H Q s k => h σ H _ s fun d v H1 q s1 f1 a1 => q σ H1 _ s1 fun e u H2 q2 s2 f2 a2 => by
  have a1' := a1.fr (s.up f2)
  obtain ⟨p, dx, fs, l, rfl, rfl, h1, _, h3, q2⟩ := at_ins a1' q2
  obtain ⟨p', dx', fs', l', rfl, rfl, h1', _, h3', q2⟩ := at_ins a2 q2
  exact ⟨p, dx, fs, p', dx', fs', rfl, rfl, h1, h1', k _ _ _ q2 s2 (f1.trans f2) (.cons a1' (.one a2))⟩
theorem ev_own (h : Ev K C ta ρ fun d => Ev K C tb ρ fun e => asIns Cl d fun l => asIns Cl e fun r => S [] [.ins Cl l, .ins Cl r] (okP P)) : Ev K C (tOp (rOwn Cl (spD K S) E) ta tb) ρ P := ev_call (ta := tOwnA Cl ta tb) (eva_own h)
theorem ev_ownX (he : E = C.E) (h : Ev K C ta ρ fun d => Ev K C tb ρ fun e => asIns Cl d fun l => asIns Cl e fun r => S [] [.ins Cl l, .ins Cl r] (exP C P)) : Ev K C (tOp (rOwn Cl (spD K S) E) ta tb) ρ P := ev_callX (ta := tOwnA Cl ta tb) he (eva_own h)
/-- len(e), by an own __len__ -/
def rLenOwn (C : Addr) (sp : Sp) (E : XK) : RC := fun vs H Q => ∃ a dx fs, vs = [.ref a] ∧ H a = some (.ins C dx fs) ∧ sp [.ref a] H (fun v H' => ∃ n : Int, v = .int n ∧ 0 ≤ n ∧ n < 2 ^ 63 ∧ Q v H') E
theorem call_lenOwn {X : Cx} {CX : CXT} {k : Nat} {f C : Addr} {fd : FuncData} {ps : List Str} {sp : Sp} {E : XK} (M : OwnOp X.K C f "__len__") (F : FnOk X.prog X.w X.K X.mg X.base CX k f fd ps sp) (hb : Binds X.K fd ps []) (hr : Room (k + 1) X.A) (hx : Passes CX X E) : CallR X (.builtin "len") (rLenOwn C sp E) := by
  intro pins s σ H xs us Q I r h
  obtain ⟨a, dx, fs, rfl, ha, q⟩ := h
  cases r with
  | cons r1 r2 =>
    cases r2
    cases r1
    obtain ⟨mA, J, _⟩ := ins_get I.hok ha
    obtain ⟨od, J, _⟩ := J.look
    obtain ⟨m, hF⟩ := I.fr
    refine PySem.W.len_K hF I.ok.mod.kin J M.at_ M.fn ?_
    have e0 : Env0 X.prog X.w X.K X.mg X.base X.A.in1 X.stack s H := by
      have e := I.env0
      exact ⟨e.frames, e.mod, e.bs, e.bsz, e.funs, e.frf, e.hok, e.bare⟩
    have hl := F.len _ _ _ _ q
    refine wpAny_call (codeAny_mono (F.run X.A.in1 X.stack s H ⟨[.ref a], []⟩ [.ref a] [.ref a] _ E hr.in1 e0 (by
      have := hb s [.ref a] I.kIn (by simpa using hl)
      simpa using this) (.cons rfl .nil) q) fun r s' hq => ?_)
    cases r with
    | error e => exact hx pins σ H s e s' I hq
    | ok fl =>
      cases fl with
      | ret w =>
        obtain ⟨z, H', I', rz, n, ez, n0, n1, q⟩ := I.after hq
        subst ez
        obtain ⟨t, rfl⟩ := (show ∃ t, w = Value.int n t from rz)
        exact ⟨⟨n0, n1⟩, .int n, H', I'.tok _, ⟨_, rfl⟩, q⟩
      | next => exact False.elim hq
      | brk => exact False.elim hq
      | cont => exact False.elim hq
theorem ev_lenOwn (h : Ev K C ta ρ fun d => asIns Cl d fun l => S [] [.ins Cl l] (okP fun d => asI d fun n => (0 ≤ n ∧ n < 2 ^ 63) ∧ P (.int n))) : Ev K C (tCB (rLenOwn Cl (spD K S) E) (tCons ta tNil)) ρ P := fun σ H Q s k => h σ H _ s fun d v H1 q s1 f1 a1 => by
  obtain ⟨p, dx, fs, l, rfl, rfl, h1, _, h3, q⟩ := at_ins a1 q
  refine ⟨p, dx, fs, rfl, h1, Os C ρ, C.tabs, [], [.ins Cl l], _, .one a1, s1.lv, (fun q m => nomatch m), s1.tb, q, fun d v H' p f lv bg tb a => ?_, fun x p => False.elim p⟩
  obtain ⟨n, rfl, rfl, ⟨q0, q1⟩, q⟩ := at_int a (show asI d _ from p)
  exact ⟨n, rfl, q0, q1, k _ _ _ q (s1.kept f lv tb) (f1.trans (f.mono fun _ m => nomatch m)) (.int n)⟩
/-- isinstance(e, C) -/
structure IsOwn (K : PySem.W.Frag) (C : Addr) : Prop where
  cl : Cls K C
  hc : PySem.W.findIn K (.ref C) "__class__" = some (some (.builtin "object.__class__"))
  hg : PySem.W.specialIn K (.builtin "object.__class__") "__get__" = some (some (.builtin "getset_descriptor.__get__"))
  tk : PySem.W.takesIn K (.builtin "object.__class__") = some true
  mo : PySem.W.mroIn K C (.type "object") = some true
  kit : PySem.W.kitOne K (.ref C) (.ref C) = some true
theorem ev_isiOwn (o : IsOwn K Cl) (h : Ev K C ta ρ fun d => asIns Cl d fun _ => P (.bl true)) : Ev K C (tCB (rIsi K) (tCons ta (tCons (tC (.ref Cl)) tNil))) ρ P := fun σ H Q s k => h σ H _ s fun d v H1 q s1 f1 a1 => by
  obtain ⟨p, dx, fs, l, rfl, rfl, h1, _, h3, q⟩ := at_ins a1 q
  exact ⟨_, _, _, _, _, rfl, .own Cl,   .base (.ins h1 o.cl o.hc o.hg o.tk o.mo), o.kit, k _ _ _ q s1 f1 (.bl true)⟩
end

/-! ### more of what is walked -/
section
variable {K : PySem.W.Frag} {C : Cz} {ρ : List Sl} {P : List D → Prop} {te : TE} {ta : TA}
theorem walks_rev {a : Addr} {ds : List D} {n : Nat} (hn : n = ds.length) : Walks K (Itv K a n) [.ref a] [.lst ds] ds.reverse := fun O H h => by
  cases h with
  | cons h _ =>
    cases h with
    | @lst _ xs _ h1 _ h3 =>
      have hl := h3.length
      have W := walk_rev (K := K) (a := a) (xs := xs)
      rw [List.length_reverse, show n = xs.length by omega]
      refine ⟨fun i hi => W.goes i H (by omega) (SqL.of h1), by rw [← hl]; exact W.stops H (SqL.of h1), fun i x H' hi y => ?_⟩
      obtain ⟨rfl, e⟩ := W.yields i H x H' (by omega) (SqL.of h1) y
      obtain ⟨d, e, a⟩ := h3.get e
      refine ⟨d, ?_, Same.refl _, fun _ => a⟩
      rw [List.getElem?_reverse (by omega), ← hl]
      exact e
theorem evi_revA (h : Ev K C te ρ fun d => asL d fun l => P l.reverse) : EvI K C (RT.iRevA K te) ρ P := fun σ H R s k => h σ H _ s fun d v H1 q s1 f1 a1 => by
  obtain ⟨p, xs, ds, rfl, rfl, h1, _, h3, q⟩ := at_L a1 q
  exact ⟨p, xs, rfl, .inl ⟨SqL.of h1, k _ _ H1 [.ref p] [.lst ds] q s1 f1 (.one a1) (walks_rev h3.length)⟩⟩
theorem walks_revT {a : Addr} {ds : List D} {n : Nat} (hn : n = ds.length) : Walks K (RT.ItvT K a n) [.ref a] [.tup ds] ds.reverse := fun O H h => by
  cases h with
  | cons h _ =>
    cases h with
    | @tup _ xs _ h1 n3 h3 =>
      have hl := h3.length
      rw [List.length_reverse]
      refine ⟨fun i hi => ⟨by omega, xs, xs[n - 1 - i]'(by omega), h1, by rw [List.getElem?_eq_getElem]⟩, by show n ≤ ds.length; omega, fun i x H' hi y => ?_⟩
      obtain ⟨rfl, y⟩ := y
      have e := y xs h1
      obtain ⟨d, e, a⟩ := h3.get e
      refine ⟨d, ?_, Same.refl _, fun _ => a⟩
      rw [List.getElem?_reverse (by omega), ← hn]
      exact e
theorem evi_revT (h : Ev K C te ρ fun d => asT d fun l => P l.reverse) : EvI K C (RT.iRevA K te) ρ P := fun σ H R s k => h σ H _ s fun d v H1 q s1 f1 a1 => by
  obtain ⟨p, xs, ds, rfl, rfl, h1, _, h3, q⟩ := at_T a1 q
  exact ⟨p, xs, rfl, .inr ⟨h1, k _ _ H1 [.ref p] [.tup ds] q s1 f1 (.one a1) (walks_revT h3.length)⟩⟩
theorem evi_revQ (h : Ev K C te ρ fun d => asQ d fun l => P l.reverse) : EvI K C (RT.iRevA K te) ρ P := fun σ H R s k => h σ H _ s fun d v H1 q s1 f1 a1 => by
  cases a1 with
  | @lst p xs l h1 n h3 => exact ⟨p, xs, rfl, .inl ⟨SqL.of h1, k _ _ H1 [.ref p] [.lst l] q s1 f1 (.one (.lst h1 n h3)) (walks_rev h3.length)⟩⟩
  | @tup p xs l h1 n h3 => exact ⟨p, xs, rfl, .inr ⟨h1, k _ _ H1 [.ref p] [.tup l] q s1 f1 (.one (.tup h1 n h3)) (walks_revT h3.length)⟩⟩
  | _ => exact q.elim
theorem walks_enumT {a : Addr} {ds : List D} : Walks K (Itet K a) [.ref a] [.tup ds] (enumD ds) := fun O H h => by
  cases h with
  | cons h _ =>
    cases h with
    | @tup _ xs _ h1 n3 h3 =>
      have hl := h3.length
      rw [enumD_len]
      refine ⟨fun i hi => ⟨xs, xs[i]'(by omega), h1, by rw [List.getElem?_eq_getElem]⟩, ⟨xs, h1, by omega⟩, fun i x H' hi y => ?_⟩
      obtain ⟨T, z, rfl, nT, rfl, e2⟩ := y
      obtain ⟨d, e, a⟩ := h3.get (e2 xs h1)
      exact ⟨_, enumD_get e, same_upd nT, fun lv => At.mkTup nT (fun m => lv _ m nT) (.cons (.int _) (.one a))⟩
theorem evi_enumT (h : EvA K C ta ρ fun ds => as1 ds fun d => asT d fun l => P (enumD l)) : EvI K C (iEnumT K ta) ρ P := fun σ H R s k => h σ H _ s fun ds vs H1 q s1 f1 a1 => by
  obtain ⟨v, d, rfl, a, h⟩ := all_1 a1 q
  obtain ⟨p, xs, l, rfl, rfl, h1, n, h3, q⟩ := at_T a h
  exact ⟨p, xs, rfl, h1, k _ _ H1 [.ref p] [.tup l] q s1 f1 (.one a) walks_enumT⟩
end
section
variable {K : PySem.W.Frag} {C : Cz} {ρ : List Sl} {ta : TA} {i : Nat} {PO : Out → Prop}
/-- a new list that is changed -/
theorem run_ownNil (h : i < ρ.length ∧ ∀ p, PO (.nx (ρ.set i (.own p [])))) : Run K C (tAsg (tLst tNil) (gName i)) ρ PO := run_own (evf_lst (eva_nil ⟨Nat.zero_le _, h⟩))
theorem run_ownL (h : EvF K C (tCB (rListQ K) ta) ρ fun ds => i < ρ.length ∧ ∀ p, PO (.nx (ρ.set i (.own p ds)))) : Run K C (tAsg (tCB (rListQ K) ta) (gName i)) ρ PO := run_own h
end
section
variable {K : PySem.W.Frag} {C : Cz} {ρ : List Sl}
/-- a loop that carries x, of which J holds: of the slots what f says -/
theorem forX {α : Type} (J : Nat → α → Prop) (f : α → List Sl) (x0 : α) {items : List D} {g : TG} {tb : TS} {P : Out → Prop} (j0 : J 0 x0) (w : Wk ρ (f x0))
    (h : ∀ (hv : List V) (hd : List D) (i : Nat) (d : D) (x : α), items[i]? = some d → J i x → EvX K (C.hold hv hd) g d (f x) fun ρ2 => Run K (C.hold hv hd) tb ρ2 (loopP (fun ρ3 => ∃ x', J (i + 1) x' ∧ Wk ρ3 (f x')) P))
    (e : ∀ x, J items.length x → ∀ ρ3, Wk ρ3 (f x) → P (.nx ρ3)) :
    ∃ I : Nat → List Sl → Prop, I 0 ρ ∧ (∀ hv hd i d ρ', items[i]? = some d → I i ρ' → EvX K (C.hold hv hd) g d ρ' fun ρ2 => Run K (C.hold hv hd) tb ρ2 (loopP (I (i + 1)) P)) ∧ ∀ ρ', I items.length ρ' → P (.nx ρ') :=
  ⟨fun i ρ' => ∃ x, J i x ∧ Wk ρ' (f x), ⟨x0, j0, w⟩, fun hv hd i d ρ' e ⟨x, j, hw⟩ => evx_wk hw (h hv hd i d x e j), fun ρ' ⟨x, j, hw⟩ => e x j ρ' hw⟩
end
section
variable {K : PySem.W.Frag} {C : Cz} {ρ : List Sl} {P : D → Prop} {te : TE}
/-- [e for g in wi if t]: I by the turn and what is made so far -/
theorem ev_lcI (I : Nat → List D → Prop) {wi : TI} {g : TG} {tt : TT} {vs : List Nat} (hv : nowns ρ vs = true) (h0 : I 0 [])
    (h : EvI K C wi ρ fun items => (∀ C' : Cz, C'.E = C.E → C'.X = C.X → C'.bags = C.bags → ∀ i d ys, items[i]? = some d → I i ys → EvG K C' g d vs (wipeR ρ vs) fun ρ2 =>
      EvT K C' tt ρ2 fun b => if b = true then Ev K C' te ρ2 fun y => ys.length < sizeLine ∧ I (i + 1) (ys ++ [y]) else I (i + 1) ys) ∧ ∀ ys, I items.length ys → P (.lst ys)) : Ev K C (tLc wi g tt te vs) ρ P :=
  ev_f (evf_lc hv fun σ H R s k => h σ H R s fun items J H' hv' hd q s1 f1 a1 w => k items J H' hv' hd ⟨I, h0, q.1, q.2⟩ s1 f1 a1 w)
/-- [e for g in wi]: the items of out -/
theorem ev_lcx (f : List D → List D) {wi : TI} {g : TG} {tt : TT} {vs : List Nat} (hv : nowns ρ vs = true)
    (h : EvI K C wi ρ fun items => (items.length ≤ 100000 ∧ (f items).length = items.length) ∧ (∀ C' : Cz, C'.E = C.E → C'.X = C.X → C'.bags = C.bags → ∀ (i : Nat) (d : D), items[i]? = some d → EvG K C' g d vs (wipeR ρ vs) fun ρ2 => EvT K C' tt ρ2 fun b => b = true ∧ Ev K C' te ρ2 fun y => (f items)[i]? = some y) ∧ P (.lst (f items))) : Ev K C (tLc wi g tt te vs) ρ P := by
  refine ev_f (evf_lc hv fun σ H R s k => h σ H R s fun items J H' hv' hd q s1 f1 a1 w => k items J H' hv' hd ?_ s1 f1 a1 w)
  obtain ⟨⟨q1, q0⟩, q2, q3⟩ := q
  refine ⟨fun i ys => ys = (f items).take i, rfl, fun C' e1 e2 e3 i d ys hi hI => ?_, fun ys hI => ?_⟩
  · intro v σ H Q s a k
    refine q2 C' e1 e2 e3 i d hi v σ H Q s a fun ρ' σ' p => k ρ' σ' fun σ2 H2 Q2 s2 k2 => p σ2 H2 Q2 s2 fun b H3 pb s3 f3 => k2 b H3 ?_ s3 f3
    have hlt := (List.getElem?_eq_some_iff.mp hi).1
    dsimp only
    rw [if_pos pb.1]
    refine ev_mono pb.2 fun y hy => ⟨?_, ?_⟩
    · rw [hI, List.length_take]
      exact Nat.lt_of_lt_of_le (show min i (f items).length < 200000 by omega) (by decide)
    · rw [hI, List.take_add_one, hy]
      rfl
  · rw [hI, ← q0, List.take_length]
    exact q3
end
theorem k_star {X : Cx} {K : PySem.W.Frag} {e : Expr} {es : List Expr} {te : TE} {t : TA} {p : Pos} (he : PE X e te) (hr : PA X es t) (hs : starEach (.Starred e p :: es) X.env = (true, eval e X.env) :: starEach es X.env := by rfl) (h : X.K = K := by rfl) : PA X (.Starred e p :: es) (StX.tStar K te t) := h ▸ StX.pa_star he hr hs
theorem k_revA {X : Cx} {K : PySem.W.Frag} {tg e : Expr} {te : TE} {p pos : Pos} (hg : Gl X "reversed") (hm : X.mg "reversed" = none) (he : PE X e te) (hs : starEach [e] X.env = (false, eval e X.env) :: starEach [] X.env := by rfl) (h : X.K = K := by rfl) : PI X tg (.Call (.Name "reversed" p) [e] [] pos) (RT.iRevA K te) := h ▸ RT.pi_revA hg hm he hs

/-! ### lambdas as values: kept in a list, called later -/
/-- a lambda's data: no default, or one -/
abbrev lmFd (q : Str) (ps : Arguments) (b : Expr) (sc : Scope) (cl : List (Str × Addr)) (dv pm cdv ctv : Value) : FuncData :=
  { PySem.W.kla_fn "<lambda>" q ps b sc cl pm cdv ctv with defaults := dv }
abbrev lmObj (q : Str) (ps : Arguments) (b : Expr) (sc : Scope) (cl : List (Str × Addr)) (dv pm cdv ctv : Value) : Obj :=
  { cls := .type "function", data := .func (lmFd q ps b sc cl dv pm cdv ctv) }
/-- what stands at f -/
def lmIs (q : Str) (ps : Arguments) (b : Expr) (sc : Scope) (cl : List (Str × Addr)) (dv : Value) (f c' : Addr) : Heap → Prop :=
  fun h => ∃ pm ctv, h.get? f = some (lmObj q ps b sc cl dv pm (.ref c') ctv)
section
variable {M : Model} {A : Around} {E : Value → Shared → Prop} {s : Shared} {q : Str} {ps : Arguments} {b : Expr} {sc : Scope} {env : Env} {c P : Addr} {tab : Array Value} {pos : Pos} {mg : Str → Option Value}
/-- a lambda's code object is new, or found in the table -/
def TabStep (s : Shared) (P : Addr) (q : Str) (pos : Pos) (tab tab' : Array Value) (c' : Addr) (h' : Heap) : Prop :=
  (tab' = tab ∧ codeAmong pos tab.toList = some (.ref c')) ∨ (codeAmong pos tab.toList = none ∧ tab' = tab ++ #[rawInt pos.line, rawInt pos.col, .ref c'] ∧ s.heap.objs.size ≤ c' ∧ c' < h'.objs.size ∧ h'.CodeRec (.ref c') q)
theorem lm_tail {cl : List (Str × Addr)} {dv : Value} {Q : Value → Shared → Prop} {n : Nat} (e1 : closureFor sc env = pure cl) (e2 : env.globals = mainGlobals) (hn : s.heap.Ns mainGlobals mg) (e3 : env.code = .ref c) (C : PySem.W.CodeHd s.heap c P)
    (hP : s.heap.get? P = some (PySem.W.tabObj tab)) (ht : TriplesOk tab.toList) (hu : ∀ cv, codeAmong pos tab.toList = some cv → ∃ c', cv = .ref c') (gP : mainGlobals ≠ P) (bP : s.heap.BuiltinsAt mg P)
    (h : ∀ (c' : Addr) (ctv : Value) (tab' : Array Value) (h' : Heap) (tk : Tok), (∀ a o, a ≠ P → s.heap.get? a = some o → h'.get? a = some o) → s.heap.objs.size ≤ h'.objs.size → h'.get? P = some (PySem.W.tabObj tab') → TabStep s P q pos tab tab' c' h' →
      Q (.ref h'.objs.size) { s with heap := h'.push (lmObj q ps b sc cl dv ((mg "__name__").getD .none) (.ref c') ctv), toks := tk }) :
    wpAny M A (PySem.makeTail "<lambda>" q ps (.expr b) sc env dv .none none pos n) Q E s := by
  obtain ⟨bm, ob, g1, g2, _, g4, g5, g6, g7, g8⟩ := bP
  -- behind the closure's tuple
  have go : ∀ (ctv : Value) (h0 : Heap), (∀ a o, s.heap.get? a = some o → h0.get? a = some o) → s.heap.objs.size ≤ h0.objs.size →
      wpAny M A (do let code ← functionCode env pos n "<lambda>" q ps sc (.expr b); let bi ← builtinsFor env.globals env.builtins; let nm ← nsGet env.globals "__name__"; let doc ← (pure Value.none : Sem Value)
                    newObj (.type "function") (.func { name := "<lambda>", qualname := q, params := ps, body := .expr b, scope := sc, globals := env.globals, closure := cl, closureTuple := ctv, code, builtins := bi, defaults := dv, kwdefaults := .none, annotations := none, pyModule := nm.getD .none, doc })) Q E { s with heap := h0 } := by
    intro ctv h0 k0 z0
    have hP0 := k0 _ _ hP
    have C0 := C.keeps k0
    cases hc : codeAmong pos tab.toList with
    | some cv =>
      obtain ⟨c', rfl⟩ := hu cv hc
      refine wpAny_bind (wpAny_functionCode_hit (s := { s with heap := h0 }) e3 (C0.code hP0 ht) hc ?_)
      rw [e2]
      refine wpAny_bind (wpAny_builtinsFor (s := { s with heap := h0 }) (hn.keeps k0) g1 g2 (k0 _ _ g5) g6 g7 g8 (wpAny_bind (wpAny_nsGet (s := { s with heap := h0 }) (hn.keeps k0) (wpAny_bind (wpAny_pure ?_)))))
      exact wpAny_newObj_type (s := { s with heap := h0 }) (h c' ctv tab h0 s.toks (fun a o _ e => k0 a o e) z0 hP0 (.inl ⟨rfl, hc⟩)) (by size_fits)
    | none =>
      refine wpAny_bind (wpAny_functionCodeX (s := { s with heap := h0 }) e3 (C0.code hP0 ht) (C0.tab hP0) hc fun c' h' tk hx z1 z2 _ rc tb _ => ?_)
      have k1 : ∀ a o, a ≠ P → s.heap.get? a = some o → h'.get? a = some o := fun a o ha e => hx a o ha (k0 a o e)
      have hn' := (hn.keeps k0).extBut hx gP
      rw [e2]
      refine wpAny_bind (wpAny_builtinsFor (s := { s with heap := h', toks := tk }) hn' g1 g2 (k1 _ _ g4 g5) g6 g7 g8 (wpAny_bind (wpAny_nsGet (s := { s with heap := h', toks := tk }) hn' (wpAny_bind (wpAny_pure ?_)))))
      exact wpAny_newObj_type (s := { s with heap := h', toks := tk }) (h c' ctv _ h' tk k1 (Nat.le_trans z0 (Nat.le_trans z1 (Nat.le_of_lt z2))) tb.2 (.inr ⟨hc, rfl, Nat.le_trans z0 z1, z2, rc⟩)) (by size_fits)
  unfold PySem.makeTail
  rw [e1]
  refine wpAny_bind (wpAny_pure ?_)
  cases cl with
  | nil => exact wpAny_bind (wpAny_pure (go .none s.heap (fun _ _ e => e) (Nat.le_refl _)))
  | cons x r => exact wpAny_bind (wpAny_newTextTuple (go _ _ (fun a o e => Heap.get?_push_of_some _ e) (by rw [Heap.size_push]; omega)))
end

theorem upd_live {H : Hp} {a b : Addr} {o : HO} (h : H a ≠ none) : upd H b o a ≠ none := by
  by_cases z : a = b
  · rw [z, upd_same]; exact fun e => nomatch e
  · rw [upd_ne z]; exact h
/-- the default is written behind: nothing, or one number's tuple -/
def DflOk (H : Hp) : Value → Prop
  | .none => True
  | .ref d => ∃ i, H d = some (.tup [.int i])
  | _ => False
section
variable {X : Cx} {pins : List (Addr × Obj)} {σ : L2.St} {H : Hp} {s : Shared} {c P : Addr} {ps : Arguments} {b : Expr} {sc : Scope} {pos : Pos}
/-- the lambda is made, with its defaults at dv -/
theorem lm_make {q : Str} {dv : Value} {n : Nat} {E : Value → Shared → Prop} {Q : Value → Shared → Prop} (I : Inv X pins σ H s) (TB : LamX.TabB X.base X.mg c P) (e3 : X.env.code = .ref c) (hT : LamX.TabS H P q) (hf : ∀ y ∈ sc.names, y.2 = .free → ∃ c, X.env.cells.lookup y.1 = some c)
    (h : ∀ (f c' : Addr) (H1 : Hp) (s1 : Shared), Inv X pins σ H1 s1 → LamX.ExtN H H1 → LamX.TabS H1 P q → H f = none → H1 f = some (.ext (lmIs q ps b sc (cloFrom X.env.cells sc.names []) dv f c')) → H1 c' = some (LamX.CodeO c' q) → (H c' = none ∨ H c' = some (LamX.CodeO c' q)) → (∀ a, H a ≠ none → H1 a ≠ none) → Q (.ref f) s1) :
    wpAny (model X.prog X.w) X.A (PySem.makeTail "<lambda>" q ps (.expr b) sc X.env dv .none none pos n) Q E s := by
  obtain ⟨tab, hP, ht, ha⟩ := hT
  have gP : s.heap.get? P = some (PySem.W.tabObj tab) := I.hok P _ hP
  refine lm_tail (closure_ok hf) I.ok.glob (I.mod.glob.keeps I.bk) e3 (TB.code.keeps I.bk) gP ht (fun cv hc => (ha pos cv hc).imp fun _ z => z.1) TB.gP (TB.bm.keeps I.bk) fun c' ctv tab' h' tk k1 z1 gP' st => ?_
  have mk : ∀ {H1 : Hp}, Inv X pins σ H1 { s with heap := h', toks := tk } → H1 h'.objs.size = none ∧ Inv X pins σ (upd H1 h'.objs.size (.ext (lmIs q ps b sc (cloFrom X.env.cells sc.names []) dv h'.objs.size c')))
      { s with heap := h'.push (lmObj q ps b sc (cloFrom X.env.cells sc.names []) dv ((X.mg "__name__").getD .none) (.ref c') ctv), toks := tk } := fun {H1} I1 =>
    ⟨I1.hok.fresh (Nat.le_refl _), I1.laid (t' := tk) (fun a o e => Heap.get?_push_of_some _ e) (Nat.le_refl _) ⟨⟨_, ctv, Heap.get?_push_size _ rfl⟩, ⟨_, Heap.get?_push_size _ rfl⟩, fun h1 h2 ⟨pm, cv, e⟩ g => ⟨pm, cv, g _ e⟩⟩⟩
  rcases st with ⟨rfl, hc⟩ | ⟨hc, rfl, z2, z3, rc⟩
  · have I1 : Inv X pins σ H { s with heap := h', toks := tk } := I.kept fun a o e => by
      by_cases z : a = P
      · subst z; rw [gP] at e; cases e; exact gP'
      · exact k1 a o z e
    obtain ⟨n1, I2⟩ := mk I1
    obtain ⟨c2, e2, hco⟩ := ha pos _ hc
    cases e2
    have k2 : ∀ a o, H a = some o → upd H h'.objs.size (.ext (lmIs q ps b sc (cloFrom X.env.cells sc.names []) dv h'.objs.size c')) a = some o := fun a o e => by rw [upd_ne (ne_of_none e n1)]; exact e
    exact h _ c' _ _ I2 (LamX.ExtN.of k2) (LamX.TabS.ext ⟨_, hP, ht, ha⟩ k2) n1 upd_same (k2 _ _ hco) (.inr hco) (fun a na => upd_live (fun z => na z) )
  · obtain ⟨c2, oc, vs, t, e2, hoc, hd, hv⟩ := rc
    cases e2
    have nC : H c' = none := I.hok.fresh z2
    have nPc : P ≠ c' := ne_of_none hP nC
    have I1 := LamX.inv_table (t' := tk) (q := q) (more := #[rawInt pos.line, rawInt pos.col, .ref c']) (h' := h') I hP k1 gP' z2 ⟨oc, vs, t, hoc, hd, hv⟩
    obtain ⟨n1, I2⟩ := mk I1
    have nf : H h'.objs.size = none := I.hok.fresh (Nat.le_trans z2 (Nat.le_of_lt z3))
    have nfc : c' ≠ h'.objs.size := Nat.ne_of_lt z3
    have nfP : P ≠ h'.objs.size := ne_of_none hP nf
    have kE : LamX.ExtN H (upd (upd (upd H P (.tbl (tab ++ #[rawInt pos.line, rawInt pos.col, .ref c']))) c' (LamX.CodeO c' q)) h'.objs.size (.ext (lmIs q ps b sc (cloFrom X.env.cells sc.names []) dv h'.objs.size c'))) := fun a o e nt => by
      rw [upd_ne (ne_of_none e nf), upd_ne (ne_of_none e nC), upd_ne fun z => nt tab (Option.some.inj (e.symm.trans (by rw [z]; exact hP)))]
      exact e
    have kC : upd (upd (upd H P (.tbl (tab ++ #[rawInt pos.line, rawInt pos.col, .ref c']))) c' (LamX.CodeO c' q)) h'.objs.size (.ext (lmIs q ps b sc (cloFrom X.env.cells sc.names []) dv h'.objs.size c')) c' = some (LamX.CodeO c' q) := by
      rw [upd_ne nfc, upd_same]
    have eL : (tab ++ #[rawInt pos.line, rawInt pos.col, .ref c']).toList = tab.toList ++ [rawInt pos.line, rawInt pos.col, .ref c'] := by simp
    refine h _ c' _ _ I2 kE ⟨_, by rw [upd_ne nfP, upd_ne nPc, upd_same], by rw [eL]; exact PySem.TriplesOk_snoc _ _ _ _ ht, fun p' cv hcv => ?_⟩ nf upd_same kC (.inl nC) (fun a na => upd_live (upd_live (upd_live na)))
    rw [eL] at hcv
    rcases LamX.among_app _ ht hcv with z | rfl
    · obtain ⟨c0, g1, g2⟩ := ha p' cv z
      exact ⟨c0, g1, kE _ _ g2 LamX.codeO_ne⟩
    · exact ⟨c', rfl, kC⟩
/-- what an expression of a lambda without a default is, of one with a number -/
theorem lm_eval0 {E : Value → Shared → Prop} {Q : Value → Shared → Prop} (hd : defaultsOf ps X.env = ([], [])) (h : wpAny (model X.prog X.w) X.A (PySem.makeTail "<lambda>" (X.env.qual ++ "<lambda>") ps (.expr b) sc X.env .none .none none pos pos.line) Q E s) :
    wpAny (model X.prog X.w) X.A (eval (.Lambda ps b sc pos) X.env) Q E s := by
  refine PySem.W.kla_eval hd ?_
  rw [makeFunction_eq]
  simp only [List.zip_nil_right, List.filterMap_nil, List.isEmpty_nil, if_true, pure_bind]
  exact h
theorem lm_eval1 {i : Int} {k : Nat} {p : Pos} {E : Value → Shared → Prop} {Q : Value → Shared → Prop} (I : Inv X pins σ H s) (hd : defaultsOf ps X.env = ([eval (.Constant (.int i) k p) X.env], []))
    (h : ∀ (d : Addr) (s1 : Shared), H d = none → Inv X pins σ (upd H d (.tup [.int i])) s1 → wpAny (model X.prog X.w) X.A (PySem.makeTail "<lambda>" (X.env.qual ++ "<lambda>") ps (.expr b) sc X.env (.ref d) .none none pos pos.line) Q E s1)
    (hx : ∀ e s1, X.xe e s1 → E e s1) : wpAny (model X.prog X.w) X.A (eval (.Lambda ps b sc pos) X.env) Q E s := by
  rw [arm_eval_Lambda, hd]
  show wpAny _ X.A (do let dv ← evalAll [eval (.Constant (.int i) k p) X.env]; let kdv ← holding dv (evalAllOpt []); makeFunction "<lambda>" (X.env.qual ++ "<lambda>") ps (.expr b) sc X.env dv kdv [] pos pos.line) Q E s
  refine wpAny_bind ?_
  unfold evalAll
  refine wpAny_bind (wpAny_mono ((pe_int (X := X) (j := k) (pos := p) (i := i)).run pins s σ H (fun v H1 => v = .int i ∧ H1 = H) I ⟨rfl, rfl⟩) (fun u s1 hu => ?_) hx)
  obtain ⟨v, H1, I1, r, rfl, rfl⟩ := hu
  refine wpAny_bind (wpAny_holding (wpAny_pure (wpAny_pure ?_)))
  refine wpAny_bind (wpAny_holding (wpAny_pure ?_))
  rw [makeFunction_eq]
  simp only [List.zip_nil_right, List.filterMap_nil, List.isEmpty_nil, List.isEmpty_cons, Bool.false_eq_true, if_true, if_false, pure_bind]
  refine wpAny_bind (wpAny_newTextTuple ?_)
  exact h s1.heap.objs.size _ (I1.hok.fresh (Nat.le_refl _)) (I1.laid (t' := s1.toks) (fun a o e => Heap.get?_push_of_some _ e) (Nat.le_refl _) ⟨by show (1 : Nat) ≤ sizeLine; decide, [u], .cons r .nil, ⟨_, Heap.get?_push_size _ rfl, rfl, _, rfl⟩⟩)
end

/-- the lambda's names: captured ones, globals; a parameter that the def's own names don't have -/
structure LamN (N : List Str) (sd sc : Scope) : Prop where
  fn : sc.kind = .function
  noCo : sc.isCoroutine = false
  noGen : sc.isGenerator = false
  noCell : ∀ y ∈ sc.names, y.2 ≠ .cell
  par : ∀ y ∈ sc.names, y.2 = .local → y.1 ∉ N
  free : ∀ y ∈ sc.names, y.2 = .free → sd.names.lookup y.1 = some .cell ∨ sd.names.lookup y.1 = some .free
def lamNB (N : List Str) (sd sc : Scope) : Bool :=
  decide (sc.kind = .function) && (!sc.isCoroutine && (!sc.isGenerator && sc.names.all fun y => !decide (y.2 = .cell) && ((!decide (y.2 = .local) || !decide (y.1 ∈ N)) && (!decide (y.2 = .free) || (decide (sd.names.lookup y.1 = some .cell) || decide (sd.names.lookup y.1 = some .free))))))
theorem lamN_by {N : List Str} {sd sc : Scope} (h : lamNB N sd sc = true) : LamN N sd sc := by
  unfold lamNB at h
  simp only [Bool.and_eq_true, Bool.or_eq_true, Bool.not_eq_true', decide_eq_true_eq, decide_eq_false_iff_not, List.all_eq_true] at h
  obtain ⟨k1, k2, k3, k4⟩ := h
  refine ⟨k1, k2, k3, fun y hy => (k4 y hy).1, fun y hy e => ?_, fun y hy e => ?_⟩
  · exact (k4 y hy).2.1.elim (fun z => absurd e z) id
  · exact (k4 y hy).2.2.elim (fun z => absurd e z) id
section
variable {X : Cx} {pins : List (Addr × Obj)} {σ : L2.St} {H : Hp} {s : Shared} {sc : Scope}
theorem LamN.cells (L : LamN X.N X.env.scope sc) (ok : X.Ok) : ∀ y ∈ sc.names, y.2 = .free → ∃ c, X.env.cells.lookup y.1 = some c := fun y hy e =>
  ok.has _ (show X.env.kindOf y.1 = some .cell ∨ X.env.kindOf y.1 = some .free from L.free y hy e)
/-- the body's context, entered: HZ, s1 are now; nothing of what is captured has changed since s -/
theorem lm_start {A : Around} {outer : List Env} {E : XK} {f c' : Addr} {h1 : Heap} {tk : Nat} {HZ : Hp} {s1 : Shared} {bd : List (Str × Value)} (I : Inv X pins σ H s) (L : LamN X.N X.env.scope sc) (e0 : Env0 X.prog X.w X.K X.mg X.base A outer s1 HZ) (nh : A.handled = none)
    (un : Un (frs X.stack) [] H HZ s.heap s1.heap) (ns : h1.Ns s1.heap.objs.size fun y => bd.reverse.lookup y) (kp : ∀ a o, s1.heap.get? a = some o → h1.get? a = some o) :
    Inv (LamX.lamCx X A outer s1 HZ E sc f c') [] σ HZ { s1 with heap := h1, toks := tk } := by
  have hc := L.cells I.ok
  -- a captured name's cell is the def's
  have up : ∀ {y : Str} {a : Addr}, (cloFrom X.env.cells sc.names []).lookup y = some a → X.env.cells.lookup y = some a := by
    intro y a e
    rcases cloFrom_mem (PySem.mem_of_lookup e) with z | ⟨z, rfl⟩
    · exact nomatch z
    · obtain ⟨a', e'⟩ := hc _ z rfl
      have e' : X.env.cells.lookup y = some a' := e'
      rw [e']
      rfl
  have dn : ∀ {y : Str}, sc.names.lookup y = some .free → ∃ a, (cloFrom X.env.cells sc.names []).lookup y = some a := fun {y} e =>
    mem_lookup (cloFrom_has (cells := X.env.cells) (acc := []) (show (y, NameKind.free) ∈ sc.names from PySem.mem_of_lookup e))
  have cell : ∀ {a : Addr} {v : Option Value}, H a = none → s.heap.IsCell a v → h1.IsCell a v := by
    rintro a v n ⟨o, ho, hd⟩
    obtain ⟨sl, g⟩ := un.any ho n List.not_mem_nil
    exact ⟨_, kp _ _ g, hd⟩
  have ok : (LamX.lamCx X A outer s1 HZ E sc f c').Ok := {
    mod := e0.mod, kind := L.fn, glob := rfl, blt := rfl, above := Nat.le_refl _,
    inj := fun y z a g1 g2 => I.ok.inj y z a (up g1) (up g2),
    has := fun y hy => by
      have hy : sc.names.lookup y = some .cell ∨ sc.names.lookup y = some .free := hy
      rcases hy with hy | hy
      · exact absurd rfl (L.noCell _ (PySem.mem_of_lookup hy))
      · exact dn hy,
    cab := fun y a z _ => Bool.noConfusion (show false = true from z),
    hd := fun _ => nh, frames := Around.frames_deeper e0.frames, stk := .inr ⟨rfl, rfl⟩, exf := fun a m => (nomatch (show a ∈ ([] : List Addr) from m)),
    bs := e0.bs, bsz := e0.bsz, noex := fun a _ _ m => (nomatch (show a ∈ ([] : List Addr) from m)), exfs := fun a m => (nomatch (show a ∈ ([] : List Addr) from m)), funs := e0.funs, frf := e0.frf }
  refine { ok := ok, os := rfl, bare := e0.bare, base := Un.kept kp, loc := ⟨_, ns, fun i y v g1 g2 g3 => ?_⟩, cell := fun y a e => ?_, free := e0.hok.fresh (Nat.le_refl _), freeC := fun y a e => ?_, pin := fun p m => (nomatch (show p ∈ ([] : List (Addr × Obj)) ++ [] from m)), hok := e0.hok.kept kp, len := I.len }
  · have g3 : Vis sc y := g3
    rcases g3 with k | k | k
    · exact absurd (List.mem_of_getElem? (show X.N[i]? = some y from g1)) (L.par _ (PySem.mem_of_lookup k) rfl)
    · exact absurd rfl (L.noCell _ (PySem.mem_of_lookup k))
    · have kd := L.free _ (PySem.mem_of_lookup k) rfl
      obtain ⟨m, _, hl⟩ := I.loc
      obtain ⟨u, r, l⟩ := hl i y v g1 g2 (kd.elim (fun z => .inr (.inl z)) fun z => .inr (.inr z))
      obtain ⟨a, ea⟩ := dn k
      refine ⟨u, r, .inr ⟨.inr k, a, ea, ?_⟩⟩
      rcases l with ⟨z, _⟩ | ⟨_, a2, e2, z⟩
      · have z : X.env.scope.names.lookup y = some .local := z
        rcases kd with z2 | z2 <;> exact nomatch z.symm.trans z2
      · have ea2 := up ea
        rw [e2] at ea2
        cases ea2
        exact cell (I.freeC y _ e2) z
  · obtain ⟨v, z⟩ := I.cell y a (up e)
    exact ⟨v, cell (I.freeC y a (up e)) z⟩
  · obtain ⟨v, o, ho, hd⟩ := I.cell y a (up e)
    exact un.free a o ho (I.freeC y a (up e)) List.not_mem_nil
end
/-- what is asked of the lambda's parameters: it is called without arguments -/
def Bare0 (q : Str) (ps : Arguments) (b : Expr) (sc : Scope) (dv : Value) (H : Hp) : Prop :=
  ∀ (P : Program) (w : World) (h : Heap) (cl : List (Str × Addr)) (pm cdv ctv : Value), HOk P w H h → ∃ bd : List (Str × Value), (∀ y ∈ bd, sc.names.lookup y.1 = some .local) ∧ ∀ M : Model, PySem.W.Looks M h (bindArgs (lmFd q ps b sc cl dv pm cdv ctv) ⟨[], []⟩) bd
theorem bare_none {q : Str} {ps : Arguments} {b : Expr} {sc : Scope} {H : Hp} (h : ∀ (cl : List (Str × Addr)) (pm cdv ctv : Value), bindArgs (lmFd q ps b sc cl .none pm cdv ctv) ⟨[], []⟩ = pure []) : Bare0 q ps b sc .none H :=
  fun P w hh cl pm cdv ctv _ => ⟨[], fun y m => (nomatch m), fun M => PySem.W.Looks.of_pure (h cl pm cdv ctv)⟩
theorem bare_int {q x : Str} {ps : Arguments} {b : Expr} {sc : Scope} {H : Hp} {d : Addr} {i : Int} (hd : H d = some (.tup [.int i])) (hx : sc.names.lookup x = some .local)
    (h : ∀ (cl : List (Str × Addr)) (pm cdv ctv u : Value), ∃ k, bindArgs (lmFd q ps b sc cl (.ref d) pm cdv ctv) ⟨[], []⟩ = seqItems? (.ref d) >>= k ∧ k (some #[u]) = pure [(x, u)]) : Bare0 q ps b sc (.ref d) H := by
  intro P w hh cl pm cdv ctv ok
  obtain ⟨_, its, r, o, ho, _, n, hdat⟩ := ok d _ hd
  cases r with
  | cons r0 r1 =>
    cases r1
    rename_i u
    refine ⟨[(x, u)], fun y m => by rw [List.mem_singleton.mp m]; exact hx, fun M A Q E s kp g => ?_⟩
    obtain ⟨k, e1, e2⟩ := h cl pm cdv ctv u
    rw [e1]
    refine wpAny_bind (wpAny_seqItems (kp _ _ ho) hdat ?_)
    rw [show ([u] : List Value).toArray = #[u] from rfl, e2]
    exact wpAny_pure g
section
variable {X : Cx} {pins : List (Addr × Obj)} {σ : L2.St} {H : Hp} {s : Shared}
/-- a(), in the def that got the lambda at f -/
theorem lm_act {CXg : CXT} {Eg : XK} {Ng : List Str} {qg : Str} {sg : Scope} {g f c' : Addr} {cdg dv : Value} {ps : Arguments} {b : Expr} {sc : Scope} {k i : Nat} {a : Str} {pn : List (Addr × Obj)} {xe : Value → Shared → Prop} {W : WX} {E : XK} {tb : TE} {p1 p2 : Pos}
    (I : Inv X pins σ H s) (L : LamN X.N X.env.scope sc)
    (tk : Takes ((cxOf CXg X.prog X.w X.K X.mg X.base Ng qg sg g cdg X.A X.stack s H Eg).tr pn xe) W) (hW : ∀ cls d σ' H', E cls d H' → W cls d σ' H') (hr : Room (k + 1) (X.A.deeper (envOfC qg sg s.heap.objs.size g cdg)))
    (hbody : ∀ (A : Around) (outer : List Env) (s : Shared) (H : Hp), Room k (A.deeper (LamX.lamEnv X sc s.heap.objs.size f c')) → PE (LamX.lamCx X A outer s H E sc f c') b tb)
    (hN : Ng[i]? = some a) (hv : Vis sg a) (hd : (a == ("__debug__" : Str)) = false := by decide) (hcd : (a == ("__classdict__" : Str)) = false := by decide) :
    PE ((cxOf CXg X.prog X.w X.K X.mg X.base Ng qg sg g cdg X.A X.stack s H Eg).tr pn xe) (.Call (.Name a p1) [] [] p2)
      (fun τ HZ Q => τ[i]? = some (some (.ref f)) ∧ HZ c' = some (LamX.CodeO c' (X.env.qual ++ "<lambda>")) ∧ (HZ f = some (.ext (lmIs (X.env.qual ++ "<lambda>") ps b sc (cloFrom X.env.cells sc.names []) dv f c')) ∧ Bare0 (X.env.qual ++ "<lambda>") ps b sc dv HZ ∧ tb σ HZ Q)) := by
  constructor
  rintro pinsZ sZ τ HZ Q IZ ⟨h1, h2, h3, h4, h5⟩
  refine wpAny_Call_Name_kw (thn ((pe_var (X := (cxOf CXg X.prog X.w X.K X.mg X.base Ng qg sg g cdg X.A X.stack s H Eg).tr pn xe) (pos := p1) hN hv hd hcd).run pinsZ sZ τ HZ (fun v H1 => v = .ref f ∧ H1 = HZ) IZ ⟨.ref f, h1, rfl, rfl⟩) ?_)
  rintro u s1 ⟨v, H1, J, ru, rfl, rfl⟩
  obtain rfl : u = Value.ref f := ru
  obtain ⟨⟨pm, ctv, hob⟩, _, _⟩ := J.hok f _ h3
  obtain ⟨⟨oc, vs, t, hc1, hc2, hc3⟩, _, _⟩ := J.hok c' _ h2
  have un : Un (frs X.stack) [] H H1 s.heap s1.heap := J.base
  obtain ⟨bd, hbd, hlk⟩ := h4 X.prog X.w s1.heap (cloFrom X.env.cells sc.names []) pm (.ref c') ctv J.hok
  refine PySem.W.callWith_F0 ⟨_, _, _, _, hob⟩ ?_
  have rc : codeAny (model X.prog X.w) (X.A.deeper (envOfC qg sg s.heap.objs.size g cdg)) (.call (.ref f) ⟨[], []⟩) (CR (L2.CX X.prog X.w) (envOfC qg sg s.heap.objs.size g cdg :: X.stack) X.prog X.w H1 s1 Q E) s1 := by
    refine PySem.W.kla_callFunE hr.depth hob rfl L.noCo L.noGen rfl ⟨c', oc, vs, t, rfl, hc1, hc2, hc3⟩ ((hlk _).here ?_)
    refine wpAny_newFunctionEnv (fun y hy => L.noCell y hy) hbd (fun h1' hns hsb => ⟨J.nolimit.fresh _ hsb, ?_⟩) L.fn
    show codeAny _ _ (.expr b (LamX.lamEnv X sc s1.heap.objs.size f c')) _ _
    have kp : ∀ a o, s1.heap.get? a = some o → h1'.get? a = some o := fun a o e => hsb.extBut a o (Nat.ne_of_lt (Heap.lt_size e)) (Heap.get?_push_of_some _ e)
    have IB := lm_start (A := X.A.deeper (envOfC qg sg s.heap.objs.size g cdg)) (outer := envOfC qg sg s.heap.objs.size g cdg :: X.stack) (E := E) (f := f) (c' := c') (tk := s1.toks + bd.length) I L J.env0 hr.hd un hns kp
    exact PySem.W.kla_codeExpr (wpAny_mono ((hbody _ _ s1 H1 (hr.deeper _)).run [] _ σ H1 Q IB h5) (fun v s2 ⟨v', H2, J2, r2, q2⟩ => ⟨v', H2, J2.os, J2.bare, J2.base, J2.hok, r2, q2⟩) fun _ _ z => z)
  have hx : Passes (L2.CX X.prog X.w) ((cxOf CXg X.prog X.w X.K X.mg X.base Ng qg sg g cdg X.A X.stack s H Eg).tr pn xe) E := passes_call tk hW
  refine wpAny_call (codeAny_mono rc fun r s2 hq => ?_)
  cases r with
  | error e => exact hx pinsZ τ H1 s1 e s2 J hq
  | ok fl => cases fl <;> first | exact J.after hq | exact False.elim hq
end

/-! ### a comprehension whose items lean on the def's own state -/
section
variable {X : Cx}
abbrev blkE (X : Cx) (sc : Scope) (cl : List (Str × Addr)) (C : Addr) : Env := compEnvC sc cl C X.env
/-- as pe_lc, without tests; at each item the def's own state stands behind the block's -/
theorem pe_lcI {elt tg iter : Expr} {sc : Scope} {own : List (Str × Nat)} {pos : Pos} {wi : TI} {g : TG} {te : TE} (hc : X.calm = true) (nd : X.N.Nodup) (hi : PI X tg iter wi) (ok : BlkOk X.N X.env.scope sc own)
    (hg : ∀ (s : Shared) (H : Hp) (C : Addr) (cl : List (Str × Addr)) (fp : List Addr), PG (X.blk s H sc (blkE X sc cl C) fp) tg g)
    (he : ∀ (pins : List (Addr × Obj)) (σ : L2.St) (s0 : Shared) (H0 : Hp) (C : Addr) (cl : List (Str × Addr)) (fp : List Addr), (∀ pi τ Hn sn, Inv (X.blk s0 H0 sc (blkE X sc cl C) fp) pi τ Hn sn → Inv X pins σ Hn sn) →
      ∀ pi τ Hn sn (Qn : VK), Inv (X.blk s0 H0 sc (blkE X sc cl C) fp) pi τ Hn sn → wipe τ (own.map (·.2)) = wipe σ (own.map (·.2)) → te τ Hn Qn →
        wpAny (model X.prog X.w) X.A (eval elt (blkE X sc cl C)) (EP (X.blk s0 H0 sc (blkE X sc cl C) fp) pi τ Qn) (fun _ _ => False) sn)
    (hs : ∀ x, foldedSetIterable iter X.env x = pure x := by intro _; rfl) : PE X (.ListComp elt [⟨tg, iter, [], 0⟩] sc pos) (tLc wi g tYes te (own.map (·.2))) := by
  constructor
  intro pins s σ H Q I h
  have fr : ∀ y ∈ sc.names, y.2 = .free → ∃ c, X.env.cells.lookup y.1 = some c := fun y hy e =>
    I.ok.has _ (show X.env.kindOf y.1 = some .cell ∨ X.env.kindOf y.1 = some .free from ok.free y hy e)
  rw [eval_ListComp]
  refine wpAny_comprehension_free (use := none) rfl hs (closure_ok fr) ok.kind (fun y hy e => by rw [ok.uniq y hy, e]) (thn (hi.run pins s σ H _ I h) fun xv sa ha => thn ha ?_)
  rintro itv sb ⟨it, fp, tn, J, Hb, rfl, Ib, T, stb, fpb, q⟩
  refine wpAny_newObj_type (newEnv_comp ?_) (by show 0 ≤ sizeLine; decide)
  have nD : Hb sb.heap.objs.size = none := Ib.hok.fresh (Nat.le_refl _)
  obtain ⟨V, ⟨m0, v0⟩, turn⟩ := q _ nD
  have lD : ∀ a o, sb.heap.get? a = some o → (sb.heap.push { cls := .type "list", data := .seq ([] : List Value).toArray }).get? a = some o := fun a o e => Heap.get?_push_of_some _ e
  have Id := Ib.laid (o := .lst []) (a := sb.heap.objs.size) (t' := sb.toks) lD (Nat.le_refl _) ⟨Nat.zero_le _, [], 0, .nil, Heap.get?_push_size _ rfl⟩
  have live : ∀ a ∈ fp, a < sb.heap.objs.size := fun a ha => by
    obtain ⟨o, e, _⟩ := T.obj _ _ stb a ha
    exact Heap.lt_size e
  generalize hsd : ({ sb with heap := sb.heap.push { cls := .type "list", data := .seq ([] : List Value).toArray }, toks := sb.toks } : Shared) = sd at Id
  have esd : sd.heap = sb.heap.push { cls := .type "list", data := .seq ([] : List Value).toArray } := by rw [← hsd]
  generalize hDD : sb.heap.objs.size = D at nD v0 Id turn live
  have fpd : ∀ a ∈ fp, FpOk X pins (upd Hb D (.lst [])) a ∧ a < sd.heap.objs.size := fun a ha =>
    ⟨⟨by rw [upd_ne (Nat.ne_of_lt (live a ha))]; exact (fpb a ha).1, (fpb a ha).2⟩, by rw [esd, Heap.size_push, hDD]; exact Nat.lt_succ_of_lt (live a ha)⟩
  generalize upd Hb D (.lst []) = Hd at v0 Id fpd
  have std : tn 0 sd.heap := T.keep _ _ _ stb fun a _ o e => by rw [esd]; exact lD a o e
  have Ie : Inv (X.blk sd Hd sc (blkE X sc (cellsFrom (sd.heap.objs.size + 1) sc.names (cloFrom X.env.cells sc.names [])) sd.heap.objs.size) fp) [] (wipe σ (own.map (·.2))) Hd { sd with heap := pushCells (sd.heap.push { cls := .type "dict", data := .dict #[] }) sc.names } := block_start Id ok nd fpd
  show codeAny _ _ (.compStart _ 0 (.ref it) (.ref D) (blkE X sc (cellsFrom (sd.heap.objs.size + 1) sc.names (cloFrom X.env.cells sc.names [])) sd.heap.objs.size)) (compPost (model X.prog X.w) X.A X.xe none (EP X pins σ Q) (.ref D) sd.heap.objs.size) { sd with heap := pushCells (sd.heap.push { cls := .type "dict", data := .dict #[] }) sc.names }
  have pg := hg sd Hd sd.heap.objs.size (cellsFrom (sd.heap.objs.size + 1) sc.names (cloFrom X.env.cells sc.names [])) fp
  have pe := he pins σ sd Hd sd.heap.objs.size (cellsFrom (sd.heap.objs.size + 1) sc.names (cloFrom X.env.cells sc.names [])) fp
  generalize hbe : blkE X sc (cellsFrom (sd.heap.objs.size + 1) sc.names (cloFrom X.env.cells sc.names [])) sd.heap.objs.size = be at Ie pg pe ⊢
  have lb : be.locals = sd.heap.objs.size := by rw [← hbe]; rfl
  generalize hse : ({ sd with heap := pushCells (sd.heap.push { cls := .type "dict", data := .dict #[] }) sc.names } : Shared) = se at Ie ⊢
  have ste : tn 0 se.heap := T.keep _ _ _ std fun a _ o e => by rw [← hse]; exact pushCells_keeps _ _ _ _ (Heap.get?_push_of_some _ e)
  -- the def's own state, behind any of the block's
  have back : ∀ pi τ Hn sn, Inv (X.blk sd Hd sc be fp) pi τ Hn sn → Inv X pins σ Hn sn := fun pi τ Hn sn In =>
    Id.call' (ch := fp) In.os In.base In.hok In.bare fun a ha => ⟨(fpd a ha).1.2.2.2.1, (fpd a ha).1.2.1, (fpd a ha).1.2.2.2.2.1, (fpd a ha).1.2.2.2.2.2⟩
  have pe := pe back
  have fpn : ∀ {τ : L2.St} {Hn : Hp} {sn : Shared}, Inv (X.blk sd Hd sc be fp) [] τ Hn sn → (∀ a ∈ fp, Hn a = none) → ∀ a ∈ fp, FpOk (X.blk sd Hd sc be fp) [] Hn a := fun {τ Hn sn} In no a ha =>
    ⟨no a ha, (In.ok.exf a ha).1, In.ok.exfs a ha, .inl ha, fun x c e => (In.ok.exf a ha).2 x c e, fun p hp => nomatch (show p ∈ ([] : List (Addr × Obj)) ++ [] from hp)⟩
  have loop : codeAny (model X.prog X.w) X.A (.compLoop (.ListComp elt [⟨tg, iter, [], 0⟩] sc pos) 0 (.ref it) (.ref D) be) (compPost (model X.prog X.w) X.A X.xe none (EP X pins σ Q) (.ref D) sd.heap.objs.size) se := by
    refine compLoop_any (fun n sn => ∃ i Hn, Inv (X.blk sd Hd sc be fp) [] (wipe σ (own.map (·.2))) Hn sn ∧ tn i sn.heap ∧ (∀ a ∈ fp, Hn a = none) ∧ V i n Hn) ?_ m0 ⟨0, Hd, Ie, ste, fun a ha => (fpd a ha).1.1, v0⟩
    rintro n s5 ⟨i, H5, I5, st5, no5, v5⟩
    rcases turn i n H5 v5 with ⟨stop, fin⟩ | ⟨go, Nx, hNx, step⟩
    · refine thnF (T.done (X.blk sd Hd sc be fp) rfl rfl rfl hc i [] s5 _ H5 (fun _ _ => False) I5 (fpn I5 no5) st5 stop) ?_
      rintro r s6 ⟨rfl, I6⟩
      have I7 := back _ _ _ _ I6
      have nC : H5 sd.heap.objs.size = none := lb ▸ (show H5 be.locals = none from I6.free)
      obtain ⟨m, hn, _⟩ := I6.loc
      have hn : s6.heap.Ns be.locals m := hn
      rw [lb] at hn
      obtain ⟨f0, f1, f2, f3, f4, f5⟩ := Id.fpOk (Nat.le_refl _) nC
      exact ⟨m, hn, fun hh same => ⟨.ref D, H5, I7.turned (t' := s6.toks) (fun a o z e => (same.2 a z).trans e) f0 f1 f3 f4 f5, rfl, fin⟩⟩
    · refine thnF (T.item (X.blk sd Hd sc be fp) rfl rfl rfl hc i [] s5 _ H5 (fun _ _ => False) I5 (fpn I5 no5) st5 go) ?_
      rintro r s6 ⟨u, rfl, h6⟩
      refine thnF h6 ?_
      rintro _ s7 ⟨x, H7, I7, r7, y7, st7, no7⟩
      refine thnF (pg.run _ s7 _ H7 x u _ (I7.pinned (fpn I7 no7) (T.obj _ _ st7)) r7 (step x H7 y7)) ?_
      rintro _ s8 ⟨σ8, H8, I8, w8, q8⟩
      refine thnF (wpAny_tests_nil (Q := fun b sn => b = true ∧ sn = s8) ⟨rfl, rfl⟩) ?_
      rintro _ _ ⟨rfl, rfl⟩
      unfold tYes at q8
      simp only [if_true] at q8 ⊢
      refine thnF (pe _ _ _ _ _ I8 w8 q8) ?_
      rintro z s9 ⟨yv, H9, I9, r9, acc, hD9, z9, nx⟩
      refine app_ok (X := X.blk sd Hd sc be fp) I9 hD9 z9 r9 fun s10 I10 => ?_
      obtain ⟨m', hm, v'⟩ := hNx _ nx
      have pin : ∀ a ∈ fp, ∀ o, s7.heap.get? a = some o → s10.heap.get? a = some o ∧ upd H9 D (.lst (acc ++ [yv])) a = none := fun a ha o e =>
        let z := I10.pin (a, o) (List.mem_append_right _ (List.mem_append_right _ (mem_pinsAt ha e)))
        ⟨z.1, z.2.1⟩
      refine ⟨m', hm, i + 1, _, (I10.unpinned (pins := [])).weak (by rw [← w8, wipe_length]) (fun j v e => ?_), T.keep _ _ _ st7 fun a ha o e => (pin a ha o e).1, fun a ha => ?_, v'⟩
      · rw [← w8] at e
        exact (wipe_some e).1
      · obtain ⟨o, e, _⟩ := T.obj _ _ st7 a ha
        exact (pin a ha o e).2
  exact codeAny_compStart_list loop (T.self X.A 0 _ _ _ ste loop)
end

/-! ### a list of lambdas, each asked -/
/-- a lambda: its parameters, body, names, how many defaults (each 0), what its body reads -/
structure Lm where
  ps : Arguments
  b : Expr
  sc : Scope
  n : Nat
  t : XK → TE
def dvOf : List Addr → Value
  | [] => .none
  | d :: _ => .ref d
/-- what stands of it: itself, its code, its default -/
def lmL (q : Str) (ps : Arguments) (b : Expr) (sc : Scope) (cells : List (Str × Addr)) (f c' : Addr) (ds : List Addr) : List (Addr × HO) :=
  (f, .ext (lmIs q ps b sc (cloFrom cells sc.names []) (dvOf ds) f c')) :: (c', LamX.CodeO c' q) :: ds.map fun d => (d, .tup [.int 0])
def tMk (q : Str) (P : Addr) (cells : List (Str × Addr)) (ps : Arguments) (b : Expr) (sc : Scope) (n : Nat) : TE := fun _ H Q => LamX.TabS H P q ∧ ∀ (f c' : Addr) (ds : List Addr) (H1 : Hp), ds.length = n → LamX.ExtN H H1 → LamX.TabS H1 P q → (∀ a, H a ≠ none → H1 a ≠ none) →
  (∀ p ∈ lmL q ps b sc cells f c' ds, H1 p.1 = some p.2 ∧ (H p.1 = none ∨ H p.1 = some p.2) ∧ ∀ tab, p.2 ≠ .tbl tab) → Q (.ref f) H1
section
variable {X : Cx} {c P : Addr} {ps : Arguments} {b : Expr} {sc : Scope} {pos : Pos}
theorem ext_ne {φ : Heap → Prop} (tab : Array Value) : HO.ext φ ≠ .tbl tab := fun z => nomatch z
theorem pe_mk0 {q : Str} (TB : LamX.TabB X.base X.mg c P) (e3 : X.env.code = .ref c) (L : LamN X.N X.env.scope sc) (hq : X.env.qual ++ "<lambda>" = q := by rfl) (hd : defaultsOf ps X.env = ([], []) := by rfl) : PE X (.Lambda ps b sc pos) (tMk q P X.env.cells ps b sc 0) := by
  subst hq
  constructor
  rintro pins s σ H Q I ⟨hT, h⟩
  refine lm_eval0 hd (lm_make I TB e3 hT (L.cells I.ok) fun f c' H1 s1 I1 x1 x2 x3 x4 x5 x6 x7 => ⟨.ref f, H1, I1, rfl, h f c' [] H1 rfl x1 x2 x7 fun p m => ?_⟩)
  rcases List.mem_cons.mp m with rfl | m
  · exact ⟨x4, .inl x3, ext_ne⟩
  · obtain rfl := List.mem_singleton.mp m
    exact ⟨x5, x6, ext_ne⟩
theorem pe_mk1 {q : Str} {k : Nat} {p : Pos} (TB : LamX.TabB X.base X.mg c P) (e3 : X.env.code = .ref c) (L : LamN X.N X.env.scope sc) (hx : ∀ e s, X.xe e s → X.xe e s := by exact fun _ _ h => h) (hq : X.env.qual ++ "<lambda>" = q := by rfl) (hd : defaultsOf ps X.env = ([eval (.Constant (.int 0) k p) X.env], []) := by rfl) : PE X (.Lambda ps b sc pos) (tMk q P X.env.cells ps b sc 1) := by
  subst hq
  constructor
  rintro pins s σ H Q I ⟨hT, h⟩
  refine lm_eval1 I hd (fun d s0 nd I0 => ?_) fun _ _ z => z
  have k0 : ∀ a o, H a = some o → upd H d (.tup [.int 0]) a = some o := fun a o e => by rw [upd_ne (ne_of_none e nd)]; exact e
  have kN : ∀ a, upd H d (.tup [.int 0]) a = none → H a = none := fun a e => by
    by_cases z : a = d
    · rw [z]; exact nd
    · rwa [upd_ne z] at e
  refine lm_make I0 TB e3 (hT.ext k0) (L.cells I.ok) fun f c' H1 s1 I1 x1 x2 x3 x4 x5 x6 x7 => ⟨.ref f, H1, I1, rfl, h f c' [d] H1 rfl ((LamX.ExtN.of k0).trans x1) x2 (fun a na => x7 a (upd_live na)) fun p m => ?_⟩
  rcases List.mem_cons.mp m with rfl | m
  · exact ⟨x4, .inl (kN _ x3), ext_ne⟩
  rcases List.mem_cons.mp m with rfl | m
  · refine ⟨x5, ?_, ext_ne⟩
    rcases x6 with z | z
    · exact .inl (kN _ z)
    · by_cases e : c' = d
      · rw [e, upd_same] at z; exact nomatch z
      · rw [upd_ne e] at z; exact .inr z
  · obtain rfl := List.mem_singleton.mp m
    exact ⟨x1 _ _ upd_same (fun _ z => nomatch z), .inl nd, fun _ z => (nomatch z)⟩
end
/-- _law_try(x), x a lambda out of ls -/
def tAsk (TT : (XK → Hp → VK → Prop) → Hp → VK → Prop) (q : Str) (cells : List (Str × Addr)) (i : Nat) (vs : List Nat) (ls : List Lm) : TE := fun τ H Q => ∃ m ∈ ls, ∃ (f c' : Addr) (ds : List Addr), ds.length = m.n ∧ τ[i]? = some (some (.ref f)) ∧ H c' = some (LamX.CodeO c' q) ∧
  TT (fun E H' Q' => (∀ p ∈ lmL q m.ps m.b m.sc cells f c' ds, H' p.1 = some p.2) ∧ m.t E (wipe τ vs) H' Q') H Q
inductive Lms (X : Cx) (q : Str) (k : Nat) : List Lm → Prop
  | nil : Lms X q k []
  | cons {ps : Arguments} {b : Expr} {sc : Scope} {n : Nat} {t : XK → TE} {ls : List Lm} : LamN X.N X.env.scope sc → (∀ (ds : List Addr) (H : Hp), ds.length = n → (∀ d ∈ ds, H d = some (.tup [.int 0])) → Bare0 q ps b sc (dvOf ds) H) →
      (∀ (A : Around) (outer : List Env) (s : Shared) (H : Hp) (E : XK) (f c' : Addr), Room k (A.deeper (LamX.lamEnv X sc s.heap.objs.size f c')) → PE (LamX.lamCx X A outer s H E sc f c') b (t E)) → Lms X q k ls → Lms X q k (⟨ps, b, sc, n, t⟩ :: ls)
theorem Lms.get {X : Cx} {q : Str} {k : Nat} {ls : List Lm} (h : Lms X q k ls) {m : Lm} (hm : m ∈ ls) : LamN X.N X.env.scope m.sc ∧ (∀ (ds : List Addr) (H : Hp), ds.length = m.n → (∀ d ∈ ds, H d = some (.tup [.int 0])) → Bare0 q m.ps m.b m.sc (dvOf ds) H) ∧
    ∀ (A : Around) (outer : List Env) (s : Shared) (H : Hp) (E : XK) (f c' : Addr), Room k (A.deeper (LamX.lamEnv X m.sc s.heap.objs.size f c')) → PE (LamX.lamCx X A outer s H E m.sc f c') m.b (m.t E) := by
  induction h with
  | nil => exact nomatch hm
  | cons a1 a2 a3 _ ih =>
    rcases List.mem_cons.mp hm with rfl | hm
    · exact ⟨a1, a2, a3⟩
    · exact ih hm
section
variable {X : Cx}
/-- [x(y) for y in ..], y's the lambdas -/
theorem pe_asks {TT : (XK → Hp → VK → Prop) → Hp → VK → Prop} {x a y q : Str} {g : Addr} {k i : Nat} {pg : Arguments} {bg : List Stmt} {sg sc : Scope} {dV kV doc pm cdv ct oc : Value} {an od : Option Addr} {osl : Array (Option Value)} {Ng : List Str}
    {ls : List Lm} {own : List (Str × Nat)} {wi : TI} {tgt : TG} {tg iter : Expr} {p1 p2 p3 pos : Pos} (hc : X.calm = true) (nd : X.N.Nodup) (hi : PI X tg iter wi) (ok : BlkOk X.N X.env.scope sc own)
    (hg : ∀ (s : Shared) (H : Hp) (C : Addr) (cl : List (Str × Addr)) (fp : List Addr), PG (X.blk s H sc (blkE X sc cl C) fp) tg tgt)
    (gx : ∀ (s : Shared) (H : Hp) (C : Addr) (cl : List (Str × Addr)) (fp : List Addr), Gl (X.blk s H sc (blkE X sc cl C) fp) x) (vy : ∀ (cl : List (Str × Addr)) (C : Addr), Vis (blkE X sc cl C).scope y) (iy : X.N[i]? = some y)
    (hm : X.mg x = some (.ref g)) (hk : PySem.W.keepIn X.K (.ref g) = true)
    (lk : X.K.lookup g = some ⟨oc, od, .func (PySem.W.fnOf x x pg bg sg dV kV doc pm an cdv ct), osl⟩) (hcg : PySem.W.codeIn X.K cdv x = true) (hb : L2.Binds X.K (PySem.W.fnOf x x pg bg sg dV kV doc pm an cdv ct) [a] []) (Sg : FnScope Ng [a] sg) (hNg : Ng[0]? = some a) (hva : Vis sg a)
    (hG : LamX.GivesTo X Ng x sg g cdv bg a q TT) (hq : X.env.qual ++ "<lambda>" = q) (hr : Room (k + 2) X.A) (L : Lms X q k ls)
    (hs : ∀ x, foldedSetIterable iter X.env x = pure x := by intro _; rfl) (hdb : (x == ("__debug__" : Str)) = false := by decide) (hd : (a == ("__debug__" : Str)) = false := by decide) (hcd : (a == ("__classdict__" : Str)) = false := by decide)
    (hd2 : (y == ("__debug__" : Str)) = false := by decide) (hcd2 : (y == ("__classdict__" : Str)) = false := by decide) :
    PE X (.ListComp (.Call (.Name x p1) [.Name y p2] [] p3) [⟨tg, iter, [], 0⟩] sc pos) (tLc wi tgt tYes (tAsk TT q X.env.cells i (own.map (·.2)) ls) (own.map (·.2))) := by
  subst hq
  refine pe_lcI hc nd hi ok hg (fun pins σ s0 H0 C cl fp back pi τ Hn sn Qn J ew h => ?_) hs
  obtain ⟨m, hmem, f, c', ds, hds, h1, h2, h3⟩ := h
  obtain ⟨LN, LB, LE⟩ := L.get hmem
  refine wpAny_Call_Name_kw (ld_glob (X := X.blk s0 H0 sc (blkE X sc cl C) fp) J (gx s0 H0 C cl fp) hm ?_ hdb)
  have ha := (pa_cons (X := X.blk s0 H0 sc (blkE X sc cl C) fp) (pe_var (pos := p2) (i := i) iy (vy cl C) hd2 hcd2) pa_nil).run p3 pi sn τ Hn (fun vs H1 => vs = [.ref f] ∧ H1 = Hn) J ⟨_, h1, rfl, rfl⟩
  refine PySem.W.callWith_K (h₀ := X.base) J.ok.mod.kin hk (thn ha ?_) (by rfl) (by rfl)
  rintro us s1 ⟨vs, H1, J1, rv, rfl, rfl⟩
  refine ⟨J1.kIn, ?_⟩
  cases rv with
  | cons r0 r1 =>
    cases r1
    rename_i u
    obtain rfl : u = Value.ref f := r0
    have IX : Inv X pins (wipe τ (own.map (·.2))) H1 s1 := by
      rw [ew]
      exact (back _ _ _ _ J1).weak (wipe_length σ _) fun j v e => (wipe_some e).1
    have rc : codeAny (model X.prog X.w) X.A (.call (.ref g) ⟨[.ref f], []⟩) (CR C8.CX0 X.stack X.prog X.w H1 s1 Qn C8.E0) s1 := by
      refine LamX.run_ofS (N := Ng) (ps := [a]) (us := [.ref f]) (vs := [.ref f]) lk hcg Sg hr J1.env0 (hb s1 [.ref f] J1.kIn rfl) (.cons rfl .nil) rfl fun hr' => ?_
      have Z := hG f c' s1 H1 Qn (fun E H' Q' => (∀ p ∈ lmL (X.env.qual ++ "<lambda>") m.ps m.b m.sc X.env.cells f c' ds, H' p.1 = some p.2) ∧ m.t E (wipe τ (own.map (·.2))) H' Q') (fun W pn xe E p1 p2 tk hW => by
        have act := lm_act (i := 0) (c' := c') (dv := dvOf ds) (ps := m.ps) (p1 := p1) (p2 := p2) IX LN tk hW hr' (fun A outer s H hr2 => LE A outer s H E f c' hr2) hNg hva hd hcd
        refine ⟨fun pz sz τz Hz Qz Iz hz => act.run pz sz τz Hz Qz Iz ?_⟩
        obtain ⟨z1, z2, z3, z4⟩ := hz
        exact ⟨z1, z2, z3 _ (List.mem_cons_self ..), LB ds Hz hds fun d hd => z3 (d, .tup [.int 0]) (List.mem_cons_of_mem _ (List.mem_cons_of_mem _ (List.mem_map.mpr ⟨d, hd, rfl⟩))), z4⟩) h2 h3
      obtain ⟨t', g1, g2⟩ := Z
      exact ⟨t', g1.nox, g2⟩
    refine wpAny_call (codeAny_mono rc fun r s2 hq => ?_)
    cases r with
    | error e => exact (show False from hq).elim
    | ok fl => cases fl <;> first | exact J1.after hq | exact False.elim hq
end

/-! ### where a lambda is written -/
def stAt (i : Nat) (st : Stmt) : Stmt := (defBody st).getD i (.Pass ⟨0, 0, 0, 0⟩)
def stIn (i : Nat) : Stmt → Stmt
  | .For _ _ b _ _ => b.getD i (.Pass ⟨0, 0, 0, 0⟩)
  | .While _ b _ _ => b.getD i (.Pass ⟨0, 0, 0, 0⟩)
  | .If _ b _ _ => b.getD i (.Pass ⟨0, 0, 0, 0⟩)
  | st => st
def lamAt (j : Nat) : Stmt → Expr
  | .Assign _ (.List es _) _ => es.getD j (.Name "_" ⟨0, 0, 0, 0⟩)
  | _ => .Name "_" ⟨0, 0, 0, 0⟩
def eArgs : Expr → Arguments
  | .Lambda ps _ _ _ => ps
  | _ => ⟨[], [], none, [], [], none, []⟩
def eBody : Expr → Expr
  | .Lambda _ b _ _ => b
  | e => e
def eScope : Expr → Scope
  | .Lambda _ _ sc _ => sc
  | _ => { kind := .function, names := [], isGenerator := false, isCoroutine := false, more := [] }
theorem bareN0 {q : Str} {ps : Arguments} {b : Expr} {sc : Scope} (h : ∀ (cl : List (Str × Addr)) (pm cdv ctv : Value), bindArgs (lmFd q ps b sc cl .none pm cdv ctv) ⟨[], []⟩ = pure []) (ds : List Addr) (H : Hp) (hl : ds.length = 0) (_ : ∀ d ∈ ds, H d = some (.tup [.int 0])) : Bare0 q ps b sc (dvOf ds) H := by
  cases ds with
  | nil => exact bare_none h
  | cons d ds => exact nomatch hl
theorem bareN1 {q x : Str} {ps : Arguments} {b : Expr} {sc : Scope} (hx : sc.names.lookup x = some .local) (h : ∀ (d : Addr) (cl : List (Str × Addr)) (pm cdv ctv u : Value), ∃ k, bindArgs (lmFd q ps b sc cl (.ref d) pm cdv ctv) ⟨[], []⟩ = seqItems? (.ref d) >>= k ∧ k (some #[u]) = pure [(x, u)])
    (ds : List Addr) (H : Hp) (hl : ds.length = 1) (hd : ∀ d ∈ ds, H d = some (.tup [.int 0])) : Bare0 q ps b sc (dvOf ds) H := by
  match ds, hl with
  | [d], _ => exact bare_int (hd d (List.mem_cons_self ..)) hx (h d)
/-- what is never reached -/
theorem pss_none {X : Cx} {st : List Stmt} : PSs X st (fun _ _ _ => False) := ⟨fun _ _ _ _ _ _ h => h.elim⟩
theorem as_T {c : Bool} {x y : Prop} (h : c = true) (q : x) : if c = true then x else y := by rw [h]; exact q
theorem as_F {c : Bool} {x y : Prop} (h : c = false) (q : y) : if c = true then x else y := by rw [h]; exact q
/-- one number of a list -/
theorem pickZ {zs : List Int} {p : D → Prop} (lo hi : Int) (hb : ∀ z ∈ zs, lo ≤ z ∧ z ≤ hi) (h : ∀ z, lo ≤ z → z ≤ hi → p (.int z)) (i : Nat) (d : D) (e : (zs.map D.int)[i]? = some d) : p d := by
  rw [List.getElem?_map] at e
  cases e2 : zs[i]? with
  | none => rw [e2] at e; exact nomatch e
  | some z =>
    rw [e2] at e
    cases e
    exact h z (hb z (List.mem_of_getElem? e2)).1 (hb z (List.mem_of_getElem? e2)).2
theorem bd4 {a b c d lo hi : Int} (h1 : lo ≤ a ∧ a ≤ hi) (h2 : lo ≤ b ∧ b ≤ hi) (h3 : lo ≤ c ∧ c ≤ hi) (h4 : lo ≤ d ∧ d ≤ hi) : ∀ z ∈ [a, b, c, d], lo ≤ z ∧ z ≤ hi := fun z m => by
  simp only [List.mem_cons, List.not_mem_nil, or_false] at m
  rcases m with rfl | rfl | rfl | rfl <;> assumption
theorem bd3 {a b c lo hi : Int} (h1 : lo ≤ a ∧ a ≤ hi) (h2 : lo ≤ b ∧ b ≤ hi) (h3 : lo ≤ c ∧ c ≤ hi) : ∀ z ∈ [a, b, c], lo ≤ z ∧ z ≤ hi := fun z m => by
  simp only [List.mem_cons, List.not_mem_nil, or_false] at m
  rcases m with rfl | rfl | rfl <;> assumption

/-! ### x(lambda a=0: body) -/
section
variable {X : Cx}
theorem pe_lamcall1 {TT : (XK → Hp → VK → Prop) → Hp → VK → Prop} {x a z q : Str} {g c P : Addr} {k j : Nat} {pg ps : Arguments} {bg : List Stmt} {sg sc : Scope} {dV kV doc pm cdv ct oc : Value} {an od : Option Addr} {osl : Array (Option Value)} {Ng : List Str} {b : Expr} {t : XK → TE} {p lp pos kp : Pos}
    (gx : Gl X x) (hm : X.mg x = some (.ref g)) (hk : PySem.W.keepIn X.K (.ref g) = true)
    (lk : X.K.lookup g = some ⟨oc, od, .func (PySem.W.fnOf x x pg bg sg dV kV doc pm an cdv ct), osl⟩) (hcg : PySem.W.codeIn X.K cdv x = true) (hb : L2.Binds X.K (PySem.W.fnOf x x pg bg sg dV kV doc pm an cdv ct) [a] []) (Sg : FnScope Ng [a] sg) (hNg : Ng[0]? = some a) (hva : Vis sg a)
    (hG : LamX.GivesTo X Ng x sg g cdv bg a q TT) (hTT : ∀ (tl : XK → Hp → VK → Prop) (cd : Hp → Prop) (H : Hp) (Q : VK), TT tl H Q → cd H → TT (fun E H' Q' => cd H' ∧ tl E H' Q') H Q)
    (TB : LamX.TabB X.base X.mg c P) (e3 : X.env.code = .ref c) (hq : X.env.qual ++ "<lambda>" = q) (hr : Room (k + 2) X.A) (L : LamN X.N X.env.scope sc)
    (hz : sc.names.lookup z = some .local) (bz : ∀ (d : Addr) (cl : List (Str × Addr)) (pm cdv ctv u : Value), ∃ k, bindArgs (lmFd q ps b sc cl (.ref d) pm cdv ctv) ⟨[], []⟩ = seqItems? (.ref d) >>= k ∧ k (some #[u]) = pure [(z, u)])
    (hbody : ∀ (A : Around) (outer : List Env) (s : Shared) (H : Hp) (E : XK) (f c' : Addr), Room k (A.deeper (LamX.lamEnv X sc s.heap.objs.size f c')) → PE (LamX.lamCx X A outer s H E sc f c') b (t E))
    (hdf : defaultsOf ps X.env = ([eval (.Constant (.int 0) j kp) X.env], []) := by rfl) (hdb : (x == ("__debug__" : Str)) = false := by decide) (hd : (a == ("__debug__" : Str)) = false := by decide) (hcd : (a == ("__classdict__" : Str)) = false := by decide) :
    PE X (.Call (.Name x p) [.Lambda ps b sc lp] [] pos) (LamX.tLam [(P, q)] TT t) := by
  subst hq
  constructor
  rintro pins s σ H Q I ⟨hT, h⟩
  have hT := hT _ (List.mem_singleton.mpr rfl)
  refine wpAny_Call_Name_kw (ld_glob I gx hm ?_ hdb)
  refine PySem.W.callWith_K (h₀ := X.base) I.ok.mod.kin hk ?_ (by rfl) (by rfl)
  show wpAny _ _ (spliced ((false, eval (.Lambda ps b sc lp) X.env) :: backTo pos (starEach [] X.env))) _ _ s
  refine Calls.spliced_cons (lm_eval1 I hdf (fun d s0 nd I0 => ?_) fun _ _ z => z)
  have k0 : ∀ a o, H a = some o → upd H d (.tup [.int 0]) a = some o := fun a o e => by rw [upd_ne (ne_of_none e nd)]; exact e
  refine lm_make I0 TB e3 (hT.ext k0) (L.cells I.ok) fun f c' H1 s1 I1 x1 x2 x3 x4 x5 x6 x7 => ?_
  refine Calls.spliced_nil ⟨I1.kIn, ?_⟩
  have hd1 : H1 d = some (.tup [.int 0]) := x1 _ _ upd_same fun _ z => nomatch z
  have hTT1 := hTT _ (fun H' => H' f = some (.ext (lmIs (X.env.qual ++ "<lambda>") ps b sc (cloFrom X.env.cells sc.names []) (.ref d) f c')) ∧ H' d = some (.tup [.int 0])) H1 Q (h H1 ((LamX.ExtN.of k0).trans x1) fun y hy => by rw [List.mem_singleton.mp hy]; exact x2) ⟨x4, hd1⟩
  have rc : codeAny (model X.prog X.w) X.A (.call (.ref g) ⟨[.ref f], []⟩) (CR C8.CX0 X.stack X.prog X.w H1 s1 Q C8.E0) s1 := by
    refine LamX.run_ofS (N := Ng) (ps := [a]) (us := [.ref f]) (vs := [.ref f]) lk hcg Sg hr I1.env0 (hb s1 [.ref f] I1.kIn rfl) (.cons rfl .nil) rfl fun hr' => ?_
    have Z := hG f c' s1 H1 Q _ (fun W pn xe E p1 p2 tk hW => by
      have act := lm_act (i := 0) (c' := c') (dv := .ref d) (ps := ps) (p1 := p1) (p2 := p2) I1 L tk hW hr' (fun A outer s H hr2 => hbody A outer s H E f c' hr2) hNg hva hd hcd
      refine ⟨fun pz sz τz Hz Qz Iz hz' => act.run pz sz τz Hz Qz Iz ?_⟩
      obtain ⟨z1, z2, z3, z4⟩ := hz'
      exact ⟨z1, z2, z3.1, bare_int z3.2 hz (bz d), z4⟩) x5 hTT1
    obtain ⟨t', g1, g2⟩ := Z
    exact ⟨t', g1.nox, g2⟩
  refine wpAny_call (codeAny_mono rc fun r s2 hq => ?_)
  cases r with
  | error e => exact (show False from hq).elim
  | ok fl => cases fl <;> first | exact I1.after hq | exact False.elim hq
end

/-! ### o.m(k = v, ..) -/
section
variable {X : Cx} {CX : CXT} {k : Nat} {C f : Addr} {fd : FuncData} {ns ks : List Str} {sp : Sp} {E : XK} {m : Str} {o : Expr} {kws : List Keyword} {ta : TE} {tk : TA} {apos pos : Pos} {pl : Sem Bool} {g : List Value → List Value → List Value} {gV : List V → List V → List V}
theorem pe_methK0 (he : PE X o ta) (c : Cls X.K C) (hm : Meth X.K C m f) (F : FnOk X.prog X.w X.K X.mg X.base CX k f fd ns sp) (hr : Room k X.A) (hb : KBinds X.K fd ns ks g gV) (hx : Passes CX X E) (hkw : PK X kws tk)
    (hall : (backToKw pos (keywordEach kws X.env)).all (·.1.isSome) = true := by rfl) (hks : (backToKw pos (keywordEach kws X.env)).filterMap (·.1) = ks := by rfl)
    (hpl : ((backTo pos (starEach [] X.env)).any (·.1) || (backToKw pos (keywordEach kws X.env)).any (·.1.isNone)) = false := by rfl)
    (ht : eval (.Call (.Attribute o m apos) [] kws pos) X.env = (do
      let w ← eval o X.env
      standAt apos.atName
      let (h, one) ← holding [w] (getMethod w m pl)
      callWith pos h one (backTo pos (starEach [] X.env)) (backToKw pos (keywordEach kws X.env))) := by rfl) :
    PE X (.Call (.Attribute o m apos) [] kws pos) (tCallK sp gV E (tRecv C m ta tNil) tk) := by
  constructor
  intro pins s σ H Q I h
  refine PySem.W.methodCall_KW (pl := pl) (thn (he.run pins s σ H _ I h) ?_) ht
  rintro u s1 ⟨x, H1, I1, rx, a, dx, fs, rfl, ea, l, q⟩
  obtain rfl : u = Value.ref a := rx
  refine getmeth_ok I1 ea c hm l ?_
  have q : tk σ H1 _ := q
  refine PySem.W.callWith_KW0 (first := [.ref a]) (h₀ := X.base) I.ok.mod.kin hm.kp hall (thn (hkw.run pos pins s1 σ H1 _ I1 q) ?_) hpl
  rintro ws s2 ⟨zs, H2, I2, rz, q2⟩
  refine ⟨I2.kIn, ?_⟩
  rw [hks, List.append_nil]
  exact run_fnk (us := [.ref a]) (vs := [.ref a]) F hr hb hx I2 (.cons rfl .nil) rz q2
end

/-! ### more of texts, of defaults, of dicts that are written -/
section
variable {K : PySem.W.Frag}
@[reducible] def asC : D → (Nat → Prop) → Prop
  | .str ⟨#[c]⟩, k => k c
  | _, _ => False
theorem at_C {O : Ads} {H : Hp} {v : V} {d : D} {k : Nat → Prop} (a : At K O H v d) (h : asC d k) : ∃ c, v = .str ⟨#[c]⟩ ∧ d = .str ⟨#[c]⟩ ∧ k c := by
  cases a with
  | str z =>
    obtain ⟨⟨l⟩⟩ := z
    match l, h with
    | [c], h => exact ⟨c, rfl, rfl, h⟩
  | _ => exact h.elim
instance opd_ixS : OpD K rIxS (fun d e P => asS d fun z => asI e fun i => z.length ≤ sizeLine ∧ ∃ c, atI z.cps.toList i = some c ∧ P (.str ⟨#[c]⟩)) := ⟨fun O H x y d e Q P a b h _ q => by
  obtain ⟨z, rfl, rfl, h⟩ := at_str a h
  obtain ⟨i, rfl, rfl, h1, c, h2, h3⟩ := at_int b h
  exact ⟨z, i, c, rfl, rfl, h1, h2, q _ _ _ h3 (Same.refl H) (.str _)⟩⟩
instance opd_inSg : OpD K rInSg (fun d e P => asC d fun c => asS e fun z => P (.bl (decide (c ∈ z.cps.toList)))) := ⟨fun O H x y d e Q P a b h _ q => by
  obtain ⟨c, rfl, rfl, h⟩ := at_C a h
  obtain ⟨z, rfl, rfl, h⟩ := at_str b h
  exact ⟨c, z, rfl, rfl, q _ _ _ h (Same.refl H) (.bl _)⟩⟩
instance opd_notInSg : OpD K rNotInSg (fun d e P => asC d fun c => asS e fun z => P (.bl (!decide (c ∈ z.cps.toList)))) := ⟨fun O H x y d e Q P a b h _ q => by
  obtain ⟨c, rfl, rfl, h⟩ := at_C a h
  obtain ⟨z, rfl, rfl, h⟩ := at_str b h
  exact ⟨c, z, rfl, rfl, q _ _ _ h (Same.refl H) (.bl _)⟩⟩
instance opd_inD : OpD K (rInD K) (fun d e P => asL e fun l => d.pure = true ∧ pures l = true ∧ SeqAt.shaped d.py = true ∧ SeqAt.shaped (.list (pys l)) = true ∧ P (.bl ((pys l).any fun z => PyData.eqv z d.py))) := ⟨fun O H x y d e Q P a b h _ q => by
  obtain ⟨p, xs, l, rfl, rfl, g1, g2, g3, h1, h2, h3, h4, h5⟩ := at_L b h
  exact ⟨_, _, a.dp h1, .lst (SqL.of g1) (g3.dp h2), h3, h4, q _ _ _ h5 (Same.refl H) (.bl _)⟩⟩
instance opd_notInD : OpD K (rNotInD K) (fun d e P => asL e fun l => d.pure = true ∧ pures l = true ∧ SeqAt.shaped d.py = true ∧ SeqAt.shaped (.list (pys l)) = true ∧ P (.bl (!(pys l).any fun z => PyData.eqv z d.py))) := ⟨fun O H x y d e Q P a b h _ q => by
  obtain ⟨p, xs, l, rfl, rfl, g1, g2, g3, h1, h2, h3, h4, h5⟩ := at_L b h
  exact ⟨_, _, a.dp h1, .lst (SqL.of g1) (g3.dp h2), h3, h4, q _ _ _ h5 (Same.refl H) (.bl _)⟩⟩
end
theorem k_inD {K : PySem.W.Frag} {X : Cx} (hu : X.A.units + 65 < cLine) (h : X.K = K := by rfl) : OpR X (compareOp .In) (rInD K) := h ▸ op_inD hu
theorem units65 {k : Nat} {A : Around} (r : Room k A) : A.units + 65 < cLine := by have := r.un; omega
theorem k_notInD {K : PySem.W.Frag} {X : Cx} (hu : X.A.units + 65 < cLine) (h : X.K = K := by rfl) : OpR X (compareOp .NotIn) (rNotInD K) := h ▸ op_notInD hu
theorem hu_of {k : Nat} {A : Around} (r : Room k A) : A.units + 1 < cLine := by have := r.un; omega
section
variable {K : PySem.W.Frag} {C : Cz} {ρ : List Sl} {te : TE}
/-- the signs of a text -/
def signs (z : Str) : List D := z.cps.toList.map fun c => .str ⟨#[c]⟩
theorem signs_len (z : Str) : (signs z).length = z.cps.size := by unfold signs; simp
theorem signs_get {z : Str} {i : Nat} {d : D} (h : (signs z)[i]? = some d) : ∃ c, z.cps.toList[i]? = some c ∧ d = .str ⟨#[c]⟩ := by
  unfold signs at h
  rw [List.getElem?_map] at h
  cases e : z.cps.toList[i]? with
  | none => rw [e] at h; cases h
  | some c => rw [e] at h; cases h; exact ⟨c, rfl, rfl⟩
theorem walks_str {z : Str} : Walks K (Its z) [] [] (signs z) := fun O H h => by
  rw [signs_len]
  refine ⟨fun i hi => hi, Nat.le_refl _, fun i x H' hi y => ?_⟩
  obtain ⟨rfl, c, hc, rfl⟩ := y
  refine ⟨.str ⟨#[c]⟩, ?_, Same.refl _, fun _ => .str _⟩
  unfold signs
  rw [List.getElem?_map, Array.getElem?_toList, hc]
  rfl
theorem evi_str {P : List D → Prop} (h : Ev K C te ρ fun d => asS d fun z => P (signs z)) : EvI K C (iStr te) ρ P := fun σ H R s k => h σ H _ s fun d v H1 q s1 f1 a1 => by
  obtain ⟨z, rfl, rfl, q⟩ := at_str a1 q
  exact ⟨z, rfl, k _ _ H1 [] [] q s1 f1 .nil walks_str⟩
/-- {"k": "v", "l": "w"}[e] -/
theorem ev_dsel {P : D → Prop} {k1 v1 k2 v2 : Str} (h12 : k1 ≠ k2) (h : Ev K C te ρ fun d => asS d fun z => (z = k1 ∧ P (.str v1)) ∨ (z = k2 ∧ P (.str v2))) :
    Ev K C (tDGet (tDisp [(tC (.str k1), tC (.str v1)), (tC (.str k2), tC (.str v2))]) te) ρ P := fun σ H Q s k => by
  intro p np
  refine ⟨upd_same, [(Sum.inr k1, .str v1), (Sum.inr k2, .str v2)], rfl, by show (2 : Nat) ≤ 15; decide, ?_⟩
  rw [upd_upd]
  have e : Same H (upd H p (.dK (mergeK [] [(Sum.inr k1, .str v1), (Sum.inr k2, .str v2)]))) := same_upd np
  have s1 := s.same e
  have npb : p ∉ Bs C := fun m => s.free np (by
    obtain ⟨q, hq, rfl⟩ := List.mem_map.mp m
    exact List.mem_append_left _ (s.bg q hq).2.1)
  refine h σ _ _ s1 fun d v H1 q s2 f2 a => ?_
  obtain ⟨z, rfl, rfl, q⟩ := at_str a q
  have hp : H1 p = some (.dK (mergeK [] [(Sum.inr k1, .str v1), (Sum.inr k2, .str v2)])) := f2 p _ npb upd_same fun _ z => nomatch z
  have hm : mergeK [] [(Sum.inr k1, V.str v1), (Sum.inr k2, .str v2)] = [(Sum.inr k1, .str v1), (Sum.inr k2, .str v2)] := by
    simp [mergeK, putK, h12]
  rw [hm] at hp
  rcases q with ⟨rfl, g⟩ | ⟨rfl, g⟩
  · exact ⟨p, .str v1, rfl, .inl ⟨_, Sum.inr z, .inl hp, rfl, by simp [valV]⟩, k _ _ _ g s2 ((Fr.of e).trans f2) (.str _)⟩
  · exact ⟨p, .str v2, rfl, .inl ⟨_, Sum.inr z, .inl hp, rfl, by simp [valV, h12]⟩, k _ _ _ g s2 ((Fr.of e).trans f2) (.str _)⟩
/-- a call that leaves a number to the default -/
theorem ev_callD {P : D → Prop} {ta : TA} {S : Sd} {E : XK} {i : Int} (h : EvA K C ta ρ fun ds => S [] (ds ++ [.int i]) (okP P)) : Ev K C (tCall (spD K S) [.int i] E ta) ρ P :=
  call_core (bs := []) (dds := [.int i]) (fun _ m => nomatch m) (fun _ _ => .one (.int i)) (fun _ p => p) (fun _ p => False.elim p) h
end
section
variable {P : Program} {w : World} {K : PySem.W.Frag} {mg : Str → Option Value} {base : Heap}
/-- a def with defaults -/
theorem okDF {x qual : Str} {params : Arguments} {body : List Stmt} {scope : Scope} {dvs : List V} {kws : List (Str × V)} {f : Addr} {fd : FuncData} {N ps : List Str} {k : Nat} {S : Sd} (F : FunD K x qual params body scope dvs kws f fd) (sc : FnScope N ps scope) (len : ∀ bs ds Pq, S bs ds Pq → ds.length = ps.length)
    (hbody : ∀ (cdv : Value) (A : Around) (outer : List Env) (s : Shared) (H : Hp) (E : XK), Room k (A.deeper (envOfC qual scope s.heap.objs.size f cdv)) →
      ∃ t, PSs (cxOf CX0 P w K mg base N qual scope f cdv A outer s H E).nox body t ∧ ∀ (C : Cz) (ds : List D) (Pq : Rs → Prop), C.E = E → (∀ x, Pq (.er x) → C.X x) → S C.bags ds Pq → Run K C t (slots N.length ds) (endP Pq)) : FnOk P w K mg base CX0 (k + 1) f fd ps (spD K S) :=
  F.ok sc (fun vs H Q E h => sp_len len h) fun cdv A outer s H vs Q E hr h => by
    obtain ⟨t, h1, h2⟩ := hbody cdv A outer s H E hr
    exact ⟨t, h1.nox, run_of h h2⟩
end
theorem iteC2 {c : Bool} {A B : Prop} (h1 : c = true → A) (h2 : c = false → B) : if c = true then A else B := by
  cases c
  · exact h2 rfl
  · exact h1 rfl
/-! ### a test that is passed; a name that is stored or not -/
section
variable {K : PySem.W.Frag} {C : Cz} {ρ : List Sl} {PO : Out → Prop} {c : TT} {a : TS} {te : TE} {i : Nat}
theorem evt_mono {PB PB' : Bool → Prop} (h : EvT K C c ρ PB) (k : ∀ b, PB b → PB' b) : EvT K C c ρ PB' := fun σ H Q s q => h σ H Q s fun b H' p => q b H' (k b p)
theorem run_chk (h : EvT K C c ρ fun x => x = false) (k : PO (.nx ρ)) : Run K C (tIfS c a tNext) ρ PO :=
  run_if (evt_mono h fun b hb => by
    subst hb
    exact run_next k)
theorem run_upd {b : Prop} [Decidable b] {v w : D} (hw : ρ[i]? = some (.val w)) (h : EvT K C c ρ fun x => x = decide b ∧ (b → Ev K C te ρ fun d => d = v)) (k : PO (.nx (ρ.set i (.val (if b then v else w))))) : Run K C (tIfS c (tAsg te (gName i)) tNext) ρ PO :=
  run_if (evt_mono h fun x hx => by
    obtain ⟨rfl, hx⟩ := hx
    by_cases hb : b
    · rw [decide_eq_true hb]
      rw [if_pos hb] at k
      exact run_set (ev_mono (hx hb) fun d hd => by rw [hd]; exact k)
    · rw [decide_eq_false hb]
      rw [if_neg hb, set_self hw] at k
      exact run_next k)
/-- a value that is settled -/
theorem ev_to {d : D} {P : D → Prop} (h : Ev K C te ρ fun x => x = d) (k : P d) : Ev K C te ρ P := ev_mono h fun x hx => by rw [hx]; exact k
theorem run_to (h : ∀ {Q : Out → Prop}, Q (.nx ρ) → Run K C a ρ Q) (k : PO (.nx ρ)) : Run K C a ρ PO := h k
end

section
variable {K : PySem.W.Frag} {C : Cz} {ρ : List Sl}
/-- a loop over items that are known, one turn after another -/
def Unr (K : PySem.W.Frag) (C : Cz) (g : TG) (tb : TS) (P : Out → Prop) : List D → List Sl → Prop
  | [], ρ => P (.nx ρ)
  | d :: r, ρ => ∀ (hv : List V) (hd : List D), EvX K (C.hold hv hd) g d ρ fun ρ2 => Run K (C.hold hv hd) tb ρ2 (loopP (fun ρ3 => Unr K C g tb P r ρ3) P)
theorem forU {items : List D} {g : TG} {tb : TS} {P : Out → Prop} (h : Unr K C g tb P items ρ) :
    ∃ I : Nat → List Sl → Prop, I 0 ρ ∧ (∀ hv hd i d ρ', items[i]? = some d → I i ρ' → EvX K (C.hold hv hd) g d ρ' fun ρ2 => Run K (C.hold hv hd) tb ρ2 (loopP (I (i + 1)) P)) ∧ ∀ ρ', I items.length ρ' → P (.nx ρ') :=
  ⟨fun i ρ' => Unr K C g tb P (items.drop i) ρ', h, fun hv hd i d ρ' e hI => by
    obtain ⟨hi, rfl⟩ := List.getElem?_eq_some_iff.mp e
    dsimp only at hI
    rw [List.drop_eq_getElem_cons hi] at hI
    exact hI hv hd, fun ρ' hI => by
    dsimp only at hI
    rw [List.drop_length] at hI
    exact hI⟩
end

/-! ### zip of a tuple and a list -/
/-- as they stand at each turn; each pair is new -/
def ItzM (K : PySem.W.Frag) (a b : Addr) : It :=
  ⟨fun i H => ∃ (xs ys : List V) (x y : V), SqT K H a xs ∧ SqL K H b ys ∧ xs[i]? = some x ∧ ys[i]? = some y,
    fun i H v H' => ∃ T x y, v = .ref T ∧ H T = none ∧ H' = upd H T (.tup [x, y]) ∧ (∀ xs, SqT K H a xs → xs[i]? = some x) ∧ ∀ ys, SqL K H b ys → ys[i]? = some y,
    fun i H => ∃ xs ys : List V, SqT K H a xs ∧ SqL K H b ys ∧ i = min xs.length ys.length⟩
theorem turn_zipM {P : Program} {w : World} {K : PySem.W.Frag} {elts : List Expr} {kk : Nat} {tpos : Pos} {a b z TI TO i1 i2 : Addr} (S : ZipSep2 z TI TO i1 i2 [i1, a] [i2, b]) (n1 : a ≠ i1) (n2 : b ≠ i2) :
    Turn P w K (.Tuple elts kk tpos) (ItzM K a b) [z, TI, TO, i1, i2] z (fun i h => IsZip h z TI TO .none ∧ IsTupOf2 h TI (.ref i1) (.ref i2) ∧ (∃ x y, IsTupOf2 h TO x y) ∧ h.IsTupleIter i1 a i ∧ h.IsListIter i2 b i) where
  mem := by simp
  obj := fun i h st c hc => by
    obtain ⟨hz, hTI, ⟨x, y, hTO⟩, ⟨o1, e1, _, d1⟩, ⟨o2, e2, _, d2⟩⟩ := st
    have e' : c = z ∨ c = TI ∨ c = TO ∨ c = i1 ∨ c = i2 := by simpa using hc
    rcases e' with rfl | rfl | rfl | rfl | rfl
    · exact ⟨_, hz, fun v q => nomatch q⟩
    · exact ⟨_, hTI, fun v q => nomatch q⟩
    · exact ⟨_, hTO, fun v q => nomatch q⟩
    · exact ⟨o1, e1, fun v q => by rw [d1] at q; cases q⟩
    · exact ⟨o2, e2, fun v q => by rw [d2] at q; cases q⟩
  keep := fun i h h' st k => by
    obtain ⟨hz, hTI, ⟨x, y, hTO⟩, h1, h2⟩ := st
    exact ⟨k z (by simp) _ hz, k TI (by simp) _ hTI, ⟨x, y, k TO (by simp) _ hTO⟩, h1.at fun o q => k i1 (by simp) o q, h2.at fun o q => k i2 (by simp) o q⟩
  item := by
    intro X hP hw hK hc i pins s σ H E I hf st hg
    subst hP hw hK
    obtain ⟨hz, hTI, ⟨x0, y0, hTO⟩, h1, h2⟩ := st
    obtain ⟨xs, ys, x, y, hqx, hqy, hx, hy⟩ := hg
    obtain ⟨its, rv, p, _⟩ := I.tuple hqx
    obtain ⟨its2, rv2, p2, _⟩ := I.list hqy
    have D1 := Draws.tuple (prog := X.prog) (w := X.w) (A := X.A.in1) (I.ok.hd hc) i1 a n1 its.toArray
    have D2 := Draws.list (prog := X.prog) (w := X.w) (A := X.A.in1) (I.ok.hd hc) i2 b n2 its2.toArray
    obtain ⟨u, hu, ru⟩ := rv.get hx
    obtain ⟨u2, hu2, ru2⟩ := rv2.get hy
    have l1 := (List.getElem?_eq_some_iff.mp hu).1
    have l2 := (List.getElem?_eq_some_iff.mp hu2).1
    have hzl : z < s.heap.objs.size := Heap.lt_size hz
    refine wpAny_pyNext_zipD2_item S D1 D2 hz hTI hTO ⟨h1, p⟩ ⟨h2, p2.isList⟩ (by simpa using l1) (by simpa using l2) fun v1 v2 h' tk g1 g2 z' TO' s1 s2 hT hsz hk => ?_
    have e1 : u = v1 := by
      have g : its[i]? = some v1 := by simpa using g1
      rw [hu] at g
      exact Option.some.inj g
    have e2 : u2 = v2 := by
      have g : its2[i]? = some v2 := by simpa using g2
      rw [hu2] at g
      exact Option.some.inj g
    subst e1 e2
    refine ⟨_, rfl, wpAny_letOwnedTupleGo_zip (s := { s with heap := h', toks := tk }) z' fun h'' z'' sb => ?_⟩
    have hT2 : h''.get? s.heap.objs.size = some { cls := .type "tuple", data := .seq #[u, u2] } := (sb.2 _ (Nat.ne_of_gt hzl)).trans hT
    have new : ObjOk X.prog X.w (upd H s.heap.objs.size (.tup [x, y])) h'' s.heap.objs.size (.tup [x, y]) :=
      ⟨by show 2 ≤ sizeLine; decide, [u, u2], .cons ru (.cons ru2 .nil), ⟨_, hT2, rfl, _, rfl⟩⟩
    have I1 : Inv X pins σ (upd H s.heap.objs.size (.tup [x, y])) { s with heap := h'', toks := tk } :=
      I.turnedNew (t' := tk) (ch := [z, TI, TO, i1, i2]) (fun c o hb q => (sb.2 c (fun q' => hb (by simp [q']))).trans (hk c o (fun q' => hb (by simp [q'])) (fun q' => hb (by simp [q'])) (fun q' => hb (by simp [q'])) (fun q' => hb (by simp [q'])) q)) hf (Nat.le_refl _) new
    refine ⟨.ref s.heap.objs.size, _, I1, rfl, ⟨_, x, y, rfl, I.hok.fresh (Nat.le_refl _), rfl, fun l hl => by rw [I.tuple_inj hl hqx]; exact hx, fun l hl => by rw [I.list_inj hl hqy]; exact hy⟩, ⟨z'', ?_, ⟨u, u2, ?_⟩, ?_, ?_⟩, fun c hcm => ?_⟩
    · exact (sb.2 _ S.TIz).trans (hk _ _ S.TIz S.TITO S.TIi1 S.TIi2 hTI)
    · exact (sb.2 _ S.TOz).trans TO'
    · exact s1.1.at fun o q => (sb.2 _ (Ne.symm S.zi1)).trans q
    · exact s2.1.at fun o q => (sb.2 _ (Ne.symm S.zi2)).trans q
    · have hlt : c < s.heap.objs.size := by
        have e' : c = z ∨ c = TI ∨ c = TO ∨ c = i1 ∨ c = i2 := by simpa using hcm
        rcases e' with rfl | rfl | rfl | rfl | rfl
        · exact hzl
        · exact Heap.lt_size hTI
        · exact Heap.lt_size hTO
        · obtain ⟨_, e1, _⟩ := h1; exact Heap.lt_size e1
        · obtain ⟨_, e2, _⟩ := h2; exact Heap.lt_size e2
      rw [upd_ne (Nat.ne_of_lt hlt)]
      exact (hf c hcm).1
  done := by
    intro X hP hw hK hc i pins s σ H E I hf st hg
    subst hP hw hK
    obtain ⟨hz, hTI, ⟨x0, y0, hTO⟩, h1, h2⟩ := st
    obtain ⟨xs, ys, hqx, hqy, hend⟩ := hg
    obtain ⟨its, rv, p, _⟩ := I.tuple hqx
    obtain ⟨its2, rv2, p2, _⟩ := I.list hqy
    have D1 := Draws.tuple (prog := X.prog) (w := X.w) (A := X.A.in1) (I.ok.hd hc) i1 a n1 its.toArray
    have D2 := Draws.list (prog := X.prog) (w := X.w) (A := X.A.in1) (I.ok.hd hc) i2 b n2 its2.toArray
    have l1 := rv.length
    have l2 := rv2.length
    have z1 : its.toArray.size = its.length := by simp
    have z2 : its2.toArray.size = its2.length := by simp
    exact wpAny_pyNext_zipD2_end S D1 D2 hz hTI hTO ⟨h1, p⟩ ⟨h2, p2.isList⟩ (by omega) (by omega) (by omega) fun h' tk hk => ⟨rfl, I.turnedL (t' := tk) (ch := [z, TI, TO, i1, i2]) (fun c o hb q =>
      hk c o (fun q' => hb (by simp [q'])) (fun q' => hb (by simp [q'])) (fun q' => hb (by simp [q'])) (fun q' => hb (by simp [q'])) q) hf⟩
  self := fun A i s Q E st h => wpAny_pyIter_zip st.1 h
def iZipM (K : PySem.W.Frag) (ta : TA) : TI := fun σ H R => ta σ H fun vs H1 => ∃ a b xs ys, vs = [.ref a, .ref b] ∧ SqT K H1 a xs ∧ SqL K H1 b ys ∧ R (ItzM K a b) H1
theorem pi_zipM {X : Cx} {e e2 : Expr} {ta : TA} {p pos tpos : Pos} {elts : List Expr} {kk : Nat} (hg : Gl X "zip") (hm : X.mg "zip" = none) (ha : PA X [e, e2] ta)
    (hs : starEach [e, e2] X.env = (false, eval e X.env) :: starEach [e2] X.env := by rfl) (hpl : (backTo pos (starEach [e2] X.env)).any (·.1) = false := by rfl) :
    PI X (.Tuple elts kk tpos) (.Call (.Name "zip" p) [e, e2] [] pos) (iZipM X.K ta) := by
  refine ⟨fun pins s σ H R I h => ?_⟩
  refine Call_ (ld_blt I hg hm PyProof.Rows.boot_zip (PyProof.Rows.callWith_type1 (thn (ha.run pos pins s σ H _ I h) fun us s1 ⟨vs, H1, I1, r1, q1⟩ => ?_) hs hpl))
  obtain ⟨a, b, xs, ys, ex, hqx, hqy, q⟩ := q1
  subst ex
  cases r1 with
  | cons r rr =>
    cases rr with
    | cons r' rr =>
      cases rr
      cases r
      cases r'
      obtain ⟨its, rv, p1, _⟩ := I1.tuple hqx
      obtain ⟨its2, rv2, p2, _⟩ := I1.list hqy
      obtain ⟨o1, ho1, _⟩ := id p1
      have ha1 : a < s1.heap.objs.size := Heap.lt_size ho1
      have hb1 : b < s1.heap.objs.size := p2.lt
      refine zip_begins2 (begins_tuple a its.toArray) (begins_list b its2.toArray) p1 p2.isList fun h' hz hTI hTO h1 h2 hsz hk => wpAny_pyIter_zip hz ?_
      have I2 : Inv X pins σ H1 { s1 with heap := h' } := I1.kept (t' := s1.toks) hk
      generalize hN : s1.heap.objs.size = N at *
      have S : ZipSep2 (N + 4) (N + 2) (N + 3) N (N + 1) [N, a] [N + 1, b] := zip_sep2 (fun c h => List.mem_singleton.mp h ▸ ha1) (fun c h => List.mem_singleton.mp h ▸ hb1)
      refine ⟨N + 4, [N + 4, N + 2, N + 3, N, N + 1], _, _, H1, rfl, I2, turn_zipM S (Nat.ne_of_lt ha1) (Nat.ne_of_lt (Nat.lt_succ_of_lt hb1)), ⟨hz, hTI, ⟨_, _, hTO⟩, ⟨_, h1, rfl, rfl⟩, ⟨_, h2, rfl, rfl⟩⟩, fun c hcm => ?_, q⟩
      have e' : c = N + 4 ∨ c = N + 2 ∨ c = N + 3 ∨ c = N ∨ c = N + 1 := by simpa using hcm
      have hle : N ≤ c := by
        rcases e' with rfl | rfl | rfl | rfl | rfl
        · exact Nat.le_add_right _ _
        · exact Nat.le_add_right _ _
        · exact Nat.le_add_right _ _
        · exact Nat.le_refl _
        · exact Nat.le_add_right _ _
      rw [← hN] at hle
      exact I1.fpOk hle (I1.hok.fresh hle)
section
variable {X : Cx} {K : PySem.W.Frag}
theorem k_zipM {a b : Expr} {ta : TA} {p pos tpos : Pos} {elts : List Expr} {kk : Nat} (ha : PA X [a, b] ta) (hm : X.mg "zip" = none) (hg : Gl X "zip" := by rfl)
    (h1 : starEach [a, b] X.env = (false, eval a X.env) :: starEach [b] X.env := by rfl) (h2 : (backTo pos (starEach [b] X.env)).any (·.1) = false := by rfl) (h : X.K = K := by rfl) :
    PI X (.Tuple elts kk tpos) (.Call (.Name "zip" p) [a, b] [] pos) (iZipM K ta) := h ▸ pi_zipM hg hm ha h1 h2
end
section
variable {K : PySem.W.Frag} {C : Cz} {ρ : List Sl}
theorem walks_zipM {a b : Addr} {ds es : List D} : Walks K (ItzM K a b) [.ref a, .ref b] [.tup ds, .lst es] (zipD ds es) := fun O H h => by
  cases h with
  | cons h g =>
    cases g with
    | cons g _ =>
      cases h with
      | @tup _ xs _ h1 _ h3 =>
        cases g with
        | @lst _ ys _ g1 _ g3 =>
          have hl := h3.length
          have gl := g3.length
          rw [zipD_len, ← hl, ← gl]
          refine ⟨fun i hi => ⟨xs, ys, xs[i]'(by omega), ys[i]'(by omega), h1, SqL.of g1, List.getElem?_eq_getElem (by omega), List.getElem?_eq_getElem (by omega)⟩, ⟨xs, ys, h1, SqL.of g1, rfl⟩, fun i x H' hi y => ?_⟩
          obtain ⟨T, u, z, rfl, nT, rfl, f1, f2⟩ := y
          obtain ⟨d, e, a⟩ := h3.get (f1 _ h1)
          obtain ⟨d2, e', a2⟩ := g3.get (f2 _ (SqL.of g1))
          exact ⟨_, zipD_get e e', same_upd nT, fun lv => At.mkTup nT (fun m => lv _ m nT) (.cons a (.one a2))⟩
@[reducible] def asTL : D → D → (List D → List D → Prop) → Prop
  | .tup l, .lst m, k => k l m
  | _, _, _ => False
theorem evi_zipM {P : List D → Prop} {ta : TA} (h : EvA K C ta ρ fun ds => as2 ds fun d e => asTL d e fun l m => P (zipD l m)) : EvI K C (iZipM K ta) ρ P := fun σ H R s k => h σ H _ s fun ds vs H1 q s1 f1 a1 => by
  obtain ⟨v, w, d, e, rfl, a, b, q⟩ := all_2 a1 q
  cases a with
  | tup h1 n1 h3 =>
    cases b with
    | lst g1 n2 g3 => exact ⟨_, _, _, _, rfl, h1, SqL.of g1, k _ _ H1 [_, _] [_, _] q s1 f1 (.cons (.tup h1 n1 h3) (.one (.lst g1 n2 g3))) walks_zipM⟩
    | _ => exact q.elim
  | _ => exact q.elim
end

/-! ### dicts of one's own, by data -/
section
variable {κ α : Type} [DecidableEq κ]
def valG (l : List (κ × α)) (k : κ) : Option α := (l.find? fun kv => decide (kv.1 = k)).map (·.2)
def putG (l : List (κ × α)) (k : κ) (d : α) : List (κ × α) := if (l.any fun kv => decide (kv.1 = k)) = true then l.map (fun kv => if kv.1 = k then (kv.1, d) else kv) else l ++ [(k, d)]
end
section
variable {κ : Type} [DecidableEq κ] {K : PySem.W.Frag} {O : Ads} {H : Hp}
/-- the same keys, and what they hold -/
def KvAt (K : PySem.W.Frag) (O : Ads) (H : Hp) (kvs : List (κ × V)) (l : List (κ × D)) : Prop := kvs.map (·.1) = l.map (·.1) ∧ AtAll K O H (kvs.map (·.2)) (l.map (·.2))
theorem KvAt.inv {p : κ × V} {kvs : List (κ × V)} {l : List (κ × D)} (h : KvAt K O H (p :: kvs) l) : ∃ d r, l = (p.1, d) :: r ∧ At K O H p.2 d ∧ KvAt K O H kvs r := by
  obtain ⟨h1, h2⟩ := h
  cases l with
  | nil => cases h1
  | cons q r =>
    rw [List.map_cons, List.map_cons] at h1 h2
    cases h2 with
    | cons a b =>
      injection h1 with e1 e2
      exact ⟨q.2, r, by rw [e1], a, e2, b⟩
theorem KvAt.cons {k : κ} {v : V} {d : D} {kvs : List (κ × V)} {l : List (κ × D)} (a : At K O H v d) (h : KvAt K O H kvs l) : KvAt K O H ((k, v) :: kvs) ((k, d) :: l) :=
  ⟨by rw [List.map_cons, List.map_cons, h.1], .cons a h.2⟩
theorem KvAt.nil : KvAt (κ := κ) K O H [] [] := ⟨rfl, .nil⟩
theorem KvAt.length : ∀ {kvs : List (κ × V)} {l : List (κ × D)}, KvAt K O H kvs l → kvs.length = l.length := fun {kvs l} h => by
  have := congrArg List.length h.1
  simpa using this
theorem KvAt.val (k : κ) : ∀ {kvs : List (κ × V)} {l : List (κ × D)}, KvAt K O H kvs l → (valV kvs k = none ∧ valG l k = none) ∨ ∃ v d, valV kvs k = some v ∧ valG l k = some d ∧ At K O H v d
  | [], l, h => by
    obtain ⟨h1, _⟩ := h
    have : l = [] := List.map_eq_nil_iff.mp h1.symm
    subst this
    exact .inl ⟨rfl, rfl⟩
  | p :: kvs, l, h => by
    obtain ⟨d, r, rfl, a, b⟩ := h.inv
    by_cases e : p.1 = k
    · refine .inr ⟨p.2, d, ?_, ?_, a⟩
      · exact valV_pos e
      · simp [valG, List.find?_cons, e]
    · rcases b.val k with ⟨h1, h2⟩ | ⟨v, d', h1, h2, h3⟩
      · refine .inl ⟨by rw [valV_neg e]; exact h1, ?_⟩
        simpa [valG, List.find?_cons, e] using h2
      · refine .inr ⟨v, d', by rw [valV_neg e]; exact h1, ?_, h3⟩
        simpa [valG, List.find?_cons, e] using h2
theorem KvAt.any (k : κ) : ∀ {kvs : List (κ × V)} {l : List (κ × D)}, KvAt K O H kvs l → (kvs.any fun kv => decide (kv.1 = k)) = (l.any fun kv => decide (kv.1 = k))
  | [], l, h => by
    have : l = [] := List.map_eq_nil_iff.mp h.1.symm
    subst this
    rfl
  | p :: kvs, l, h => by
    obtain ⟨d, r, rfl, a, b⟩ := h.inv
    rw [List.any_cons, List.any_cons, b.any k]
theorem KvAt.rep (k : κ) {v : V} {d : D} (x : At K O H v d) : ∀ {kvs : List (κ × V)} {l : List (κ × D)}, KvAt K O H kvs l → KvAt K O H (kvs.map fun kv => if kv.1 = k then (kv.1, v) else kv) (l.map fun kv => if kv.1 = k then (kv.1, d) else kv)
  | [], l, h => by
    have : l = [] := List.map_eq_nil_iff.mp h.1.symm
    subst this
    exact .nil
  | p :: kvs, l, h => by
    obtain ⟨d', r, rfl, a, b⟩ := h.inv
    rw [List.map_cons, List.map_cons]
    by_cases e : p.1 = k
    · rw [if_pos e, if_pos e]
      exact (b.rep k x).cons x
    · rw [if_neg e, if_neg e]
      exact (b.rep k x).cons a
theorem KvAt.snoc {k : κ} {v : V} {d : D} {kvs : List (κ × V)} {l : List (κ × D)} (h : KvAt K O H kvs l) (x : At K O H v d) : KvAt K O H (kvs ++ [(k, v)]) (l ++ [(k, d)]) :=
  ⟨by rw [List.map_append, List.map_append, h.1]; rfl, by rw [List.map_append, List.map_append]; exact h.2.append (.one x)⟩
theorem KvAt.put {k : κ} {v : V} {d : D} {kvs : List (κ × V)} {l : List (κ × D)} (h : KvAt K O H kvs l) (x : At K O H v d) : KvAt K O H (putK kvs k v) (putG l k d) := by
  unfold putK putG
  rw [h.any k]
  split
  · exact h.rep k x
  · exact h.snoc x
end
@[reducible] def asKey : D → (Key → Prop) → Prop
  | .int i, k => k (.inl i)
  | .str z, k => k (.inr z)
  | _, _ => False
@[reducible] def asKeys : List D → (List Key → Prop) → Prop
  | [], k => k []
  | d :: r, k => asKey d fun x => asKeys r fun l => k (x :: l)
section
variable {K : PySem.W.Frag} {O : Ads} {H : Hp}
theorem at_key {v : V} {d : D} {k : Key → Prop} (a : At K O H v d) (h : asKey d k) : ∃ x, v = kV x ∧ k x := by
  cases a with
  | int i => exact ⟨.inl i, rfl, h⟩
  | str z => exact ⟨.inr z, rfl, h⟩
  | _ => exact h.elim
theorem at_keys : ∀ {vs : List V} {ds : List D} {k : List Key → Prop}, AtAll K O H vs ds → asKeys ds k → ∃ l, vs = l.map kV ∧ k l
  | _, _, _, .nil, h => ⟨[], rfl, h⟩
  | _, _, _, .cons a b, h => by
    obtain ⟨x, rfl, h⟩ := at_key a h
    obtain ⟨l, rfl, h⟩ := at_keys b h
    exact ⟨x :: l, rfl, h⟩
end
section
variable {K : PySem.W.Frag} {C : Cz} {ρ : List Sl} {P : D → Prop} {PO : Out → Prop} {ty tv : TE} {ta : TA} {i : Nat}
theorem run_dnewK (h : i < ρ.length ∧ ∀ p, PO (.nx (ρ.set i (.cell p (.dK []))))) : Run K C (tAsg tDNewK (gName i)) ρ PO := fun En σ H s k => fun p n => k.nx _ _ _ (h.2 p) ((s.ownC n (.dK rfl .nil)).land h.1)
theorem run_dnewT (h : i < ρ.length ∧ ∀ p, PO (.nx (ρ.set i (.cell p (.dT []))))) : Run K C (tAsg tDNewT (gName i)) ρ PO := fun En σ H s k => fun p n => k.nx _ _ _ (h.2 p) ((s.ownC n (.dT rfl .nil)).land h.1)
theorem own_K {H : Hp} {σ : L2.St} {p : Addr} {l : List (Key × D)} (s : Sls K O H σ ρ) (e : ρ[i]? = some (.cell p (.dK l))) : ∃ kvs, σ[i]? = some (some (.ref p)) ∧ H p = some (.dK kvs) ∧ KvAt K O H kvs l := by
  obtain ⟨x, e1, a⟩ := s.get e
  cases a with
  | cell h b =>
    cases b with
    | dK e2 b => exact ⟨_, e1, h, e2, b⟩
theorem own_T {H : Hp} {σ : L2.St} {p : Addr} {l : List (List Key × D)} (s : Sls K O H σ ρ) (e : ρ[i]? = some (.cell p (.dT l))) : ∃ kvs, σ[i]? = some (some (.ref p)) ∧ H p = some (.dT kvs) ∧ KvAt K O H kvs l := by
  obtain ⟨x, e1, a⟩ := s.get e
  cases a with
  | cell h b =>
    cases b with
    | dT e2 b => exact ⟨_, e1, h, e2, b⟩
/-- d[y] = e, by texts and numbers -/
theorem run_dputK {p : Addr} {l : List (Key × D)} (e : ρ[i]? = some (.cell p (.dK l))) (h : Ev K C tv ρ fun d => Ev K C ty ρ fun y => asKey y fun k => l.length < sizeLine ∧ PO (.nx (ρ.set i (.cell p (.dK (putG l k d)))))) :
    Run K C (sDPut (tVar i) ty tv) ρ PO := fun En σ H s k => h σ H _ s fun d v H1 q s1 f1 a => by
  obtain ⟨_, e1, _, _⟩ := own_K s1.sl e
  refine ⟨_, e1, q σ H1 _ s1 fun c y H2 q s2 f2 b => ?_⟩
  obtain ⟨x, rfl, hl, q⟩ := at_key b q
  obtain ⟨kvs, _, e2, g⟩ := own_K s2.sl e
  have g2 := g.put (k := x) (a.fr (s1.up f2))
  exact ⟨p, _, rfl, DPut.k e2 (by rw [g.length]; exact hl), k.nx _ _ _ q (s2.mutC e (.dK g2.1 g2.2))⟩
/-- d[y, z] = e -/
theorem run_dputT {p : Addr} {l : List (List Key × D)} (e : ρ[i]? = some (.cell p (.dT l))) (h : Ev K C tv ρ fun d => EvA K C ta ρ fun ys => asKeys ys fun k => ys.length ≤ sizeLine ∧ l.length < sizeLine ∧ PO (.nx (ρ.set i (.cell p (.dT (putG l k d)))))) :
    Run K C (sDPut (tVar i) (tTup ta) tv) ρ PO := fun En σ H s k => h σ H _ s fun d v H1 q s1 f1 a => by
  obtain ⟨_, e1, _, _⟩ := own_T s1.sl e
  refine ⟨_, e1, q σ H1 _ s1 fun cs ys H2 q s2 f2 b => ?_⟩
  have hlen := b.length
  obtain ⟨x, rfl, hz, hl, q⟩ := at_keys b q
  refine ⟨by rw [hlen]; exact hz, fun n nn => ?_⟩
  have s3 := s2.same (same_upd (o := .tup (x.map kV)) nn)
  obtain ⟨kvs, _, e2, g⟩ := own_T s3.sl e
  have g2 := g.put (k := x) ((a.fr (s1.up f2)).fr (.of (same_upd nn)))
  exact ⟨p, _, rfl, DPut.t e2 upd_same (by rw [g.length]; exact hl), k.nx _ _ _ q (s3.mutC e (.dT g2.1 g2.2))⟩
/-- d[y] -/
theorem ev_dgetK {p : Addr} {l : List (Key × D)} (e : ρ[i]? = some (.cell p (.dK l))) (h : Ev K C ty ρ fun y => asKey y fun k => ∃ d, valG l k = some d ∧ P d) : Ev K C (tDGet (tVar i) ty) ρ P := fun σ H Q s k => by
  obtain ⟨_, e1, _, _⟩ := own_K s.sl e
  refine ⟨_, e1, h σ H _ s fun c y H2 q s2 f2 b => ?_⟩
  obtain ⟨x, rfl, d, hd, q⟩ := at_key b q
  obtain ⟨kvs, _, e2, g⟩ := own_K s2.sl e
  rcases g.val x with ⟨_, h2⟩ | ⟨v, d', h1, h2, h3⟩
  · rw [h2] at hd
    cases hd
  · rw [h2] at hd
    cases hd
    exact ⟨p, v, rfl, h1 ▸ DGet.k e2, k _ _ _ q s2 f2 h3⟩
theorem val_some {κ : Type} [DecidableEq κ] {O : Ads} {H : Hp} {kvs : List (κ × V)} {l : List (κ × D)} (g : KvAt K O H kvs l) (k : κ) : (valV kvs k).isSome = (valG l k).isSome := by
  rcases g.val k with ⟨h1, h2⟩ | ⟨v, d, h1, h2, _⟩ <;> rw [h1, h2] <;> rfl
/-- y in d, y not in d -/
theorem ev_dinK {p : Addr} {l : List (Key × D)} (e : ρ[i]? = some (.cell p (.dK l))) (h : Ev K C ty ρ fun y => asKey y fun k => P (.bl (valG l k).isSome)) : Ev K C (tDIn ty (tVar i)) ρ P := fun σ H Q s k => h σ H _ s fun c y H2 q s2 f2 b => by
  obtain ⟨x, rfl, q⟩ := at_key b q
  obtain ⟨kvs, e1, e2, g⟩ := own_K s2.sl e
  exact ⟨_, e1, p, _, rfl, DGet.k e2, by rw [val_some g]; exact k _ _ _ q s2 f2 (.bl _)⟩
theorem ev_dnotinK {p : Addr} {l : List (Key × D)} (e : ρ[i]? = some (.cell p (.dK l))) (h : Ev K C ty ρ fun y => asKey y fun k => P (.bl (!(valG l k).isSome))) : Ev K C (tDNotIn ty (tVar i)) ρ P := fun σ H Q s k => h σ H _ s fun c y H2 q s2 f2 b => by
  obtain ⟨x, rfl, q⟩ := at_key b q
  obtain ⟨kvs, e1, e2, g⟩ := own_K s2.sl e
  exact ⟨_, e1, p, _, rfl, DGet.k e2, by rw [val_some g]; exact k _ _ _ q s2 f2 (.bl _)⟩
theorem ev_dinT {p : Addr} {l : List (List Key × D)} (e : ρ[i]? = some (.cell p (.dT l))) (h : EvA K C ta ρ fun ys => asKeys ys fun k => ys.length ≤ sizeLine ∧ P (.bl (valG l k).isSome)) : Ev K C (tDIn (tTup ta) (tVar i)) ρ P := fun σ H Q s k => h σ H _ s fun cs ys H2 q s2 f2 b => by
  have hlen := b.length
  obtain ⟨x, rfl, hz, q⟩ := at_keys b q
  refine ⟨by rw [hlen]; exact hz, fun n nn => ?_⟩
  have s3 := s2.same (same_upd (o := .tup (x.map kV)) nn)
  obtain ⟨kvs, e1, e2, g⟩ := own_T s3.sl e
  exact ⟨_, e1, p, _, rfl, DGet.t e2 upd_same, by rw [val_some g]; exact k _ _ _ q s3 (f2.trans (Fr.of (same_upd nn))) (.bl _)⟩
end

/-! ### sorted of tuples that begin with ints, no two alike -/
def IsKey (h : Heap) (v : Value) (x : Int) : Prop := ∃ a o t y n, v = .ref a ∧ h.get? a = some o ∧ o.cls = .type "tuple" ∧ o.data = .seq #[.int x t, y] n
theorem IsKey.keeps {h h' : Heap} {v : Value} {x : Int} (p : IsKey h v x) (k : ∀ b o, h.get? b = some o → o.cls = .type "tuple" → h'.get? b = some o) : IsKey h' v x := by
  obtain ⟨a, o, t, y, n, e, ho, hc, hd⟩ := p
  exact ⟨a, o, t, y, n, e, k _ _ ho hc, hc, hd⟩
theorem IsKey.firsts {h : Heap} : ∀ {vs : List Value}, (∀ v ∈ vs, ∃ x, IsKey h v x) → ∃ fs : List Value, PySem.W.KatTups h vs fs ∧ fs.length = vs.length ∧ ∀ f ∈ fs, ∃ x t, f = Value.int x t
  | [], _ => ⟨[], PySem.W.KatTups.nil, rfl, fun _ hm => by simp at hm⟩
  | v :: vs, hp => by
    obtain ⟨fs, h1, h2, h3⟩ := IsKey.firsts (vs := vs) fun v' hm => hp v' (List.mem_cons_of_mem _ hm)
    obtain ⟨x, a, o, t, y, n, e, ho, hc, hd⟩ := hp v (List.mem_cons_self ..)
    subst e
    refine ⟨.int x t :: fs, PySem.W.KatTups.cons ho hc hd rfl h1, by rw [List.length_cons, List.length_cons, h2], fun f hm => ?_⟩
    rcases List.mem_cons.mp hm with rfl | hm
    · exact ⟨x, t, rfl⟩
    · exact h3 f hm
def ltK (k : Value → Int) (v u : Value) : Bool := decide (k v < k u)
theorem ltK_swo (k : Value → Int) : SrtO.Swo (ltK k) := by
  refine ⟨fun x y h => ?_, fun x y z h1 h2 => ?_⟩
  · have a := of_decide_eq_true (p := k x < k y) h
    exact decide_eq_false (p := k y < k x) (by omega)
  · have a := of_decide_eq_false (p := k y < k x) h1
    have b := of_decide_eq_false (p := k z < k y) h2
    exact decide_eq_false (p := k z < k x) (by omega)
section
variable {prog : Program} {w : World} {A : Around} {E : Value → Shared → Prop} {s : Shared}
theorem key_cmp {vs : List Value} {k : Value → Int} (hp : ∀ v ∈ vs, IsKey s.heap v (k v)) (hi : ∀ v ∈ vs, ∀ u ∈ vs, k v = k u → v = u) : SrtO.Cmp prog w A s (PyProof.Rows.tuples' true) (fun p => p.1 ∈ vs) (SrtO.lt2 (ltK k)) := by
  intro p q hm hm'
  have h1 := hp _ hm
  have h2 := hp _ hm'
  have h3 := hi _ hm _ hm'
  show wpAny (model prog w) A (keyLt' (tuples' true) p.1 q.1) (fun r s' => s' = s ∧ r = decide (k p.1 < k q.1)) (fun _ _ => False) s
  generalize k p.1 = x at h1 h3 ⊢
  generalize k q.1 = x' at h2 h3 ⊢
  obtain ⟨a, o, t, y, n, e, ho, hc, hd⟩ := h1
  obtain ⟨a', o', t', y', n', e', ho', hc', hd'⟩ := h2
  rw [e, e'] at h3 ⊢
  refine PySem.W.kat_lt ho hd ho' hd' ?_
  show PySem.W.KatLex prog w A true (decide (2 < 2)) _ [(.int x t, .int x' t'), (y, y')] 0 s
  refine PySem.W.kat_cons (SeqAt.EqAt.int_int x t x' t' prog w _ _ ?_)
  refine PySem.W.kat_go (fun e1 => ?_) (fun e1 => ?_)
  · have ex : x = x' := by simpa using e1
    have ea := h3 ex
    cases ea
    rw [ho] at ho'
    cases ho'
    rw [hd] at hd'
    injection hd' with hd1 _
    have ey : y = y' := by
      have := congrArg (fun z : Array Value => z[1]?) hd1
      simpa using this
    subst ey
    refine PySem.W.kat_yes (PySem.W.kat_cons (SeqAt.EqAt.same y prog w _ _ ?_))
    refine PySem.W.kat_yes (PySem.W.kat_nil ⟨rfl, ?_⟩)
    rw [ex]
    exact (decide_eq_false (Int.lt_irrefl _)).symm
  · exact PySem.W.kat_no (oneLt_int ⟨rfl, rfl⟩)
theorem keys_sortable {a : Addr} {vs : List Value} {k : Value → Int} (h0 : 0 < vs.length) (hp : ∀ v ∈ vs, IsKey s.heap v (k v)) (hi : ∀ v ∈ vs, ∀ u ∈ vs, k v = k u → v = u) (ha : ∀ o, s.heap.get? a = some o → o.cls ≠ .type "tuple") : SrtO.SortableO prog w A s a vs (ltK k) := by
  intro h' keep
  have hp' : ∀ v ∈ vs, IsKey h' v (k v) := fun v hm => (hp v hm).keeps fun b o e c => keep b o (fun z => by subst z; exact ha o e c) e
  obtain ⟨fs, h1, h2, h3⟩ := IsKey.firsts fun v hm => ⟨_, hp' v hm⟩
  refine ⟨tuples' true, fun Q E hq => ?_, key_cmp hp' hi⟩
  refine PySem.W.kat_kind (T := .type "int") h1 (by omega) (fun f hm => ?_) (by rfl) ?_
  · obtain ⟨x, t, rfl⟩ := h3 f hm
    exact PySem.W.Looks.now
  · have e : (Value.type "int" != Value.type "tuple") = true := by first | decide +kernel | rfl | decide
    rw [e]
    exact hq
end
def keyAt (h : Heap) : Value → Int
  | .ref a => match h.get? a with
    | some o => match o.data with
      | .seq its _ => match (its[0]? : Option Value) with
        | some (Value.int i _) => i
        | _ => 0
      | _ => 0
    | none => 0
  | _ => 0
theorem IsKey.at_ {h : Heap} {v : Value} {x : Int} (p : IsKey h v x) : keyAt h v = x := by
  obtain ⟨a, o, t, y, n, rfl, ho, hc, hd⟩ := p
  unfold keyAt
  dsimp only
  rw [ho]
  dsimp only
  rw [hd]
  rfl
/-- sorted(xs), xs tuples that begin with the ints ks, no two alike: by these -/
def rSortedR (K : PySem.W.Frag) : List V → Hp → VK → Prop := fun vs H Q => ∃ (a : Addr) (xs : List V) (ks : List Int), vs = [V.ref a] ∧ SqL K H a xs ∧ xs.length = ks.length ∧ (∀ (i : Nat) (x : V) (k : Int), xs[i]? = some x → ks[i]? = some k → ∃ t y, x = V.ref t ∧ SqT K H t [.int k, y]) ∧ ks.Nodup ∧
  ∀ (ys : List (V × Int)) p, ys.Perm (xs.zip ks) → (ys.map (·.2)).Pairwise (· < ·) → H p = none → Q (.ref p) (upd H p (.lst (ys.map (·.1))))
theorem nodup_ix {α : Type} {l : List α} (nd : l.Nodup) {i j : Nat} {x : α} (h1 : l[i]? = some x) (h2 : l[j]? = some x) : i = j := by
  obtain ⟨a1, b1⟩ := List.getElem?_eq_some_iff.mp h1
  obtain ⟨a2, b2⟩ := List.getElem?_eq_some_iff.mp h2
  have := List.pairwise_iff_getElem.mp nd
  rcases Nat.lt_trichotomy i j with h | h | h
  · exact absurd (b1.trans b2.symm) (this i j a1 a2 h)
  · exact h
  · exact absurd (b2.trans b1.symm) (this j i a2 a1 h)
section
variable {X : Cx}
theorem cr_sortedR : CallR X (.builtin "sorted") (rSortedR X.K) := by
  intro pins s σ H vs us Q I r h
  obtain ⟨a, xs, ks, rfl, hs, hlen, hx, nd, q⟩ := h
  obtain ⟨its, rv, hl, hz⟩ := I.list hs
  obtain ⟨u, rfl, ru⟩ := vals1 r
  obtain rfl : u = Value.ref a := ru
  obtain ⟨e1, e2⟩ := refs_back rv fun x m => by
    obtain ⟨i, hi, rfl⟩ := List.getElem_of_mem m
    obtain ⟨t, y, e, _⟩ := hx i _ _ (List.getElem?_eq_getElem hi) (List.getElem?_eq_getElem (by omega))
    exact ⟨t, e⟩
  have hl2 : its.length = xs.length := rv.length.symm
  have hk : ∀ (i : Nat) (v : Value) (k : Int), its[i]? = some v → ks[i]? = some k → IsKey s.heap v k := fun i v k hv hk => by
    have hxi : xs[i]? = some (backV v) := by rw [e1, List.getElem?_map, hv]; rfl
    obtain ⟨t, y, e, ht⟩ := hx i _ _ hxi hk
    obtain ⟨t', rfl⟩ := e2 v (List.mem_of_getElem? hv)
    cases e
    obtain ⟨its2, r2, ⟨o, ho, hc, n, hd⟩, _⟩ := I.tuple ht
    obtain ⟨u1, u2, rfl, ri, rj⟩ := vals2 r2
    obtain ⟨t1, rfl⟩ := ri
    exact ⟨_, o, t1, u2, n, rfl, ho, hc, hd⟩
  have ix : ∀ v ∈ its, ∃ (i : Nat) (k : Int), its[i]? = some v ∧ ks[i]? = some k ∧ keyAt s.heap v = k := fun v hm => by
    obtain ⟨i, hi, rfl⟩ := List.getElem_of_mem hm
    have h1 : its[i]? = some its[i] := List.getElem?_eq_getElem hi
    have h2 : ks[i]? = some ks[i] := List.getElem?_eq_getElem (by omega)
    exact ⟨i, _, h1, h2, (hk i _ _ h1 h2).at_⟩
  have hkey : ∀ v ∈ its, IsKey s.heap v (keyAt s.heap v) := fun v hm => by
    obtain ⟨i, k, h1, h2, h3⟩ := ix v hm
    rw [h3]
    exact hk i v k h1 h2
  have hinj : ∀ v ∈ its, ∀ u ∈ its, keyAt s.heap v = keyAt s.heap u → v = u := fun v hv u hu e => by
    obtain ⟨i, k, h1, h2, h3⟩ := ix v hv
    obtain ⟨j, k', g1, g2, g3⟩ := ix u hu
    have ek : k = k' := by rw [← h3, ← g3, e]
    subst ek
    have := nodup_ix nd h2 g2
    subst this
    rw [h1] at g1
    exact Option.some.inj g1
  have hzip : its.map (fun v => (backV v, keyAt s.heap v)) = xs.zip ks := by
    refine List.ext_getElem? fun i => ?_
    rw [List.getElem?_map]
    by_cases hi : i < its.length
    · have h1 : its[i]? = some its[i] := List.getElem?_eq_getElem hi
      have h2 : ks[i]? = some ks[i] := List.getElem?_eq_getElem (by omega)
      have h0 : xs[i]? = some (backV its[i]) := by rw [e1, List.getElem?_map, h1]; rfl
      have h4 : (xs.zip ks)[i]? = some (backV its[i], ks[i]) := List.getElem?_zip_eq_some.mpr ⟨h0, h2⟩
      rw [h4, h1]
      show some (backV its[i], keyAt s.heap its[i]) = _
      rw [(hk i _ _ h1 h2).at_]
    · rw [List.getElem?_eq_none (by omega), List.getElem?_eq_none (by rw [List.length_zip]; omega)]
      rfl
  refine SrtO.sorted_ord (ltK_swo (keyAt s.heap)) hl.isList (by omega) (fun h2 h₁ a' ha' kk => ?_) fun out h1 h2 => ?_
  · refine keys_sortable (s := { s with heap := h₁ }) (by omega) (fun v hm => (hkey v hm).keeps fun b o e _ => (kk b o e).2) hinj fun o e => ?_
    have e' : some o = some (seqObj "list" its.toArray 0) := e.symm.trans ha'
    cases e'
    intro c
    exact absurd (Value.type.inj c) (by decide)
  · have h3 : ∀ u ∈ out, ∃ a, u = Value.ref a := fun u hu => e2 u (h2.perm.mem_iff.mp hu)
    obtain ⟨ep, he'⟩ := PyProof.Rows.sortedAll_at s.heap its out.toArray
    have hp : (out.map fun v => (backV v, keyAt s.heap v)).Perm (xs.zip ks) := by
      rw [← hzip]
      exact h2.perm.map _
    have hnd : ((out.map fun v => (backV v, keyAt s.heap v)).map (·.2)).Nodup := by
      refine (hp.map (·.2)).nodup_iff.mpr ?_
      rw [List.map_snd_zip (by omega)]
      exact nd
    have hlt : ((out.map fun v => (backV v, keyAt s.heap v)).map (·.2)).Pairwise (· < ·) := by
      have h4 : ((out.map fun v => (backV v, keyAt s.heap v)).map (·.2)).Pairwise (· ≤ ·) := by
        rw [List.map_map]
        exact List.pairwise_map.mpr (h1.imp fun {x y} h => Int.not_lt.mp (of_decide_eq_false (p := keyAt s.heap y < keyAt s.heap x) h))
      exact (h4.and hnd).imp fun {x y} h => Int.lt_iff_le_and_ne.mpr h
    have hf := q _ (s.heap.objs.size + 1) hp hlt (I.hok.fresh (Nat.le_succ _))
    rw [List.map_map] at hf
    refine ⟨.ref _, upd H (s.heap.objs.size + 1) (.lst (out.map backV)), I.laid (t' := s.toks) (fun _ _ => PyProof.Rows.sortedAll_old) (Nat.le_succ _) ⟨?_, out, ep, vals_back h3, he'⟩, rfl, hf⟩
    rw [List.length_map, h2.len]
    omega
end
theorem k_sortedR {X : Cx} {K : PySem.W.Frag} (h : X.K = K := by rfl) : CallR X (.builtin "sorted") (rSortedR K) := h ▸ cr_sortedR
@[reducible] def keyD (y : Int × D) : D := .tup [.int y.1, y.2]
section
variable {K : PySem.W.Frag}
instance cbf_sortedR : CbF K (rSortedR K) (fun ds P => as1 ds fun d => asL d fun l => ∃ xs : List (Int × D), l = xs.map keyD ∧ (xs.map (·.1)).Nodup ∧ ∀ ys : List (Int × D), ys.Perm xs → (ys.map (·.1)).Pairwise (· < ·) → P (ys.map keyD)) := ⟨fun O H vs ds Q P a h q => by
  obtain ⟨v, d, rfl, a, h⟩ := all_1 a h
  obtain ⟨p, vs, l, rfl, rfl, h1, _, h3, xs, rfl, nd, h⟩ := at_L a h
  have hl := h3.length
  rw [List.length_map] at hl
  refine ⟨p, vs, xs.map (·.1), rfl, SqL.of h1, by rw [List.length_map]; exact hl, fun i x k hx hk => ?_, nd, fun ys c hp hs nc => ?_⟩
  · obtain ⟨d, hd, a⟩ := h3.get hx
    rw [List.getElem?_map] at hd hk
    cases e : xs[i]? with
    | none => rw [e] at hk; cases hk
    | some y =>
      rw [e] at hd hk
      cases hd
      cases hk
      cases a with
      | tup g1 g2 g3 =>
        cases g3 with
        | cons a1 a2 =>
          cases a2 with
          | cons a2 a3 =>
            cases a3
            cases a1
            exact ⟨_, _, rfl, g1⟩
  · -- the permutation of the data
    have hm : ∀ y ∈ ys, ∃ (i : Nat) (x : Int × D), vs[i]? = some y.1 ∧ xs[i]? = some x ∧ x.1 = y.2 := fun y hy => by
      have hy' := hp.mem_iff.mp hy
      obtain ⟨i, hi⟩ := List.getElem?_of_mem hy'
      obtain ⟨g1, g2⟩ := List.getElem?_zip_eq_some.mp hi
      rw [List.getElem?_map] at g2
      cases e : xs[i]? with
      | none => rw [e] at g2; cases g2
      | some x => rw [e] at g2; exact ⟨i, x, g1, e, Option.some.inj g2⟩
    -- data by keys
    let f : Int → D := fun k => ((xs.find? fun x => decide (x.1 = k)).map (·.2)).getD .non
    have hf : ∀ x ∈ xs, f x.1 = x.2 := fun x hx => by
      have : xs.find? (fun z => decide (z.1 = x.1)) = some x := by
        obtain ⟨i, hi⟩ := List.getElem?_of_mem hx
        cases e : xs.find? (fun z => decide (z.1 = x.1)) with
        | none =>
          have := List.find?_eq_none.mp e x hx
          exact absurd (decide_eq_true rfl) this
        | some z =>
          have h1 := List.find?_some e
          have h2 := List.mem_of_find?_eq_some e
          obtain ⟨j, hj⟩ := List.getElem?_of_mem h2
          have h1 : z.1 = x.1 := of_decide_eq_true h1
          have := nodup_ix nd (x := x.1) (i := i) (j := j) (by rw [List.getElem?_map, hi]; rfl) (by rw [List.getElem?_map, hj]; show some z.1 = _; rw [h1])
          subst this
          rw [hi] at hj
          exact hj.symm
      show ((xs.find? fun z => decide (z.1 = x.1)).map (·.2)).getD .non = x.2
      rw [this]
      rfl
    have hperm : (ys.map fun y => (y.2, f y.2)).Perm xs := by
      have h5 := (hp.map (·.2)).map fun k => (k, f k)
      rw [List.map_snd_zip (by rw [List.length_map]; omega), List.map_map, List.map_map] at h5
      refine h5.trans (List.Perm.of_eq ?_)
      have : ∀ x ∈ xs, ((fun k => (k, f k)) ∘ fun x : Int × D => x.1) x = x := fun x hx => by
        show (x.1, f x.1) = x
        rw [hf x hx]
      rw [List.map_congr_left this, List.map_id']
    have hP := h (ys.map fun y => (y.2, f y.2)) hperm (by rw [List.map_map]; exact hs)
    refine q _ _ c hP nc ?_
    refine AtAll.of (by simp) fun i v d hv hd => ?_
    rw [List.getElem?_map] at hv
    rw [List.map_map, List.getElem?_map] at hd
    cases e : ys[i]? with
    | none => rw [e] at hv; cases hv
    | some y =>
      rw [e] at hv hd
      cases hv
      cases hd
      obtain ⟨j, x, g1, g2, g3⟩ := hm y (List.mem_of_getElem? e)
      obtain ⟨d, hd, a⟩ := h3.get g1
      rw [List.getElem?_map, g2] at hd
      cases hd
      show At K O H y.1 (keyD (y.2, f y.2))
      rw [← g3, hf x (List.mem_of_getElem? g2)]
      exact a⟩
end

/-! ### a staticmethod called by the class's name -/
/-- C.m is a staticmethod: its record at p, its def at g -/
structure SMet (K : PySem.W.Frag) (C : Addr) (mc : Value) (m : Str) (p g : Addr) : Prop where
  at_ : PySem.W.findCls K (.ref C) mc m = some (.get (.builtin "staticmethod.__get__") (.ref p) .none (.ref C))
  rc : ∃ rest, PySem.W.recIn K p "staticmethod" = some (.ref g :: rest)
section
variable {X : Cx}
theorem pe_static0 {CX : CXT} {k : Nat} {C p g : Addr} {mc : Value} {fd : FuncData} {ps : List Str} {sp : Sp} {E : XK} {x m : Str} {p1 p2 pos : Pos} {pl : Sem Bool}
    (hg : Gl X x) (hm : X.mg x = some (.ref C)) (r : ClX.CRead X.K C mc) (c : SMet X.K C mc m p g) (F : FnOk X.prog X.w X.K X.mg X.base CX k g fd ps sp) (hr : Room k X.A) (hk : PySem.W.keepIn X.K (.ref g) = true) (hb : Binds X.K fd ps []) (hx : Passes CX X E)
    (hdb : (x == ("__debug__" : Str)) = false := by decide)
    (ht : eval (.Call (.Attribute (.Name x p1) m p2) [] [] pos) X.env = (do
      let ov ← eval (.Name x p1) X.env
      standAt p2.atName
      let (f, first) ← holding [ov] (getMethod ov m pl)
      callWith pos f first (backTo pos (starEach [] X.env)) (backToKw pos (keywordEach [] X.env))) := by rfl) :
    PE X (.Call (.Attribute (.Name x p1) m p2) [] [] pos) (tCall sp [] E tNil) := by
  refine ⟨fun pins s σ H Q I h => ?_⟩
  refine PySem.W.methodCall_KW (pl := pl) (ld_glob I hg hm ?_ hdb) ht
  refine PySem.W.method_cls I.kIn r.ga ?_
  obtain ⟨rest, hp⟩ := c.rc
  refine PySem.W.cls_bind I.kIn r.rd c.at_ (wpAny_call (PySem.W.sm_get (s := { s with toks := s.toks + 1 }) I.kIn hp (PySem.W.handed_on rfl ?_)))
  exact PySem.W.callWith_K0 (I.tok _).kIn hk (run_fn (us := []) F hr hb .nil hx (I.tok _) .nil h)
end
/-! ### three names at once -/
@[reducible] def as3 : List D → (D → D → D → Prop) → Prop
  | [d, e, f], k => k d e f
  | _, _ => False
theorem all_3 {K : PySem.W.Frag} {O : Ads} {H : Hp} {vs : List V} {ds : List D} {k : D → D → D → Prop} (a : AtAll K O H vs ds) (h : as3 ds k) : ∃ v w u d e f, vs = [v, w, u] ∧ At K O H v d ∧ At K O H w e ∧ At K O H u f ∧ k d e f := by
  match ds, a, h with
  | [d, e, f], .cons a (.cons b (.cons c .nil)), h => exact ⟨_, _, _, _, _, _, rfl, a, b, c, h⟩
theorem run_par3 {K : PySem.W.Frag} {C : Cz} {ρ : List Sl} {P : Out → Prop} {i j l : Nat} {ta : TA} (h : EvA K C ta ρ fun ds => as3 ds fun d e f => P (.nx (((ρ.set i (.val d)).set j (.val e)).set l (.val f)))) : Run K C (tPar3 i j l ta) ρ P := fun En σ H s k => by
  refine h σ H _ s fun ds vs H' p s' _ a => ?_
  obtain ⟨v, w, u, d, e, f, rfl, a, b, c, p⟩ := all_3 a p
  have sub : ∀ i d (ρ : List Sl) a, a ∈ Os C (ρ.set i (.val d)) → a ∈ Os C ρ := fun i d ρ a m => (List.mem_append.mp m).elim (fun h => List.mem_append_left _ h) fun h => List.mem_append_right _ ((owns_set_sub (s := .val d) rfl ρ i).subset h)
  have s1 := s'.set i a
  have s2 := s1.set j (b.less (sub i d ρ))
  exact ⟨v, w, u, rfl, k.nx _ _ _ p (s2.set l ((c.less (sub i d ρ)).less (sub j e _)))⟩

/-! ### an instance that is called -/
structure OwnCall (K : PySem.W.Frag) (C f : Addr) : Prop where
  at_ : PySem.W.findIn K (.ref C) "__call__" = some (some (.ref f))
  fn : PySem.W.isFn K (.ref f) = true
  fi : PySem.W.fnIn K f = true
section
variable {M : Model} {A : Around} {E : Value → Shared → Prop} {s : Shared} {Q : Value → Shared → Prop}
theorem callI_end {t : Sem Value} (h : wpAny M A t Q E s) : wpAny M A (t >>= fun r => holding [r] point >>= fun _ => pure r) Q E s := by
  apply wpAny_bind
  refine wpAny_mono h ?_ (fun _ _ z => z)
  intro r t hr
  exact wpAny_bind (wpAny_holding (wpAny_point (wpAny_pure hr)))
theorem callI_of {P : Heap → Prop} {pos : Pos} {x : Addr} {first : List Value} {args : List (Bool × Sem Value)} {kws : List (Option Str × Sem Value)} (hp : (args.any (·.1) || kws.any (·.1.isNone)) = false) (hk : ∀ h, P h → PySem.W.Looks M h (keeperOf (.ref x)) .caller)
    (h : wpAny M A (evalArgs (.ref x) true args kws) (fun b t => P t.heap ∧ wpAny M A (call (.ref x) (first ++ b.pos) b.kw) Q E t) E s) : wpAny M A (callWith pos (.ref x) first args kws) Q E s := by
  unfold callWith
  apply wpAny_bind
  apply wpAny_holding
  refine wpAny_mono h ?_ (fun _ _ z => z)
  rintro b t ⟨hP, hc⟩
  apply wpAny_bind
  apply wpAny_standAt
  simp only [hp]
  exact wpAny_bind ((hk _ hP).here (callI_end (wpAny_operateT hc)))
end
/-- the instance in the slot i of the class at C, before the arguments -/
def tSelf (C : Addr) (i : Nat) (t : TA) : TA := fun σ H Q => ∃ a dx fs, σ[i]? = some (some (.ref a)) ∧ H a = some (.ins C dx fs) ∧ t σ H fun vs H1 => (∃ dy gs, H1 a = some (.ins C dy gs)) ∧ Q (.ref a :: vs) H1
section
variable {X : Cx} {CX : CXT} {k i : Nat} {C f : Addr} {fd : FuncData} {ps : List Str} {sp : Sp} {E : XK} {x : Str} {p pos : Pos} {e : Expr} {es : List Expr} {t : TA}
theorem pe_callI (M : OwnCall X.K C f) (F : FnOk X.prog X.w X.K X.mg X.base CX k f fd ps sp) (hr : Room k X.A) (hb : Binds X.K fd ps []) (hx : Passes CX X E) (hN : X.N[i]? = some x) (hv : Vis X.env.scope x) (ha : PA X (e :: es) t)
    (hdb : (x == ("__debug__" : Str)) = false := by decide) (hcd : (x == ("__classdict__" : Str)) = false := by decide)
    (he : starEach (e :: es) X.env = (false, eval e X.env) :: starEach es X.env := by rfl) (hpl : (backTo pos (starEach es X.env)).any (·.1) = false := by rfl) : PE X (.Call (.Name x p) (e :: es) [] pos) (tCall sp [] E (tSelf C i t)) := by
  refine ⟨fun pins s σ H Q I h => ?_⟩
  obtain ⟨a, dx, fs, hs, ha0, ht⟩ := h
  have hn := (pe_var (X := X) (i := i) (pos := p) hN hv hdb hcd).run pins s σ H (fun v H1 => v = .ref a ∧ H1 = H) I ⟨_, hs, rfl, rfl⟩
  refine wpAny_Call_Name_kw (wpAny_mono hn ?_ (fun _ _ z => z))
  rintro u s1 ⟨v, H1, I1, r1, rfl, rfl⟩
  obtain rfl : u = Value.ref a := r1
  rw [he]
  refine callI_of (P := fun h => ∃ ox od, PySem.W.InstAt h a ox C od ∧ ox.data = .plain) (by show ((false || (backTo pos (starEach es X.env)).any (·.1)) || false) = false; rw [hpl]; rfl) (fun h ⟨ox, od, J, hd⟩ => PySem.W.kco_keeper J hd) ?_
  refine Calls.evalArgs_plain ?_
  have hsp := ha.run pos pins s1 σ _ _ I1 ht
  rw [he] at hsp
  refine wpAny_mono hsp ?_ (fun _ _ z => z)
  rintro us s2 ⟨vs, H2, I2, rv, ⟨dy, gs, h2⟩, q⟩
  obtain ⟨mA, J, _⟩ := ins_get I2.hok h2
  obtain ⟨od, J, _⟩ := J.look
  refine ⟨⟨_, _, J, rfl⟩, ?_⟩
  have q' : sp (.ref a :: vs) H2 Q E := by rw [List.append_nil] at q; exact q
  have hl : (Value.ref a :: us).length = ps.length := by
    have := F.len _ _ _ _ q'
    rw [List.length_cons] at this ⊢
    rw [← this, rv.length]
  have hb2 := hb s2 (.ref a :: us) I2.kIn (by rw [List.append_nil]; exact hl)
  rw [List.append_nil] at hb2
  refine wpAny_call (PySem.W.kco_code (K := X.K) I2.kIn J rfl M.at_ M.fn M.fi (codeAny_mono (F.run X.A X.stack s2 H2 ⟨.ref a :: us, []⟩ (.ref a :: us) (.ref a :: vs) Q E hr I2.env0 hb2 (.cons rfl rv) q') fun r s' hq => ?_))
  cases r with
  | error e => exact hx pins σ H2 s2 e s' I2 hq
  | ok fl =>
    cases fl with
    | ret w => exact I2.after hq
    | next => exact False.elim hq
    | brk => exact False.elim hq
    | cont => exact False.elim hq
end
section
variable {K : PySem.W.Frag} {C : Cz} {ρ : List Sl} {P : D → Prop} {t : TA} {S : Sd} {E : XK} {Cl : Addr} {i : Nat} {l : List (Str × D)}
theorem eva_self {PL : List D → Prop} (e : ρ[i]? = some (.val (.ins Cl l))) (h : EvA K C t ρ fun ds => PL (.ins Cl l :: ds)) : EvA K C (tSelf Cl i t) ρ PL := fun σ H Q s k => by
  obtain ⟨x, e1, a⟩ := s.sl.get e
  cases a with
  | val a =>
    have a0 := a
    cases a with
    | ins h1 n h3 =>
      refine ⟨_, _, _, e1, h1, h σ H _ s fun ds vs H2 q2 s2 f2 a2 => ?_⟩
      have a1 := a0.fr (s.up f2)
      refine ⟨?_, k _ _ _ q2 s2 f2 (.cons a1 a2)⟩
      cases a1 with
      | ins g1 _ _ => exact ⟨_, _, g1⟩
theorem ev_callI (e : ρ[i]? = some (.val (.ins Cl l))) (h : EvA K C t ρ fun ds => S [] (.ins Cl l :: ds) (okP P)) : Ev K C (tCall (spD K S) [] E (tSelf Cl i t)) ρ P := ev_call (eva_self e h)
theorem ev_callIX (he : E = C.E) (e : ρ[i]? = some (.val (.ins Cl l))) (h : EvA K C t ρ fun ds => S [] (.ins Cl l :: ds) (exP C P)) : Ev K C (tCall (spD K S) [] E (tSelf Cl i t)) ρ P := ev_callX he (eva_self e h)
end
/-! ### defs that give new lists -/
abbrev Sn := List (Addr × Addr) → List D → (List D → Prop) → Prop
/-- the def's answer is a list that is new -/
def spN (K : PySem.W.Frag) (S : Sn) : Sp := fun vs H Q E => ∃ (O ts : Ads) (bs : List (Addr × Addr)) (ds : List D) (Pq : List D → Prop), AtAll K O H vs ds ∧ (∀ p, p ∈ O → H p ≠ none) ∧ (∀ q, q ∈ bs → Bag H q.1 q.2 ∧ q.1 ∈ O ∧ q.2 ∉ O) ∧ (∀ p, p ∈ ts → Tab H p) ∧ S bs ds Pq ∧
  (∀ l vs' p H', Pq l → Void H p → p ∉ O → H' p = some (.lst vs') → AtAll K (p :: O) H' vs' l → Fr (bs.map (·.1)) H H' → (∀ p, p ∈ O → H' p ≠ none) → (∀ q, q ∈ bs → Bag H' q.1 q.2 ∧ q.2 ≠ p) → (∀ p, p ∈ ts → Tab H' p) → Q (.ref p) H')
section
variable {P : Program} {w : World} {K : PySem.W.Frag} {mg : Str → Option Value} {base : Heap}
/-- a def that only returns a new list -/
theorem okN {x qual : Str} {st : Stmt} {f : Addr} {fd : FuncData} {N ps : List Str} {k : Nat} {S : Sn} (F : Fun K x qual st f fd) (sc : FnScope N ps (defScope st)) (len : ∀ bs ds Pq, S bs ds Pq → ds.length = ps.length)
    (hbody : ∀ (cdv : Value) (A : Around) (outer : List Env) (s : Shared) (H : Hp) (E : XK), Room k (A.deeper (envOfC qual (defScope st) s.heap.objs.size f cdv)) →
      ∃ te, PSs (cxOf CX0 P w K mg base N qual (defScope st) f cdv A outer s H E).nox (defBody st) (tRet te) ∧ ∀ (C : Cz) (ds : List D) (Pq : List D → Prop), C.E = E → S C.bags ds Pq → EvF K C te (slots N.length ds) Pq) : FnOk P w K mg base CX0 (k + 1) f fd ps (spN K S) :=
  F.ok sc (fun vs H Q E h => by
    obtain ⟨O, ts, bs, ds, Pq, a, _, _, _, hS, _⟩ := h
    rw [a.length, len _ _ _ hS]) fun cdv A outer s H vs Q E hr h => by
    obtain ⟨te, h1, h2⟩ := hbody cdv A outer s H E hr
    refine ⟨_, h1, ?_⟩
    obtain ⟨O, ts, bs, ds, Pq, a, lv, bg, ht, hS, q1⟩ := h
    have hl := a.length
    have eo : owns (slots N.length ds) = [] := owns_vals ds _
    have eO : ∀ H : Hp, (∀ p, p ∈ O → H p ≠ none) → ∀ p, p ∈ O ++ owns (slots N.length ds) → H p ≠ none := fun H lv p m => by
      rw [eo, List.append_nil] at m
      exact lv p m
    refine h2 ⟨O, H, bs.map (·.1), bs, [], [], E, fun _ => False, ts⟩ ds Pq rfl hS _ H _ ?_ fun l p H' hq s' f' => ?_
    · refine ⟨?_, by rw [eo]; exact List.nodup_nil, Fr.refl _ _, eO H lv, ⟨fun p m => ?_, fun q m => .inl (List.mem_map.mpr ⟨q, m, rfl⟩)⟩, fun p m => ?_, fun q m => ⟨(bg q m).1, (bg q m).2.1, ?_⟩, .nil, fun x hx => hx.elim, ht⟩
      · show Sls K (O ++ owns (slots N.length ds)) H (L2.start N vs) _
        rw [eo, List.append_nil]
        unfold L2.start slots
        rw [hl]
        exact sls_start a _
      · obtain ⟨q, hq, rfl⟩ := List.mem_map.mp m
        exact (bg q hq).2.1
      · rw [eo] at m; exact nomatch m
      · show q.2 ∉ O ++ owns (slots N.length ds)
        rw [eo, List.append_nil]
        exact (bg q m).2.2
    · have ho := own_V (i := (slots N.length ds).length) s'.sl (p := p) (ds := l) (by rw [List.getElem?_append_right (Nat.le_refl _)]; simp)
      obtain ⟨vs', _, g1, g2⟩ := ho
      have e2 : owns (slots N.length ds ++ [.own p l]) = [p] := by
        rw [owns_append, eo]
        rfl
      have hp : p ∈ owns (slots N.length ds ++ [.own p l]) := by rw [e2]; exact List.mem_singleton.mpr rfl
      refine q1 l vs' p H' hq (s'.fresh p hp).1 (s'.fresh p hp).2 g1 (g2.less fun x m => ?_) s'.fr (fun x m => s'.lv x (List.mem_append_left _ m)) (fun q m => ⟨(s'.bg q m).1, fun z => ?_⟩) s'.tb
      · show x ∈ O ++ owns _
        rw [e2]
        rcases List.mem_cons.mp m with m | m
        · exact List.mem_append_right _ (List.mem_singleton.mpr m)
        · exact List.mem_append_left _ m
      · exact (s'.bg q m).2.2 (by rw [z]; exact List.mem_append_right _ hp)
end
section
variable {K : PySem.W.Frag} {O O' : Ads} {H : Hp}
mutual
theorem At.exV (x : ∀ a o, a ∉ O → H a = some o → (∀ ps, o ≠ .tbl ps) → a ∉ O') : ∀ {v : V} {d : D}, At K O H v d → At K O' H v d
  | _, _, .fn h => .fn fun p m => ⟨(h p m).1, x _ _ (h p m).2.1 (h p m).1 (h p m).2.2, (h p m).2.2⟩
  | _, _, .any v => .any v
  | _, _, .non => .non
  | _, _, .bl b => .bl b
  | _, _, .int i => .int i
  | _, _, .str z => .str z
  | _, _, .tup h n t => .tup h (by
      rcases n with n | n
      · rcases h with (h | ⟨o, h⟩) | h
        · exact .inl (x _ _ n h fun _ z => nomatch z)
        · exact .inl (x _ _ n h fun _ z => nomatch z)
        · exact .inr fun _ => .inr h
      · exact .inr n) (AtAll.exV x t)
  | _, _, .lst h n t => .lst h (x _ _ n h fun _ z => nomatch z) (AtAll.exV x t)
  | _, _, .ins h n t => .ins h (x _ _ n h fun _ z => nomatch z) (AtFs.exV x t)
  | _, _, .oth v => .oth v
theorem AtAll.exV (x : ∀ a o, a ∉ O → H a = some o → (∀ ps, o ≠ .tbl ps) → a ∉ O') : ∀ {v : List V} {d : List D}, AtAll K O H v d → AtAll K O' H v d
  | _, _, .nil => .nil
  | _, _, .cons h t => .cons (At.exV x h) (AtAll.exV x t)
theorem AtFs.exV (x : ∀ a o, a ∉ O → H a = some o → (∀ ps, o ≠ .tbl ps) → a ∉ O') : ∀ {v : List (Str × V)} {d : List (Str × D)}, AtFs K O H v d → AtFs K O' H v d
  | _, _, .nil => .nil
  | _, _, .cons h t => .cons (At.exV x h) (AtFs.exV x t)
end
theorem CAt.exV {o : HO} {c : Cd} (x : ∀ a o, a ∉ O → H a = some o → (∀ ps, o ≠ .tbl ps) → a ∉ O') (a : CAt K O H o c) : CAt K O' H o c := by
  cases a with
  | lst a => exact .lst (a.exV x)
  | ins a => exact .ins (a.exV x)
  | dK e a => exact .dK e (a.exV x)
  | dT e a => exact .dT e (a.exV x)
end
/-- a list that a def has made becomes one's own -/
theorem St.adopt {K : PySem.W.Frag} {C : Cz} {ρ : List Sl} {σ : L2.St} {H1 H' : Hp} {p : Addr} {vs' : List V} {l : List D} (s1 : St K C ρ σ H1) (s2 : St K C ρ σ H') (f : Fr [] H1 H') (v : Void H1 p) (np : p ∉ Os C ρ) (hp : H' p = some (.lst vs')) (a : AtAll K (p :: Os C ρ) H' vs' l) (hb : ∀ q, q ∈ C.bags → q.2 ≠ p) :
    St K C (ρ ++ [.own p l]) (σ ++ [some (.ref p)]) H' := by
  have eo : owns (ρ ++ [.own p l]) = owns ρ ++ [p] := owns_append ρ _
  have sub : ∀ a, a ∈ Os C (ρ ++ [.own p l]) → a ∈ Os C ρ ∨ a = p := fun a m => by
    rw [show Os C (ρ ++ [.own p l]) = C.O0 ++ (owns ρ ++ [p]) by rw [← eo], ← List.append_assoc] at m
    exact (List.mem_append.mp m).imp id fun m => List.mem_singleton.mp m
  have x : ∀ a o, a ∉ Os C ρ → H1 a = some o → (∀ ps, o ≠ .tbl ps) → a ∉ Os C (ρ ++ [.own p l]) := fun a o n h nt m => by
    rcases sub a m with m | m
    · exact n m
    · subst m
      obtain ⟨ps, e⟩ := v o h
      exact nt ps e
  have f2 : ∀ O, Fr O H1 H' := fun O => f.mono fun _ m => nomatch m
  refine ⟨?_, ?_, s2.fr, fun q m => ?_, s1.nO, fun q m => ?_, fun q m => ⟨(s2.bg q m).1, (s2.bg q m).2.1, fun z => ?_⟩, (s1.held.exV x).fr (f2 _), s1.ex, s2.tb⟩
  · have h1 : Sls K (Os C (ρ ++ [.own p l])) H' σ ρ := s1.sl.map (fun _ _ a => (a.exV x).fr (f2 _)) fun q xs ds _ h a => ⟨_, f q _ List.not_mem_nil h a.nt, (a.exV x).fr (f2 _)⟩
    have h2 : SlAt K (Os C (ρ ++ [.own p l])) H' (some (.ref p)) (.own p l) := .cell hp (.lst (a.less fun b m => by
      rcases sub b m with m | m
      · exact List.mem_cons_of_mem _ m
      · exact m ▸ List.mem_cons_self ..))
    generalize Os C (ρ ++ [.own p l]) = O at h1 h2
    clear eo sub x np s1 s2 a
    induction h1 with
    | nil => exact .cons h2 .nil
    | cons a t ih => exact .cons a ih
  · rw [eo]
    exact List.nodup_append.mpr ⟨s1.nd, by simp, fun a ha b hb z => by rw [List.mem_singleton.mp hb] at z; subst z; exact np (List.mem_append_right _ ha)⟩
  · rcases sub q m with m | m
    · exact s2.lv q m
    · rw [m, hp]; exact fun z => nomatch z
  · rw [eo] at m
    rcases List.mem_append.mp m with m | m
    · exact s1.fresh q m
    · rw [List.mem_singleton.mp m]
      refine ⟨fun o h => Classical.byContradiction fun z => ?_, fun z => np (List.mem_append_left _ z)⟩
      have nN : p ∉ C.N := fun m => np (List.mem_append_left _ (s1.nO.1 p m))
      have h1 := s1.fr p o nN h fun ps e => z ⟨ps, e⟩
      exact z (v o h1)
  · rcases sub _ z with z | z
    · exact (s2.bg q m).2.2 z
    · exact hb q m z
section
variable {K : PySem.W.Frag} {C : Cz} {ρ : List Sl} {P : D → Prop} {PL : List D → Prop} {ta t : TA} {te : TE} {S : Sn} {E : XK} {Cl : Addr} {m : Str}
theorem evf_callN (h : EvA K C ta ρ fun ds => S [] ds PL) : EvF K C (tCall (spN K S) [] E ta) ρ PL := fun σ H Q s k =>
  h σ H _ s fun ds vs H1 q s1 f1 a1 => by
    rw [List.append_nil]
    refine ⟨Os C ρ, C.tabs, [], ds, PL, a1, s1.lv, (fun q m => nomatch m), s1.tb, q, fun l vs' p H' hq hv hO hp al f lv bg tb => ?_⟩
    have s2 := s1.kept f lv tb
    refine k l p H' hq (s1.adopt s2 f hv hO hp al fun q m z => ?_) (f1.trans (f.mono fun _ m => nomatch m))
    obtain ⟨cs, i, hh, sd, y⟩ := (s1.bg q m).1
    obtain ⟨ps, e⟩ := hv _ (z ▸ y.cells)
    cases e
theorem ev_callN (h : EvA K C ta ρ fun ds => S [] ds fun l => P (.lst l)) : Ev K C (tCall (spN K S) [] E ta) ρ P := ev_f (evf_callN h)
theorem evf_methN (h : Ev K C te ρ fun d => asIns Cl d fun l => l.lookup m = none ∧ EvA K C t ρ fun ds => S [] (.ins Cl l :: ds) PL) : EvF K C (tMeth Cl m (spN K S) [] E te t) ρ PL := evf_callN (eva_recv (m := m) h)
theorem ev_methN (h : Ev K C te ρ fun d => asIns Cl d fun l => l.lookup m = none ∧ EvA K C t ρ fun ds => S [] (.ins Cl l :: ds) fun r => P (.lst r)) : Ev K C (tMeth Cl m (spN K S) [] E te t) ρ P := ev_f (evf_methN h)
/-- something put behind a list that is let go -/
theorem run_appC {v : V} {PO : Out → Prop} (h : EvF K C te ρ fun l => l.length < sizeLine ∧ PO (.nx ρ)) : Run K C (tDrop (tBM K "list" rAppend te (tCons (tC v) tNil))) ρ PO := fun En σ H s k =>
  h σ H _ s fun l p H' q s' f' => by
    obtain ⟨vs, e1, h0, a⟩ := own_V (i := ρ.length) s'.sl (p := p) (ds := l) (by rw [List.getElem?_append_right (Nat.le_refl _)]; simp)
    refine ⟨.inl ⟨rfl, _, SqL.of h0⟩, p, vs, v, rfl, rfl, h0, by rw [a.length]; exact q.1, ?_⟩
    have s2 := s'.mut (i := ρ.length) (p := p) (ds := l) (ds' := l ++ [vD v]) (by rw [List.getElem?_append_right (Nat.le_refl _)]; simp) (a.append (.one (at_vD v)))
    rw [show (ρ ++ [Sl.own p l]).set ρ.length (Sl.own p (l ++ [vD v])) = ρ ++ [Sl.own p (l ++ [vD v])] by rw [List.set_append_right _ _ (Nat.le_refl _)]; simp] at s2
    exact k.nx _ _ _ q.2 s2.loose.1
end
/-! ### list(range(n)) -/
section
variable {K : PySem.W.Frag} {C : Cz} {ρ : List Sl} {P : D → Prop} {PL : List D → Prop} {ta tb : TE}
theorem rgV_at {O : Ads} {H : Hp} (a b : Int) : AtAll K O H (rgV a b) (rngD a (b - a).toNat) := by
  unfold rgV rngD
  refine AtAll.of (by simp) fun i v d hv hd => ?_
  rw [List.getElem?_map] at hv hd
  cases e : (List.range (b - a).toNat)[i]? with
  | none => rw [e] at hv; cases hv
  | some x =>
    rw [e] at hv hd
    cases hv
    cases hd
    exact .int _
theorem evf_listRg1 (h : Ev K C ta ρ fun d => asI d fun n => (0 ≤ n ∧ n ≤ 16777216) ∧ PL (rngD 0 n.toNat)) : EvF K C (tLstRg (tRg1 ta)) ρ PL := fun σ H Q s k => h σ H _ s fun d v H1 q s1 f1 a1 => by
  obtain ⟨n, rfl, rfl, ⟨q0, q1⟩, q⟩ := at_int a1 q
  refine ⟨n, rfl, RgOk.of_le (Int.le_refl 0) q1 (by omega) q0, fun p np => ?_⟩
  have := rgV_at (K := K) (O := Os C ρ) (H := H1) 0 n
  rw [Int.sub_zero] at this
  exact k _ p _ q (s1.own np this) (f1.trans (Fr.of (same_upd np)))
theorem ev_listRg1 (h : Ev K C ta ρ fun d => asI d fun n => (0 ≤ n ∧ n ≤ 16777216) ∧ P (.lst (rngD 0 n.toNat))) : Ev K C (tLstRg (tRg1 ta)) ρ P := ev_f (evf_listRg1 h)
end

/-! ### classmethods called by the class's name; cls(*e) -/
section
variable {X : Cx} {CX : CXT} {k i : Nat} {f C p g : Addr} {mc : Value} {sp : Sp} {E : XK} {x m : Str} {e : Expr} {es : List Expr} {t : TA} {te : TE} {p1 p2 pos sp_ : Pos}
theorem pe_cm {pl : Sem Bool} (hg : Gl X x) (hm : X.mg x = some (.ref C)) (r : ClX.CRead X.K C mc) (c : ClX.CMet X.K C mc m p g) (F : FnR X.prog X.w X.K X.mg X.base CX k g sp) (hr : Room k X.A) (hx : Passes CX X E) (ha : PA X (e :: es) t)
    (hdb : (x == ("__debug__" : Str)) = false := by decide)
    (hst : starEach (e :: es) X.env = (false, eval e X.env) :: starEach es X.env := by rfl) (hpl : (backTo pos (starEach es X.env)).any (·.1) = false := by rfl)
    (ht : eval (.Call (.Attribute (.Name x p1) m p2) (e :: es) [] pos) X.env = (do
      let ov ← eval (.Name x p1) X.env
      standAt p2.atName
      let (f, first) ← holding [ov] (getMethod ov m pl)
      callWith pos f first (backTo pos (starEach (e :: es) X.env)) (backToKw pos (keywordEach [] X.env))) := by rfl) :
    PE X (.Call (.Attribute (.Name x p1) m p2) (e :: es) [] pos) (tCall sp [] E (tCons (tC (.ref C)) t)) := by
  refine ⟨fun pins s σ H Q I h => ?_⟩
  refine (ClX.pe_cmeth (ta := tC (.ref C)) (pl := pl) (pe_glob (v := .ref C) hg hm rfl hdb) r c F hr hx ha hst hpl ht).run pins s σ H Q I ?_
  refine ⟨rfl, ?_⟩
  have h' : t σ H fun vs H2 => sp ((V.ref C :: vs) ++ []) H2 Q E := h
  simpa only [List.append_nil] using h'
/-- cls(*e), cls in slot i -/
def tMakeV (i : Nat) (C : Addr) (sp : Sp) (E : XK) (t : TA) : TE := fun σ H Q => σ[i]? = some (some (.ref C)) ∧ StX.tMakeR C sp E t σ H Q
theorem pe_makeV (M : Mk X.K C f) (F : FnR X.prog X.w X.K X.mg X.base CX k f sp) (hr : Room (k + 1) X.A) (hx : Passes CX X E) (hN : X.N[i]? = some x) (hv : Vis X.env.scope x) (he : PE X e te)
    (hdb : (x == ("__debug__" : Str)) = false := by decide) (hcd : (x == ("__classdict__" : Str)) = false := by decide)
    (hst : starEach [.Starred e sp_] X.env = [(true, eval e X.env)] := by rfl) : PE X (.Call (.Name x p1) [.Starred e sp_] [] pos) (tMakeV i C sp E (tItems X.K te)) := by
  refine ⟨fun pins s σ H Q I h => ?_⟩
  obtain ⟨hs, h⟩ := h
  have hn := (pe_var (X := X) (i := i) (pos := p1) hN hv hdb hcd).run pins s σ H (fun v H1 => v = .ref C ∧ H1 = H) I ⟨_, hs, rfl, rfl⟩
  refine wpAny_Call_Name_kw (wpAny_mono hn ?_ (fun _ _ z => z))
  rintro u s1 ⟨v, H1, I1, r1, rfl, rfl⟩
  obtain rfl : u = Value.ref C := r1
  refine PySem.W.callWith_S (h₀ := X.base) I1.ok.mod.kin M.kp (thn (he.run pins s1 σ _ _ I1 h) fun v s1 ⟨y, H1, I1, ry, a, xs, ey, hxs, q⟩ => ?_) hst
  subst ey
  obtain rfl : v = Value.ref a := ry
  exact StX.star_any I1 hxs fun us s2 I2 rv => ⟨I2.kIn, StX.run_makeR M F hr hx I2 rv q⟩
theorem k_makeV {K : PySem.W.Frag} (M : Mk X.K C f) (F : FnR X.prog X.w X.K X.mg X.base CX k f sp) (hr : Room (k + 1) X.A) (hx : Passes CX X E) (hN : X.N[i]? = some x) (hv : Vis X.env.scope x) (he : PE X e te)
    (hdb : (x == ("__debug__" : Str)) = false := by decide) (hcd : (x == ("__classdict__" : Str)) = false := by decide)
    (hst : starEach [.Starred e sp_] X.env = [(true, eval e X.env)] := by rfl) (h : X.K = K := by rfl) : PE X (.Call (.Name x p1) [.Starred e sp_] [] pos) (tMakeV i C sp E (tItems K te)) := h ▸ pe_makeV M F hr hx hN hv he hdb hcd hst
end
section
variable {K : PySem.W.Frag} {C : Cz} {ρ : List Sl} {P : D → Prop} {t : TA} {S : Sd} {E : XK} {Cl : Addr} {i : Nat}
theorem ev_cref {a : Addr} (h : P (.oth (.ref a))) : Ev K C (tC (.ref a)) ρ P := fun σ H Q s k => k _ _ _ h s (Fr.refl _ _) (.oth _)
theorem ev_makeVX (he : E = C.E) (e : ρ[i]? = some (.val (.oth (.ref Cl)))) (h : EvA K C t ρ fun ds => S [] ds (exP C P)) : Ev K C (tMakeV i Cl (spM K Cl S) E t) ρ P := fun σ H Q s k => by
  refine ⟨?_, ev_makeX he h σ H Q s k⟩
  obtain ⟨x, e1, a⟩ := s.sl.get e
  cases a with
  | val a =>
    cases a
    exact e1
end
/-! ### a loop over a list or a tuple -/
def iSeq (K : PySem.W.Frag) (tl : TE) : TI := fun σ H R => tl σ H fun x H1 => ∃ a, x = .ref a ∧ (((∃ xs, SqL K H1 a xs) ∧ R (Itl K a) H1) ∨ ((∃ xs, SqT K H1 a xs) ∧ R (Itt K a) H1))
theorem pi_seq {X : Cx} {tg l : Expr} {i : Nat} (hl : PE X l (tVar i)) : PI X tg l (iSeq X.K (tVar i)) := by
  refine ⟨fun pins s σ H R I h => ?_⟩
  obtain ⟨v, hv, a, ev, q⟩ := h
  rcases q with ⟨hq, q⟩ | ⟨hq, q⟩
  · exact (pi_list hl).run pins s σ H R I ⟨v, hv, a, ev, hq, q⟩
  · exact (pi_tup hl).run pins s σ H R I ⟨v, hv, a, ev, hq, q⟩
theorem k_piQ {X : Cx} {K : PySem.W.Frag} {tg l : Expr} {i : Nat} (hl : PE X l (tVar i)) (h : X.K = K := by rfl) : PI X tg l (iSeq K (tVar i)) := h ▸ pi_seq hl
theorem evi_seq {K : PySem.W.Frag} {C : Cz} {ρ : List Sl} {te : TE} {P : List D → Prop} (h : Ev K C te ρ fun d => asQ d P) : EvI K C (iSeq K te) ρ P := fun σ H R s k => h σ H _ s fun d v H1 q s1 f1 a1 => by
  cases a1 with
  | lst h1 n h3 => exact ⟨_, rfl, .inl ⟨⟨_, SqL.of h1⟩, k _ _ H1 [.ref _] [.lst _] q s1 f1 (.one (.lst h1 n h3)) walks_list⟩⟩
  | tup h1 n h3 => exact ⟨_, rfl, .inr ⟨⟨_, h1⟩, k _ _ H1 [.ref _] [.tup _] q s1 f1 (.one (.tup h1 n h3)) walks_tup⟩⟩
  | _ => exact q.elim
/-! ### one or the other reading of a loop's iterable -/
def iOr (a b : TI) : TI := fun σ H R => a σ H R ∨ b σ H R
theorem pi_alt {X : Cx} {tg it : Expr} {a b : TI} (ha : PI X tg it a) (hb : PI X tg it b) : PI X tg it (iOr a b) := ⟨fun pins s σ H R I h => h.elim (fun h => ha.run pins s σ H R I h) fun h => hb.run pins s σ H R I h⟩
theorem evi_orL {K : PySem.W.Frag} {C : Cz} {ρ : List Sl} {a b : TI} {P : List D → Prop} (h : EvI K C a ρ P) : EvI K C (iOr a b) ρ P := fun σ H R s k => .inl (h σ H R s k)
theorem evi_orR {K : PySem.W.Frag} {C : Cz} {ρ : List Sl} {a b : TI} {P : List D → Prop} (h : EvI K C b ρ P) : EvI K C (iOr a b) ρ P := fun σ H R s k => .inr (h σ H R s k)

def topS (i : Nat) : Stmt := PySem.Challenge.pw_pileports_k15_forms_of_single_moves.main.body.getD i (.Pass ⟨0, 0, 0, 0⟩)
abbrev s_PileError : Stmt := inClass (topS 2) 0
abbrev N_PileError : List Str := ["self", "code"]
abbrev P_PileError : List Str := ["self", "code"]
theorem sc_PileError : FnScope N_PileError P_PileError (defScope s_PileError) := ⟨rfl, rfl, rfl, by decide +kernel, rfl, by decide +kernel, by decide +kernel⟩
abbrev s_BadPlace : Stmt := inClass (topS 3) 0
abbrev N_BadPlace : List Str := ["self", "place"]
abbrev P_BadPlace : List Str := ["self", "place"]
theorem sc_BadPlace : FnScope N_BadPlace P_BadPlace (defScope s_BadPlace) := ⟨rfl, rfl, rfl, by decide +kernel, rfl, by decide +kernel, by decide +kernel⟩
abbrev s_BadMove : Stmt := inClass (topS 4) 0
abbrev N_BadMove : List Str := ["self", "at"]
abbrev P_BadMove : List Str := ["self", "at"]
theorem sc_BadMove : FnScope N_BadMove P_BadMove (defScope s_BadMove) := ⟨rfl, rfl, rfl, by decide +kernel, rfl, by decide +kernel, by decide +kernel⟩
abbrev s_TooWide : Stmt := inClass (topS 7) 0
abbrev N_TooWide : List Str := ["self", "limit"]
abbrev P_TooWide : List Str := ["self", "limit"]
theorem sc_TooWide : FnScope N_TooWide P_TooWide (defScope s_TooWide) := ⟨rfl, rfl, rfl, by decide +kernel, rfl, by decide +kernel, by decide +kernel⟩
abbrev s_BadSize : Stmt := inClass (topS 8) 0
abbrev N_BadSize : List Str := ["self", "size"]
abbrev P_BadSize : List Str := ["self", "size"]
theorem sc_BadSize : FnScope N_BadSize P_BadSize (defScope s_BadSize) := ⟨rfl, rfl, rfl, by decide +kernel, rfl, by decide +kernel, by decide +kernel⟩
abbrev s_TooGreat : Stmt := inClass (topS 9) 0
abbrev N_TooGreat : List Str := ["self", "limit"]
abbrev P_TooGreat : List Str := ["self", "limit"]
theorem sc_TooGreat : FnScope N_TooGreat P_TooGreat (defScope s_TooGreat) := ⟨rfl, rfl, rfl, by decide +kernel, rfl, by decide +kernel, by decide +kernel⟩
abbrev s_TooSmall : Stmt := inClass (topS 10) 0
abbrev N_TooSmall : List Str := ["self", "limit"]
abbrev P_TooSmall : List Str := ["self", "limit"]
theorem sc_TooSmall : FnScope N_TooSmall P_TooSmall (defScope s_TooSmall) := ⟨rfl, rfl, rfl, by decide +kernel, rfl, by decide +kernel, by decide +kernel⟩
abbrev s_NoPlace : Stmt := inClass (topS 11) 0
abbrev N_NoPlace : List Str := ["self", "place"]
abbrev P_NoPlace : List Str := ["self", "place"]
theorem sc_NoPlace : FnScope N_NoPlace P_NoPlace (defScope s_NoPlace) := ⟨rfl, rfl, rfl, by decide +kernel, rfl, by decide +kernel, by decide +kernel⟩
abbrev s__wall : Stmt := topS 0
abbrev N__wall : List Str := ["k"]
abbrev P__wall : List Str := ["k"]
theorem sc__wall : FnScope N__wall P__wall (defScope s__wall) := ⟨rfl, rfl, rfl, by decide +kernel, rfl, by decide +kernel, by decide +kernel⟩
abbrev s_is_number : Stmt := topS 14
abbrev N_is_number : List Str := ["value"]
abbrev P_is_number : List Str := ["value"]
theorem sc_is_number : FnScope N_is_number P_is_number (defScope s_is_number) := ⟨rfl, rfl, rfl, by decide +kernel, rfl, by decide +kernel, by decide +kernel⟩
abbrev s_is_end : Stmt := topS 21
abbrev N_is_end : List Str := ["value"]
abbrev P_is_end : List Str := ["value"]
theorem sc_is_end : FnScope N_is_end P_is_end (defScope s_is_end) := ⟨rfl, rfl, rfl, by decide +kernel, rfl, by decide +kernel, by decide +kernel⟩
abbrev s_is_end_place : Stmt := topS 22
abbrev N_is_end_place : List Str := ["value"]
abbrev P_is_end_place : List Str := ["value"]
theorem sc_is_end_place : FnScope N_is_end_place P_is_end_place (defScope s_is_end_place) := ⟨rfl, rfl, rfl, by decide +kernel, rfl, by decide +kernel, by decide +kernel⟩
abbrev s_check_end_place : Stmt := topS 23
abbrev N_check_end_place : List Str := ["value"]
abbrev P_check_end_place : List Str := ["value"]
theorem sc_check_end_place : FnScope N_check_end_place P_check_end_place (defScope s_check_end_place) := ⟨rfl, rfl, rfl, by decide +kernel, rfl, by decide +kernel, by decide +kernel⟩
abbrev s_check_size : Stmt := topS 24
abbrev N_check_size : List Str := ["size"]
abbrev P_check_size : List Str := ["size"]
theorem sc_check_size : FnScope N_check_size P_check_size (defScope s_check_size) := ⟨rfl, rfl, rfl, by decide +kernel, rfl, by decide +kernel, by decide +kernel⟩
abbrev s_check_listed : Stmt := topS 25
abbrev N_check_listed : List Str := ["size"]
abbrev P_check_listed : List Str := ["size"]
theorem sc_check_listed : FnScope N_check_listed P_check_listed (defScope s_check_listed) := ⟨rfl, rfl, rfl, by decide +kernel, rfl, by decide +kernel, by decide +kernel⟩
abbrev s_check_place : Stmt := topS 26
abbrev N_check_place : List Str := ["place", "size"]
abbrev P_check_place : List Str := ["place", "size"]
theorem sc_check_place : FnScope N_check_place P_check_place (defScope s_check_place) := ⟨rfl, rfl, rfl, by decide +kernel, rfl, by decide +kernel, by decide +kernel⟩
abbrev s_resolve : Stmt := topS 27
abbrev N_resolve : List Str := ["end_place", "size", "end", "depth"]
abbrev P_resolve : List Str := ["end_place", "size"]
theorem sc_resolve : FnScope N_resolve P_resolve (defScope s_resolve) := ⟨rfl, rfl, rfl, by decide +kernel, rfl, by decide +kernel, by decide +kernel⟩
abbrev s_is_move : Stmt := topS 35
abbrev N_is_move : List Str := ["move", "shape", "part", "item"]
abbrev P_is_move : List Str := ["move"]
theorem sc_is_move : FnScope N_is_move P_is_move (defScope s_is_move) := ⟨rfl, rfl, rfl, by decide +kernel, rfl, by decide +kernel, by decide +kernel⟩
abbrev s_fits : Stmt := topS 36
abbrev N_fits : List Str := ["part", "item", "least"]
abbrev P_fits : List Str := ["part", "item"]
theorem sc_fits : FnScope N_fits P_fits (defScope s_fits) := ⟨rfl, rfl, rfl, by decide +kernel, rfl, by decide +kernel, by decide +kernel⟩
abbrev s_cards_needed : Stmt := topS 37
abbrev N_cards_needed : List Str := ["move", "name", "end", "depth"]
abbrev P_cards_needed : List Str := ["move"]
theorem sc_cards_needed : FnScope N_cards_needed P_cards_needed (defScope s_cards_needed) := ⟨rfl, rfl, rfl, by decide +kernel, rfl, by decide +kernel, by decide +kernel⟩
abbrev s_all_images : Stmt := topS 38
abbrev N_all_images : List Str := ["moves", "size", "cards", "move", "images", "place", "card", "turned"]
abbrev P_all_images : List Str := ["moves", "size"]
theorem sc_all_images : FnScope N_all_images P_all_images (defScope s_all_images) := ⟨rfl, rfl, rfl, by decide +kernel, rfl, by decide +kernel, by decide +kernel⟩
abbrev s_laid_anew : Stmt := topS 39
abbrev N_laid_anew : List Str := ["move", "cards", "laid", "first", "beyond", "turned", "block"]
abbrev P_laid_anew : List Str := ["move", "cards"]
theorem sc_laid_anew : FnScope N_laid_anew P_laid_anew (defScope s_laid_anew) := ⟨rfl, rfl, rfl, by decide +kernel, rfl, by decide +kernel, by decide +kernel⟩
abbrev s_turned_over : Stmt := topS 40
abbrev N_turned_over : List Str := ["cards", "card", "turned"]
abbrev P_turned_over : List Str := ["cards"]
theorem sc_turned_over : FnScope N_turned_over P_turned_over (defScope s_turned_over) := ⟨rfl, rfl, rfl, by decide +kernel, rfl, by decide +kernel, by decide +kernel⟩
abbrev s_blocks : Stmt := topS 41
abbrev N_blocks : List Str := ["move", "size", "action"]
abbrev P_blocks : List Str := ["move", "size"]
theorem sc_blocks : FnScope N_blocks P_blocks (defScope s_blocks) := ⟨rfl, rfl, rfl, by decide +kernel, rfl, by decide +kernel, by decide +kernel⟩
abbrev s_swap_blocks : Stmt := topS 42
abbrev N_swap_blocks : List Str := ["move", "size", "low", "high"]
abbrev P_swap_blocks : List Str := ["move", "size"]
theorem sc_swap_blocks : FnScope N_swap_blocks P_swap_blocks (defScope s_swap_blocks) := ⟨rfl, rfl, rfl, by decide +kernel, rfl, by decide +kernel, by decide +kernel⟩
abbrev s_carry_blocks : Stmt := topS 43
abbrev N_carry_blocks : List Str := ["move", "size", "start", "goal", "card"]
abbrev P_carry_blocks : List Str := ["move", "size"]
theorem sc_carry_blocks : FnScope N_carry_blocks P_carry_blocks (defScope s_carry_blocks) := ⟨rfl, rfl, rfl, by decide +kernel, rfl, by decide +kernel, by decide +kernel⟩
abbrev s_cut_blocks : Stmt := topS 44
abbrev N_cut_blocks : List Str := ["move", "size", "above"]
abbrev P_cut_blocks : List Str := ["move", "size"]
theorem sc_cut_blocks : FnScope N_cut_blocks P_cut_blocks (defScope s_cut_blocks) := ⟨rfl, rfl, rfl, by decide +kernel, rfl, by decide +kernel, by decide +kernel⟩
abbrev s_turn_blocks : Stmt := topS 45
abbrev N_turn_blocks : List Str := ["move", "size", "above"]
abbrev P_turn_blocks : List Str := ["move", "size"]
theorem sc_turn_blocks : FnScope N_turn_blocks P_turn_blocks (defScope s_turn_blocks) := ⟨rfl, rfl, rfl, by decide +kernel, rfl, by decide +kernel, by decide +kernel⟩
abbrev s_over_blocks : Stmt := topS 46
abbrev N_over_blocks : List Str := ["move", "size"]
abbrev P_over_blocks : List Str := ["move", "size"]
theorem sc_over_blocks : FnScope N_over_blocks P_over_blocks (defScope s_over_blocks) := ⟨rfl, rfl, rfl, by decide +kernel, rfl, by decide +kernel, by decide +kernel⟩
abbrev s_face_blocks : Stmt := topS 47
abbrev N_face_blocks : List Str := ["move", "size", "place"]
abbrev P_face_blocks : List Str := ["move", "size"]
theorem sc_face_blocks : FnScope N_face_blocks P_face_blocks (defScope s_face_blocks) := ⟨rfl, rfl, rfl, by decide +kernel, rfl, by decide +kernel, by decide +kernel⟩
abbrev s_ends_of : Stmt := topS 50
abbrev N_ends_of : List Str := ["parts"]
abbrev P_ends_of : List Str := ["parts"]
theorem sc_ends_of : FnScope N_ends_of P_ends_of (defScope s_ends_of) := ⟨rfl, rfl, rfl, by decide +kernel, rfl, by decide +kernel, by decide +kernel⟩
abbrev s_check_width : Stmt := topS 51
abbrev N_check_width : List Str := ["parts", "limit"]
abbrev P_check_width : List Str := ["parts", "limit"]
theorem sc_check_width : FnScope N_check_width P_check_width (defScope s_check_width) := ⟨rfl, rfl, rfl, by decide +kernel, rfl, by decide +kernel, by decide +kernel⟩
abbrev s_ruled : Stmt := topS 52
abbrev N_ruled : List Str := ["turned", "shift", "end", "depth"]
abbrev P_ruled : List Str := ["turned", "shift", "end", "depth"]
theorem sc_ruled : FnScope N_ruled P_ruled (defScope s_ruled) := ⟨rfl, rfl, rfl, by decide +kernel, rfl, by decide +kernel, by decide +kernel⟩
abbrev s_entry_at : Stmt := topS 53
abbrev N_entry_at : List Str := ["parts", "end", "depth", "turned", "shift", "top", "bottom", "table"]
abbrev P_entry_at : List Str := ["parts", "end", "depth"]
theorem sc_entry_at : FnScope N_entry_at P_entry_at (defScope s_entry_at) := ⟨rfl, rfl, rfl, by decide +kernel, rfl, by decide +kernel, by decide +kernel⟩
abbrev s_is_form : Stmt := topS 54
abbrev N_is_form : List Str := ["parts", "turned", "shift", "top", "bottom", "first", "end", "table", "goal_end", "depth", "flipped", "reached"]
abbrev P_is_form : List Str := ["parts"]
theorem sc_is_form : FnScope N_is_form P_is_form (defScope s_is_form) := ⟨rfl, rfl, rfl, by decide +kernel, rfl, by decide +kernel, by decide +kernel⟩
abbrev s_normal : Stmt := topS 55
abbrev N_normal : List Str := ["turned", "shift", "top", "bottom"]
abbrev P_normal : List Str := ["turned", "shift", "top", "bottom"]
theorem sc_normal : FnScope N_normal P_normal (defScope s_normal) := ⟨rfl, rfl, rfl, by decide +kernel, rfl, by decide +kernel, by decide +kernel⟩
abbrev s_trimmed : Stmt := topS 56
abbrev N_trimmed : List Str := ["turned", "shift", "end", "table", "entries"]
abbrev P_trimmed : List Str := ["turned", "shift", "end", "table"]
theorem sc_trimmed : FnScope N_trimmed P_trimmed (defScope s_trimmed) := ⟨rfl, rfl, rfl, by decide +kernel, rfl, by decide +kernel, by decide +kernel⟩
abbrev s_place_image : Stmt := topS 57
abbrev N_place_image : List Str := ["parts", "size", "place", "depth", "goal_end", "goal", "flipped"]
abbrev P_place_image : List Str := ["parts", "size", "place"]
theorem sc_place_image : FnScope N_place_image P_place_image (defScope s_place_image) := ⟨rfl, rfl, rfl, by decide +kernel, rfl, by decide +kernel, by decide +kernel⟩
abbrev s_product : Stmt := topS 58
abbrev N_product : List Str := ["one", "other", "turned", "shift"]
abbrev P_product : List Str := ["one", "other"]
theorem sc_product : FnScope N_product P_product (defScope s_product) := ⟨rfl, rfl, rfl, by decide +kernel, rfl, by decide +kernel, by decide +kernel⟩
abbrev s_sent_on : Stmt := topS 59
abbrev N_sent_on : List Str := ["one", "other", "end", "goal_end", "offset", "flipped", "beyond", "width", "entries", "depth", "middle_end", "middle_depth", "turned", "last_end", "last_depth", "again"]
abbrev P_sent_on : List Str := ["one", "other", "end"]
theorem sc_sent_on : FnScope N_sent_on P_sent_on (defScope s_sent_on) := ⟨rfl, rfl, rfl, by decide +kernel, rfl, by decide +kernel, by decide +kernel⟩
abbrev s_move_parts : Stmt := topS 60
abbrev N_move_parts : List Str := ["move", "width", "half", "images", "goal", "turned", "shift", "top", "bottom", "image"]
abbrev P_move_parts : List Str := ["move"]
theorem sc_move_parts : FnScope N_move_parts P_move_parts (defScope s_move_parts) := ⟨rfl, rfl, rfl, by decide +kernel, rfl, by decide +kernel, by decide +kernel⟩
abbrev s_end_entry : Stmt := topS 61
abbrev N_end_entry : List Str := ["image", "half", "place", "turned"]
abbrev P_end_entry : List Str := ["image", "half"]
theorem sc_end_entry : FnScope N_end_entry P_end_entry (defScope s_end_entry) := ⟨rfl, rfl, rfl, by decide +kernel, rfl, by decide +kernel, by decide +kernel⟩
abbrev s__law_bag : Stmt := topS 70
abbrev N__law_bag : List Str := ["_law_script", "_law_salt", "_law_cell"]
abbrev P__law_bag : List Str := ["_law_script"]
theorem sc__law_bag : FnScope N__law_bag P__law_bag (defScope s__law_bag) := ⟨rfl, rfl, rfl, by decide +kernel, rfl, by decide +kernel, by decide +kernel⟩
abbrev s__law_pull : Stmt := topS 71
abbrev N__law_pull : List Str := ["_law_bag_here", "_law_amount", "_law_cell", "_law_got", "_law_seed"]
abbrev P__law_pull : List Str := ["_law_bag_here", "_law_amount"]
theorem sc__law_pull : FnScope N__law_pull P__law_pull (defScope s__law_pull) := ⟨rfl, rfl, rfl, by decide +kernel, rfl, by decide +kernel, by decide +kernel⟩
abbrev s__law_of : Stmt := topS 72
abbrev N__law_of : List Str := ["_law_bag_here", "_law_things"]
abbrev P__law_of : List Str := ["_law_bag_here", "_law_things"]
theorem sc__law_of : FnScope N__law_of P__law_of (defScope s__law_of) := ⟨rfl, rfl, rfl, by decide +kernel, rfl, by decide +kernel, by decide +kernel⟩
abbrev s__law_same : Stmt := topS 73
abbrev N__law_same : List Str := ["_law_found", "_law_due", "_law_one", "_law_other", "_law_key"]
abbrev P__law_same : List Str := ["_law_found", "_law_due"]
theorem sc__law_same : FnScope N__law_same P__law_same (defScope s__law_same) := ⟨rfl, rfl, rfl, by decide +kernel, rfl, by decide +kernel, by decide +kernel⟩
abbrev s__law_end : Stmt := topS 74
abbrev N__law_end : List Str := ["_law_bag_here", "_law_deep"]
abbrev P__law_end : List Str := ["_law_bag_here", "_law_deep"]
theorem sc__law_end : FnScope N__law_end P__law_end (defScope s__law_end) := ⟨rfl, rfl, rfl, by decide +kernel, rfl, by decide +kernel, by decide +kernel⟩
abbrev s__law_move : Stmt := topS 75
abbrev N__law_move : List Str := ["_law_bag_here", "_law_deep", "_law_pick"]
abbrev P__law_move : List Str := ["_law_bag_here", "_law_deep"]
theorem sc__law_move : FnScope N__law_move P__law_move (defScope s__law_move) := ⟨rfl, rfl, rfl, by decide +kernel, rfl, by decide +kernel, by decide +kernel⟩
abbrev s__law_depth : Stmt := topS 76
abbrev N__law_depth : List Str := ["_law_move_here", "_law_spot_here"]
abbrev P__law_depth : List Str := ["_law_move_here"]
theorem sc__law_depth : FnScope N__law_depth P__law_depth (defScope s__law_depth) := ⟨rfl, rfl, rfl, by decide +kernel, rfl, by decide +kernel, by decide +kernel⟩
abbrev s__law_spot : Stmt := topS 77
abbrev N__law_spot : List Str := ["_law_end_place", "_law_size"]
abbrev P__law_spot : List Str := ["_law_end_place", "_law_size"]
theorem sc__law_spot : FnScope N__law_spot P__law_spot (defScope s__law_spot) := ⟨rfl, rfl, rfl, by decide +kernel, rfl, by decide +kernel, by decide +kernel⟩
abbrev s__law_flipped : Stmt := topS 78
abbrev N__law_flipped : List Str := ["_law_cards", "_law_card", "_law_face"]
abbrev P__law_flipped : List Str := ["_law_cards"]
theorem sc__law_flipped : FnScope N__law_flipped P__law_flipped (defScope s__law_flipped) := ⟨rfl, rfl, rfl, by decide +kernel, rfl, by decide +kernel, by decide +kernel⟩
abbrev s__law_dealt : Stmt := topS 79
abbrev N__law_dealt : List Str := ["_law_move_here", "_law_cards", "_law_size", "_law_at", "_law_found", "_law_one", "_law_other", "_law_left", "_law_right", "_law_card"]
abbrev P__law_dealt : List Str := ["_law_move_here", "_law_cards"]
theorem sc__law_dealt : FnScope N__law_dealt P__law_dealt (defScope s__law_dealt) := ⟨rfl, rfl, rfl, by decide +kernel, rfl, by decide +kernel, by decide +kernel⟩
abbrev s__law_images : Stmt := topS 80
abbrev N__law_images : List Str := ["_law_moves", "_law_size", "_law_cards", "_law_move_here", "_law_found", "_law_place"]
abbrev P__law_images : List Str := ["_law_moves", "_law_size"]
theorem sc__law_images : FnScope N__law_images P__law_images (defScope s__law_images) := ⟨rfl, rfl, rfl, by decide +kernel, rfl, by decide +kernel, by decide +kernel⟩
abbrev s__law_goes : Stmt := topS 81
abbrev N__law_goes : List Str := ["_law_move_here", "_law_size", "_law_place", "_law_depth_here", "_law_one", "_law_other"]
abbrev P__law_goes : List Str := ["_law_move_here", "_law_size", "_law_place"]
theorem sc__law_goes : FnScope N__law_goes P__law_goes (defScope s__law_goes) := ⟨rfl, rfl, rfl, by decide +kernel, rfl, by decide +kernel, by decide +kernel⟩
abbrev s__law_great : Stmt := topS 82
abbrev N__law_great : List Str := ["_law_bag_here"]
abbrev P__law_great : List Str := ["_law_bag_here"]
theorem sc__law_great : FnScope N__law_great P__law_great (defScope s__law_great) := ⟨rfl, rfl, rfl, by decide +kernel, rfl, by decide +kernel, by decide +kernel⟩
abbrev s__law_place_of : Stmt := topS 83
abbrev N__law_place_of : List Str := ["_law_bag_here", "_law_size", "_law_pick", "_law_near"]
abbrev P__law_place_of : List Str := ["_law_bag_here", "_law_size"]
theorem sc__law_place_of : FnScope N__law_place_of P__law_place_of (defScope s__law_place_of) := ⟨rfl, rfl, rfl, by decide +kernel, rfl, by decide +kernel, by decide +kernel⟩
abbrev s__law_ruled : Stmt := topS 84
abbrev N__law_ruled : List Str := ["_law_turned", "_law_shift", "_law_pair", "_law_end_here", "_law_depth_here"]
abbrev P__law_ruled : List Str := ["_law_turned", "_law_shift", "_law_pair"]
theorem sc__law_ruled : FnScope N__law_ruled P__law_ruled (defScope s__law_ruled) := ⟨rfl, rfl, rfl, by decide +kernel, rfl, by decide +kernel, by decide +kernel⟩
abbrev s__law_normal : Stmt := topS 85
abbrev N__law_normal : List Str := ["_law_parts", "_law_turned", "_law_shift", "_law_first", "_law_last", "_law_tables", "_law_end_here", "_law_table", "_law_many"]
abbrev P__law_normal : List Str := ["_law_parts"]
theorem sc__law_normal : FnScope N__law_normal P__law_normal (defScope s__law_normal) := ⟨rfl, rfl, rfl, by decide +kernel, rfl, by decide +kernel, by decide +kernel⟩
abbrev s__law_read_parts : Stmt := topS 86
abbrev N__law_read_parts : List Str := ["_law_form"]
abbrev P__law_read_parts : List Str := ["_law_form"]
theorem sc__law_read_parts : FnScope N__law_read_parts P__law_read_parts (defScope s__law_read_parts) := ⟨rfl, rfl, rfl, by decide +kernel, rfl, by decide +kernel, by decide +kernel⟩
abbrev s_law : Stmt := topS 87
abbrev N_law : List Str := ["_law_script", "_law_bag_here", "_law_turn", "_law_move_here", "_law_form", "_law_low", "_law_size", "_law_place"]
abbrev P_law : List Str := ["_law_script"]
theorem sc_law : FnScope N_law P_law (defScope s_law) := ⟨rfl, rfl, rfl, by decide +kernel, rfl, by decide +kernel, by decide +kernel⟩
abbrev s_Form___init__ : Stmt := inClass (topS 63) 1
abbrev N_Form___init__ : List Str := ["self", "turned", "shift", "top", "bottom", "parts"]
abbrev P_Form___init__ : List Str := ["self", "turned", "shift", "top", "bottom"]
theorem sc_Form___init__ : FnScope N_Form___init__ P_Form___init__ (defScope s_Form___init__) := ⟨rfl, rfl, rfl, by decide +kernel, rfl, by decide +kernel, by decide +kernel⟩
abbrev s_Form_of : Stmt := inClass (topS 63) 3
abbrev N_Form_of : List Str := ["cls", "moves", "at", "move", "parts"]
abbrev P_Form_of : List Str := ["cls", "moves"]
theorem sc_Form_of : FnScope N_Form_of P_Form_of (defScope s_Form_of) := ⟨rfl, rfl, rfl, by decide +kernel, rfl, by decide +kernel, by decide +kernel⟩
abbrev s_Form_turned : Stmt := inClass (topS 63) 5
abbrev N_Form_turned : List Str := ["self"]
abbrev P_Form_turned : List Str := ["self"]
theorem sc_Form_turned : FnScope N_Form_turned P_Form_turned (defScope s_Form_turned) := ⟨rfl, rfl, rfl, by decide +kernel, rfl, by decide +kernel, by decide +kernel⟩
abbrev s_Form_shift : Stmt := inClass (topS 63) 6
abbrev N_Form_shift : List Str := ["self"]
abbrev P_Form_shift : List Str := ["self"]
theorem sc_Form_shift : FnScope N_Form_shift P_Form_shift (defScope s_Form_shift) := ⟨rfl, rfl, rfl, by decide +kernel, rfl, by decide +kernel, by decide +kernel⟩
abbrev s_Form_least : Stmt := inClass (topS 63) 7
abbrev N_Form_least : List Str := ["self"]
abbrev P_Form_least : List Str := ["self"]
theorem sc_Form_least : FnScope N_Form_least P_Form_least (defScope s_Form_least) := ⟨rfl, rfl, rfl, by decide +kernel, rfl, by decide +kernel, by decide +kernel⟩
abbrev s_Form_top : Stmt := inClass (topS 63) 8
abbrev N_Form_top : List Str := ["self"]
abbrev P_Form_top : List Str := ["self"]
theorem sc_Form_top : FnScope N_Form_top P_Form_top (defScope s_Form_top) := ⟨rfl, rfl, rfl, by decide +kernel, rfl, by decide +kernel, by decide +kernel⟩
abbrev s_Form_bottom : Stmt := inClass (topS 63) 9
abbrev N_Form_bottom : List Str := ["self"]
abbrev P_Form_bottom : List Str := ["self"]
theorem sc_Form_bottom : FnScope N_Form_bottom P_Form_bottom (defScope s_Form_bottom) := ⟨rfl, rfl, rfl, by decide +kernel, rfl, by decide +kernel, by decide +kernel⟩
abbrev s_Form_image : Stmt := inClass (topS 63) 11
abbrev N_Form_image : List Str := ["self", "size", "place"]
abbrev P_Form_image : List Str := ["self", "size", "place"]
theorem sc_Form_image : FnScope N_Form_image P_Form_image (defScope s_Form_image) := ⟨rfl, rfl, rfl, by decide +kernel, rfl, by decide +kernel, by decide +kernel⟩
abbrev s_Form_listed : Stmt := inClass (topS 63) 12
abbrev N_Form_listed : List Str := ["self", "size", "place"]
abbrev P_Form_listed : List Str := ["self", "size"]
theorem sc_Form_listed : FnScope N_Form_listed P_Form_listed (defScope s_Form_listed) := ⟨rfl, rfl, rfl, by decide +kernel, rfl, by decide +kernel, by decide +kernel⟩
abbrev s_Form_check_least : Stmt := inClass (topS 63) 13
abbrev N_Form_check_least : List Str := ["self", "size"]
abbrev P_Form_check_least : List Str := ["self", "size"]
theorem sc_Form_check_least : FnScope N_Form_check_least P_Form_check_least (defScope s_Form_check_least) := ⟨rfl, rfl, rfl, by decide +kernel, rfl, by decide +kernel, by decide +kernel⟩
theorem binds_pe {K : PySem.W.Frag} {f : Addr} {fd : FuncData} (F : FunD K "__init__" "PileError.__init__" (defArgs s_PileError) (defBody s_PileError) (defScope s_PileError) [.str "PileError"] [] f fd) : Binds K fd P_PileError [] := by
  obtain ⟨ds, h1, h2⟩ := F.binds1 (ps := P_PileError) 2 1 (List.cons_ne_nil _ _) rfl (fun T kV doc pm an cdv ct us its hu hi => match us, hu, its, hi with | [_, _], _, [_], _ => ⟨_, rfl, rfl⟩)
  cases h1
  exact h2
structure Txt (K : PySem.W.Frag) (mg : Str → Option Value) (w : World) where
  a__wall : Addr
  d__wall : FuncData
  F__wall : Fun K "_wall" "_wall" s__wall a__wall d__wall
  g__wall : mg "_wall" = some (.ref a__wall)
  b__wall : Binds K d__wall P__wall []
  a_is_number : Addr
  d_is_number : FuncData
  F_is_number : Fun K "is_number" "is_number" s_is_number a_is_number d_is_number
  g_is_number : mg "is_number" = some (.ref a_is_number)
  b_is_number : Binds K d_is_number P_is_number []
  a_is_end : Addr
  d_is_end : FuncData
  F_is_end : Fun K "is_end" "is_end" s_is_end a_is_end d_is_end
  g_is_end : mg "is_end" = some (.ref a_is_end)
  b_is_end : Binds K d_is_end P_is_end []
  a_is_end_place : Addr
  d_is_end_place : FuncData
  F_is_end_place : Fun K "is_end_place" "is_end_place" s_is_end_place a_is_end_place d_is_end_place
  g_is_end_place : mg "is_end_place" = some (.ref a_is_end_place)
  b_is_end_place : Binds K d_is_end_place P_is_end_place []
  a_check_end_place : Addr
  d_check_end_place : FuncData
  F_check_end_place : Fun K "check_end_place" "check_end_place" s_check_end_place a_check_end_place d_check_end_place
  g_check_end_place : mg "check_end_place" = some (.ref a_check_end_place)
  b_check_end_place : Binds K d_check_end_place P_check_end_place []
  a_check_size : Addr
  d_check_size : FuncData
  F_check_size : Fun K "check_size" "check_size" s_check_size a_check_size d_check_size
  g_check_size : mg "check_size" = some (.ref a_check_size)
  b_check_size : Binds K d_check_size P_check_size []
  a_check_listed : Addr
  d_check_listed : FuncData
  F_check_listed : Fun K "check_listed" "check_listed" s_check_listed a_check_listed d_check_listed
  g_check_listed : mg "check_listed" = some (.ref a_check_listed)
  b_check_listed : Binds K d_check_listed P_check_listed []
  a_check_place : Addr
  d_check_place : FuncData
  F_check_place : Fun K "check_place" "check_place" s_check_place a_check_place d_check_place
  g_check_place : mg "check_place" = some (.ref a_check_place)
  b_check_place : Binds K d_check_place P_check_place []
  a_resolve : Addr
  d_resolve : FuncData
  F_resolve : Fun K "resolve" "resolve" s_resolve a_resolve d_resolve
  g_resolve : mg "resolve" = some (.ref a_resolve)
  b_resolve : Binds K d_resolve P_resolve []
  a_is_move : Addr
  d_is_move : FuncData
  F_is_move : Fun K "is_move" "is_move" s_is_move a_is_move d_is_move
  g_is_move : mg "is_move" = some (.ref a_is_move)
  b_is_move : Binds K d_is_move P_is_move []
  a_fits : Addr
  d_fits : FuncData
  F_fits : Fun K "fits" "fits" s_fits a_fits d_fits
  g_fits : mg "fits" = some (.ref a_fits)
  b_fits : Binds K d_fits P_fits []
  a_cards_needed : Addr
  d_cards_needed : FuncData
  F_cards_needed : Fun K "cards_needed" "cards_needed" s_cards_needed a_cards_needed d_cards_needed
  g_cards_needed : mg "cards_needed" = some (.ref a_cards_needed)
  b_cards_needed : Binds K d_cards_needed P_cards_needed []
  a_all_images : Addr
  d_all_images : FuncData
  F_all_images : Fun K "all_images" "all_images" s_all_images a_all_images d_all_images
  g_all_images : mg "all_images" = some (.ref a_all_images)
  b_all_images : Binds K d_all_images P_all_images []
  a_laid_anew : Addr
  d_laid_anew : FuncData
  F_laid_anew : Fun K "laid_anew" "laid_anew" s_laid_anew a_laid_anew d_laid_anew
  g_laid_anew : mg "laid_anew" = some (.ref a_laid_anew)
  b_laid_anew : Binds K d_laid_anew P_laid_anew []
  a_turned_over : Addr
  d_turned_over : FuncData
  F_turned_over : Fun K "turned_over" "turned_over" s_turned_over a_turned_over d_turned_over
  g_turned_over : mg "turned_over" = some (.ref a_turned_over)
  b_turned_over : Binds K d_turned_over P_turned_over []
  a_blocks : Addr
  d_blocks : FuncData
  F_blocks : Fun K "blocks" "blocks" s_blocks a_blocks d_blocks
  g_blocks : mg "blocks" = some (.ref a_blocks)
  b_blocks : Binds K d_blocks P_blocks []
  a_swap_blocks : Addr
  d_swap_blocks : FuncData
  F_swap_blocks : Fun K "swap_blocks" "swap_blocks" s_swap_blocks a_swap_blocks d_swap_blocks
  g_swap_blocks : mg "swap_blocks" = some (.ref a_swap_blocks)
  b_swap_blocks : Binds K d_swap_blocks P_swap_blocks []
  a_carry_blocks : Addr
  d_carry_blocks : FuncData
  F_carry_blocks : Fun K "carry_blocks" "carry_blocks" s_carry_blocks a_carry_blocks d_carry_blocks
  g_carry_blocks : mg "carry_blocks" = some (.ref a_carry_blocks)
  b_carry_blocks : Binds K d_carry_blocks P_carry_blocks []
  a_cut_blocks : Addr
  d_cut_blocks : FuncData
  F_cut_blocks : Fun K "cut_blocks" "cut_blocks" s_cut_blocks a_cut_blocks d_cut_blocks
  g_cut_blocks : mg "cut_blocks" = some (.ref a_cut_blocks)
  b_cut_blocks : Binds K d_cut_blocks P_cut_blocks []
  a_turn_blocks : Addr
  d_turn_blocks : FuncData
  F_turn_blocks : Fun K "turn_blocks" "turn_blocks" s_turn_blocks a_turn_blocks d_turn_blocks
  g_turn_blocks : mg "turn_blocks" = some (.ref a_turn_blocks)
  b_turn_blocks : Binds K d_turn_blocks P_turn_blocks []
  a_over_blocks : Addr
  d_over_blocks : FuncData
  F_over_blocks : Fun K "over_blocks" "over_blocks" s_over_blocks a_over_blocks d_over_blocks
  g_over_blocks : mg "over_blocks" = some (.ref a_over_blocks)
  b_over_blocks : Binds K d_over_blocks P_over_blocks []
  a_face_blocks : Addr
  d_face_blocks : FuncData
  F_face_blocks : Fun K "face_blocks" "face_blocks" s_face_blocks a_face_blocks d_face_blocks
  g_face_blocks : mg "face_blocks" = some (.ref a_face_blocks)
  b_face_blocks : Binds K d_face_blocks P_face_blocks []
  a_ends_of : Addr
  d_ends_of : FuncData
  F_ends_of : Fun K "ends_of" "ends_of" s_ends_of a_ends_of d_ends_of
  g_ends_of : mg "ends_of" = some (.ref a_ends_of)
  b_ends_of : Binds K d_ends_of P_ends_of []
  a_check_width : Addr
  d_check_width : FuncData
  F_check_width : Fun K "check_width" "check_width" s_check_width a_check_width d_check_width
  g_check_width : mg "check_width" = some (.ref a_check_width)
  b_check_width : Binds K d_check_width P_check_width []
  a_ruled : Addr
  d_ruled : FuncData
  F_ruled : Fun K "ruled" "ruled" s_ruled a_ruled d_ruled
  g_ruled : mg "ruled" = some (.ref a_ruled)
  b_ruled : Binds K d_ruled P_ruled []
  a_entry_at : Addr
  d_entry_at : FuncData
  F_entry_at : Fun K "entry_at" "entry_at" s_entry_at a_entry_at d_entry_at
  g_entry_at : mg "entry_at" = some (.ref a_entry_at)
  b_entry_at : Binds K d_entry_at P_entry_at []
  a_is_form : Addr
  d_is_form : FuncData
  F_is_form : Fun K "is_form" "is_form" s_is_form a_is_form d_is_form
  g_is_form : mg "is_form" = some (.ref a_is_form)
  b_is_form : Binds K d_is_form P_is_form []
  a_normal : Addr
  d_normal : FuncData
  F_normal : Fun K "normal" "normal" s_normal a_normal d_normal
  g_normal : mg "normal" = some (.ref a_normal)
  b_normal : Binds K d_normal P_normal []
  a_trimmed : Addr
  d_trimmed : FuncData
  F_trimmed : Fun K "trimmed" "trimmed" s_trimmed a_trimmed d_trimmed
  g_trimmed : mg "trimmed" = some (.ref a_trimmed)
  b_trimmed : Binds K d_trimmed P_trimmed []
  a_place_image : Addr
  d_place_image : FuncData
  F_place_image : Fun K "place_image" "place_image" s_place_image a_place_image d_place_image
  g_place_image : mg "place_image" = some (.ref a_place_image)
  b_place_image : Binds K d_place_image P_place_image []
  a_product : Addr
  d_product : FuncData
  F_product : Fun K "product" "product" s_product a_product d_product
  g_product : mg "product" = some (.ref a_product)
  b_product : Binds K d_product P_product []
  a_sent_on : Addr
  d_sent_on : FuncData
  F_sent_on : Fun K "sent_on" "sent_on" s_sent_on a_sent_on d_sent_on
  g_sent_on : mg "sent_on" = some (.ref a_sent_on)
  b_sent_on : Binds K d_sent_on P_sent_on []
  a_move_parts : Addr
  d_move_parts : FuncData
  F_move_parts : Fun K "move_parts" "move_parts" s_move_parts a_move_parts d_move_parts
  g_move_parts : mg "move_parts" = some (.ref a_move_parts)
  b_move_parts : Binds K d_move_parts P_move_parts []
  a_end_entry : Addr
  d_end_entry : FuncData
  F_end_entry : Fun K "end_entry" "end_entry" s_end_entry a_end_entry d_end_entry
  g_end_entry : mg "end_entry" = some (.ref a_end_entry)
  b_end_entry : Binds K d_end_entry P_end_entry []
  a__law_bag : Addr
  d__law_bag : FuncData
  F__law_bag : Fun K "_law_bag" "_law_bag" s__law_bag a__law_bag d__law_bag
  g__law_bag : mg "_law_bag" = some (.ref a__law_bag)
  b__law_bag : Binds K d__law_bag P__law_bag []
  a__law_pull : Addr
  d__law_pull : FuncData
  F__law_pull : Fun K "_law_pull" "_law_pull" s__law_pull a__law_pull d__law_pull
  g__law_pull : mg "_law_pull" = some (.ref a__law_pull)
  b__law_pull : Binds K d__law_pull P__law_pull []
  a__law_of : Addr
  d__law_of : FuncData
  F__law_of : Fun K "_law_of" "_law_of" s__law_of a__law_of d__law_of
  g__law_of : mg "_law_of" = some (.ref a__law_of)
  b__law_of : Binds K d__law_of P__law_of []
  a__law_same : Addr
  d__law_same : FuncData
  F__law_same : Fun K "_law_same" "_law_same" s__law_same a__law_same d__law_same
  g__law_same : mg "_law_same" = some (.ref a__law_same)
  b__law_same : Binds K d__law_same P__law_same []
  a__law_end : Addr
  d__law_end : FuncData
  F__law_end : Fun K "_law_end" "_law_end" s__law_end a__law_end d__law_end
  g__law_end : mg "_law_end" = some (.ref a__law_end)
  b__law_end : Binds K d__law_end P__law_end []
  a__law_move : Addr
  d__law_move : FuncData
  F__law_move : Fun K "_law_move" "_law_move" s__law_move a__law_move d__law_move
  g__law_move : mg "_law_move" = some (.ref a__law_move)
  b__law_move : Binds K d__law_move P__law_move []
  a__law_depth : Addr
  d__law_depth : FuncData
  F__law_depth : Fun K "_law_depth" "_law_depth" s__law_depth a__law_depth d__law_depth
  g__law_depth : mg "_law_depth" = some (.ref a__law_depth)
  b__law_depth : Binds K d__law_depth P__law_depth []
  a__law_spot : Addr
  d__law_spot : FuncData
  F__law_spot : Fun K "_law_spot" "_law_spot" s__law_spot a__law_spot d__law_spot
  g__law_spot : mg "_law_spot" = some (.ref a__law_spot)
  b__law_spot : Binds K d__law_spot P__law_spot []
  a__law_flipped : Addr
  d__law_flipped : FuncData
  F__law_flipped : Fun K "_law_flipped" "_law_flipped" s__law_flipped a__law_flipped d__law_flipped
  g__law_flipped : mg "_law_flipped" = some (.ref a__law_flipped)
  b__law_flipped : Binds K d__law_flipped P__law_flipped []
  a__law_dealt : Addr
  d__law_dealt : FuncData
  F__law_dealt : Fun K "_law_dealt" "_law_dealt" s__law_dealt a__law_dealt d__law_dealt
  g__law_dealt : mg "_law_dealt" = some (.ref a__law_dealt)
  b__law_dealt : Binds K d__law_dealt P__law_dealt []
  a__law_images : Addr
  d__law_images : FuncData
  F__law_images : Fun K "_law_images" "_law_images" s__law_images a__law_images d__law_images
  g__law_images : mg "_law_images" = some (.ref a__law_images)
  b__law_images : Binds K d__law_images P__law_images []
  a__law_goes : Addr
  d__law_goes : FuncData
  F__law_goes : Fun K "_law_goes" "_law_goes" s__law_goes a__law_goes d__law_goes
  g__law_goes : mg "_law_goes" = some (.ref a__law_goes)
  b__law_goes : Binds K d__law_goes P__law_goes []
  a__law_great : Addr
  d__law_great : FuncData
  F__law_great : Fun K "_law_great" "_law_great" s__law_great a__law_great d__law_great
  g__law_great : mg "_law_great" = some (.ref a__law_great)
  b__law_great : Binds K d__law_great P__law_great []
  a__law_place_of : Addr
  d__law_place_of : FuncData
  F__law_place_of : Fun K "_law_place_of" "_law_place_of" s__law_place_of a__law_place_of d__law_place_of
  g__law_place_of : mg "_law_place_of" = some (.ref a__law_place_of)
  b__law_place_of : Binds K d__law_place_of P__law_place_of []
  a__law_ruled : Addr
  d__law_ruled : FuncData
  F__law_ruled : Fun K "_law_ruled" "_law_ruled" s__law_ruled a__law_ruled d__law_ruled
  g__law_ruled : mg "_law_ruled" = some (.ref a__law_ruled)
  b__law_ruled : Binds K d__law_ruled P__law_ruled []
  a__law_normal : Addr
  d__law_normal : FuncData
  F__law_normal : Fun K "_law_normal" "_law_normal" s__law_normal a__law_normal d__law_normal
  g__law_normal : mg "_law_normal" = some (.ref a__law_normal)
  b__law_normal : Binds K d__law_normal P__law_normal []
  a__law_read_parts : Addr
  d__law_read_parts : FuncData
  F__law_read_parts : Fun K "_law_read_parts" "_law_read_parts" s__law_read_parts a__law_read_parts d__law_read_parts
  g__law_read_parts : mg "_law_read_parts" = some (.ref a__law_read_parts)
  b__law_read_parts : Binds K d__law_read_parts P__law_read_parts []
  a_law : Addr
  d_law : FuncData
  F_law : Fun K "law" "law" s_law a_law d_law
  g_law : mg "law" = some (.ref a_law)
  a_Form___init__ : Addr
  d_Form___init__ : FuncData
  F_Form___init__ : Fun K "__init__" "Form.__init__" s_Form___init__ a_Form___init__ d_Form___init__
  b_Form___init__ : Binds K d_Form___init__ P_Form___init__ []
  a_Form_of : Addr
  d_Form_of : FuncData
  F_Form_of : Fun K "of" "Form.of" s_Form_of a_Form_of d_Form_of
  b_Form_of : Binds K d_Form_of P_Form_of []
  a_Form_turned : Addr
  d_Form_turned : FuncData
  F_Form_turned : Fun K "turned" "Form.turned" s_Form_turned a_Form_turned d_Form_turned
  b_Form_turned : Binds K d_Form_turned P_Form_turned []
  a_Form_shift : Addr
  d_Form_shift : FuncData
  F_Form_shift : Fun K "shift" "Form.shift" s_Form_shift a_Form_shift d_Form_shift
  b_Form_shift : Binds K d_Form_shift P_Form_shift []
  a_Form_least : Addr
  d_Form_least : FuncData
  F_Form_least : Fun K "least" "Form.least" s_Form_least a_Form_least d_Form_least
  b_Form_least : Binds K d_Form_least P_Form_least []
  a_Form_top : Addr
  d_Form_top : FuncData
  F_Form_top : Fun K "top" "Form.top" s_Form_top a_Form_top d_Form_top
  b_Form_top : Binds K d_Form_top P_Form_top []
  a_Form_bottom : Addr
  d_Form_bottom : FuncData
  F_Form_bottom : Fun K "bottom" "Form.bottom" s_Form_bottom a_Form_bottom d_Form_bottom
  b_Form_bottom : Binds K d_Form_bottom P_Form_bottom []
  a_Form_image : Addr
  d_Form_image : FuncData
  F_Form_image : Fun K "image" "Form.image" s_Form_image a_Form_image d_Form_image
  b_Form_image : Binds K d_Form_image P_Form_image []
  a_Form_listed : Addr
  d_Form_listed : FuncData
  F_Form_listed : Fun K "listed" "Form.listed" s_Form_listed a_Form_listed d_Form_listed
  b_Form_listed : Binds K d_Form_listed P_Form_listed []
  a_Form_check_least : Addr
  d_Form_check_least : FuncData
  F_Form_check_least : Fun K "check_least" "Form.check_least" s_Form_check_least a_Form_check_least d_Form_check_least
  b_Form_check_least : Binds K d_Form_check_least P_Form_check_least []
  a_PileError : Addr
  g_PileError : mg "PileError" = some (.ref a_PileError)
  f_PileError : Addr
  d_PileError : FuncData
  F_PileError : FunD K "__init__" "PileError.__init__" (defArgs s_PileError) (defBody s_PileError) (defScope s_PileError) [.str "PileError"] [] f_PileError d_PileError
  b_PileError : Binds K d_PileError P_PileError []
  r_PileError : ClX.CRead K a_PileError (.type "type")
  v_PileError : ClX.CVal K a_PileError (.type "type") "__init__" (.ref f_PileError) (.ref f_PileError)
  a_BadPlace : Addr
  g_BadPlace : mg "BadPlace" = some (.ref a_BadPlace)
  x_BadPlace : ExcT K a_BadPlace a_PileError ["code", "place"]
  f_BadPlace : Addr
  d_BadPlace : FuncData
  F_BadPlace : Fun K "__init__" "BadPlace.__init__" s_BadPlace f_BadPlace d_BadPlace
  b_BadPlace : Binds K d_BadPlace P_BadPlace []
  i_BadPlace : PySem.W.findIn K (.ref a_BadPlace) "__init__" = some (some (.ref f_BadPlace))
  ti_BadPlace : PySem.W.typeIn K (.ref f_BadPlace) = some (.type "function")
  a_BadMove : Addr
  g_BadMove : mg "BadMove" = some (.ref a_BadMove)
  x_BadMove : ExcT K a_BadMove a_PileError ["code", "at"]
  f_BadMove : Addr
  d_BadMove : FuncData
  F_BadMove : Fun K "__init__" "BadMove.__init__" s_BadMove f_BadMove d_BadMove
  b_BadMove : Binds K d_BadMove P_BadMove []
  i_BadMove : PySem.W.findIn K (.ref a_BadMove) "__init__" = some (some (.ref f_BadMove))
  ti_BadMove : PySem.W.typeIn K (.ref f_BadMove) = some (.type "function")
  a_TooWide : Addr
  g_TooWide : mg "TooWide" = some (.ref a_TooWide)
  x_TooWide : ExcT K a_TooWide a_PileError ["code", "limit"]
  f_TooWide : Addr
  d_TooWide : FuncData
  F_TooWide : Fun K "__init__" "TooWide.__init__" s_TooWide f_TooWide d_TooWide
  b_TooWide : Binds K d_TooWide P_TooWide []
  i_TooWide : PySem.W.findIn K (.ref a_TooWide) "__init__" = some (some (.ref f_TooWide))
  ti_TooWide : PySem.W.typeIn K (.ref f_TooWide) = some (.type "function")
  a_BadSize : Addr
  g_BadSize : mg "BadSize" = some (.ref a_BadSize)
  x_BadSize : ExcT K a_BadSize a_PileError ["code", "size"]
  f_BadSize : Addr
  d_BadSize : FuncData
  F_BadSize : Fun K "__init__" "BadSize.__init__" s_BadSize f_BadSize d_BadSize
  b_BadSize : Binds K d_BadSize P_BadSize []
  i_BadSize : PySem.W.findIn K (.ref a_BadSize) "__init__" = some (some (.ref f_BadSize))
  ti_BadSize : PySem.W.typeIn K (.ref f_BadSize) = some (.type "function")
  a_TooGreat : Addr
  g_TooGreat : mg "TooGreat" = some (.ref a_TooGreat)
  x_TooGreat : ExcT K a_TooGreat a_PileError ["code", "limit"]
  f_TooGreat : Addr
  d_TooGreat : FuncData
  F_TooGreat : Fun K "__init__" "TooGreat.__init__" s_TooGreat f_TooGreat d_TooGreat
  b_TooGreat : Binds K d_TooGreat P_TooGreat []
  i_TooGreat : PySem.W.findIn K (.ref a_TooGreat) "__init__" = some (some (.ref f_TooGreat))
  ti_TooGreat : PySem.W.typeIn K (.ref f_TooGreat) = some (.type "function")
  a_TooSmall : Addr
  g_TooSmall : mg "TooSmall" = some (.ref a_TooSmall)
  x_TooSmall : ExcT K a_TooSmall a_PileError ["code", "limit"]
  f_TooSmall : Addr
  d_TooSmall : FuncData
  F_TooSmall : Fun K "__init__" "TooSmall.__init__" s_TooSmall f_TooSmall d_TooSmall
  b_TooSmall : Binds K d_TooSmall P_TooSmall []
  i_TooSmall : PySem.W.findIn K (.ref a_TooSmall) "__init__" = some (some (.ref f_TooSmall))
  ti_TooSmall : PySem.W.typeIn K (.ref f_TooSmall) = some (.type "function")
  a_NoPlace : Addr
  g_NoPlace : mg "NoPlace" = some (.ref a_NoPlace)
  x_NoPlace : ExcT K a_NoPlace a_PileError ["code", "place"]
  f_NoPlace : Addr
  d_NoPlace : FuncData
  F_NoPlace : Fun K "__init__" "NoPlace.__init__" s_NoPlace f_NoPlace d_NoPlace
  b_NoPlace : Binds K d_NoPlace P_NoPlace []
  i_NoPlace : PySem.W.findIn K (.ref a_NoPlace) "__init__" = some (some (.ref f_NoPlace))
  ti_NoPlace : PySem.W.typeIn K (.ref f_NoPlace) = some (.type "function")
  a_Form : Addr
  g_Form : mg "Form" = some (.ref a_Form)
  cls_Form : Cls K a_Form
  is_Form : IsOwn K a_Form
  mk_Form : Mk K a_Form a_Form___init__
  no_Form_parts : NoAttr K a_Form "parts"
  r_Form : ClX.CRead K a_Form (.type "type")
  t_Form_WIDEST : Tok
  v_Form_WIDEST : ClX.CVal K a_Form (.type "type") "WIDEST" (.int 400) (.int 400 t_Form_WIDEST)
  M_Form_image : Meth K a_Form "image" a_Form_image
  M_Form_listed : Meth K a_Form "listed" a_Form_listed
  M_Form_check_least : Meth K a_Form "check_least" a_Form_check_least
  M_Form_top : Meth K a_Form "top" a_Form_top
  M_Form_bottom : Meth K a_Form "bottom" a_Form_bottom
  p_Form_of : Addr
  K_Form_of : ClX.CMet K a_Form (.type "type") "of" p_Form_of a_Form_of
  p_Form_turned : Addr
  P_Form_turned : PropOf K a_Form "turned" p_Form_turned a_Form_turned
  p_Form_shift : Addr
  P_Form_shift : PropOf K a_Form "shift" p_Form_shift a_Form_shift
  p_Form_least : Addr
  P_Form_least : PropOf K a_Form "least" p_Form_least a_Form_least
  m_abs : mg "abs" = none
  m_action : mg "action" = none
  m_all : mg "all" = none
  m_bool : mg "bool" = none
  m_dict : mg "dict" = none
  m_enumerate : mg "enumerate" = none
  m_int : mg "int" = none
  m_isinstance : mg "isinstance" = none
  m_len : mg "len" = none
  m_list : mg "list" = none
  m_max : mg "max" = none
  m_min : mg "min" = none
  m_range : mg "range" = none
  m_reversed : mg "reversed" = none
  m_sorted : mg "sorted" = none
  m_str : mg "str" = none
  m_tuple : mg "tuple" = none
  m_zip : mg "zip" = none
  t_MOST_DEPTH : Tok
  c_MOST_DEPTH : mg "MOST_DEPTH" = some (.int 399 t_MOST_DEPTH)
  t_MOST_CARDS : Tok
  c_MOST_CARDS : mg "MOST_CARDS" = some (.int 1000000000000000000000000000000 t_MOST_CARDS)
  t_MOST_LISTED : Tok
  c_MOST_LISTED : mg "MOST_LISTED" = some (.int 1000 t_MOST_LISTED)
  t_MOST_BLOCK : Tok
  c_MOST_BLOCK : mg "MOST_BLOCK" = some (.int 400 t_MOST_BLOCK)
  a_SHAPES : Addr
  c_SHAPES : mg "SHAPES" = some (.ref a_SHAPES)
  d_SHAPES : KD K w a_SHAPES
  x_SHAPES : ∀ z : Str, z ∉ (["swap", "carry", "cut", "turn", "over", "face"] : List Str) → KMiss K w a_SHAPES z
  a_SHAPES_swap : Addr
  e_SHAPES_swap : KDct K w a_SHAPES "swap" (.ref a_SHAPES_swap)
  q_SHAPES_swap : ∀ H : Hp, SqT K H a_SHAPES_swap [.str "place", .str "place"]
  a_SHAPES_carry : Addr
  e_SHAPES_carry : KDct K w a_SHAPES "carry" (.ref a_SHAPES_carry)
  q_SHAPES_carry : ∀ H : Hp, SqT K H a_SHAPES_carry [.str "place", .str "place"]
  a_SHAPES_cut : Addr
  e_SHAPES_cut : KDct K w a_SHAPES "cut" (.ref a_SHAPES_cut)
  q_SHAPES_cut : ∀ H : Hp, SqT K H a_SHAPES_cut [.str "signed"]
  a_SHAPES_turn : Addr
  e_SHAPES_turn : KDct K w a_SHAPES "turn" (.ref a_SHAPES_turn)
  q_SHAPES_turn : ∀ H : Hp, SqT K H a_SHAPES_turn [.str "end", .str "block"]
  a_SHAPES_over : Addr
  e_SHAPES_over : KDct K w a_SHAPES "over" (.ref a_SHAPES_over)
  q_SHAPES_over : ∀ H : Hp, SqT K H a_SHAPES_over []
  a_SHAPES_face : Addr
  e_SHAPES_face : KDct K w a_SHAPES "face" (.ref a_SHAPES_face)
  q_SHAPES_face : ∀ H : Hp, SqT K H a_SHAPES_face [.str "place"]
  a_BLOCKS : Addr
  c_BLOCKS : mg "BLOCKS" = some (.ref a_BLOCKS)
  d_BLOCKS : KD K w a_BLOCKS
  x_BLOCKS : ∀ z : Str, z ∉ (["swap", "carry", "cut", "turn", "over", "face"] : List Str) → KMiss K w a_BLOCKS z
  e_BLOCKS_swap : KDct K w a_BLOCKS "swap" (.ref a_swap_blocks)
  e_BLOCKS_carry : KDct K w a_BLOCKS "carry" (.ref a_carry_blocks)
  e_BLOCKS_cut : KDct K w a_BLOCKS "cut" (.ref a_cut_blocks)
  e_BLOCKS_turn : KDct K w a_BLOCKS "turn" (.ref a_turn_blocks)
  e_BLOCKS_over : KDct K w a_BLOCKS "over" (.ref a_over_blocks)
  e_BLOCKS_face : KDct K w a_BLOCKS "face" (.ref a_face_blocks)
end Z
/-! ### forms: the mathematics -/
namespace Fm
/-- where a card goes: an end, a depth, whether it is turned -/
structure En where
  a : Bool
  d : Int
  f : Bool
deriving DecidableEq, Repr
structure Pt where
  t : Bool
  s : Int
  top : List En
  bot : List En
deriving DecidableEq, Repr
/-- beyond the table -/
def ruled (t : Bool) (s : Int) (a : Bool) (d : Int) : En := if (a != t) = true then ⟨true, d + s, t⟩ else ⟨false, d - s, t⟩
def tabL (p : Pt) (a : Bool) : List En := if a = true then p.top else p.bot
/-- a table read beyond its end too -/
def rd (t : Bool) (s : Int) (a : Bool) (l : List En) (d : Nat) : En := (l[d]?).getD (ruled t s a d)
def entry (p : Pt) (a : Bool) (d : Nat) : En := rd p.t p.s a (tabL p a) d
/-- a table without what the rule says anyway -/
def trimF (t : Bool) (s : Int) (a : Bool) : Nat → List En → List En
  | 0, l => l
  | n + 1, l => if l.getLast? = some (ruled t s a ((l.length : Int) - 1)) then trimF t s a n l.dropLast else l
def trim (t : Bool) (s : Int) (a : Bool) (l : List En) : List En := trimF t s a l.length l
def NoTail (t : Bool) (s : Int) (a : Bool) (l : List En) : Prop := l.getLast? ≠ some (ruled t s a ((l.length : Int) - 1))
theorem getLast_some {l : List En} {e : En} (h : l.getLast? = some e) : 0 < l.length ∧ l[l.length - 1]? = some e := by
  rw [List.getLast?_eq_getElem?] at h
  refine ⟨?_, h⟩
  have := (List.getElem?_eq_some_iff.mp h).1
  omega
theorem rd_drop {t : Bool} {s : Int} {a : Bool} {l : List En} (h : l.getLast? = some (ruled t s a ((l.length : Int) - 1))) (d : Nat) : rd t s a l.dropLast d = rd t s a l d := by
  obtain ⟨h0, h1⟩ := getLast_some h
  unfold rd
  rw [List.getElem?_dropLast]
  by_cases hd : d < l.length - 1
  · rw [if_pos hd]
  · rw [if_neg hd]
    by_cases he : d = l.length - 1
    · subst he
      rw [h1]
      show ruled t s a ((l.length - 1 : Nat) : Int) = ruled t s a ((l.length : Int) - 1)
      congr 1
      omega
    · rw [List.getElem?_eq_none (by omega)]
theorem rd_trimF (t : Bool) (s : Int) (a : Bool) : ∀ (n : Nat) (l : List En) (d : Nat), rd t s a (trimF t s a n l) d = rd t s a l d
  | 0, _, _ => rfl
  | n + 1, l, d => by
    unfold trimF
    split
    · rename_i h
      rw [rd_trimF t s a n l.dropLast d, rd_drop h]
    · rfl
theorem rd_trim (t : Bool) (s : Int) (a : Bool) (l : List En) (d : Nat) : rd t s a (trim t s a l) d = rd t s a l d := rd_trimF t s a _ l d
theorem trimF_tail (t : Bool) (s : Int) (a : Bool) : ∀ (n : Nat) (l : List En), l.length ≤ n → NoTail t s a (trimF t s a n l)
  | 0, l, h => by
    have : l = [] := List.length_eq_zero_iff.mp (by omega)
    subst this
    exact fun h => nomatch h
  | n + 1, l, h => by
    unfold trimF
    split
    · exact trimF_tail t s a n l.dropLast (by rw [List.length_dropLast]; omega)
    · rename_i h2
      exact h2
theorem trim_tail (t : Bool) (s : Int) (a : Bool) (l : List En) : NoTail t s a (trim t s a l) := trimF_tail t s a _ l (Nat.le_refl _)
theorem trimF_len (t : Bool) (s : Int) (a : Bool) : ∀ (n : Nat) (l : List En), (trimF t s a n l).length ≤ l.length
  | 0, _ => Nat.le_refl _
  | n + 1, l => by
    unfold trimF
    split
    · exact Nat.le_trans (trimF_len t s a n l.dropLast) (by rw [List.length_dropLast]; omega)
    · exact Nat.le_refl _
theorem trim_id {t : Bool} {s : Int} {a : Bool} {l : List En} (h : NoTail t s a l) : trim t s a l = l := by
  unfold trim
  cases e : l.length with
  | zero => rfl
  | succ n =>
    unfold trimF
    rw [if_neg h]
/-- what reads alike, and has no tail, is one table -/
theorem tab_ext {t : Bool} {s : Int} {a : Bool} {l m : List En} (hl : NoTail t s a l) (hm : NoTail t s a m) (h : ∀ d, rd t s a l d = rd t s a m d) : l = m := by
  have key : ∀ {l m : List En}, NoTail t s a m → (∀ d, rd t s a l d = rd t s a m d) → m.length ≤ l.length := fun {l m} hm h => by
    refine Nat.le_of_not_lt fun hlt => hm ?_
    have h1 := h (m.length - 1)
    unfold rd at h1
    rw [List.getElem?_eq_none (show l.length ≤ m.length - 1 by omega)] at h1
    rw [List.getLast?_eq_getElem?]
    have h2 : m[m.length - 1]? = some (m[m.length - 1]'(by omega)) := List.getElem?_eq_getElem (by omega)
    rw [h2] at h1 ⊢
    have h3 : ruled t s a ((m.length - 1 : Nat) : Int) = m[m.length - 1]'(by omega) := h1
    rw [← h3]
    congr 2
    omega
  have e : l.length = m.length := Nat.le_antisymm (key hl fun d => (h d).symm) (key hm h)
  refine List.ext_getElem? fun d => ?_
  by_cases hd : d < l.length
  · have h1 := h d
    unfold rd at h1
    rw [List.getElem?_eq_getElem hd, List.getElem?_eq_getElem (by omega)] at h1 ⊢
    exact congrArg some h1
  · rw [List.getElem?_eq_none (by omega), List.getElem?_eq_none (by omega)]
def normal (t : Bool) (s : Int) (l m : List En) : Pt := ⟨t, s, trim t s true l, trim t s false m⟩
def Norm (p : Pt) : Prop := ∀ a, NoTail p.t p.s a (tabL p a)
theorem normal_norm (t : Bool) (s : Int) (l m : List En) : Norm (normal t s l m) := fun a => by
  cases a
  · exact trim_tail _ _ _ _
  · exact trim_tail _ _ _ _
theorem normal_entry (t : Bool) (s : Int) (l m : List En) (a : Bool) (d : Nat) : entry (normal t s l m) a d = rd t s a (if a = true then l else m) d := by
  cases a
  · exact rd_trim ..
  · exact rd_trim ..
theorem normal_id {p : Pt} (h : Norm p) : normal p.t p.s p.top p.bot = p := by
  obtain ⟨t, s, l, m⟩ := p
  show (⟨t, s, trim t s true l, trim t s false m⟩ : Pt) = ⟨t, s, l, m⟩
  rw [trim_id (t := t) (s := s) (a := true) (l := l) (h true), trim_id (t := t) (s := s) (a := false) (l := m) (h false)]
/-- what goes alike is one form -/
theorem form_ext {p q : Pt} (hp : Norm p) (hq : Norm q) (ht : p.t = q.t) (hs : p.s = q.s) (h : ∀ a d, entry p a d = entry q a d) : p = q := by
  obtain ⟨t, s, l, m⟩ := p
  obtain ⟨t', s', l', m'⟩ := q
  obtain rfl : t = t' := ht
  obtain rfl : s = s' := hs
  have h1 : l = l' := tab_ext (hp true) (hq true) fun d => h true d
  have h2 : m = m' := tab_ext (hp false) (hq false) fun d => h false d
  rw [h1, h2]
/-! ### products -/
/-- a depth is none below 0 -/
def Wf (p : Pt) : Prop := ∀ a d, 0 ≤ (entry p a d).d
def comp (p q : Pt) (a : Bool) (d : Nat) : En := ⟨(entry q (entry p a d).a (entry p a d).d.toNat).a, (entry q (entry p a d).a (entry p a d).d.toNat).d, (entry p a d).f != (entry q (entry p a d).a (entry p a d).d.toNat).f⟩
def pt (p q : Pt) : Bool := p.t != q.t
def ps (p q : Pt) : Int := if q.t = true then q.s - p.s else q.s + p.s
def width (p q : Pt) (a : Bool) : Nat := (max ((tabL p a).length : Int) (((tabL q (ruled p.t p.s a 0).a).length : Int) - (ruled p.t p.s a 0).d)).toNat
def sentOn (p q : Pt) (a : Bool) : List En := (List.range (width p q a)).map (comp p q a)
def product (p q : Pt) : Pt := normal (pt p q) (ps p q) (sentOn p q true) (sentOn p q false)
theorem ruled_step (t : Bool) (s : Int) (a : Bool) (d : Int) : ruled t s a d = ⟨(ruled t s a 0).a, (ruled t s a 0).d + d, t⟩ := by
  cases a <;> cases t <;> simp [ruled] <;> omega
theorem entry_far {p : Pt} {a : Bool} {d : Nat} (h : (tabL p a).length ≤ d) : entry p a d = ruled p.t p.s a d := by
  unfold entry rd
  rw [List.getElem?_eq_none h]
  rfl
theorem comp_far {p q : Pt} {a : Bool} {d : Nat} (h : width p q a ≤ d) : comp p q a d = ruled (pt p q) (ps p q) a d := by
  unfold width at h
  have h1 : (tabL p a).length ≤ d := by omega
  have h2 : ((tabL q (ruled p.t p.s a 0).a).length : Int) ≤ (ruled p.t p.s a 0).d + d := by omega
  unfold comp
  rw [entry_far h1, ruled_step]
  dsimp only
  have h3 : ((ruled p.t p.s a 0).d + (d : Int)).toNat = ((ruled p.t p.s a 0).d + (d : Int)) := by omega
  rw [entry_far (by omega), h3]
  unfold pt ps ruled
  cases p.t <;> cases q.t <;> cases a <;> simp <;> omega
theorem product_entry (p q : Pt) (a : Bool) (d : Nat) : entry (product p q) a d = comp p q a d := by
  unfold product
  rw [normal_entry]
  have e : (if a = true then sentOn p q true else sentOn p q false) = sentOn p q a := by cases a <;> rfl
  rw [e]
  unfold rd sentOn
  by_cases h : d < width p q a
  · rw [List.getElem?_map, List.getElem?_range h]
    rfl
  · rw [List.getElem?_eq_none (by rw [List.length_map, List.length_range]; omega)]
    exact (comp_far (by omega)).symm
theorem product_norm (p q : Pt) : Norm (product p q) := normal_norm _ _ _ _
theorem product_wf {p q : Pt} (hq : Wf q) : Wf (product p q) := fun a d => by
  rw [product_entry]
  exact hq _ _
theorem product_assoc (p q r : Pt) : product (product p q) r = product p (product q r) := by
  refine form_ext (product_norm _ _) (product_norm _ _) ?_ ?_ fun a d => ?_
  · show ((p.t != q.t) != r.t) = (p.t != (q.t != r.t))
    cases p.t <;> cases q.t <;> cases r.t <;> rfl
  · show ps (product p q) r = ps p (product q r)
    show (if r.t = true then r.s - ps p q else r.s + ps p q) = (if (q.t != r.t) = true then ps q r - p.s else ps q r + p.s)
    unfold ps
    cases q.t <;> cases r.t <;> simp <;> omega
  · rw [product_entry, product_entry]
    unfold comp
    rw [product_entry, product_entry]
    unfold comp
    dsimp only
    congr 1
    cases (entry p a d).f <;> cases (entry q (entry p a d).a (entry p a d).d.toNat).f <;> simp
def still : Pt := ⟨false, 0, [], []⟩
theorem still_norm : Norm still := fun a => by cases a <;> exact fun h => nomatch h
theorem still_entry (a : Bool) (d : Nat) : entry still a d = ⟨a, d, false⟩ := by
  cases a <;> simp [entry, rd, still, tabL, ruled]
theorem still_wf : Wf still := fun a d => by rw [still_entry]; exact Int.natCast_nonneg d
theorem product_still {p : Pt} (hn : Norm p) (hw : Wf p) : product p still = p := by
  refine form_ext (product_norm _ _) hn ?_ ?_ fun a d => ?_
  · show (p.t != false) = p.t
    cases p.t <;> rfl
  · show (if false = true then 0 - p.s else 0 + p.s) = p.s
    simp
  · rw [product_entry]
    unfold comp
    rw [still_entry]
    dsimp only
    have := hw a d
    generalize entry p a d = e at *
    obtain ⟨x, y, z⟩ := e
    dsimp only at *
    congr 1
    · omega
    · cases z <;> rfl
theorem still_product {p : Pt} (hn : Norm p) : product still p = p := by
  refine form_ext (product_norm _ _) hn ?_ ?_ fun a d => ?_
  · show (false != p.t) = p.t
    cases p.t <;> rfl
  · show (if p.t = true then p.s - 0 else p.s + 0) = p.s
    split <;> omega
  · rw [product_entry]
    unfold comp
    rw [still_entry]
    dsimp only
    rw [Int.toNat_natCast]
    generalize entry p a d = e
    obtain ⟨x, y, z⟩ := e
    dsimp only
    cases z <;> rfl
/-! ### forms that are valid; inverses -/
theorem sub_all {α : Type} [DecidableEq α] : ∀ {l m : List α}, l.Nodup → (∀ x ∈ l, x ∈ m) → m.length ≤ l.length → ∀ x ∈ m, x ∈ l
  | [], m, _, _, h, x, hx => by
    have : m = [] := List.length_eq_zero_iff.mp (by simpa using h)
    subst this
    exact absurd hx List.not_mem_nil
  | a :: l, m, nd, hs, h, x, hx => by
    obtain ⟨na, nl⟩ := List.nodup_cons.mp nd
    have ha : a ∈ m := hs a (List.mem_cons_self ..)
    by_cases e : x = a
    · subst e
      exact List.mem_cons_self ..
    · refine List.mem_cons_of_mem _ (sub_all (m := m.erase a) nl (fun y hy => ?_) ?_ x ?_)
      · have : y ≠ a := fun z => na (z ▸ hy)
        exact (List.mem_erase_of_ne this).mpr (hs y (List.mem_cons_of_mem _ hy))
      · rw [List.length_erase_of_mem ha]
        simp only [List.length_cons] at h
        omega
      · exact (List.mem_erase_of_ne e).mpr hx
theorem inj_map {α β : Type} {f : α → β} : ∀ {l : List α}, (l.map f).Nodup → ∀ x ∈ l, ∀ y ∈ l, f x = f y → x = y
  | [], _, x, hx, _, _, _ => absurd hx List.not_mem_nil
  | a :: l, nd, x, hx, y, hy, e => by
    rw [List.map_cons] at nd
    obtain ⟨na, nl⟩ := List.nodup_cons.mp nd
    rcases List.mem_cons.mp hx with h1 | h1
    · rcases List.mem_cons.mp hy with h2 | h2
      · rw [h1, h2]
      · rw [h1] at e
        exact absurd (List.mem_map.mpr ⟨y, h2, e.symm⟩) na
    · rcases List.mem_cons.mp hy with h2 | h2
      · rw [h2] at e
        exact absurd (List.mem_map.mpr ⟨x, h1, e⟩) na
      · exact inj_map nl x h1 y h2 e
/-- from which depth on the rule alone reaches the end b -/
def fst (p : Pt) (b : Bool) : Int := (ruled p.t p.s (b != p.t) ((tabL p (b != p.t)).length)).d
def src (p : Pt) : List (Bool × Nat) := (List.range p.top.length).map (fun d => (true, d)) ++ (List.range p.bot.length).map (fun d => (false, d))
def goal (p : Pt) (x : Bool × Nat) : Bool × Int := ((entry p x.1 x.2).a, (entry p x.1 x.2).d)
theorem mem_src {p : Pt} {x : Bool × Nat} : x ∈ src p ↔ x.2 < (tabL p x.1).length := by
  obtain ⟨a, d⟩ := x
  unfold src
  cases a <;> simp [tabL]
structure Valid (p : Pt) : Prop where
  f0 : ∀ b, 0 ≤ fst p b
  rng : ∀ x ∈ src p, 0 ≤ (entry p x.1 x.2).d ∧ (entry p x.1 x.2).d < fst p (entry p x.1 x.2).a
  nd : ((src p).map (goal p)).Nodup
theorem ruled_a (t : Bool) (s : Int) (a : Bool) (d : Int) : (ruled t s a d).a = (a != t) := by cases a <;> cases t <;> rfl
theorem bne_bne (a t : Bool) : ((a != t) != t) = a := by cases a <;> cases t <;> rfl
theorem fst_sum (p : Pt) : fst p true + fst p false = p.top.length + p.bot.length := by
  unfold fst
  cases p.t <;> simp [ruled, tabL] <;> omega
/-- of a depth beyond the table -/
theorem far_fst {p : Pt} {a : Bool} {d : Nat} (h : (tabL p a).length ≤ d) : (entry p a d).a = (a != p.t) ∧ (entry p a d).d = fst p (a != p.t) + ((d : Int) - (tabL p a).length) := by
  rw [entry_far h, ruled_a]
  refine ⟨rfl, ?_⟩
  unfold fst
  rw [bne_bne, ruled_step, ruled_step p.t p.s a ((tabL p a).length)]
  dsimp only
  omega
theorem Valid.wf {p : Pt} (h : Valid p) : Wf p := fun a d => by
  by_cases hd : d < (tabL p a).length
  · exact (h.rng (a, d) (mem_src.mpr hd)).1
  · have := far_fst (p := p) (a := a) (d := d) (by omega)
    have := h.f0 (a != p.t)
    omega
theorem Valid.inj {p : Pt} (h : Valid p) {a a' : Bool} {d d' : Nat} (h1 : (entry p a d).a = (entry p a' d').a) (h2 : (entry p a d).d = (entry p a' d').d) : a = a' ∧ d = d' := by
  by_cases hd : d < (tabL p a).length
  · have r1 := h.rng (a, d) (mem_src.mpr hd)
    by_cases hd' : d' < (tabL p a').length
    · have := inj_map h.nd (a, d) (mem_src.mpr hd) (a', d') (mem_src.mpr hd') (by unfold goal; rw [h1, h2])
      exact ⟨congrArg (·.1) this, congrArg (·.2) this⟩
    · obtain ⟨g1, g2⟩ := far_fst (p := p) (a := a') (d := d') (by omega)
      rw [g1] at h1
      dsimp only at r1
      rw [h1, h2, g2] at r1
      omega
  · obtain ⟨f1, f2⟩ := far_fst (p := p) (a := a) (d := d) (by omega)
    by_cases hd' : d' < (tabL p a').length
    · have r1 := h.rng (a', d') (mem_src.mpr hd')
      dsimp only at r1
      rw [← h1, ← h2, f1, f2] at r1
      omega
    · obtain ⟨g1, g2⟩ := far_fst (p := p) (a := a') (d := d') (by omega)
      rw [f1, g1] at h1
      have ha : a = a' := by rw [← bne_bne a p.t, h1, bne_bne]
      subst ha
      rw [f2, g2] at h2
      exact ⟨rfl, by omega⟩
theorem Valid.surj {p : Pt} (h : Valid p) (b : Bool) {k : Int} (hk : 0 ≤ k) : ∃ a d, (entry p a d).a = b ∧ (entry p a d).d = k := by
  by_cases hf : k < fst p b
  · let S : List (Bool × Int) := (List.range (fst p true).toNat).map (fun (d : Nat) => (true, (d : Int))) ++ (List.range (fst p false).toNat).map (fun (d : Nat) => (false, (d : Int)))
    have hl : S.length ≤ ((src p).map (goal p)).length := by
      have := fst_sum p
      have := h.f0 true
      have := h.f0 false
      simp only [S, src, List.length_append, List.length_map, List.length_range]
      omega
    have mS : ∀ (b : Bool) (k : Int), 0 ≤ k → k < fst p b → (b, k) ∈ S := fun b k h0 h1 => by
      have e : (k.toNat : Int) = k := by omega
      cases b
      · exact List.mem_append_right _ (List.mem_map.mpr ⟨k.toNat, List.mem_range.mpr (by omega), by rw [e]⟩)
      · exact List.mem_append_left _ (List.mem_map.mpr ⟨k.toNat, List.mem_range.mpr (by omega), by rw [e]⟩)
    have hs : ∀ x ∈ (src p).map (goal p), x ∈ S := fun x hx => by
      obtain ⟨y, hy, rfl⟩ := List.mem_map.mp hx
      obtain ⟨r1, r2⟩ := h.rng y hy
      exact mS _ _ r1 r2
    have hm := sub_all h.nd hs hl (b, k) (mS b k hk hf)
    obtain ⟨y, hy, e⟩ := List.mem_map.mp hm
    exact ⟨y.1, y.2, congrArg (·.1) e, congrArg (·.2) e⟩
  · refine ⟨b != p.t, ((tabL p (b != p.t)).length : Int).toNat + (k - fst p b).toNat, ?_, ?_⟩
    · rw [(far_fst (by omega)).1, bne_bne]
    · rw [(far_fst (by omega)).2, bne_bne]
      omega
/-- q goes back what p goes -/
structure IsInv (p q : Pt) : Prop where
  norm : Norm q
  t : q.t = p.t
  s : q.s = if p.t = true then p.s else -p.s
  back : ∀ a d, entry q (entry p a d).a (entry p a d).d.toNat = ⟨a, d, (entry p a d).f⟩
theorem IsInv.uniq {p q r : Pt} (hp : Valid p) (h1 : IsInv p q) (h2 : IsInv p r) : q = r := by
  refine form_ext h1.norm h2.norm (h1.t.trans h2.t.symm) (h1.s.trans h2.s.symm) fun b k => ?_
  obtain ⟨a, d, e1, e2⟩ := hp.surj b (Int.natCast_nonneg k)
  have g1 := h1.back a d
  have g2 := h2.back a d
  rw [e1, e2, Int.toNat_natCast] at g1 g2
  rw [g1, g2]
theorem IsInv.wf {p q : Pt} (hp : Valid p) (h : IsInv p q) : Wf q := fun b k => by
  obtain ⟨a, d, e1, e2⟩ := hp.surj b (Int.natCast_nonneg k)
  have g := h.back a d
  rw [e1, e2, Int.toNat_natCast] at g
  rw [g]
  exact Int.natCast_nonneg d
theorem IsInv.symm {p q : Pt} (hp : Valid p) (hn : Norm p) (h : IsInv p q) : IsInv q p := by
  refine ⟨hn, h.t.symm, ?_, fun b k => ?_⟩
  · rw [h.s, h.t]
    split <;> omega
  · obtain ⟨a, d, e1, e2⟩ := hp.surj b (Int.natCast_nonneg k)
    have g := h.back a d
    rw [e1, e2, Int.toNat_natCast] at g
    rw [g]
    dsimp only
    rw [Int.toNat_natCast]
    generalize entry p a d = e at *
    obtain ⟨x, y, z⟩ := e
    dsimp only at *
    rw [e1, e2]
theorem IsInv.product {p p' q q' : Pt} (h : IsInv p p') (h' : IsInv q q') : IsInv (product p q) (product q' p') := by
  refine ⟨product_norm _ _, ?_, ?_, fun a d => ?_⟩
  · show (q'.t != p'.t) = (p.t != q.t)
    rw [h.t, h'.t]
    cases p.t <;> cases q.t <;> rfl
  · show (if p'.t = true then p'.s - q'.s else p'.s + q'.s) = if (p.t != q.t) = true then ps p q else -ps p q
    unfold ps
    rw [h.t, h.s, h'.s]
    cases p.t <;> cases q.t <;> simp <;> omega
  · rw [product_entry, product_entry]
    have g := h'.back (entry p a d).a (entry p a d).d.toNat
    have g2 := h.back a d
    unfold comp
    dsimp only
    rw [g]
    dsimp only
    rw [Int.toNat_natCast, g2]
    dsimp only
    congr 1
    cases (entry p a d).f <;> cases (entry q (entry p a d).a (entry p a d).d.toNat).f <;> rfl
/-! ### valid is: no depth below 0, no goal twice -/
def Inj (p : Pt) : Prop := ∀ a d a' d', (entry p a d).a = (entry p a' d').a → (entry p a d).d = (entry p a' d').d → a = a' ∧ d = d'
theorem nodup_map {α β : Type} {f : α → β} : ∀ {l : List α}, l.Nodup → (∀ x ∈ l, ∀ y ∈ l, f x = f y → x = y) → (l.map f).Nodup
  | [], _, _ => List.nodup_nil
  | a :: l, nd, h => by
    obtain ⟨na, nl⟩ := List.nodup_cons.mp nd
    rw [List.map_cons]
    refine List.nodup_cons.mpr ⟨fun hm => ?_, nodup_map nl fun x hx y hy => h x (List.mem_cons_of_mem _ hx) y (List.mem_cons_of_mem _ hy)⟩
    obtain ⟨y, hy, e⟩ := List.mem_map.mp hm
    have := h y (List.mem_cons_of_mem _ hy) a (List.mem_cons_self ..) e
    exact na (this ▸ hy)
theorem src_nodup (p : Pt) : (src p).Nodup := by
  unfold src
  refine List.nodup_append.mpr ⟨nodup_map List.nodup_range fun x _ y _ e => congrArg (·.2) e, nodup_map List.nodup_range fun x _ y _ e => congrArg (·.2) e, fun x hx y hy e => ?_⟩
  obtain ⟨i, _, rfl⟩ := List.mem_map.mp hx
  obtain ⟨j, _, rfl⟩ := List.mem_map.mp hy
  exact Bool.noConfusion (show true = false from congrArg Prod.fst e)
theorem Valid.of {p : Pt} (hw : Wf p) (hi : Inj p) : Valid p := by
  have f0 : ∀ b, 0 ≤ fst p b := fun b => by
    have h1 := hw (b != p.t) (tabL p (b != p.t)).length
    have h2 := (far_fst (p := p) (a := b != p.t) (d := (tabL p (b != p.t)).length) (Nat.le_refl _)).2
    rw [bne_bne] at h2
    omega
  refine ⟨f0, fun x hx => ⟨hw _ _, ?_⟩, nodup_map (src_nodup p) fun x _ y _ e => ?_⟩
  · have hx := mem_src.mp hx
    refine Int.lt_of_not_ge fun hge => ?_
    obtain ⟨g1, g2⟩ := far_fst (p := p) (a := (entry p x.1 x.2).a != p.t) (d := (tabL p ((entry p x.1 x.2).a != p.t)).length + ((entry p x.1 x.2).d - fst p (entry p x.1 x.2).a).toNat) (Nat.le_add_right _ _)
    rw [bne_bne] at g1 g2
    obtain ⟨e1, e2⟩ := hi x.1 x.2 _ _ g1.symm (by rw [g2]; omega)
    rw [← e1] at e2
    omega
  · obtain ⟨e1, e2⟩ := hi x.1 x.2 y.1 y.2 (congrArg (·.1) e) (congrArg (·.2) e)
    exact Prod.ext e1 e2
theorem product_inj {p q : Pt} (hp : Valid p) (hq : Valid q) : Inj (product p q) := fun a d a' d' h1 h2 => by
  rw [product_entry, product_entry] at h1 h2
  unfold comp at h1 h2
  dsimp only at h1 h2
  obtain ⟨e1, e2⟩ := hq.inj h1 h2
  have w1 := hp.wf a d
  have w2 := hp.wf a' d'
  exact hp.inj e1 (by omega)
theorem product_valid {p q : Pt} (hp : Valid p) (hq : Valid q) : Valid (product p q) := .of (product_wf hq.wf) (product_inj hp hq)
theorem IsInv.inj {p q : Pt} (hp : Valid p) (hn : Norm p) (h : IsInv p q) : Inj q := fun b k b' k' h1 h2 => by
  have g1 := (h.symm hp hn).back b k
  have g2 := (h.symm hp hn).back b' k'
  rw [h1, h2] at g1
  rw [g1] at g2
  exact ⟨congrArg (·.a) g2, by have := congrArg (·.d) g2; dsimp only at this; omega⟩
theorem IsInv.valid {p q : Pt} (hp : Valid p) (hn : Norm p) (h : IsInv p q) : Valid q := .of (h.wf hp) (h.inj hp hn)
theorem still_valid : Valid still := .of still_wf fun a d a' d' h1 h2 => by
  rw [still_entry, still_entry] at h1 h2
  exact ⟨h1, by dsimp only at h2; omega⟩
theorem valid_normal {t : Bool} {s : Int} {l m : List En} (h : Valid ⟨t, s, l, m⟩) : Valid (normal t s l m) := by
  have e : ∀ a d, entry (normal t s l m) a d = entry ⟨t, s, l, m⟩ a d := fun a d => by rw [normal_entry]; cases a <;> rfl
  refine .of (fun a d => ?_) fun a d a' d' h1 h2 => ?_
  · rw [e]
    exact h.wf a d
  · rw [e, e] at h1 h2
    exact h.inj h1 h2
/-! ### widths -/
theorem trim_len (t : Bool) (s : Int) (a : Bool) (l : List En) : (trim t s a l).length ≤ l.length := trimF_len ..
theorem offset_le {p : Pt} (h : Valid p) (a : Bool) : -(ruled p.t p.s a 0).d ≤ (tabL p a).length := by
  have := h.f0 (a != p.t)
  unfold fst at this
  rw [bne_bne, ruled_step] at this
  dsimp only at this
  omega
theorem width_le {p q : Pt} (h : Valid p) (a : Bool) : width p q a ≤ (tabL p a).length + (tabL q (ruled p.t p.s a 0).a).length := by
  have := offset_le h a
  unfold width
  omega
theorem product_len {p q : Pt} (h : Valid p) (a : Bool) : (tabL (product p q) a).length ≤ (tabL p a).length + (tabL q (ruled p.t p.s a 0).a).length := by
  refine Nat.le_trans ?_ (width_le (q := q) h a)
  have e : ∀ b, (sentOn p q b).length = width p q b := fun b => by unfold sentOn; rw [List.length_map, List.length_range]
  rw [← e a]
  cases a
  · exact trim_len ..
  · exact trim_len ..
/-! ### the tables of an inverse, as the program makes them -/
theorem sorted_ext : ∀ {l m : List Int}, l.Pairwise (· < ·) → m.Pairwise (· < ·) → (∀ x, x ∈ l ↔ x ∈ m) → l = m
  | [], [], _, _, _ => rfl
  | [], b :: m, _, _, h => absurd ((h b).mpr (List.mem_cons_self ..)) List.not_mem_nil
  | a :: l, [], _, _, h => absurd ((h a).mp (List.mem_cons_self ..)) List.not_mem_nil
  | a :: l, b :: m, pl, pm, h => by
    obtain ⟨pa, ql⟩ := List.pairwise_cons.mp pl
    obtain ⟨pb, qm⟩ := List.pairwise_cons.mp pm
    have e : a = b := by
      have h1 := (h a).mp (List.mem_cons_self ..)
      have h2 := (h b).mpr (List.mem_cons_self ..)
      rcases List.mem_cons.mp h1 with h1 | h1
      · exact h1
      rcases List.mem_cons.mp h2 with h2 | h2
      · exact h2.symm
      have := pa b h2
      have := pb a h1
      omega
    subst e
    refine congrArg (List.cons a) (sorted_ext ql qm fun x => ⟨fun hx => ?_, fun hx => ?_⟩)
    · rcases List.mem_cons.mp ((h x).mp (List.mem_cons_of_mem _ hx)) with z | z
      · have := pa x hx
        omega
      · exact z
    · rcases List.mem_cons.mp ((h x).mpr (List.mem_cons_of_mem _ hx)) with z | z
      · have := pb x hx
        omega
      · exact z
/-- what goes to the end b: the depth there, whence it comes -/
def item (p : Pt) (x : Bool × Nat) : Int × En := ((entry p x.1 x.2).d, ⟨x.1, x.2, (entry p x.1 x.2).f⟩)
def found (p : Pt) (b : Bool) : List (Int × En) := ((src p).filter fun x => (entry p x.1 x.2).a == b).map (item p)
/-- L is found, by depths -/
structure Sorted (p : Pt) (b : Bool) (L : List (Int × En)) : Prop where
  mem : ∀ x, x ∈ L ↔ x ∈ found p b
  lt : (L.map (·.1)).Pairwise (· < ·)
theorem Sorted.keys {p : Pt} {b : Bool} {L : List (Int × En)} (hp : Valid p) (h : Sorted p b L) : L.map (·.1) = (List.range (fst p b).toNat).map fun (k : Nat) => (k : Int) := by
  have f0 := hp.f0 b
  refine sorted_ext h.lt ?_ fun x => ⟨fun hx => ?_, fun hx => ?_⟩
  · refine List.pairwise_map.mpr (List.Pairwise.imp ?_ List.pairwise_lt_range)
    intro i j hij
    omega
  · obtain ⟨y, hy, rfl⟩ := List.mem_map.mp hx
    obtain ⟨z, hz, rfl⟩ := List.mem_map.mp ((h.mem y).mp hy)
    obtain ⟨h1, h2⟩ := List.mem_filter.mp hz
    obtain ⟨r1, r2⟩ := hp.rng z h1
    have e : (entry p z.1 z.2).a = b := eq_of_beq h2
    rw [e] at r2
    exact List.mem_map.mpr ⟨(entry p z.1 z.2).d.toNat, List.mem_range.mpr (by omega), by show ((entry p z.1 z.2).d.toNat : Int) = (entry p z.1 z.2).d; omega⟩
  · obtain ⟨k, hk, rfl⟩ := List.mem_map.mp hx
    have hk := List.mem_range.mp hk
    obtain ⟨a, d, e1, e2⟩ := hp.surj b (Int.natCast_nonneg k)
    have hd : d < (tabL p a).length := Nat.lt_of_not_le fun hge => by
      obtain ⟨g1, g2⟩ := far_fst (p := p) hge
      rw [← g1, e1] at g2
      omega
    refine List.mem_map.mpr ⟨item p (a, d), (h.mem _).mpr (List.mem_map.mpr ⟨(a, d), List.mem_filter.mpr ⟨mem_src.mpr hd, ?_⟩, rfl⟩), e2⟩
    show ((entry p a d).a == b) = true
    rw [e1]
    exact beq_self_eq_true b
theorem Sorted.len {p : Pt} {b : Bool} {L : List (Int × En)} (hp : Valid p) (h : Sorted p b L) : (L.length : Int) = fst p b := by
  have e := congrArg List.length (h.keys hp)
  rw [List.length_map, List.length_map, List.length_range] at e
  have := hp.f0 b
  omega
theorem Sorted.get {p : Pt} {b : Bool} {L : List (Int × En)} (hp : Valid p) (h : Sorted p b L) {k : Nat} {y : Int × En} (hy : L[k]? = some y) : ∃ a d, entry p a d = ⟨b, k, y.2.f⟩ ∧ y.2 = ⟨a, d, y.2.f⟩ := by
  have e : (L.map (·.1))[k]? = ((List.range (fst p b).toNat).map fun (k : Nat) => (k : Int))[k]? := by rw [h.keys hp]
  rw [List.getElem?_map, hy, List.getElem?_map] at e
  have hk : k < (fst p b).toNat := by
    have := (List.getElem?_eq_some_iff.mp hy).1
    have := h.len hp
    omega
  rw [List.getElem?_range hk] at e
  have e1 : y.1 = (k : Int) := Option.some.inj e
  obtain ⟨z, hz, rfl⟩ := List.mem_map.mp ((h.mem y).mp (List.mem_of_getElem? hy))
  obtain ⟨_, h2⟩ := List.mem_filter.mp hz
  have e2 : (entry p z.1 z.2).a = b := eq_of_beq h2
  refine ⟨z.1, z.2, ?_, rfl⟩
  have e1 : (entry p z.1 z.2).d = (k : Int) := e1
  show entry p z.1 z.2 = ⟨b, k, (entry p z.1 z.2).f⟩
  rw [← e2, ← e1]
def inverted (p : Pt) (L M : List (Int × En)) : Pt := normal p.t (if p.t = true then p.s else -p.s) (L.map (·.2)) (M.map (·.2))
theorem inverted_inv {p : Pt} {L M : List (Int × En)} (hp : Valid p) (hL : Sorted p true L) (hM : Sorted p false M) : IsInv p (inverted p L M) := by
  refine ⟨normal_norm _ _ _ _, rfl, rfl, fun a d => ?_⟩
  have key : ∀ (b : Bool) (N : List (Int × En)), Sorted p b N → (entry p a d).a = b → rd p.t (if p.t = true then p.s else -p.s) b (N.map (·.2)) (entry p a d).d.toNat = ⟨a, d, (entry p a d).f⟩ := fun b N hN hb => by
    have w := hp.wf a d
    have hl := hN.len hp
    unfold rd
    cases e : N[(entry p a d).d.toNat]? with
    | some y =>
      rw [List.getElem?_map, e]
      obtain ⟨a', d', e1, e2⟩ := hN.get hp e
      obtain ⟨rfl, rfl⟩ := hp.inj (a := a') (a' := a) (d := d') (d' := d) (by rw [e1]; exact hb.symm) (by rw [e1]; show ((entry p a d).d.toNat : Int) = _; omega)
      show y.2 = _
      rw [e2, e1]
    | none =>
      rw [List.getElem?_map, e]
      have hge := List.getElem?_eq_none_iff.mp e
      have hd : (tabL p a).length ≤ d := Nat.le_of_not_lt fun hlt => by
        have := (hp.rng (a, d) (mem_src.mpr hlt)).2
        dsimp only at this
        rw [hb] at this
        omega
      have ef := entry_far (p := p) hd
      show ruled p.t (if p.t = true then p.s else -p.s) b ((entry p a d).d.toNat : Int) = _
      rw [← hb, show ((entry p a d).d.toNat : Int) = (entry p a d).d by omega, ef]
      cases p.t <;> cases a <;> simp [ruled] <;> omega
  unfold inverted
  rw [normal_entry]
  cases hb : (entry p a d).a
  · exact key false M hM hb
  · exact key true L hL hb
end Fm
namespace Fm
theorem src_entry (p : Pt) : (src p).map (fun x => entry p x.1 x.2) = p.top ++ p.bot := by
  have key : ∀ (a : Bool) (l : List En), tabL p a = l → (List.range l.length).map (fun d => entry p a d) = l := fun a l hl => by
    refine List.ext_getElem? fun i => ?_
    rw [List.getElem?_map]
    by_cases h : i < l.length
    · rw [List.getElem?_range h, List.getElem?_eq_getElem h]
      show some (entry p a i) = some l[i]
      unfold entry rd
      rw [hl, List.getElem?_eq_getElem h]
      rfl
    · rw [List.getElem?_eq_none (by rw [List.length_range]; omega), List.getElem?_eq_none (by omega)]
      rfl
  unfold src
  rw [List.map_append, List.map_map, List.map_map]
  exact congr (congrArg _ (key true _ rfl)) (key false _ rfl)
theorem Valid.mem {p : Pt} (h : Valid p) {e : En} (he : e ∈ p.top ++ p.bot) : 0 ≤ e.d ∧ e.d < fst p e.a := by
  rw [← src_entry] at he
  obtain ⟨x, hx, rfl⟩ := List.mem_map.mp he
  exact h.rng x hx
theorem Valid.keys {p : Pt} (h : Valid p) : ((p.top ++ p.bot).map fun e => (e.a, e.d)).Nodup := by
  rw [← src_entry, List.map_map]
  exact h.nd
end Fm
namespace Fm
theorem trim_snoc {t : Bool} {s : Int} {a : Bool} {y : List En} {e : En} (h : e = ruled t s a y.length) : trim t s a (y ++ [e]) = trim t s a y := by
  have e1 : (y ++ [e]).length = y.length + 1 := by simp
  unfold trim
  rw [e1]
  show (if (y ++ [e]).getLast? = some (ruled t s a (((y ++ [e]).length : Int) - 1)) then trimF t s a y.length (y ++ [e]).dropLast else y ++ [e]) = _
  rw [if_pos, List.dropLast_concat]
  rw [List.getLast?_concat, e1, h]
  congr 2
  omega
theorem trim_stop {t : Bool} {s : Int} {a : Bool} {y : List En} {e : En} (h : e ≠ ruled t s a y.length) : trim t s a (y ++ [e]) = y ++ [e] := by
  refine trim_id fun hg => h ?_
  rw [List.getLast?_concat] at hg
  rw [Option.some.inj hg]
  congr 1
  simp
end Fm
namespace Fm
/-- of the first k entries of a table what goes to the end b -/
def fnd (p : Pt) (b a : Bool) (k : Nat) : List (Int × En) := ((List.range k).filter fun d => (entry p a d).a == b).map fun d => item p (a, d)
theorem fnd_succ (p : Pt) (b a : Bool) (k : Nat) : fnd p b a (k + 1) = fnd p b a k ++ (if ((entry p a k).a == b) = true then [item p (a, k)] else []) := by
  unfold fnd
  rw [List.range_succ, List.filter_append, List.map_append]
  congr 1
  rw [List.filter_cons]
  split <;> rfl
theorem found_fnd (p : Pt) (b : Bool) : found p b = fnd p b true p.top.length ++ fnd p b false p.bot.length := by
  unfold found src fnd
  rw [List.filter_append, List.map_append, List.filter_map, List.filter_map, List.map_map, List.map_map]
  rfl
theorem fnd_len (p : Pt) (b a : Bool) (k : Nat) : (fnd p b a k).length ≤ k := by
  unfold fnd
  rw [List.length_map]
  exact Nat.le_trans (List.length_filter_le _ _) (by rw [List.length_range]; exact Nat.le_refl _)
theorem Valid.found_nd {p : Pt} (h : Valid p) (b : Bool) : ((found p b).map (·.1)).Nodup := by
  unfold found
  rw [List.map_map]
  refine nodup_map (List.Nodup.sublist List.filter_sublist (src_nodup p)) fun x hx y hy e => ?_
  obtain ⟨x1, x2⟩ := List.mem_filter.mp hx
  obtain ⟨y1, y2⟩ := List.mem_filter.mp hy
  have x2 : (entry p x.1 x.2).a = b := eq_of_beq x2
  have y2 : (entry p y.1 y.2).a = b := eq_of_beq y2
  obtain ⟨h1, h2⟩ := h.inj (x2.trans y2.symm) e
  exact Prod.ext h1 h2
end Fm
namespace Fm
/-- the goals of a form: so many at the top, so many at the bottom -/
def goalsL (n m : Nat) : List (Bool × Int) := (List.range n).map (fun (d : Nat) => (true, (d : Int))) ++ (List.range m).map (fun (d : Nat) => (false, (d : Int)))
theorem goals_nd (n m : Nat) : (goalsL n m).Nodup := by
  unfold goalsL
  refine List.nodup_append.mpr ⟨nodup_map List.nodup_range fun x _ y _ e => ?_, nodup_map List.nodup_range fun x _ y _ e => ?_, fun x hx y hy e => ?_⟩
  · exact Int.ofNat.inj (congrArg (·.2) e)
  · exact Int.ofNat.inj (congrArg (·.2) e)
  · obtain ⟨i, _, rfl⟩ := List.mem_map.mp hx
    obtain ⟨j, _, rfl⟩ := List.mem_map.mp hy
    exact Bool.noConfusion (show true = false from congrArg Prod.fst e)
theorem goals_mem {n m : Nat} {x : Bool × Int} (h : x ∈ goalsL n m) : 0 ≤ x.2 ∧ x.2 < (if x.1 = true then (n : Int) else m) := by
  rcases List.mem_append.mp h with h | h
  · obtain ⟨i, hi, rfl⟩ := List.mem_map.mp h
    have := List.mem_range.mp hi
    exact ⟨Int.natCast_nonneg i, by show (i : Int) < n; omega⟩
  · obtain ⟨i, hi, rfl⟩ := List.mem_map.mp h
    have := List.mem_range.mp hi
    exact ⟨Int.natCast_nonneg i, by show (i : Int) < m; omega⟩
theorem goals_len (n m : Nat) : (goalsL n m).length = n + m := by
  unfold goalsL
  rw [List.length_append, List.length_map, List.length_map, List.length_range, List.length_range]
def key (e : En) : Bool × Int := (e.a, e.d)
theorem valid_of {p : Pt} {n m : Nat} (h1 : fst p true = n) (h2 : fst p false = m) (h : ((p.top ++ p.bot).map key).Perm (goalsL n m)) : Valid p := by
  refine ⟨fun b => by cases b <;> omega, fun x hx => ?_, ?_⟩
  · have he : entry p x.1 x.2 ∈ p.top ++ p.bot := by
      rw [← src_entry]
      exact List.mem_map.mpr ⟨x, hx, rfl⟩
    have := goals_mem (h.mem_iff.mp (List.mem_map.mpr ⟨_, he, rfl⟩))
    refine ⟨this.1, ?_⟩
    have h3 := this.2
    unfold key at h3
    dsimp only at h3
    generalize (entry p x.1 x.2).a = a at h3 ⊢
    cases a
    · rw [h2]; exact h3
    · rw [h1]; exact h3
  · have e : (src p).map (goal p) = (p.top ++ p.bot).map key := by
      rw [← src_entry, List.map_map]
      rfl
    rw [e]
    exact h.nodup_iff.mpr (goals_nd n m)
theorem insert_perm {α : Type} (l : List α) (n : Nat) (x : α) : (l.take n ++ [x] ++ l.drop n).Perm (l ++ [x]) := by
  have h : (l.take n ++ [x] ++ l.drop n).Perm (l.take n ++ (l.drop n ++ [x])) := by
    rw [List.append_assoc]
    exact List.Perm.append_left _ List.perm_append_comm
  refine h.trans (List.Perm.of_eq ?_)
  rw [← List.append_assoc, List.take_append_drop]
end Fm
namespace Fm
/-- a normal form whose tables have at most n entries -/
structure Fo (p : Pt) (n : Nat) : Prop where
  v : Valid p
  nm : Norm p
  l : ∀ a, (tabL p a).length ≤ n
theorem Fo.mono {p : Pt} {n m : Nat} (h : Fo p n) (k : n ≤ m) : Fo p m := ⟨h.v, h.nm, fun a => Nat.le_trans (h.l a) k⟩
theorem Fo.normal {t : Bool} {s : Int} {l m : List En} {n : Nat} (h : Valid ⟨t, s, l, m⟩) (h1 : l.length ≤ n) (h2 : m.length ≤ n) : Fo (normal t s l m) n := ⟨valid_normal h, normal_norm _ _ _ _, fun a => by
  cases a
  · exact Nat.le_trans (trim_len _ _ _ _) h2
  · exact Nat.le_trans (trim_len _ _ _ _) h1⟩
theorem Fo.mul {p q : Pt} {n m : Nat} (hp : Fo p n) (hq : Fo q m) : Fo (product p q) (n + m) := ⟨product_valid hp.v hq.v, product_norm _ _, fun a => Nat.le_trans (product_len hp.v a) (Nat.add_le_add (hp.l a) (hq.l _))⟩
theorem Fo.still : Fo still 0 := ⟨still_valid, still_norm, fun a => by cases a <;> exact Nat.le_refl _⟩
theorem Fo.inv {p q : Pt} {n : Nat} (hp : Fo p n) (hi : IsInv p q) (h1 : (q.top.length : Int) ≤ fst p true) (h2 : (q.bot.length : Int) ≤ fst p false) : Fo q (n + n) := ⟨hi.valid hp.v hp.nm, hi.norm, fun a => by
  have h3 := fst_sum p
  have f1 := hp.v.f0 true
  have f2 := hp.v.f0 false
  have l1 : p.top.length ≤ n := hp.l true
  have l2 : p.bot.length ≤ n := hp.l false
  cases a
  · show q.bot.length ≤ n + n
    omega
  · show q.top.length ≤ n + n
    omega⟩
end Fm
namespace Fm
/-- the entry by which a place goes -/
def side (p : Pt) (n x : Int) : En := if n - 1 - x < p.bot.length then entry p false (n - 1 - x).toNat else entry p true x.toNat
def imgE (n : Int) (e : En) : Int × Bool := (if e.a = true then e.d else n - 1 - e.d, e.f)
def img (p : Pt) (n x : Int) : Int × Bool := imgE n (side p n x)
/-- between the tables both ends tell the same -/
theorem ruled_both (t : Bool) (s n x : Int) : imgE n (ruled t s false (n - 1 - x)) = imgE n (ruled t s true x) := by
  cases t <;> simp [ruled, imgE] <;> omega
theorem img_true {p : Pt} {n x : Int} (h : ¬ n - 1 - x < p.bot.length) : imgE n (entry p true x.toNat) = img p n x := by
  unfold img side
  rw [if_neg h]
theorem img_false {p : Pt} {n x : Int} (h0 : 0 ≤ x) (h1 : x < n) (h : n - 1 - x < p.bot.length ∨ (p.top.length : Int) ≤ x) : imgE n (entry p false (n - 1 - x).toNat) = img p n x := by
  by_cases hb : n - 1 - x < p.bot.length
  · unfold img side
    rw [if_pos hb]
  · rw [← img_true hb]
    have h2 : (p.top.length : Int) ≤ x := h.resolve_left hb
    rw [entry_far (p := p) (a := false) (show p.bot.length ≤ (n - 1 - x).toNat by omega), entry_far (p := p) (a := true) (show p.top.length ≤ x.toNat by omega), Int.toNat_of_nonneg (by omega), Int.toNat_of_nonneg h0]
    exact ruled_both _ _ _ _
theorem side_facts {p : Pt} (hv : Valid p) {n x : Int} (h0 : 0 ≤ x) (h1 : x < n) : 0 ≤ (side p n x).d ∧ ((side p n x).d < fst p (side p n x).a ∨ ((p.top.length : Int) ≤ x ∧ (p.bot.length : Int) ≤ n - 1 - x ∧ (side p n x).a = (true != p.t) ∧ (side p n x).d = fst p (side p n x).a + (x - p.top.length))) := by
  unfold side
  by_cases hb : n - 1 - x < p.bot.length
  · rw [if_pos hb]
    have := hv.rng (false, (n - 1 - x).toNat) (mem_src.mpr (show (n - 1 - x).toNat < p.bot.length by omega))
    exact ⟨this.1, .inl this.2⟩
  · rw [if_neg hb]
    by_cases ht : x < p.top.length
    · have := hv.rng (true, x.toNat) (mem_src.mpr (show x.toNat < p.top.length by omega))
      exact ⟨this.1, .inl this.2⟩
    · obtain ⟨g1, g2⟩ := far_fst (p := p) (a := true) (d := x.toNat) (show p.top.length ≤ x.toNat by omega)
      refine ⟨hv.wf _ _, .inr ⟨by omega, by omega, g1, ?_⟩⟩
      rw [g1, g2]
      show _ + ((x.toNat : Int) - (p.top.length : Int)) = _
      omega
theorem fst_le {p : Pt} (hv : Valid p) (a : Bool) : fst p a + fst p (!a) = p.top.length + p.bot.length ∧ 0 ≤ fst p a ∧ 0 ≤ fst p (!a) := by
  have := fst_sum p
  refine ⟨?_, hv.f0 _, hv.f0 _⟩
  cases a
  · show fst p false + fst p true = _
    omega
  · exact this
theorem img_range {p : Pt} (hv : Valid p) {n x : Int} (hn : (p.top.length : Int) + p.bot.length ≤ n) (h0 : 0 ≤ x) (h1 : x < n) : 0 ≤ (img p n x).1 ∧ (img p n x).1 < n := by
  obtain ⟨g0, g⟩ := side_facts hv h0 h1
  unfold img imgE
  generalize side p n x = e at g0 g ⊢
  obtain ⟨f1, f2, f3⟩ := fst_le hv e.a
  have : e.d < n := by omega
  dsimp only
  split <;> omega
theorem img_inj {p : Pt} (hv : Valid p) {n x y : Int} (hn : (p.top.length : Int) + p.bot.length ≤ n) (x0 : 0 ≤ x) (x1 : x < n) (y0 : 0 ≤ y) (y1 : y < n) (h : (img p n x).1 = (img p n y).1) : x = y := by
  obtain ⟨g0, g⟩ := side_facts hv x0 x1
  obtain ⟨k0, k⟩ := side_facts hv y0 y1
  by_cases ha : (side p n x).a = (side p n y).a
  · have hd : (side p n x).d = (side p n y).d := by
      unfold img imgE at h
      dsimp only at h
      rw [ha] at h
      split at h <;> omega
    unfold side at ha hd
    by_cases hb : n - 1 - x < p.bot.length
    · by_cases hb' : n - 1 - y < p.bot.length
      · rw [if_pos hb, if_pos hb'] at ha hd
        have := (hv.inj ha hd).2
        omega
      · rw [if_pos hb, if_neg hb'] at ha hd
        exact Bool.noConfusion (hv.inj ha hd).1
    · by_cases hb' : n - 1 - y < p.bot.length
      · rw [if_neg hb, if_pos hb'] at ha hd
        exact Bool.noConfusion (hv.inj ha hd).1
      · rw [if_neg hb, if_neg hb'] at ha hd
        have := (hv.inj ha hd).2
        omega
  · exfalso
    have hs : (side p n x).d + (side p n y).d = n - 1 := by
      unfold img imgE at h
      dsimp only at h
      generalize side p n x = e at *
      generalize side p n y = e' at *
      obtain ⟨a, d, f⟩ := e
      obtain ⟨a', d', f'⟩ := e'
      dsimp only at *
      cases a <;> cases a' <;> simp at ha h <;> omega
    have ht : (side p n y).a = !(side p n x).a := by
      revert ha
      cases (side p n x).a <;> cases (side p n y).a <;> simp
    obtain ⟨f1, f2, f3⟩ := fst_le hv (side p n x).a
    rw [ht] at k
    rcases g with g | ⟨ga, gb, gc, gd⟩
    · rcases k with k | ⟨ka, kb, kc, kd⟩
      · omega
      · omega
    · rcases k with k | ⟨ka, kb, kc, kd⟩
      · omega
      · rw [gc] at kc
        revert kc
        cases p.t <;> simp
/-- sorted, the places of all images are all places -/
theorem imgs_sorted {p : Pt} (hv : Valid p) {n : Nat} (hn : (p.top.length : Int) + p.bot.length ≤ n) {ns : List Int} (hp : ns.Perm ((List.range n).map fun (x : Nat) => (img p n x).1)) (hs : ns.Pairwise (· ≤ ·)) : ns = (List.range n).map fun (x : Nat) => (x : Int) := by
  have nd0 : ((List.range n).map fun (x : Nat) => (img p n x).1).Nodup := nodup_map List.nodup_range fun x hx y hy e => by
    have := img_inj hv hn (Int.natCast_nonneg x) (by have := List.mem_range.mp hx; omega) (Int.natCast_nonneg y) (by have := List.mem_range.mp hy; omega) e
    omega
  have nd : ns.Nodup := hp.nodup_iff.mpr nd0
  have lt : ns.Pairwise (· < ·) := (hs.and nd).imp fun {x y} h => Int.lt_iff_le_and_ne.mpr h
  have sub : ∀ x ∈ ns, x ∈ (List.range n).map fun (x : Nat) => (x : Int) := fun x hx => by
    obtain ⟨y, hy, rfl⟩ := List.mem_map.mp (hp.mem_iff.mp hx)
    have hy := List.mem_range.mp hy
    obtain ⟨r0, r1⟩ := img_range hv hn (Int.natCast_nonneg y) (by omega)
    exact List.mem_map.mpr ⟨(img p n y).1.toNat, List.mem_range.mpr (by omega), Int.toNat_of_nonneg r0⟩
  refine sorted_ext lt (List.pairwise_map.mpr (List.Pairwise.imp (fun h => Int.ofNat_lt.mpr h) List.pairwise_lt_range)) fun x => ⟨sub x, fun hx => ?_⟩
  refine sub_all nd sub ?_ x hx
  rw [hp.length_eq, List.length_map, List.length_map]
  exact Nat.le_refl _
end Fm
namespace Fm
/-- a table, and n entries more that the rule gives as well -/
def more (t : Bool) (s : Int) (a : Bool) (l : List En) (n : Nat) : List En := l ++ (List.range n).map fun k : Nat => ruled t s a ((l.length : Int) + k)
theorem more_len (t : Bool) (s : Int) (a : Bool) (l : List En) (n : Nat) : (more t s a l n).length = l.length + n := by
  unfold more
  rw [List.length_append, List.length_map, List.length_range]
theorem rd_more (t : Bool) (s : Int) (a : Bool) (l : List En) (n d : Nat) : rd t s a (more t s a l n) d = rd t s a l d := by
  unfold rd more
  by_cases h : d < l.length
  · rw [List.getElem?_append_left h]
  · rw [List.getElem?_append_right (by omega), List.getElem?_eq_none (l := l) (by omega)]
    by_cases h2 : d - l.length < n
    · rw [List.getElem?_map, List.getElem?_range h2]
      show ruled t s a ((l.length : Int) + ((d - l.length : Nat) : Int)) = ruled t s a d
      congr 1
      omega
    · rw [List.getElem?_eq_none (by rw [List.length_map, List.length_range]; omega)]
theorem valid_like {p q : Pt} (h : Valid p) (e : ∀ a d, (entry q a d).a = (entry p a d).a ∧ (entry q a d).d = (entry p a d).d) : Valid q := by
  refine .of (fun a d => ?_) fun a d a' d' h1 h2 => ?_
  · rw [(e a d).2]
    exact h.wf a d
  · rw [(e a d).1, (e a' d').1] at h1
    rw [(e a d).2, (e a' d').2] at h2
    exact h.inj h1 h2
theorem entry_more (t : Bool) (s : Int) (l m : List En) (n k : Nat) (a : Bool) (d : Nat) : entry ⟨t, s, more t s true l n, more t s false m k⟩ a d = entry ⟨t, s, l, m⟩ a d := by
  cases a
  · exact rd_more t s false m k d
  · exact rd_more t s true l n d
theorem valid_more {t : Bool} {s : Int} {l m : List En} (n k : Nat) (h : Valid ⟨t, s, l, m⟩) : Valid ⟨t, s, more t s true l n, more t s false m k⟩ := valid_like h fun a d => by rw [entry_more]; exact ⟨rfl, rfl⟩
theorem normal_more (t : Bool) (s : Int) (l m : List En) (n k : Nat) : normal t s (more t s true l n) (more t s false m k) = normal t s l m := by
  refine form_ext (normal_norm _ _ _ _) (normal_norm _ _ _ _) rfl rfl fun a d => ?_
  rw [normal_entry, normal_entry]
  cases a
  · exact rd_more t s false m k d
  · exact rd_more t s true l n d
/-- an entry turned over -/
def bent (l : List En) (i : Nat) : List En := l.set i ⟨((l[i]?).getD ⟨true, 0, false⟩).a, ((l[i]?).getD ⟨true, 0, false⟩).d, !((l[i]?).getD ⟨true, 0, false⟩).f⟩
theorem rd_bent {t : Bool} {s : Int} {a : Bool} {l : List En} {i d : Nat} (hi : i < l.length) : (rd t s a (bent l i) d).a = (rd t s a l d).a ∧ (rd t s a (bent l i) d).d = (rd t s a l d).d ∧ (rd t s a (bent l i) i).f = !(rd t s a l i).f := by
  have e1 : l[i]? = some l[i] := List.getElem?_eq_getElem hi
  have e2 : rd t s a (bent l i) i = ⟨l[i].a, l[i].d, !l[i].f⟩ := by
    unfold rd bent
    rw [List.getElem?_set_self hi, e1]
    rfl
  have e3 : rd t s a l i = l[i] := by
    unfold rd
    rw [e1]
    rfl
  refine ⟨?_, ?_, by rw [e2, e3]⟩
  · by_cases h : d = i
    · rw [h, e2, e3]
    · unfold rd bent
      rw [List.getElem?_set_ne (Ne.symm h)]
  · by_cases h : d = i
    · rw [h, e2, e3]
    · unfold rd bent
      rw [List.getElem?_set_ne (Ne.symm h)]
theorem valid_bent {t : Bool} {s : Int} {l m : List En} {i : Nat} (hi : i < l.length) (h : Valid ⟨t, s, l, m⟩) : Valid ⟨t, s, bent l i, m⟩ := valid_like h fun a d => by
  cases a
  · exact ⟨rfl, rfl⟩
  · exact ⟨(rd_bent hi).1, (rd_bent hi).2.1⟩
theorem bent_ne {t : Bool} {s : Int} {l m : List En} {i : Nat} (hi : i < l.length) : normal t s (bent l i) m ≠ normal t s l m := fun e => by
  have e := congrArg (fun p => (entry p true i).f) e
  have e : (entry (normal t s (bent l i) m) true i).f = (entry (normal t s l m) true i).f := e
  rw [normal_entry, normal_entry, if_pos rfl, if_pos rfl, (rd_bent (d := i) hi).2.2] at e
  cases h : (rd t s true l i).f <;> rw [h] at e <;> exact nomatch e
theorem bent_len (l : List En) (i : Nat) : (bent l i).length = l.length := by unfold bent; rw [List.length_set]
theorem still_more : Valid ⟨false, 0, [⟨true, 0, false⟩], []⟩ ∧ normal false 0 [⟨true, 0, false⟩] [] = still := ⟨valid_more (l := []) (m := []) 1 0 still_valid, normal_more false 0 [] [] 1 0⟩
theorem turned_still : Valid ⟨true, 0, [], []⟩ := .of (fun a d => by cases a <;> simp [entry, rd, tabL, ruled]) fun a d a' d' h1 h2 => by
  cases a <;> cases a' <;> simp [entry, rd, tabL, ruled] at h1 h2 ⊢ <;> omega
end Fm
namespace Z
open PySem PySem.Spec PyProof.Rows L2
-- what stands at an address
local macro_rules | `(tactic| walk_at "hp") => `(tactic| first | assumption | exact upd_same | exact BagAt.at_ (by assumption) | exact BagAt.cells (by assumption) | fail "hp")
local macro_rules | `(tactic| walk_at "sq") => `(tactic| first | assumption | (refine Or.inl (Or.inl ?_); walk_at "hp") | (apply Same.seq <;> assumption))
-- bounds
local macro_rules | `(tactic| walk_at "num") => `(tactic| first
  | exact rfl | decide | exact le_line (Nat.le_of_ble_eq_true rfl) | exact lt_line (Nat.le_of_ble_eq_true rfl)
  | (exact mul_ok (small_abs (by omega)) (small_abs (by omega)))
  | (exact div_small (by omega) (by omega))
  | (exact div_ok (by omega) (by assumption))
  | (refine ⟨?_, ?_⟩ <;> omega) | omega
  | (show (_ : Int) ≠ 0; omega) | (show CPow _ _; unfold CPow; decide))
-- one step
local macro_rules | `(tactic| walk_at "rd") => `(tactic| first
  | (refine Exists.intro _ (And.intro rfl ?_))
  | (refine Exists.intro _ (Exists.intro _ (And.intro rfl (And.intro rfl ?_))))
  | (refine Or.inl (Exists.intro _ (And.intro rfl ?_)))
  | (refine Or.inr (Exists.intro _ (And.intro rfl ?_)))
  | (with_reducible refine iteF ?_) | (with_reducible refine iteT ?_)
  | (refine And.intro ?cc ?_; (case cc => walk_at "num"))
  | (refine' Exists.intro _ (Exists.intro _ (Exists.intro _ (Exists.intro _ (And.intro rfl (And.intro rfl (And.intro ?sq (And.intro ?ha ?k))))))); (case sq => walk_at "sq"); (case ha => first | exact rfl | assumption | exact at_zero))
  | (refine' Exists.intro _ (Exists.intro _ (And.intro rfl (And.intro (Or.inl ?sq) ?k))); (case sq => walk_at "sq")))
local macro_rules | `(tactic| walk_at "sqt") => `(tactic| first | assumption | (refine Or.inl (Or.inl ?_); walk_at "hp") | (apply Same.tup <;> assumption))
local macro_rules | `(tactic| walk_at "rdt") => `(tactic| first
  | walk_at "rd"
  | (refine' Exists.intro _ (Exists.intro _ (And.intro rfl (And.intro (Or.inr ?sq) ?k))); (case sq => walk_at "sqt"))
  | (refine' Exists.intro _ (Exists.intro _ (Exists.intro _ (Exists.intro _ (And.intro rfl (And.intro rfl (And.intro ?sq (And.intro ?ha ?k))))))); (case sq => walk_at "sqt"); (case ha => first | exact rfl | assumption | exact at_zero))
  | (refine iteF ?_) | (refine iteT ?_))
local macro_rules | `(tactic| walk_at "rds") => `(tactic| repeat walk_at "rdt")
local macro_rules | `(tactic| walk_at "pull") => `(tactic| (refine' Exists.intro _ (Exists.intro _ (Exists.intro _ (And.intro rfl (And.intro ?bag (And.intro ?pos (And.intro ?fit ?kk)))))); (case bag => assumption); (case pos => first | decide | omega); (case fit => exact Fit.of (by first | decide | omega) (by first | decide | omega))))
local macro_rules | `(tactic| walk_at "two") => `(tactic| refine Exists.intro _ (Exists.intro _ (And.intro rfl ?_)))
/-! ### steps by data -/
local macro_rules | `(tactic| walk_at "side") => `(tactic| first
  | exact rfl | assumption | exact Nat.le_of_ble_eq_true rfl | decide | exact True.intro | exact le_line (Nat.le_of_ble_eq_true rfl) | exact lt_line (Nat.le_of_ble_eq_true rfl) | omega | (show (_ : Int) ≠ 0; omega) | exact cut1_ok | (unfold CPow; decide) | exact mul_ok (small_abs (by omega)) (small_abs (by omega)) | exact div_small (by omega) (by omega))
local macro_rules | `(tactic| walk_at "dR") => `(tactic| first
  | with_reducible refine run_seq ?_ | with_reducible refine run_if ?_ | with_reducible refine run_set ?_ | with_reducible refine run_ret ?_ | with_reducible refine run_next ?_
  | with_reducible refine run_asg ?_ | with_reducible refine run_for ?_ | ((with_reducible refine' run_append ?ev ?kk); (case ev => exact rfl)) | ((with_reducible refine' run_aug ?ev ?kk); (case ev => exact rfl))
  | with_reducible refine run_par ?_ | with_reducible refine run_drop ?_ | with_reducible refine run_retN ?_ | with_reducible refine run_break ?_ | with_reducible refine run_cont ?_)
local macro_rules | `(tactic| walk_at "dE") => `(tactic| first
  | ((with_reducible refine' ev_var ?ev ?kk); (case ev => exact rfl))
  | with_reducible refine ev_op ?_ | with_reducible refine ev_int ?_ | with_reducible refine ev_str ?_ | with_reducible refine ev_callC (by assumption) ?_ | with_reducible refine ev_callX (by assumption) ?_ | with_reducible refine ev_call ?_ | with_reducible refine ev_cb ?_ | with_reducible refine ev_tup ?_
  | with_reducible refine ev_if ?_ | with_reducible refine ev_and ?_ | with_reducible refine ev_or ?_ | with_reducible refine ev_not ?_ | with_reducible refine ev_bl ?_ | with_reducible refine ev_non ?_ | with_reducible refine ev_isi ?_
  | with_reducible refine ev_un ?_ | with_reducible refine ev_chain ?_ | with_reducible refine ev_lst ?_ | with_reducible refine ev_cbf ?_ | with_reducible refine ev_sl ?_ | with_reducible refine ev_m1 ?_ | with_reducible refine ev_kget ?_ | with_reducible refine ev_fmt ?_ | with_reducible refine ev_join ?_ | with_reducible refine ev_ty ?_ | with_reducible refine ev_cV ?_)
local macro_rules | `(tactic| walk_at "dT") => `(tactic| first
  | with_reducible refine evt_t ?_ | with_reducible refine evt_b ?_ | with_reducible refine evt_and ?_ | with_reducible refine evt_or ?_ | with_reducible refine evt_not ?_ | with_reducible refine evt_yes ?_)
local macro_rules | `(tactic| walk_at "dX") => `(tactic| first
  | ((with_reducible refine' evx_name ?ev ?kk); (case ev => first | exact rfl | assumption)) | with_reducible refine evx_tup ?_ | with_reducible refine evx_lst ?_ | with_reducible refine evxs_cons ?_ | with_reducible refine evxs_nil ?_
  | ((with_reducible refine' evg_name ?ev ?mm ?kk); (case ev => first | exact rfl | assumption); (case mm => decide)) | with_reducible refine evg_tup ?_ | with_reducible refine evg_lst ?_ | with_reducible refine evgs_cons ?_ | with_reducible refine evgs_nil ?_
  | with_reducible refine evi_list ?_ | with_reducible refine evi_tup ?_ | with_reducible refine evi_rng1 ?_ | with_reducible refine evi_rng2 ?_ | with_reducible refine evi_enum ?_ | with_reducible refine evi_zip ?_
  | with_reducible refine evo_none ?_ | with_reducible refine evo_some ?_ | with_reducible refine evj_cons ?_ | with_reducible refine evj_nil ?_)
local macro_rules | `(tactic| walk_at "d1") => `(tactic| first
  | ((with_reducible change Ev _ _ _ _ _); walk_at "dE")
  | ((with_reducible change Run _ _ _ _ _); walk_at "dR")
  | with_reducible refine eva_cons ?_ | with_reducible refine eva_nil ?_
  | ((with_reducible change EvT _ _ _ _ _); walk_at "dT")
  | with_reducible refine eva_star ?_
  | with_reducible refine iteT ?_ | with_reducible refine iteF ?_
  | ((with_reducible change if (_ : Bool) = true then _ else _); first | refine iteT ?_ | refine iteF ?_)
  | ((with_reducible refine And.intro ?cc ?_); (case cc => walk_at "side"))
  | ((with_reducible refine' Exists.intro _ (And.intro ?cc ?kk)); (case cc => first | exact rfl | exact at_zero))
  | ((with_reducible refine' Exists.intro _ (Exists.intro _ (And.intro ?cc ?kk))); (case cc => exact rfl))
  | ((with_reducible refine' Exists.intro _ (Exists.intro _ (Exists.intro _ (And.intro ?cc (And.intro ?cd ?kk))))); (case cc => exact rfl); (case cd => exact rfl))
  | ((with_reducible refine' Exists.intro _ (Exists.intro _ (Exists.intro _ (And.intro ?cc ?kk)))); (case cc => exact rfl))
  | ((with_reducible refine' Exists.intro _ (Exists.intro _ (Exists.intro _ (Exists.intro _ (And.intro ?cc ?kk))))); (case cc => exact rfl))
  | walk_at "dX")
local macro_rules | `(tactic| walk_at "d2") => `(tactic| walk_at "d1")
local macro_rules | `(tactic| walk_at "dgo") => `(tactic| repeat walk_at "d1")
local macro_rules | `(tactic| walk_at "wk") => `(tactic| repeat first | exact True.intro | refine And.intro (Or.inl rfl) ?_ | refine And.intro (Or.inr (And.intro rfl rfl)) ?_)
/-! ### end places by data -/
def fine (d : D) : Prop := d.pure = true ∧ SeqAt.shaped d.py = true
@[reducible] def isNum : D → Bool
  | .int _ => true
  | _ => false
def isEnd (d : D) : Bool := PyData.eqv d.py (.str "top") || PyData.eqv d.py (.str "bottom")
def isN0 : D → Bool
  | .int i => decide (0 ≤ i)
  | _ => false
def isEP : D → Bool
  | .tup [a, b] => isEnd a && isN0 b
  | _ => false
theorem isiOk_of {d : D} (h : d.pure = true) : isiOk d = true := by cases d <;> first | rfl | exact Bool.noConfusion h
theorem fine_str {z : Str} (h : PyData.strOk z = true) : fine (.str z) := ⟨rfl, by show (PyData.strOk z && _) = true; rw [h]; rfl⟩
theorem fine_int (i : Int) : fine (.int i) := ⟨rfl, rfl⟩
theorem canLayAll_get : ∀ {l : List D} {i : Nat} {d : D}, PyData.canLayAll0 (pys l) = true → l[i]? = some d → d.py.canLay0 = true
  | [], i, d, _, e => by simp at e
  | x :: l, i, d, h, e => by
    have h' : (PyData.canLay0 x.py && PyData.canLayAll0 (pys l)) = true := h
    obtain ⟨h1, h2⟩ := Bool.and_eq_true_iff.mp h'
    cases i with
    | zero => cases e; exact h1
    | succ i => exact canLayAll_get h2 (by simpa using e)
theorem pures_get : ∀ {l : List D} {i : Nat} {d : D}, pures l = true → l[i]? = some d → d.pure = true
  | [], i, d, _, e => by simp at e
  | x :: l, i, d, h, e => by
    have h' : (x.pure && pures l) = true := h
    obtain ⟨h1, h2⟩ := Bool.and_eq_true_iff.mp h'
    cases i with
    | zero => cases e; exact h1
    | succ i => exact pures_get h2 (by simpa using e)
/-- fine data of at most so many layers -/
def fineN (n : Nat) (d : D) : Prop := d.pure = true ∧ d.py.canLay0 = true ∧ d.py.depth ≤ n
theorem fineN.fine {n : Nat} {d : D} (h : fineN n d) (hn : n ≤ 64 := by decide) : fine d := by
  refine ⟨h.1, ?_⟩
  unfold SeqAt.shaped
  rw [h.2.1, Bool.true_and]
  exact decide_eq_true (Nat.le_trans h.2.2 hn)
theorem fineN.mono {n m : Nat} {d : D} (h : fineN n d) (hn : n ≤ m) : fineN m d := ⟨h.1, h.2.1, Nat.le_trans h.2.2 hn⟩
theorem fineN_int (n : Nat) (i : Int) : fineN n (.int i) := ⟨rfl, by simp [D.py, PyData.canLay0], by simp [D.py, PyData.depth]⟩
theorem fineN_bl (n : Nat) (i : Bool) : fineN n (.bl i) := ⟨rfl, by simp [D.py, PyData.canLay0], by simp [D.py, PyData.depth]⟩
theorem fineN_non (n : Nat) : fineN n .non := ⟨rfl, by simp [D.py, PyData.canLay0], by simp [D.py, PyData.depth]⟩
theorem fineN_str (n : Nat) {z : Str} (h : PyData.strOk z = true) : fineN n (.str z) := ⟨rfl, by simpa [D.py, PyData.canLay0] using h, by simp [D.py, PyData.depth]⟩
theorem finesN {n : Nat} {l : List D} (h : ∀ d, d ∈ l → fineN n d) : pures l = true ∧ PyData.canLayAll0 (pys l) = true ∧ PyData.depthAll (pys l) ≤ n := by
  induction l with
  | nil => exact ⟨rfl, by simp [pys, PyData.canLayAll0], by simp [pys, PyData.depthAll]⟩
  | cons x l ih =>
    obtain ⟨h1, h2, h3⟩ := ih fun d m => h d (List.mem_cons_of_mem _ m)
    obtain ⟨g1, g2, g3⟩ := h x List.mem_cons_self
    refine ⟨?_, ?_, ?_⟩
    · show (x.pure && pures l) = true
      rw [g1, h1]; rfl
    · simp [pys, PyData.canLayAll0, g2, h2]
    · simp only [pys, PyData.depthAll]
      omega
theorem fineN_tup {n : Nat} {l : List D} (h : ∀ d, d ∈ l → fineN n d) : fineN (n + 1) (.tup l) := by
  obtain ⟨h1, h2, h3⟩ := finesN h
  exact ⟨h1, by simpa [D.py, PyData.canLay0] using h2, by simp only [D.py, PyData.depth]; omega⟩
theorem fineN_lst {n : Nat} {l : List D} (h : ∀ d, d ∈ l → fineN n d) : fineN (n + 1) (.lst l) := by
  obtain ⟨h1, h2, h3⟩ := finesN h
  exact ⟨h1, by simpa [D.py, PyData.canLay0] using h2, by simp only [D.py, PyData.depth]; omega⟩
section
variable {P : Program} {w : World} {K : PySem.W.Frag} {mg : Str → Option Value} {base : Heap}
abbrev S_isnum : Sd := fun _ ds Pq => ∃ d, ds = [d] ∧ isiOk d = true ∧ Pq (.ok (.bl (isNum d)))
theorem ok_is_number (T : Txt K mg w) : FnOk P w K mg base CX0 1 T.a_is_number T.d_is_number P_is_number (spD K S_isnum) := by
  refine okD T.F_is_number sc_is_number (fun bs ds Pq h => ?_) (fun cdv A outer s H E hr => ⟨_, (pss_one (ps_ret (pe_and (k_isi6 (K := K) .int (pv 0) (pe_bltn (v := .ty "int") (by rfl) T.m_int boot_int rfl) (by rfl) T.m_isinstance) (pe_one (pe_not (k_isi6 (K := K) .bool (pv 0) (pe_bltn (v := .ty "bool") (by rfl) T.m_bool boot_bool rfl) (by rfl) T.m_isinstance)))))), ?_⟩)
  · obtain ⟨d, rfl, _⟩ := h
    rfl
  · rintro C ds Pq hE hX ⟨d, rfl, h1, q⟩
    cases d <;> first | exact Bool.noConfusion h1 | (walk_at "dgo"; exact q)
abbrev S_isend : Sd := fun _ ds Pq => ∃ d, ds = [d] ∧ fine d ∧ Pq (.ok (.bl (isEnd d)))
theorem fine_top : SeqAt.shaped (D.str "top").py = true := by decide +kernel
theorem fine_bottom : SeqAt.shaped (D.str "bottom").py = true := by decide +kernel
theorem ok_is_end (T : Txt K mg w) : FnOk P w K mg base CX0 1 T.a_is_end T.d_is_end P_is_end (spD K S_isend) := by
  refine okD T.F_is_end sc_is_end (fun bs ds Pq h => ?_) (fun cdv A outer s H E hr => ⟨_, (pss_one (ps_ret (pe_or (pe_cmpR (k_eqD (K := K) hr.units) (pv 0) pe_str (nomark _)) (pe_one (pe_cmpR (k_eqD (K := K) hr.units) (pv 0) pe_str (nomark _)))))), ?_⟩)
  · obtain ⟨d, rfl, _⟩ := h
    rfl
  · rintro C ds Pq hE hX ⟨d, rfl, ⟨h1, h2⟩, q⟩
    have f1 := fine_top
    have f2 := fine_bottom
    unfold isEnd at q
    walk_at "dgo"
    cases e : PyData.eqv d.py (D.str "top").py with
    | true =>
      rw [show PyData.eqv d.py (.str "top") = true from e] at q
      walk_at "dgo"
      exact q
    | false =>
      rw [show PyData.eqv d.py (.str "top") = false from e] at q
      walk_at "dgo"
      exact q
abbrev S_isep : Sd := fun _ ds Pq => ∃ d, ds = [d] ∧ fine d ∧ Pq (.ok (.bl (isEP d)))
theorem fine_get {l : List D} {i : Nat} {d : D} (h : fine (.tup l)) (e : l[i]? = some d) : fine d := by
  refine ⟨pures_get h.1 e, ?_⟩
  have h1 := SeqAt.canLay_of_shaped h.2
  have h2 := SeqAt.depth_of_shaped h.2
  have h3 : d.py.canLay0 = true := canLayAll_get h1 e
  unfold SeqAt.shaped
  rw [h3, Bool.true_and]
  refine decide_eq_true (Nat.le_trans ?_ h2)
  show d.py.depth ≤ PyData.depth (.tuple (pys l))
  have h4 : d.py ∈ pys l := by
    clear h h1 h2 h3
    induction l generalizing i with
    | nil => simp at e
    | cons x l ih =>
      cases i with
      | zero => cases e; exact List.mem_cons_self
      | succ i => exact List.mem_cons_of_mem _ (ih (by simpa using e))
  have h5 := PyData.depth_le_depthAll (pys l) d.py h4
  first
    | exact Nat.le_succ_of_le h5
    | (unfold PyData.depth; omega)
theorem ok_is_end_place (T : Txt K mg w) : FnOk P w K mg base CX0 2 T.a_is_end_place T.d_is_end_place P_is_end_place (spD K S_isep) := by
  have G_is_number := ok_is_number (P := P) (w := w) (base := base) T
  have G_is_end := ok_is_end (P := P) (w := w) (base := base) T
  refine okD T.F_is_end_place sc_is_end_place (fun bs ds Pq h => ?_) (fun cdv A outer s H E hr => ⟨_, (pss_cons (ps_if (PW.pt (pw_or (pt_not (pt_val (k_isi6 (K := K) .tuple (pv 0) (pe_bltn (v := .ty "tuple") (by rfl) T.m_tuple boot_tuple rfl) (by rfl) T.m_isinstance))) (pw_or1 (pt_cmpR op_ne (pe_callB (k_len (K := K)) (by rfl) T.m_len boot_len (pa_cons (pv 0) pa_nil)) pe_int (nomark _)))))
  (pss_one (ps_ret pe_bl)) pss_nil)
  (pss_one (ps_ret (pe_and (pe_call G_is_end (hr.mono (by decide)) (by rfl) T.g_is_end T.F_is_end.kp T.b_is_end .nil pass0 (pa_cons (pe_ix (k_ixT (K := K)) (pv 0) pe_int (fun _ _ => rfl)) pa_nil)) (pe_and (pe_call G_is_number (hr.mono (by decide)) (by rfl) T.g_is_number T.F_is_number.kp T.b_is_number .nil pass0 (pa_cons (pe_ix (k_ixT (K := K)) (pv 0) pe_int (fun _ _ => rfl)) pa_nil)) (pe_one (pe_cmpR op_ge (pe_ix (k_ixT (K := K)) (pv 0) pe_int (fun _ _ => rfl)) pe_int (nomark _)))))))), ?_⟩)
  · obtain ⟨d, rfl, _⟩ := h
    rfl
  · rintro C ds Pq hE hX ⟨d, rfl, hf, q⟩
    have h1 := isiOk_of hf.1
    cases d with
    | tup l =>
      walk_at "dgo"
      refine iteNE (fun ne => ?_) (fun e => ?_)
      · have : isEP (.tup l) = false := by
          match l, ne with
          | [], _ => rfl
          | [_], _ => rfl
          | [_, _], ne => exact absurd rfl ne
          | _ :: _ :: _ :: _, _ => rfl
        rw [this] at q
        walk_at "dgo"
        exact q
      · obtain ⟨a, b, rfl⟩ : ∃ a b, l = [a, b] := by
          match l, e with
          | [a, b], _ => exact ⟨a, b, rfl⟩
          | [], e => exact absurd e (by decide)
          | [_], e => exact absurd e (by simp)
          | _ :: _ :: _ :: l, e => exact absurd e (by simp only [List.length_cons]; omega)
        have fa := fine_get (i := 0) hf rfl
        have fb := fine_get (i := 1) hf rfl
        walk_at "dgo"
        have q' : Pq (.ok (.bl (isEnd a && isN0 b))) := q
        clear q
        generalize isEnd a = ea at q' ⊢
        cases ea with
        | false =>
          walk_at "dgo"
          exact q'
        | true =>
          have ob := isiOk_of fb.1
          walk_at "dgo"
          cases b <;> (walk_at "dgo"; exact q')
    | _ => walk_at "dgo"; exact q
end
section
variable {P : Program} {w : World} {K : PySem.W.Frag} {mg : Str → Option Value} {base : Heap}
theorem ok_PileError (T : Txt K mg w) : FnOk P w K mg base CX0 1 T.f_PileError T.d_PileError P_PileError (sp_pe K) := by
  refine T.F_PileError.ok (CX := CX0) sc_PileError (fun vs H Q E h => ?_) (fun cdv A outer s H vs Q E hr h => ?_)
  · obtain ⟨a, C, z, rfl, _⟩ := h
    rfl
  · obtain ⟨a, C, z, rfl, hO, hn, ha, q⟩ := h
    refine ⟨_, pss_one (ps_ost (pv 0) (pv 1)), ?_⟩
    exact ⟨_, rfl, _, rfl, a, C, rfl, hO, hn, .inl ⟨ha, fun dx n ne => q dx n ne⟩⟩
theorem ok_BadPlace (T : Txt K mg w) : FnOk P w K mg base CX0 2 T.f_BadPlace T.d_BadPlace P_BadPlace (sp_x1 K T.a_BadPlace "place" "BadPlace") := by
  have G_PE := ok_PileError (P := P) (w := w) (base := base) T
  refine T.F_BadPlace.ok sc_BadPlace (fun vs H Q E h => ?_) (fun cdv A outer s H vs Q E hr h => ?_)
  · obtain ⟨a, v, rfl, _⟩ := h
    rfl
  · obtain ⟨a, v, rfl, ha, q⟩ := h
    refine ⟨_, pss_cons (ps_expr (pe_clsfn (by rfl) T.g_PileError T.r_PileError T.v_PileError G_PE (hr.mono (by decide)) T.F_PileError.kp T.b_PileError pass0 (pa_cons (pv 0) (pa_cons pe_str pa_nil)))) (pss_one (ps_ost (pv 0) (pv 1))), ?_⟩
    refine ⟨_, rfl, a, T.a_BadPlace, _, rfl, T.x_BadPlace.o, T.x_BadPlace.no _ (List.mem_cons_self ..), ha, fun dx n ne => ?_⟩
    refine ⟨_, rfl, _, rfl, a, T.a_BadPlace, rfl, T.x_BadPlace.o, T.x_BadPlace.no _ (List.mem_cons_of_mem _ (List.mem_cons_self ..)), .inr ⟨dx, _, upd_same, by rw [upd_ne ne, upd_same], by decide, ?_⟩⟩
    exact q dx _ n ne (by rw [upd_ne (Ne.symm ne), upd_same]) upd_same fun b h1 h2 => by rw [upd_ne h2, upd_ne h1, upd_ne h2]
theorem ok_BadMove (T : Txt K mg w) : FnOk P w K mg base CX0 2 T.f_BadMove T.d_BadMove P_BadMove (sp_x1 K T.a_BadMove "at" "BadMove") := by
  have G_PE := ok_PileError (P := P) (w := w) (base := base) T
  refine T.F_BadMove.ok sc_BadMove (fun vs H Q E h => ?_) (fun cdv A outer s H vs Q E hr h => ?_)
  · obtain ⟨a, v, rfl, _⟩ := h
    rfl
  · obtain ⟨a, v, rfl, ha, q⟩ := h
    refine ⟨_, pss_cons (ps_expr (pe_clsfn (by rfl) T.g_PileError T.r_PileError T.v_PileError G_PE (hr.mono (by decide)) T.F_PileError.kp T.b_PileError pass0 (pa_cons (pv 0) (pa_cons pe_str pa_nil)))) (pss_one (ps_ost (pv 0) (pv 1))), ?_⟩
    refine ⟨_, rfl, a, T.a_BadMove, _, rfl, T.x_BadMove.o, T.x_BadMove.no _ (List.mem_cons_self ..), ha, fun dx n ne => ?_⟩
    refine ⟨_, rfl, _, rfl, a, T.a_BadMove, rfl, T.x_BadMove.o, T.x_BadMove.no _ (List.mem_cons_of_mem _ (List.mem_cons_self ..)), .inr ⟨dx, _, upd_same, by rw [upd_ne ne, upd_same], by decide, ?_⟩⟩
    exact q dx _ n ne (by rw [upd_ne (Ne.symm ne), upd_same]) upd_same fun b h1 h2 => by rw [upd_ne h2, upd_ne h1, upd_ne h2]
theorem ok_TooWide (T : Txt K mg w) : FnOk P w K mg base CX0 2 T.f_TooWide T.d_TooWide P_TooWide (sp_x1 K T.a_TooWide "limit" "TooWide") := by
  have G_PE := ok_PileError (P := P) (w := w) (base := base) T
  refine T.F_TooWide.ok sc_TooWide (fun vs H Q E h => ?_) (fun cdv A outer s H vs Q E hr h => ?_)
  · obtain ⟨a, v, rfl, _⟩ := h
    rfl
  · obtain ⟨a, v, rfl, ha, q⟩ := h
    refine ⟨_, pss_cons (ps_expr (pe_clsfn (by rfl) T.g_PileError T.r_PileError T.v_PileError G_PE (hr.mono (by decide)) T.F_PileError.kp T.b_PileError pass0 (pa_cons (pv 0) (pa_cons pe_str pa_nil)))) (pss_one (ps_ost (pv 0) (pv 1))), ?_⟩
    refine ⟨_, rfl, a, T.a_TooWide, _, rfl, T.x_TooWide.o, T.x_TooWide.no _ (List.mem_cons_self ..), ha, fun dx n ne => ?_⟩
    refine ⟨_, rfl, _, rfl, a, T.a_TooWide, rfl, T.x_TooWide.o, T.x_TooWide.no _ (List.mem_cons_of_mem _ (List.mem_cons_self ..)), .inr ⟨dx, _, upd_same, by rw [upd_ne ne, upd_same], by decide, ?_⟩⟩
    exact q dx _ n ne (by rw [upd_ne (Ne.symm ne), upd_same]) upd_same fun b h1 h2 => by rw [upd_ne h2, upd_ne h1, upd_ne h2]
theorem ok_BadSize (T : Txt K mg w) : FnOk P w K mg base CX0 2 T.f_BadSize T.d_BadSize P_BadSize (sp_x1 K T.a_BadSize "size" "BadSize") := by
  have G_PE := ok_PileError (P := P) (w := w) (base := base) T
  refine T.F_BadSize.ok sc_BadSize (fun vs H Q E h => ?_) (fun cdv A outer s H vs Q E hr h => ?_)
  · obtain ⟨a, v, rfl, _⟩ := h
    rfl
  · obtain ⟨a, v, rfl, ha, q⟩ := h
    refine ⟨_, pss_cons (ps_expr (pe_clsfn (by rfl) T.g_PileError T.r_PileError T.v_PileError G_PE (hr.mono (by decide)) T.F_PileError.kp T.b_PileError pass0 (pa_cons (pv 0) (pa_cons pe_str pa_nil)))) (pss_one (ps_ost (pv 0) (pv 1))), ?_⟩
    refine ⟨_, rfl, a, T.a_BadSize, _, rfl, T.x_BadSize.o, T.x_BadSize.no _ (List.mem_cons_self ..), ha, fun dx n ne => ?_⟩
    refine ⟨_, rfl, _, rfl, a, T.a_BadSize, rfl, T.x_BadSize.o, T.x_BadSize.no _ (List.mem_cons_of_mem _ (List.mem_cons_self ..)), .inr ⟨dx, _, upd_same, by rw [upd_ne ne, upd_same], by decide, ?_⟩⟩
    exact q dx _ n ne (by rw [upd_ne (Ne.symm ne), upd_same]) upd_same fun b h1 h2 => by rw [upd_ne h2, upd_ne h1, upd_ne h2]
theorem ok_TooGreat (T : Txt K mg w) : FnOk P w K mg base CX0 2 T.f_TooGreat T.d_TooGreat P_TooGreat (sp_x1 K T.a_TooGreat "limit" "TooGreat") := by
  have G_PE := ok_PileError (P := P) (w := w) (base := base) T
  refine T.F_TooGreat.ok sc_TooGreat (fun vs H Q E h => ?_) (fun cdv A outer s H vs Q E hr h => ?_)
  · obtain ⟨a, v, rfl, _⟩ := h
    rfl
  · obtain ⟨a, v, rfl, ha, q⟩ := h
    refine ⟨_, pss_cons (ps_expr (pe_clsfn (by rfl) T.g_PileError T.r_PileError T.v_PileError G_PE (hr.mono (by decide)) T.F_PileError.kp T.b_PileError pass0 (pa_cons (pv 0) (pa_cons pe_str pa_nil)))) (pss_one (ps_ost (pv 0) (pv 1))), ?_⟩
    refine ⟨_, rfl, a, T.a_TooGreat, _, rfl, T.x_TooGreat.o, T.x_TooGreat.no _ (List.mem_cons_self ..), ha, fun dx n ne => ?_⟩
    refine ⟨_, rfl, _, rfl, a, T.a_TooGreat, rfl, T.x_TooGreat.o, T.x_TooGreat.no _ (List.mem_cons_of_mem _ (List.mem_cons_self ..)), .inr ⟨dx, _, upd_same, by rw [upd_ne ne, upd_same], by decide, ?_⟩⟩
    exact q dx _ n ne (by rw [upd_ne (Ne.symm ne), upd_same]) upd_same fun b h1 h2 => by rw [upd_ne h2, upd_ne h1, upd_ne h2]
theorem ok_TooSmall (T : Txt K mg w) : FnOk P w K mg base CX0 2 T.f_TooSmall T.d_TooSmall P_TooSmall (sp_x1 K T.a_TooSmall "limit" "TooSmall") := by
  have G_PE := ok_PileError (P := P) (w := w) (base := base) T
  refine T.F_TooSmall.ok sc_TooSmall (fun vs H Q E h => ?_) (fun cdv A outer s H vs Q E hr h => ?_)
  · obtain ⟨a, v, rfl, _⟩ := h
    rfl
  · obtain ⟨a, v, rfl, ha, q⟩ := h
    refine ⟨_, pss_cons (ps_expr (pe_clsfn (by rfl) T.g_PileError T.r_PileError T.v_PileError G_PE (hr.mono (by decide)) T.F_PileError.kp T.b_PileError pass0 (pa_cons (pv 0) (pa_cons pe_str pa_nil)))) (pss_one (ps_ost (pv 0) (pv 1))), ?_⟩
    refine ⟨_, rfl, a, T.a_TooSmall, _, rfl, T.x_TooSmall.o, T.x_TooSmall.no _ (List.mem_cons_self ..), ha, fun dx n ne => ?_⟩
    refine ⟨_, rfl, _, rfl, a, T.a_TooSmall, rfl, T.x_TooSmall.o, T.x_TooSmall.no _ (List.mem_cons_of_mem _ (List.mem_cons_self ..)), .inr ⟨dx, _, upd_same, by rw [upd_ne ne, upd_same], by decide, ?_⟩⟩
    exact q dx _ n ne (by rw [upd_ne (Ne.symm ne), upd_same]) upd_same fun b h1 h2 => by rw [upd_ne h2, upd_ne h1, upd_ne h2]
theorem ok_NoPlace (T : Txt K mg w) : FnOk P w K mg base CX0 2 T.f_NoPlace T.d_NoPlace P_NoPlace (sp_x1 K T.a_NoPlace "place" "NoPlace") := by
  have G_PE := ok_PileError (P := P) (w := w) (base := base) T
  refine T.F_NoPlace.ok sc_NoPlace (fun vs H Q E h => ?_) (fun cdv A outer s H vs Q E hr h => ?_)
  · obtain ⟨a, v, rfl, _⟩ := h
    rfl
  · obtain ⟨a, v, rfl, ha, q⟩ := h
    refine ⟨_, pss_cons (ps_expr (pe_clsfn (by rfl) T.g_PileError T.r_PileError T.v_PileError G_PE (hr.mono (by decide)) T.F_PileError.kp T.b_PileError pass0 (pa_cons (pv 0) (pa_cons pe_str pa_nil)))) (pss_one (ps_ost (pv 0) (pv 1))), ?_⟩
    refine ⟨_, rfl, a, T.a_NoPlace, _, rfl, T.x_NoPlace.o, T.x_NoPlace.no _ (List.mem_cons_self ..), ha, fun dx n ne => ?_⟩
    refine ⟨_, rfl, _, rfl, a, T.a_NoPlace, rfl, T.x_NoPlace.o, T.x_NoPlace.no _ (List.mem_cons_of_mem _ (List.mem_cons_self ..)), .inr ⟨dx, _, upd_same, by rw [upd_ne ne, upd_same], by decide, ?_⟩⟩
    exact q dx _ n ne (by rw [upd_ne (Ne.symm ne), upd_same]) upd_same fun b h1 h2 => by rw [upd_ne h2, upd_ne h1, upd_ne h2]
end
/-! ### the checks that may raise -/
def badSize (n : Int) : Prop := n < 0 ∨ 1000000000000000000000000000000 < n
instance (n : Int) : Decidable (badSize n) := by unfold badSize; infer_instance
section
variable {P : Program} {w : World} {K : PySem.W.Frag} {mg : Str → Option Value} {base : Heap}
abbrev S_ckep (T : Txt K mg w) : Sd := fun _ ds Pq => ∃ d, ds = [d] ∧ fine d ∧ Pq (if isEP d = true then .ok .non else .er ⟨T.a_BadPlace, "place", "BadPlace", d⟩)
theorem ok_check_end_place (T : Txt K mg w) : FnOk P w K mg base (L2.CX P w) 4 T.a_check_end_place T.d_check_end_place P_check_end_place (spD K (S_ckep T)) := by
  have G_BadPlace := ok_BadPlace (P := P) (w := w) (base := base) T
  have G_is_end_place := ok_is_end_place (P := P) (w := w) (base := base) T
  refine okDX T.F_check_end_place sc_check_end_place (fun bs ds Pq h => ?_) (fun cdv A outer s H E hr => ⟨_, (pss_one (ps_if (pt_not (pt_val (pe_call G_is_end_place (hr.mono (by decide)) (by rfl) T.g_is_end_place T.F_is_end_place.kp T.b_is_end_place .nil pass0 (pa_cons (pv 0) pa_nil))))
  (pss_one (ps_raise rfl (takes_of rfl rfl rfl rfl) (pmk_oex T.x_BadPlace.o T.i_BadPlace T.ti_BadPlace G_BadPlace (hr.mono (by decide)) T.b_BadPlace .nil pass0 (by rfl) T.g_BadPlace (pa_cons (pv 0) pa_nil)))) pss_nil)), ?_⟩)
  · obtain ⟨d, rfl, _⟩ := h
    rfl
  · rintro C ds Pq hE hX ⟨d, rfl, hf, q⟩
    have hE' := hE.symm
    walk_at "dgo"
    cases e : isEP d with
    | true =>
      rw [e, if_pos rfl] at q
      walk_at "dgo"
      exact q
    | false =>
      rw [e, if_neg (by decide)] at q
      walk_at "dgo"
      refine run_raise hE ?_
      walk_at "dgo"
      exact hX _ q
abbrev S_cksz (T : Txt K mg w) : Sd := fun _ ds Pq => ∃ n : Int, ds = [.int n] ∧ Pq (if badSize n then .er ⟨T.a_BadSize, "size", "BadSize", .int n⟩ else .ok .non)
theorem ok_check_size (T : Txt K mg w) : FnOk P w K mg base (L2.CX P w) 4 T.a_check_size T.d_check_size P_check_size (spD K (S_cksz T)) := by
  have G_BadSize := ok_BadSize (P := P) (w := w) (base := base) T
  refine okDX T.F_check_size sc_check_size (fun bs ds Pq h => ?_) (fun cdv A outer s H E hr => ⟨_, (pss_one (ps_if (PW.pt (pw_or (pt_cmpR op_lt (pv 0) pe_int (nomark _)) (pw_or1 (pt_cmpR op_gt (pv 0) (pe_glob (v := .int 1000000000000000000000000000000) rfl T.c_MOST_CARDS ⟨_, rfl⟩) (nomark _)))))
  (pss_one (ps_raise rfl (takes_of rfl rfl rfl rfl) (pmk_oex T.x_BadSize.o T.i_BadSize T.ti_BadSize G_BadSize (hr.mono (by decide)) T.b_BadSize .nil pass0 (by rfl) T.g_BadSize (pa_cons (pv 0) pa_nil)))) pss_nil)), ?_⟩)
  · obtain ⟨d, rfl, _⟩ := h
    rfl
  · rintro C ds Pq hE hX ⟨n, rfl, q⟩
    have hE' := hE.symm
    walk_at "dgo"
    refine iteD (fun a => ?_) (fun a => ?_)
    · rw [if_pos (.inl a)] at q
      walk_at "dgo"
      refine run_raise hE ?_
      walk_at "dgo"
      exact hX _ q
    · walk_at "dgo"
      refine iteD (fun b => ?_) (fun b => ?_)
      · rw [if_pos (.inr b)] at q
        walk_at "dgo"
        refine run_raise hE ?_
        walk_at "dgo"
        exact hX _ q
      · rw [if_neg (fun h => h.elim a b)] at q
        walk_at "dgo"
        exact q
abbrev S_ckpl (T : Txt K mg w) : Sd := fun _ ds Pq => ∃ p n : Int, ds = [.int p, .int n] ∧ Pq (if p < 0 ∨ n ≤ p then .er ⟨T.a_NoPlace, "place", "NoPlace", .int p⟩ else .ok .non)
theorem ok_check_place (T : Txt K mg w) : FnOk P w K mg base (L2.CX P w) 4 T.a_check_place T.d_check_place P_check_place (spD K (S_ckpl T)) := by
  have G_NoPlace := ok_NoPlace (P := P) (w := w) (base := base) T
  refine okDX T.F_check_place sc_check_place (fun bs ds Pq h => ?_) (fun cdv A outer s H E hr => ⟨_, (pss_one (ps_if (PW.pt (pw_or (pt_cmpR op_lt (pv 0) pe_int (nomark _)) (pw_or1 (pt_cmpR op_ge (pv 0) (pv 1) (nomark _)))))
  (pss_one (ps_raise rfl (takes_of rfl rfl rfl rfl) (pmk_oex T.x_NoPlace.o T.i_NoPlace T.ti_NoPlace G_NoPlace (hr.mono (by decide)) T.b_NoPlace .nil pass0 (by rfl) T.g_NoPlace (pa_cons (pv 0) pa_nil)))) pss_nil)), ?_⟩)
  · obtain ⟨d, n, rfl, _⟩ := h
    rfl
  · rintro C ds Pq hE hX ⟨p, n, rfl, q⟩
    have hE' := hE.symm
    walk_at "dgo"
    refine iteD (fun a => ?_) (fun a => ?_)
    · rw [if_pos (.inl a)] at q
      walk_at "dgo"
      refine run_raise hE ?_
      walk_at "dgo"
      exact hX _ q
    · walk_at "dgo"
      refine iteD (fun b => ?_) (fun b => ?_)
      · rw [if_pos (.inr b)] at q
        walk_at "dgo"
        refine run_raise hE ?_
        walk_at "dgo"
        exact hX _ q
      · rw [if_neg (fun h => h.elim a b)] at q
        walk_at "dgo"
        exact q
end
end Z
namespace Z
open PySem PySem.Spec PyProof.Rows L2
-- what stands at an address
local macro_rules | `(tactic| walk_at "hp") => `(tactic| first | assumption | exact upd_same | exact BagAt.at_ (by assumption) | exact BagAt.cells (by assumption) | fail "hp")
local macro_rules | `(tactic| walk_at "sq") => `(tactic| first | assumption | (refine Or.inl (Or.inl ?_); walk_at "hp") | (apply Same.seq <;> assumption))
-- bounds
local macro_rules | `(tactic| walk_at "num") => `(tactic| first
  | exact rfl | decide | exact le_line (Nat.le_of_ble_eq_true rfl) | exact lt_line (Nat.le_of_ble_eq_true rfl)
  | (exact mul_ok (small_abs (by omega)) (small_abs (by omega)))
  | (exact div_small (by omega) (by omega))
  | (exact div_ok (by omega) (by assumption))
  | (refine ⟨?_, ?_⟩ <;> omega) | omega
  | (show (_ : Int) ≠ 0; omega) | (show CPow _ _; unfold CPow; decide))
-- one step
local macro_rules | `(tactic| walk_at "rd") => `(tactic| first
  | (refine Exists.intro _ (And.intro rfl ?_))
  | (refine Exists.intro _ (Exists.intro _ (And.intro rfl (And.intro rfl ?_))))
  | (refine Or.inl (Exists.intro _ (And.intro rfl ?_)))
  | (refine Or.inr (Exists.intro _ (And.intro rfl ?_)))
  | (with_reducible refine iteF ?_) | (with_reducible refine iteT ?_)
  | (refine And.intro ?cc ?_; (case cc => walk_at "num"))
  | (refine' Exists.intro _ (Exists.intro _ (Exists.intro _ (Exists.intro _ (And.intro rfl (And.intro rfl (And.intro ?sq (And.intro ?ha ?k))))))); (case sq => walk_at "sq"); (case ha => first | exact rfl | assumption | exact at_zero))
  | (refine' Exists.intro _ (Exists.intro _ (And.intro rfl (And.intro (Or.inl ?sq) ?k))); (case sq => walk_at "sq")))
local macro_rules | `(tactic| walk_at "sqt") => `(tactic| first | assumption | (refine Or.inl (Or.inl ?_); walk_at "hp") | (apply Same.tup <;> assumption))
local macro_rules | `(tactic| walk_at "rdt") => `(tactic| first
  | walk_at "rd"
  | (refine' Exists.intro _ (Exists.intro _ (And.intro rfl (And.intro (Or.inr ?sq) ?k))); (case sq => walk_at "sqt"))
  | (refine' Exists.intro _ (Exists.intro _ (Exists.intro _ (Exists.intro _ (And.intro rfl (And.intro rfl (And.intro ?sq (And.intro ?ha ?k))))))); (case sq => walk_at "sqt"); (case ha => first | exact rfl | assumption | exact at_zero))
  | (refine iteF ?_) | (refine iteT ?_))
local macro_rules | `(tactic| walk_at "rds") => `(tactic| repeat walk_at "rdt")
local macro_rules | `(tactic| walk_at "pull") => `(tactic| (refine' Exists.intro _ (Exists.intro _ (Exists.intro _ (And.intro rfl (And.intro ?bag (And.intro ?pos (And.intro ?fit ?kk)))))); (case bag => assumption); (case pos => first | decide | omega); (case fit => exact Fit.of (by first | decide | omega) (by first | decide | omega))))
local macro_rules | `(tactic| walk_at "two") => `(tactic| refine Exists.intro _ (Exists.intro _ (And.intro rfl ?_)))
/-! ### steps by data -/
local macro_rules | `(tactic| walk_at "side") => `(tactic| first
  | exact rfl | assumption | exact Nat.le_of_ble_eq_true rfl | decide | exact True.intro | exact le_line (Nat.le_of_ble_eq_true rfl) | exact lt_line (Nat.le_of_ble_eq_true rfl) | omega | (show (_ : Int) ≠ 0; omega) | exact cut1_ok | (unfold CPow; decide) | exact mul_ok (small_abs (by omega)) (small_abs (by omega)) | exact div_small (by omega) (by omega))
local macro_rules | `(tactic| walk_at "dR") => `(tactic| first
  | with_reducible refine run_seq ?_ | with_reducible refine run_if ?_ | with_reducible refine run_set ?_ | with_reducible refine run_ret ?_ | with_reducible refine run_next ?_
  | with_reducible refine run_asg ?_ | with_reducible refine run_for ?_ | ((with_reducible refine' run_append ?ev ?kk); (case ev => exact rfl)) | ((with_reducible refine' run_aug ?ev ?kk); (case ev => exact rfl))
  | with_reducible refine run_par ?_ | with_reducible refine run_drop ?_ | with_reducible refine run_retN ?_ | with_reducible refine run_break ?_ | with_reducible refine run_cont ?_)
local macro_rules | `(tactic| walk_at "dE") => `(tactic| first
  | ((with_reducible refine' ev_var ?ev ?kk); (case ev => exact rfl))
  | with_reducible refine ev_op ?_ | with_reducible refine ev_int ?_ | with_reducible refine ev_str ?_ | with_reducible refine ev_callC (by assumption) ?_ | with_reducible refine ev_callX (by assumption) ?_ | with_reducible refine ev_call ?_ | with_reducible refine ev_cb ?_ | with_reducible refine ev_tup ?_
  | with_reducible refine ev_if ?_ | with_reducible refine ev_and ?_ | with_reducible refine ev_or ?_ | with_reducible refine ev_not ?_ | with_reducible refine ev_bl ?_ | with_reducible refine ev_non ?_ | with_reducible refine ev_isi ?_
  | with_reducible refine ev_un ?_ | with_reducible refine ev_chain ?_ | with_reducible refine ev_lst ?_ | with_reducible refine ev_cbf ?_ | with_reducible refine ev_sl ?_ | with_reducible refine ev_m1 ?_ | with_reducible refine ev_kget ?_ | with_reducible refine ev_fmt ?_ | with_reducible refine ev_join ?_ | with_reducible refine ev_ty ?_ | with_reducible refine ev_cV ?_)
local macro_rules | `(tactic| walk_at "dT") => `(tactic| first
  | with_reducible refine evt_t ?_ | with_reducible refine evt_b ?_ | with_reducible refine evt_and ?_ | with_reducible refine evt_or ?_ | with_reducible refine evt_not ?_ | with_reducible refine evt_yes ?_)
local macro_rules | `(tactic| walk_at "dX") => `(tactic| first
  | ((with_reducible refine' evx_name ?ev ?kk); (case ev => first | exact rfl | assumption)) | with_reducible refine evx_tup ?_ | with_reducible refine evx_lst ?_ | with_reducible refine evxs_cons ?_ | with_reducible refine evxs_nil ?_
  | ((with_reducible refine' evg_name ?ev ?mm ?kk); (case ev => first | exact rfl | assumption); (case mm => decide)) | with_reducible refine evg_tup ?_ | with_reducible refine evg_lst ?_ | with_reducible refine evgs_cons ?_ | with_reducible refine evgs_nil ?_
  | with_reducible refine evi_list ?_ | with_reducible refine evi_tup ?_ | with_reducible refine evi_rng1 ?_ | with_reducible refine evi_rng2 ?_ | with_reducible refine evi_enum ?_ | with_reducible refine evi_zip ?_
  | with_reducible refine evo_none ?_ | with_reducible refine evo_some ?_ | with_reducible refine evj_cons ?_ | with_reducible refine evj_nil ?_)
local macro_rules | `(tactic| walk_at "d1") => `(tactic| first
  | ((with_reducible change Ev _ _ _ _ _); walk_at "dE")
  | ((with_reducible change Run _ _ _ _ _); walk_at "dR")
  | with_reducible refine eva_cons ?_ | with_reducible refine eva_nil ?_
  | ((with_reducible change EvT _ _ _ _ _); walk_at "dT")
  | with_reducible refine eva_star ?_
  | with_reducible refine iteT ?_ | with_reducible refine iteF ?_
  | ((with_reducible change if (_ : Bool) = true then _ else _); first | refine iteT ?_ | refine iteF ?_)
  | ((with_reducible refine And.intro ?cc ?_); (case cc => walk_at "side"))
  | ((with_reducible refine' Exists.intro _ (And.intro ?cc ?kk)); (case cc => first | exact rfl | exact at_zero))
  | ((with_reducible refine' Exists.intro _ (Exists.intro _ (And.intro ?cc ?kk))); (case cc => exact rfl))
  | ((with_reducible refine' Exists.intro _ (Exists.intro _ (Exists.intro _ (And.intro ?cc (And.intro ?cd ?kk))))); (case cc => exact rfl); (case cd => exact rfl))
  | ((with_reducible refine' Exists.intro _ (Exists.intro _ (Exists.intro _ (And.intro ?cc ?kk)))); (case cc => exact rfl))
  | ((with_reducible refine' Exists.intro _ (Exists.intro _ (Exists.intro _ (Exists.intro _ (And.intro ?cc ?kk))))); (case cc => exact rfl))
  | walk_at "dX")
local macro_rules | `(tactic| walk_at "d2") => `(tactic| walk_at "d1")
local macro_rules | `(tactic| walk_at "dgo") => `(tactic| repeat walk_at "d1")
local macro_rules | `(tactic| walk_at "wk") => `(tactic| repeat first | exact True.intro | refine And.intro (Or.inl rfl) ?_ | refine And.intro (Or.inr (And.intro rfl rfl)) ?_)
/-! ### moves -/
inductive Mv where
  | swap (a : Bool) (i : Int) (b : Bool) (j : Int)
  | carry (a : Bool) (i : Int) (b : Bool) (j : Int)
  | cut (k : Int)
  | turn (a : Bool) (k : Int)
  | over
  | face (a : Bool) (i : Int)
def endS (a : Bool) : Str := if a = true then "top" else "bottom"
def Mv.nm : Mv → Str
  | .swap .. => "swap"
  | .carry .. => "carry"
  | .cut .. => "cut"
  | .turn .. => "turn"
  | .over => "over"
  | .face .. => "face"
def EndAt (K : PySem.W.Frag) (H : Hp) (v : V) (a : Bool) (i : Int) : Prop := ∃ p, v = .ref p ∧ SqT K H p [.str (endS a), .int i]
def MvIs (K : PySem.W.Frag) (H : Hp) : Mv → List V → Prop
  | .swap a i b j, xs => ∃ x y, xs = [.str "swap", x, y] ∧ EndAt K H x a i ∧ EndAt K H y b j
  | .carry a i b j, xs => ∃ x y, xs = [.str "carry", x, y] ∧ EndAt K H x a i ∧ EndAt K H y b j
  | .cut k, xs => xs = [.str "cut", .int k]
  | .turn a k, xs => xs = [.str "turn", .str (endS a), .int k]
  | .over, xs => xs = [.str "over"]
  | .face a i, xs => ∃ x, xs = [.str "face", x] ∧ EndAt K H x a i
def MvAt (K : PySem.W.Frag) (H : Hp) (v : V) (m : Mv) : Prop := ∃ p xs, v = .ref p ∧ SqT K H p xs ∧ MvIs K H m xs
def Mv.ok : Mv → Prop
  | .swap _ i _ j => 0 ≤ i ∧ i ≤ 399 ∧ 0 ≤ j ∧ j ≤ 399
  | .carry _ i _ j => 0 ≤ i ∧ i ≤ 399 ∧ 0 ≤ j ∧ j ≤ 399
  | .cut k => -400 ≤ k ∧ k ≤ 400
  | .turn _ k => 0 ≤ k ∧ k ≤ 400
  | .over => True
  | .face _ i => 0 ≤ i ∧ i ≤ 399
def Mv.reach : Mv → Int
  | .swap _ i _ j => max i j + 1
  | .carry _ i _ j => max i j + 1
  | .cut k => if k < 0 then -k else k
  | .turn _ k => k
  | .over => 0
  | .face _ i => i + 1
/-- the place of an end place -/
def plc (a : Bool) (i n : Int) : Int := if a = true then i else n - 1 - i
/-- the image of a place, as the program reckons it -/
def Mv.img (n p : Int) : Mv → Int × Bool
  | .swap a i b j => if p = plc a i n then (plc b j n, false) else if p = plc b j n then (plc a i n, false) else (p, false)
  | .carry a i b j => if p = plc a i n then (plc b j n, false) else if plc a i n < p ∧ p ≤ plc b j n then (p - 1, false) else if plc b j n ≤ p ∧ p < plc a i n then (p + 1, false) else (p, false)
  | .cut k => ((p - k).fmod n, false)
  | .turn a k => let f := if a = true then 0 else n - k
    if f ≤ p ∧ p < f + k then (f + (f + k) - 1 - p, true) else (p, false)
  | .over => (n - 1 - p, true)
  | .face a i => (p, decide (p = plc a i n))
def Mv.image (m : Mv) (n p : Int) : Int × Bool := if n < m.reach then (p, false) else m.img n p
theorem EndAt.same {K : PySem.W.Frag} {H H' : Hp} {v : V} {a : Bool} {i : Int} (h : EndAt K H v a i) (e : Same H H') : EndAt K H' v a i := by
  obtain ⟨p, e1, h1⟩ := h
  exact ⟨p, e1, Same.tup e h1⟩
theorem MvIs.same {K : PySem.W.Frag} {H H' : Hp} {m : Mv} {xs : List V} (h : MvIs K H m xs) (e : Same H H') : MvIs K H' m xs := by
  cases m with
  | swap a i b j =>
    obtain ⟨x, y, e1, h1, h2⟩ := h
    exact ⟨x, y, e1, h1.same e, h2.same e⟩
  | carry a i b j =>
    obtain ⟨x, y, e1, h1, h2⟩ := h
    exact ⟨x, y, e1, h1.same e, h2.same e⟩
  | cut k => exact h
  | turn a k => exact h
  | over => exact h
  | face a i =>
    obtain ⟨x, e1, h1⟩ := h
    exact ⟨x, e1, h1.same e⟩
theorem MvAt.same {K : PySem.W.Frag} {H H' : Hp} {v : V} {m : Mv} (h : MvAt K H v m) (e : Same H H') : MvAt K H' v m := by
  obtain ⟨p, xs, e1, h1, h2⟩ := h
  exact ⟨p, xs, e1, Same.tup e h1, h2.same e⟩
/-- texts told apart -/
theorem iteS {z : Str} {A B : Prop} (h : A) : if decide (V.str z = V.str z) = true then A else B := iteD (fun _ => h) fun e => absurd rfl e
theorem iteSN {y z : Str} {A B : Prop} (h : decide (y = z) = false) (q : B) : if decide (V.str y = V.str z) = true then A else B := iteD (fun e => absurd (V.str.inj e) (of_decide_eq_false h)) fun _ => q
theorem dS {z : Str} : decide (V.str z = V.str z) = true := decide_eq_true rfl
theorem dSN {y z : Str} (h : decide (y = z) = false) : decide (V.str y = V.str z) = false := decide_eq_false fun e => of_decide_eq_false h (V.str.inj e)
theorem endS_ne (a : Bool) : decide (endS a = ("top" : Str)) = a := by cases a <;> decide +kernel
theorem endS_bot (a : Bool) : decide (endS a = ("bottom" : Str)) = !a := by cases a <;> decide +kernel
/-! ### moves by data -/
def sndD : D → D
  | .tup [_, x] => x
  | _ => .non
abbrev epD (a : Bool) (i : Int) : D := .tup [.str (endS a), .int i]
@[reducible] def mvD : Mv → D
  | .swap a i b j => .tup [.str "swap", epD a i, epD b j]
  | .carry a i b j => .tup [.str "carry", epD a i, epD b j]
  | .cut k => .tup [.str "cut", .int k]
  | .turn a k => .tup [.str "turn", .str (endS a), .int k]
  | .over => .tup [.str "over"]
  | .face a i => .tup [.str "face", epD a i]
def shapeL : List (Str × List Str) := [("swap", ["place", "place"]), ("carry", ["place", "place"]), ("cut", ["signed"]), ("turn", ["end", "block"]), ("over", []), ("face", ["place"])]
def lkS (z : Str) : List (Str × List Str) → Option (List Str)
  | [] => none
  | (k, v) :: r => if z = k then some v else lkS z r
def shapeOf (z : Str) : Option (List Str) := lkS z shapeL
def d399 : D → Bool
  | .tup [_, .int i] => decide (i ≤ 399)
  | _ => false
def isPl (d : D) : Bool := isEP d && d399 d
def isBt (lo hi : Int) : D → Bool
  | .int i => decide (lo ≤ i) && decide (i ≤ hi)
  | _ => false
def fitsD (part : Str) (item : D) : Bool :=
  if part = "place" then isPl item else if part = "end" then isEnd item else if part = "signed" then isBt (-400) 400 item else isBt 0 400 item
def fitsAll (parts : List Str) (items : List D) : Bool := (parts.zip items).all fun p => fitsD p.1 p.2
def isMoveD : D → Bool
  | .tup (.str n :: items) => match shapeOf n with
    | some parts => decide (items.length = parts.length) && fitsAll parts items
    | none => false
  | _ => false
theorem scalS (y z : Str) : scal (.str y) (.str z) = true := rfl
theorem decS {y z : Str} : decide (V.str y = V.str z) = decide (y = z) := by
  by_cases h : y = z
  · subst h; simp
  · rw [decide_eq_false h, decide_eq_false fun e => h (V.str.inj e)]
theorem isEP_of {d : D} (e : isEP d = true) : ∃ a i, d = .tup [a, .int i] ∧ isEnd a = true ∧ 0 ≤ i := by
  unfold isEP at e
  split at e
  · rename_i a b
    obtain ⟨h1, h2⟩ := Bool.and_eq_true_iff.mp e
    cases b <;> first | exact Bool.noConfusion h2 | exact ⟨a, _, rfl, h1, of_decide_eq_true h2⟩
  · cases e
theorem isNum_of {d : D} (e : isNum d = true) : ∃ i, d = .int i := by
  cases d <;> first | exact Bool.noConfusion e | exact ⟨_, rfl⟩
section
variable {P : Program} {w : World} {K : PySem.W.Frag} {mg : Str → Option Value} {base : Heap}
abbrev S_fits : Sd := fun _ ds Pq => ∃ part item, ds = [.str part, item] ∧ fine item ∧ Pq (.ok (.bl (fitsD part item)))
theorem ok_fits (T : Txt K mg w) : FnOk P w K mg base CX0 3 T.a_fits T.d_fits P_fits (spD K S_fits) := by
  have G_is_end_place := ok_is_end_place (P := P) (w := w) (base := base) T
  have G_is_number := ok_is_number (P := P) (w := w) (base := base) T
  have G_is_end := ok_is_end (P := P) (w := w) (base := base) T
  refine okD T.F_fits sc_fits (fun bs ds Pq h => ?_) (fun cdv A outer s H E hr => ⟨_, (pss_cons (ps_if (pt_cmpR op_eq (pv 0) pe_str (nomark _))
  (pss_one (ps_ret (pe_and (pe_call G_is_end_place (hr.mono (by decide)) (by rfl) T.g_is_end_place T.F_is_end_place.kp T.b_is_end_place .nil pass0 (pa_cons (pv 1) pa_nil)) (pe_one (pe_cmpR op_le (pe_ix (k_ixT (K := K)) (pv 1) pe_int (fun _ _ => rfl)) (pe_glob (v := .int 399) rfl T.c_MOST_DEPTH ⟨_, rfl⟩) (nomark _)))))) pss_nil)
  (pss_cons (ps_if (pt_cmpR op_eq (pv 0) pe_str (nomark _))
  (pss_one (ps_ret (pe_call G_is_end (hr.mono (by decide)) (by rfl) T.g_is_end T.F_is_end.kp T.b_is_end .nil pass0 (pa_cons (pv 1) pa_nil)))) pss_nil)
  (pss_cons (ps_set (i := 2) sc_fits.nd rfl (Or.inl rfl) (pe_ifExp (pt_cmpR op_eq (pv 0) pe_str (nomark _)) (pe_un un_neg (pe_glob (v := .int 400) rfl T.c_MOST_BLOCK ⟨_, rfl⟩)) pe_int))
  (pss_one (ps_ret (pe_and (pe_call G_is_number (hr.mono (by decide)) (by rfl) T.g_is_number T.F_is_number.kp T.b_is_number .nil pass0 (pa_cons (pv 1) pa_nil)) (pe_one (pe_chain op_le op_le (pv 2) (pv 1) (pe_glob (v := .int 400) rfl T.c_MOST_BLOCK ⟨_, rfl⟩))))))))), ?_⟩)
  · obtain ⟨d, i, rfl, _⟩ := h
    rfl
  · rintro C ds Pq hE hX ⟨part, item, rfl, hf, q⟩
    unfold fitsD at q
    have ok := isiOk_of hf.1
    walk_at "dgo"
    rw [decS]
    by_cases h1 : part = "place"
    · rw [decide_eq_true h1]
      rw [if_pos h1] at q
      unfold isPl at q
      walk_at "dgo"
      cases e : isEP item with
      | true =>
        obtain ⟨a, i, rfl, ha, hi⟩ := isEP_of e
        rw [e] at q
        walk_at "dgo"
        exact q
      | false =>
        rw [e] at q
        walk_at "dgo"
        exact q
    · rw [decide_eq_false h1]
      rw [if_neg h1] at q
      walk_at "dgo"
      rw [decS]
      by_cases h2 : part = "end"
      · rw [decide_eq_true h2]
        rw [if_pos h2] at q
        walk_at "dgo"
        exact q
      · rw [decide_eq_false h2]
        rw [if_neg h2] at q
        walk_at "dgo"
        rw [decS]
        have fin : ∀ (lo i : Int), Pq (.ok (.bl (isBt lo 400 (.int i)))) → if decide (lo ≤ i) = true then Pq (.ok (.bl (decide (i ≤ 400)))) else Pq (.ok (.bl false)) := fun lo i q => by
          have q : Pq (.ok (.bl (decide (lo ≤ i) && decide (i ≤ 400)))) := q
          cases e : decide (lo ≤ i) with
          | true => rw [e] at q; exact q
          | false => rw [e] at q; exact q
        have nn : ∀ lo, isNum item = false → isBt lo 400 item = false := fun lo e => by cases item <;> first | rfl | exact Bool.noConfusion e
        by_cases h3 : part = "signed"
        · rw [decide_eq_true h3]
          rw [if_pos h3] at q
          walk_at "dgo"
          cases e : isNum item with
          | true =>
            obtain ⟨i, rfl⟩ := isNum_of e
            walk_at "dgo"
            refine iteD (fun a => ?_) (fun a => ?_)
            · walk_at "dgo"
              have := fin _ _ q
              rw [decide_eq_true a] at this
              exact this
            · have := fin _ _ q
              rw [decide_eq_false a] at this
              exact this
          | false =>
            rw [nn _ e] at q
            walk_at "dgo"
            exact q
        · rw [decide_eq_false h3]
          rw [if_neg h3] at q
          walk_at "dgo"
          cases e : isNum item with
          | true =>
            obtain ⟨i, rfl⟩ := isNum_of e
            walk_at "dgo"
            refine iteD (fun a => ?_) (fun a => ?_)
            · walk_at "dgo"
              have := fin _ _ q
              rw [decide_eq_true a] at this
              exact this
            · have := fin _ _ q
              rw [decide_eq_false a] at this
              exact this
          | false =>
            rw [nn _ e] at q
            walk_at "dgo"
            exact q
/-- the shapes of the module -/
theorem shape_at (T : Txt K mg w) {z : Str} {parts : List Str} (h : shapeOf z = some parts) : ∃ a, KDct K w T.a_SHAPES z (.ref a) ∧ KAt K (.ref a) (.tup (parts.map D.str)) := by
  have ka : ∀ {a : Addr} {ps : List Str}, (∀ H, SqT K H a (ps.map V.str)) → KAt K (.ref a) (.tup (ps.map D.str)) := fun h O H => .tup (h H) (.inr h) (AtAll.strs _)
  unfold shapeOf shapeL at h
  simp only [lkS] at h
  repeat' split at h
  all_goals first
    | (cases h; rename_i e; subst e; first
        | exact ⟨_, T.e_SHAPES_swap, ka T.q_SHAPES_swap⟩
        | exact ⟨_, T.e_SHAPES_carry, ka T.q_SHAPES_carry⟩
        | exact ⟨_, T.e_SHAPES_cut, ka T.q_SHAPES_cut⟩
        | exact ⟨_, T.e_SHAPES_turn, ka T.q_SHAPES_turn⟩
        | exact ⟨_, T.e_SHAPES_over, ka T.q_SHAPES_over⟩
        | exact ⟨_, T.e_SHAPES_face, ka T.q_SHAPES_face⟩)
    | cases h
theorem shape_none (T : Txt K mg w) {z : Str} (h : shapeOf z = none) : KMiss K w T.a_SHAPES z := by
  refine T.x_SHAPES z fun m => ?_
  unfold shapeOf shapeL at h
  simp only [lkS] at h
  simp only [List.mem_cons, List.not_mem_nil, or_false] at m
  rcases m with rfl | rfl | rfl | rfl | rfl | rfl <;> exact absurd h (by decide)
end
/-! ### is_move -/
theorem fine_tail {x : D} {l : List D} (h : fine (.tup (x :: l))) (i : Nat) (d : D) (e : l[i]? = some d) : fine d := fine_get (i := i + 1) h (by simpa using e)
theorem fitsAll_snoc {parts : List Str} {items : List D} (i : Nat) {p : Str} {d : D} (h1 : parts[i]? = some p) (h2 : items[i]? = some d) :
    ((parts.zip items).take (i + 1)).all (fun p => fitsD p.1 p.2) = (((parts.zip items).take i).all (fun p => fitsD p.1 p.2) && fitsD p d) := by
  have e : (parts.zip items)[i]? = some (p, d) := by rw [List.getElem?_zip_eq_some]; exact ⟨h1, h2⟩
  rw [List.take_add_one, e, List.all_append]
  simp
theorem zipD_inv {l m : List D} {i : Nat} {d : D} (h : (zipD l m)[i]? = some d) : ∃ a b, l[i]? = some a ∧ m[i]? = some b ∧ d = .tup [a, b] := by
  unfold zipD at h
  rw [List.getElem?_zipWith] at h
  cases e1 : l[i]? with
  | none => rw [e1] at h; cases h
  | some a =>
    cases e2 : m[i]? with
    | none => rw [e1, e2] at h; cases h
    | some b => rw [e1, e2] at h; cases h; exact ⟨a, b, rfl, rfl, rfl⟩
theorem map_inv {α : Type} {f : α → D} {l : List α} {i : Nat} {d : D} (h : (l.map f)[i]? = some d) : ∃ a, l[i]? = some a ∧ d = f a := by
  rw [List.getElem?_map] at h
  cases e : l[i]? with
  | none => rw [e] at h; cases h
  | some a => rw [e] at h; cases h; exact ⟨a, rfl, rfl⟩
section
variable {P : Program} {w : World} {K : PySem.W.Frag} {mg : Str → Option Value} {base : Heap}
abbrev S_ismove : Sd := fun _ ds Pq => ∃ d, ds = [d] ∧ fine d ∧ Pq (.ok (.bl (isMoveD d)))
theorem ok_is_move (T : Txt K mg w) : FnOk P w K mg base CX0 4 T.a_is_move T.d_is_move P_is_move (spD K S_ismove) := by
  have G_fits := ok_fits (P := P) (w := w) (base := base) T
  refine okD T.F_is_move sc_is_move (fun bs ds Pq h => ?_) (fun cdv A outer s H E hr => ⟨_, (pss_cons (ps_if (PW.pt (pw_or (pt_not (pt_val (k_isi6 (K := K) .tuple (pv 0) (pe_bltn (v := .ty "tuple") (by rfl) T.m_tuple boot_tuple rfl) (by rfl) T.m_isinstance))) (pw_or (pt_cmpR op_eq (pe_callB (k_len (K := K)) (by rfl) T.m_len boot_len (pa_cons (pv 0) pa_nil)) pe_int (nomark _)) (pw_or1 (pt_not (pt_val (k_isi6 (K := K) .str (pe_ix (k_ixT (K := K)) (pv 0) pe_int (fun _ _ => rfl)) (pe_bltn (v := .ty "str") (by rfl) T.m_str boot_str rfl) (by rfl) T.m_isinstance)))))))
  (pss_one (ps_ret pe_bl)) pss_nil)
  (pss_cons (ps_set (i := 1) sc_is_move.nd rfl (Or.inl rfl) (pe_kget (K := K) (w := w) (pe_glob (v := .ref T.a_SHAPES) rfl T.c_SHAPES rfl) T.d_SHAPES (pe_ix (k_ixT (K := K)) (pv 0) pe_int (fun _ _ => rfl)) ⟨rfl, rfl, rfl, rfl⟩))
  (pss_cons (ps_if (PW.pt (pw_or (pt_cmpR k_isN (pv 1) pe_non (nomark _)) (pw_or1 (pt_cmpR op_ne (pe_callB (k_len (K := K)) (by rfl) T.m_len boot_len (pa_cons (pv 0) pa_nil)) (pe_op op_add (pe_callB (k_len (K := K)) (by rfl) T.m_len boot_len (pa_cons (pv 1) pa_nil)) pe_int) (nomark _)))))
  (pss_one (ps_ret pe_bl)) pss_nil)
  (pss_cons (ps_for PassesOwn.never rfl (k_zip (K := K) (pa_cons (pv 1) (pa_cons (pe_slice (k_slT (K := K)) (pv 0) (po_some pe_int) po_none) pa_nil)) T.m_zip) (k_gT (K := K) (n := 2) (pgs_cons (pg_name (i := 2) sc_is_move.nd rfl (Or.inl rfl)) (pgs_cons (pg_name (i := 3) sc_is_move.nd rfl (Or.inl rfl)) pgs_nil)))
  (pss_one (ps_if (pt_not (pt_val (pe_call G_fits (hr.mono (by decide)) (by rfl) T.g_fits T.F_fits.kp T.b_fits .nil pass0 (pa_cons (pv 2) (pa_cons (pv 3) pa_nil)))))
  (pss_one (ps_ret pe_bl)) pss_nil)))
  (pss_one (ps_ret pe_bl)))))), ?_⟩)
  · obtain ⟨d, rfl, _⟩ := h
    rfl
  · rintro C ds Pq hE hX ⟨d, rfl, hf, q⟩
    have ok := isiOk_of hf.1
    cases d with
    | tup l =>
      cases l with
      | nil => walk_at "dgo"; exact q
      | cons x items =>
        have fx : fine x := fine_get (i := 0) hf rfl
        have okx := isiOk_of fx.1
        walk_at "dgo"
        cases x with
        | str z =>
          walk_at "dgo"
          cases e : shapeOf z with
          | none =>
            have e2 : isMoveD (.tup (.str z :: items)) = false := by simp only [isMoveD, e]
            rw [e2] at q
            refine .inr ⟨shape_none T e, ?_⟩
            walk_at "dgo"
            exact q
          | some parts =>
            have e2 : isMoveD (.tup (.str z :: items)) = (decide (items.length = parts.length) && fitsAll parts items) := by simp only [isMoveD, e]
            rw [e2] at q
            obtain ⟨a, h1, h2⟩ := shape_at T e
            refine .inl ⟨_, _, h1, h2, ?_⟩
            walk_at "dgo"
            refine iteNE (fun ne => ?_) (fun e3 => ?_)
            · rw [decide_eq_false (fun z => ne (by rw [List.length_cons, List.length_map, z]; rfl)), Bool.false_and] at q
              walk_at "dgo"
              exact q
            · have hl : items.length = parts.length := by
                rw [List.length_cons, List.length_map] at e3
                omega
              rw [decide_eq_true hl, Bool.true_and] at q
              walk_at "dgo"
              rw [cutD_tail]
              refine ⟨fun i ρ' => ((parts.zip items).take i).all (fun p => fitsD p.1 p.2) = true ∧ ∃ s2 s3, ρ' = [.val (.tup (.str z :: items)), .val (.tup (parts.map D.str)), s2, s3] ∧ s2.o = [] ∧ s3.o = [], ⟨rfl, .no, .no, rfl, rfl, rfl⟩, ?_, ?_⟩
              · rintro hv hd i d ρ' hi ⟨hI, s2, s3, rfl, o2, o3⟩
                obtain ⟨x, y, e1, e2, rfl⟩ := zipD_inv hi
                obtain ⟨p, e0, rfl⟩ := map_inv e1
                have fy := fine_tail hf i y e2
                have n2 : nown [.val (.tup (.str z :: items)), .val (.tup (parts.map D.str)), s2, s3] 2 = true := by cases s2 <;> first | rfl | exact nomatch o2
                have n3 : nown [.val (.tup (.str z :: items)), .val (.tup (parts.map D.str)), .val (.str p), s3] 3 = true := by cases s3 <;> first | rfl | exact nomatch o3
                have st := fitsAll_snoc i e0 e2
                rw [hI, Bool.true_and] at st
                walk_at "dgo"
                cases ef : fitsD p y with
                | true =>
                  rw [ef] at st
                  walk_at "dgo"
                  exact rfl
                | false =>
                  have e4 : fitsAll parts items = false := by
                    unfold fitsAll
                    rw [List.all_eq_false]
                    have em : (parts.zip items)[i]? = some (p, y) := by rw [List.getElem?_zip_eq_some]; exact ⟨e0, e2⟩
                    exact ⟨(p, y), List.mem_of_getElem? em, by rw [ef]; decide⟩
                  rw [e4] at q
                  walk_at "dgo"
                  exact q
              · rintro ρ' ⟨hI, s2, s3, rfl, o2, o3⟩
                have e4 : fitsAll parts items = true := by
                  unfold fitsAll
                  rw [List.take_of_length_le] at hI
                  · exact hI
                  · rw [zipD_len, List.length_zip, List.length_map]
                    exact Nat.le_refl _
                rw [e4] at q
                walk_at "dgo"
                exact q
        | _ => walk_at "dgo"; exact q
    | _ => walk_at "dgo"; exact q
end
theorem enum_get {ds : List D} {i : Nat} {d : D} (h : (enumD ds)[i]? = some d) : ∃ x, ds[i]? = some x ∧ d = .tup [.int (i : Int), x] := by
  have hi := (List.getElem?_eq_some_iff.mp h).1
  rw [enumD_len] at hi
  have hx : ds[i]? = some ds[i] := List.getElem?_eq_getElem hi
  exact ⟨_, hx, Option.some.inj (h.symm.trans (enumD_get hx))⟩
section
variable {P : Program} {w : World} {K : PySem.W.Frag} {mg : Str → Option Value} {base : Heap}
theorem fineN_endS (n : Nat) (a : Bool) : fineN n (.str (endS a)) := fineN_str n (by cases a <;> decide +kernel)
theorem fineN_epD (a : Bool) (i : Int) : fineN 1 (epD a i) := fineN_tup fun d m => by
  rcases List.mem_cons.mp m with rfl | m
  · exact fineN_endS _ a
  · rw [List.mem_singleton.mp m]; exact fineN_int _ i
theorem fine_epD (a : Bool) (i : Int) : fine (epD a i) := (fineN_epD a i).fine
theorem isEP_epD {a : Bool} {i : Int} (h : 0 ≤ i) : isEP (epD a i) = true := by
  show (isEnd (.str (endS a)) && decide (0 ≤ i)) = true
  rw [decide_eq_true h, Bool.and_true]
  cases a <;> decide
theorem endS_top (a : Bool) : decide (V.str (endS a) = V.str "top") = a := by cases a <;> decide
/-- resolve, of an end place -/
abbrev S_resolve (T : Txt K mg w) : Sd := fun _ ds Pq => ∃ (a : Bool) (i n : Int), ds = [epD a i, .int n] ∧ 0 ≤ i ∧ Pq (if badSize n then .er ⟨T.a_BadSize, "size", "BadSize", .int n⟩ else if n ≤ i then .er ⟨T.a_NoPlace, "place", "NoPlace", epD a i⟩ else .ok (.int (plc a i n)))
theorem ok_resolve (T : Txt K mg w) : FnOk P w K mg base (L2.CX P w) 6 T.a_resolve T.d_resolve P_resolve (spD K (S_resolve T)) := by
  have G_NoPlace := ok_NoPlace (P := P) (w := w) (base := base) T
  have G_check_end_place := ok_check_end_place (P := P) (w := w) (base := base) T
  have G_check_size := ok_check_size (P := P) (w := w) (base := base) T
  refine okDX T.F_resolve sc_resolve (fun bs ds Pq h => ?_) (fun cdv A outer s H E hr => ⟨_, (pss_cons (ps_expr (pe_call G_check_end_place (hr.mono (by decide)) (by rfl) T.g_check_end_place T.F_check_end_place.kp T.b_check_end_place .nil (passes_call (takes_of rfl rfl rfl rfl) fun _ _ _ _ h => h) (pa_cons (pv 0) pa_nil)))
  (pss_cons (ps_expr (pe_call G_check_size (hr.mono (by decide)) (by rfl) T.g_check_size T.F_check_size.kp T.b_check_size .nil (passes_call (takes_of rfl rfl rfl rfl) fun _ _ _ _ h => h) (pa_cons (pv 1) pa_nil)))
  (pss_cons (ps_asg (pv 0) (k_gT (K := K) (n := 2) (pgs_cons (pg_name (i := 2) sc_resolve.nd rfl (Or.inl rfl)) (pgs_cons (pg_name (i := 3) sc_resolve.nd rfl (Or.inl rfl)) pgs_nil))))
  (pss_cons (ps_if (pt_cmpR op_ge (pv 3) (pv 1) (nomark _))
  (pss_one (ps_raise rfl (takes_of rfl rfl rfl rfl) (pmk_oex T.x_NoPlace.o T.i_NoPlace T.ti_NoPlace G_NoPlace (hr.mono (by decide)) T.b_NoPlace .nil pass0 (by rfl) T.g_NoPlace (pa_cons (pv 0) pa_nil)))) pss_nil)
  (pss_one (ps_ret (pe_ifExp (pt_cmpR op_eq (pv 2) pe_str (nomark _)) (pv 3) (pe_op op_sub (pe_op op_sub (pv 1) pe_int) (pv 3))))))))), ?_⟩)
  · obtain ⟨d, i, n, rfl, _⟩ := h
    rfl
  · rintro C ds Pq hE hX ⟨a, i, n, rfl, hi, q⟩
    have hE' := hE.symm
    have hf := fine_epD a i
    have he := isEP_epD (a := a) hi
    walk_at "dgo"
    rw [if_pos he]
    walk_at "dgo"
    by_cases h1 : badSize n
    · rw [if_pos h1] at q ⊢
      exact hX _ q
    · rw [if_neg h1] at q ⊢
      walk_at "dgo"
      refine iteD (fun b => ?_) (fun b => ?_)
      · rw [if_pos b] at q
        walk_at "dgo"
        refine run_raise hE ?_
        walk_at "dgo"
        exact hX _ q
      · rw [if_neg b] at q
        walk_at "dgo"
        rw [endS_top]
        cases a <;> (walk_at "dgo"; exact q)
end
/-! ### moves, data and texts -/
theorem endS_of {d : D} (h : isEnd d = true) (hp : d.pure = true) : ∃ a, d = .str (endS a) := by
  unfold isEnd at h
  cases d with
  | str z =>
    rcases Bool.or_eq_true_iff.mp h with h | h
    · have : z = "top" := by
        have h : (z == ("top" : Str)) = true := h
        exact eq_of_beq h
      exact ⟨true, by rw [this]; rfl⟩
    · have : z = "bottom" := by
        have h : (z == ("bottom" : Str)) = true := h
        exact eq_of_beq h
      exact ⟨false, by rw [this]; rfl⟩
  | _ => first | exact Bool.noConfusion hp | (simp [D.py, PyData.eqv] at h)
theorem isEnd_endS (a : Bool) : isEnd (.str (endS a)) = true := by cases a <;> decide +kernel
theorem isMoveD_mv {m : Mv} (h : m.ok) : isMoveD (mvD m) = true := by
  cases m with
  | swap a i b j =>
    obtain ⟨h1, h2, h3, h4⟩ := h
    have e : shapeOf "swap" = (some ["place", "place"] : Option (List Str)) := by decide +kernel
    simp only [mvD, isMoveD, e, fitsAll, epD, fitsD, isPl, isEP, d399, isN0, isEnd_endS]
    simp [isEnd_endS, h1, h2, h3, h4]
  | carry a i b j =>
    obtain ⟨h1, h2, h3, h4⟩ := h
    have e : shapeOf "carry" = (some ["place", "place"] : Option (List Str)) := by decide +kernel
    simp only [mvD, isMoveD, e, fitsAll, epD, fitsD, isPl, isEP, d399, isN0, isEnd_endS]
    simp [isEnd_endS, h1, h2, h3, h4]
  | cut k =>
    obtain ⟨h1, h2⟩ := h
    have e : shapeOf "cut" = (some ["signed"] : Option (List Str)) := by decide +kernel
    have e1 : fitsD "signed" (.int k) = isBt (-400) 400 (.int k) := by unfold fitsD; rw [if_neg (by decide), if_neg (by decide), if_pos rfl]
    simp only [mvD, isMoveD, e, fitsAll]
    simp [e1, isBt, h1, h2]
  | turn a k =>
    obtain ⟨h1, h2⟩ := h
    have e : shapeOf "turn" = (some ["end", "block"] : Option (List Str)) := by decide +kernel
    have e1 : fitsD "block" (.int k) = isBt 0 400 (.int k) := by unfold fitsD; rw [if_neg (by decide), if_neg (by decide), if_neg (by decide)]
    have e2 : fitsD "end" (.str (endS a)) = true := by unfold fitsD; rw [if_neg (by decide), if_pos rfl, isEnd_endS]
    simp only [mvD, isMoveD, e, fitsAll]
    simp [e1, e2, isBt, h1, h2]
  | over =>
    have e : shapeOf "over" = (some [] : Option (List Str)) := by decide +kernel
    simp only [mvD, isMoveD, e, fitsAll]
    simp
  | face a i =>
    obtain ⟨h1, h2⟩ := h
    have e : shapeOf "face" = (some ["place"] : Option (List Str)) := by decide +kernel
    simp only [mvD, isMoveD, e, fitsAll, epD, fitsD, isPl, isEP, d399, isN0, isEnd_endS]
    simp [isEnd_endS, h1, h2]
theorem fineN_mv (m : Mv) : fineN 2 (mvD m) := by
  have e : ∀ a i, fineN 1 (epD a i) := fineN_epD
  have s : ∀ (n : Nat) (z : Str), z ∈ ([("swap" : Str), "carry", "cut", "turn", "over", "face"]) → fineN n (.str z) := fun n z hz => fineN_str n (by
    have : ∀ z, z ∈ ([("swap" : Str), "carry", "cut", "turn", "over", "face"]) → PyData.strOk z = true := by decide +kernel
    exact this z hz)
  cases m <;> refine fineN_tup fun d hd => ?_ <;> simp only [List.mem_cons, List.not_mem_nil, or_false] at hd
  · rcases hd with rfl | rfl | rfl
    · exact s _ _ (by decide)
    · exact e _ _
    · exact e _ _
  · rcases hd with rfl | rfl | rfl
    · exact s _ _ (by decide)
    · exact e _ _
    · exact e _ _
  · rcases hd with rfl | rfl
    · exact s _ _ (by decide)
    · exact fineN_int _ _
  · rcases hd with rfl | rfl | rfl
    · exact s _ _ (by decide)
    · exact fineN_endS _ _
    · exact fineN_int _ _
  · subst hd
    exact s _ _ (by decide)
  · rcases hd with rfl | rfl
    · exact s _ _ (by decide)
    · exact e _ _
theorem fine_mv (m : Mv) : fine (mvD m) := (fineN_mv m).fine
/-! ### the blocks of a move -/
abbrev Blk := Int × Int × Bool
@[reducible] def blkD (b : Blk) : D := .tup [.int b.1, .int b.2.1, .bl b.2.2]
def Mv.blks (n : Int) : Mv → List Blk
  | .swap a i b j => let x := min (plc a i n) (plc b j n)
    let y := max (plc a i n) (plc b j n)
    if x = y then [(0, n, false)] else [(0, x, false), (y, y + 1, false), (x + 1, y, false), (x, x + 1, false), (y + 1, n, false)]
  | .carry a i b j => let x := plc a i n
    let y := plc b j n
    if x ≤ y then [(0, x, false), (x + 1, y + 1, false), (x, x + 1, false), (y + 1, n, false)] else [(0, y, false), (x, x + 1, false), (y, x, false), (x + 1, n, false)]
  | .cut k => let x := if 0 ≤ k then k else n + k
    [(x, n, false), (0, x, false)]
  | .turn a k => if a = true then [(0, k, true), (k, n, false)] else [(0, n - k, false), (n - k, n, true)]
  | .over => [(0, n, true)]
  | .face a i => let x := plc a i n
    [(0, x, false), (x, x + 1, true), (x + 1, n, false)]
def Mv.blocks (m : Mv) (n : Int) : List Blk := if n < m.reach then [(0, n, false)] else m.blks n
def movedL : List Blk → Int → Int → Option (Int × Bool)
  | [], _, _ => none
  | (f, b, t) :: r, ab, p => if f ≤ p ∧ p < b then some (if t = true then (ab + b - 1 - p, true) else (ab + p - f, false)) else movedL r (ab + (b - f)) p
theorem pairS {a b : Int} {c : Bool} (h : a = b) : some (a, c) = some (b, c) := by rw [h]
theorem moved_image {m : Mv} (hk : m.ok) {n p : Int} (p0 : 0 ≤ p) (p1 : p < n) : movedL (m.blocks n) 0 p = some (m.image n p) := by
  unfold Mv.blocks Mv.image
  by_cases hr : n < m.reach
  · rw [if_pos hr, if_pos hr]
    simp only [movedL]
    rw [if_pos ⟨p0, p1⟩]
    simp
  rw [if_neg hr, if_neg hr]
  have pb : ∀ (a : Bool) (i : Int), 0 ≤ i → i < n → 0 ≤ plc a i n ∧ plc a i n < n := fun a i h0 h1 => by unfold plc; split <;> omega
  cases m with
  | over =>
    simp only [Mv.blks, movedL, Mv.img, reduceIte]
    rw [if_pos ⟨p0, p1⟩]
    exact pairS (by omega)
  | cut k =>
    obtain ⟨h1, h2⟩ := hk
    have hr' : ¬ n < (if k < 0 then -k else k) := hr
    have fm : ∀ z : Int, z.fmod n = z % n := fun z => Int.fmod_eq_emod_of_nonneg _ (by omega)
    have hk1 : ¬ n < k ∧ ¬ n < -k := by
      split at hr' <;> omega
    have e1 : k ≤ p → p - k < n → (p - k) % n = p - k := fun h h2 => Int.emod_eq_of_lt (by omega) (by omega)
    have e2 : p - k < 0 → 0 ≤ p - k + n → (p - k) % n = p - k + n := fun h h2 => by
      rw [← Int.add_emod_right, Int.emod_eq_of_lt h2 (by omega)]
    have e3 : n ≤ p - k → p - k < n + n → (p - k) % n = p - k - n := fun h h2 => by
      rw [← Int.sub_emod_right, Int.emod_eq_of_lt (by omega) (by omega)]
    simp only [Mv.blks, movedL, Mv.img, Bool.false_eq_true, reduceIte]
    rw [fm]
    by_cases hk0 : 0 ≤ k
    · rw [if_pos hk0]
      by_cases h : k ≤ p
      · rw [if_pos ⟨h, p1⟩, e1 h (by omega)]
        exact pairS (by omega)
      · rw [if_neg fun z => h z.1, if_pos ⟨p0, by omega⟩, e2 (by omega) (by omega)]
        exact pairS (by omega)
    · rw [if_neg hk0]
      by_cases h : n + k ≤ p
      · rw [if_pos ⟨h, p1⟩, e3 (by omega) (by omega)]
        exact pairS (by omega)
      · rw [if_neg fun z => h z.1, if_pos ⟨p0, by omega⟩, e1 (by omega) (by omega)]
        exact pairS (by omega)
  | turn a k =>
    obtain ⟨h1, h2⟩ := hk
    have hr' : ¬ n < k := hr
    cases a <;> simp only [Mv.blks, movedL, Mv.img, Bool.false_eq_true, reduceIte]
    all_goals repeat' split
    all_goals first | (exfalso; omega) | exact pairS (by omega)
  | face a i =>
    obtain ⟨h1, h2⟩ := hk
    have hr' : ¬ n < i + 1 := hr
    obtain ⟨b1, b2⟩ := pb a i h1 (by omega)
    simp only [Mv.blks, movedL, Mv.img, Bool.false_eq_true, reduceIte]
    generalize plc a i n = x at *
    by_cases e : p = x
    · rw [decide_eq_true e]
      repeat' split
      all_goals first | (exfalso; omega) | exact pairS (by omega)
    · rw [decide_eq_false e]
      repeat' split
      all_goals first | (exfalso; omega) | exact pairS (by omega)
  | swap a i b j =>
    obtain ⟨k1, k2, k3, k4⟩ := hk
    have hr' : ¬ n < max i j + 1 := hr
    obtain ⟨b1, b2⟩ := pb a i k1 (by omega)
    obtain ⟨b3, b4⟩ := pb b j k3 (by omega)
    simp only [Mv.blks, Mv.img]
    generalize plc a i n = x at *
    generalize plc b j n = y at *
    by_cases e : min x y = max x y
    · have e2 : x = y := by omega
      subst e2
      rw [if_pos e]
      simp only [movedL, Bool.false_eq_true, reduceIte]
      repeat' split
      all_goals first | (exfalso; omega) | exact pairS (by omega)
    · rw [if_neg e]
      have e2 : x ≠ y := by omega
      rcases Int.lt_or_gt_of_ne e2 with h | h
      · rw [show min x y = x by omega, show max x y = y by omega]
        simp only [movedL, Bool.false_eq_true, reduceIte]
        repeat' split
        all_goals first | (exfalso; omega) | exact pairS (by omega)
      · rw [show min x y = y by omega, show max x y = x by omega]
        simp only [movedL, Bool.false_eq_true, reduceIte]
        repeat' split
        all_goals first | (exfalso; omega) | exact pairS (by omega)
  | carry a i b j =>
    obtain ⟨k1, k2, k3, k4⟩ := hk
    have hr' : ¬ n < max i j + 1 := hr
    obtain ⟨b1, b2⟩ := pb a i k1 (by omega)
    obtain ⟨b3, b4⟩ := pb b j k3 (by omega)
    simp only [Mv.blks, Mv.img]
    generalize plc a i n = x at *
    generalize plc b j n = y at *
    by_cases e : x ≤ y
    · rw [if_pos e]
      simp only [movedL, Bool.false_eq_true, reduceIte]
      repeat' split
      all_goals first | (exfalso; omega) | exact pairS (by omega)
    · rw [if_neg e]
      simp only [movedL, Bool.false_eq_true, reduceIte]
      repeat' split
      all_goals first | (exfalso; omega) | exact pairS (by omega)
theorem img_turn_in {n p k f : Int} {a : Bool} (e : (if a = true then 0 else n - k) = f) (h1 : f ≤ p) (h2 : p < f + k) : (Mv.turn a k).img n p = (f + (f + k) - 1 - p, true) := by
  show (if (if a = true then 0 else n - k) ≤ p ∧ p < (if a = true then 0 else n - k) + k then ((if a = true then 0 else n - k) + ((if a = true then 0 else n - k) + k) - 1 - p, true) else (p, false)) = _
  rw [e, if_pos ⟨h1, h2⟩]
theorem img_turn_out {n p k f : Int} {a : Bool} (e : (if a = true then 0 else n - k) = f) (h : ¬ (f ≤ p ∧ p < f + k)) : (Mv.turn a k).img n p = (p, false) := by
  show (if (if a = true then 0 else n - k) ≤ p ∧ p < (if a = true then 0 else n - k) + k then ((if a = true then 0 else n - k) + ((if a = true then 0 else n - k) + k) - 1 - p, true) else (p, false)) = _
  rw [e, if_neg h]
def Mv.undo : Mv → Mv
  | .carry a i b j => .carry b j a i
  | .cut k => .cut (-k)
  | m => m
theorem undo_reach (m : Mv) : m.undo.reach = m.reach := by
  cases m with
  | carry a i b j => show max j i + 1 = max i j + 1; omega
  | cut k => show (if -k < 0 then - -k else -k) = if k < 0 then -k else k; split <;> split <;> omega
  | _ => rfl
theorem undo_ok {m : Mv} (h : m.ok) : m.undo.ok := by
  cases m with
  | carry a i b j => obtain ⟨h1, h2, h3, h4⟩ := h; exact ⟨h3, h4, h1, h2⟩
  | cut k => obtain ⟨h1, h2⟩ := h; exact ⟨by omega, by omega⟩
  | _ => exact h
theorem undo_undo (m : Mv) : m.undo.undo = m := by
  cases m with
  | cut k => show Mv.cut (- -k) = Mv.cut k; rw [Int.neg_neg]
  | _ => rfl
theorem plc_bd {a : Bool} {i n : Int} (h0 : 0 ≤ i) (h1 : i < n) : 0 ≤ plc a i n ∧ plc a i n < n := by
  unfold plc
  split <;> omega
theorem fmod_back {n p k : Int} (p0 : 0 ≤ p) (p1 : p < n) : ((p - k).fmod n - -k).fmod n = p := by
  rw [Int.fmod_eq_emod_of_nonneg _ (by omega), Int.fmod_eq_emod_of_nonneg _ (by omega), Int.sub_neg, Int.emod_add_emod, Int.sub_add_cancel]
  exact Int.emod_eq_of_lt p0 p1
def sw (x y p : Int) : Int × Bool := if p = x then (y, false) else if p = y then (x, false) else (p, false)
def cr (x y p : Int) : Int × Bool := if p = x then (y, false) else if x < p ∧ p ≤ y then (p - 1, false) else if y ≤ p ∧ p < x then (p + 1, false) else (p, false)
theorem sw_sw {x y n p : Int} (hx : 0 ≤ x ∧ x < n) (hy : 0 ≤ y ∧ y < n) (p0 : 0 ≤ p) (p1 : p < n) : 0 ≤ (sw x y p).1 ∧ (sw x y p).1 < n ∧ sw x y (sw x y p).1 = (p, (sw x y p).2) := by
  by_cases h1 : p = x
  · have e : sw x y p = (y, false) := if_pos h1
    rw [e]
    refine ⟨hy.1, hy.2, ?_⟩
    show sw x y y = (p, false)
    unfold sw
    by_cases h2 : y = x
    · rw [if_pos h2, h1, h2]
    · rw [if_neg h2, if_pos rfl, h1]
  · by_cases h2 : p = y
    · have e : sw x y p = (x, false) := by unfold sw; rw [if_neg h1, if_pos h2]
      rw [e]
      refine ⟨hx.1, hx.2, ?_⟩
      show sw x y x = (p, false)
      unfold sw
      rw [if_pos rfl, h2]
    · have e : sw x y p = (p, false) := by unfold sw; rw [if_neg h1, if_neg h2]
      rw [e]
      exact ⟨p0, p1, e⟩
theorem cr_cr {x y n p : Int} (hx : 0 ≤ x ∧ x < n) (hy : 0 ≤ y ∧ y < n) (p0 : 0 ≤ p) (p1 : p < n) : 0 ≤ (cr x y p).1 ∧ (cr x y p).1 < n ∧ cr y x (cr x y p).1 = (p, (cr x y p).2) := by
  by_cases h1 : p = x
  · have e : cr x y p = (y, false) := if_pos h1
    rw [e]
    refine ⟨hy.1, hy.2, ?_⟩
    show cr y x y = (p, false)
    unfold cr
    rw [if_pos rfl, h1]
  · by_cases h2 : x < p ∧ p ≤ y
    · have e : cr x y p = (p - 1, false) := by unfold cr; rw [if_neg h1, if_pos h2]
      rw [e]
      refine ⟨by show 0 ≤ p - 1; omega, by show p - 1 < n; omega, ?_⟩
      show cr y x (p - 1) = (p, false)
      unfold cr
      rw [if_neg (by omega), if_neg (by omega), if_pos (by omega), Int.sub_add_cancel]
    · by_cases h3 : y ≤ p ∧ p < x
      · have e : cr x y p = (p + 1, false) := by unfold cr; rw [if_neg h1, if_neg h2, if_pos h3]
        rw [e]
        refine ⟨by show 0 ≤ p + 1; omega, by show p + 1 < n; omega, ?_⟩
        show cr y x (p + 1) = (p, false)
        unfold cr
        rw [if_neg (by omega), if_pos (by omega), Int.add_sub_cancel]
      · have e : cr x y p = (p, false) := by unfold cr; rw [if_neg h1, if_neg h2, if_neg h3]
        rw [e]
        refine ⟨p0, p1, ?_⟩
        show cr y x p = (p, false)
        unfold cr
        by_cases h4 : p = y
        · omega
        · rw [if_neg h4, if_neg (by omega), if_neg (by omega)]
theorem image_undo {m : Mv} (hk : m.ok) {n p : Int} (p0 : 0 ≤ p) (p1 : p < n) : 0 ≤ (m.image n p).1 ∧ (m.image n p).1 < n ∧ m.undo.image n (m.image n p).1 = (p, (m.image n p).2) := by
  unfold Mv.image
  rw [undo_reach]
  by_cases hr : n < m.reach
  · simp only [if_pos hr]
    exact ⟨p0, p1, trivial⟩
  simp only [if_neg hr]
  cases m with
  | over =>
    refine ⟨?_, ?_, ?_⟩
    · show 0 ≤ n - 1 - p; omega
    · show n - 1 - p < n; omega
    · show (n - 1 - (n - 1 - p), true) = (p, true)
      congr 1
      omega
  | cut k =>
    have e1 : (Mv.cut k).img n p = ((p - k).fmod n, false) := rfl
    rw [e1]
    refine ⟨?_, ?_, ?_⟩
    · show 0 ≤ (p - k).fmod n
      rw [Int.fmod_eq_emod_of_nonneg _ (by omega)]
      exact Int.emod_nonneg _ (by omega)
    · show (p - k).fmod n < n
      rw [Int.fmod_eq_emod_of_nonneg _ (by omega)]
      exact Int.emod_lt_of_pos _ (by omega)
    · show (((p - k).fmod n - -k).fmod n, false) = (p, false)
      rw [fmod_back p0 p1]
  | turn a k =>
    have hk0 : 0 ≤ k := hk.1
    have hr' : ¬ n < k := hr
    show 0 ≤ ((Mv.turn a k).img n p).1 ∧ ((Mv.turn a k).img n p).1 < n ∧ (Mv.turn a k).img n ((Mv.turn a k).img n p).1 = (p, ((Mv.turn a k).img n p).2)
    obtain ⟨f, ef, f0, f1⟩ : ∃ f, (if a = true then 0 else n - k) = f ∧ 0 ≤ f ∧ f + k ≤ n := ⟨_, rfl, by split <;> omega, by split <;> omega⟩
    by_cases h : f ≤ p ∧ p < f + k
    · rw [img_turn_in ef h.1 h.2]
      refine ⟨by show 0 ≤ f + (f + k) - 1 - p; omega, by show f + (f + k) - 1 - p < n; omega, ?_⟩
      show (Mv.turn a k).img n (f + (f + k) - 1 - p) = (p, true)
      rw [img_turn_in ef (by omega) (by omega)]
      congr 1
      omega
    · rw [img_turn_out ef h]
      refine ⟨p0, p1, ?_⟩
      show (Mv.turn a k).img n p = (p, false)
      rw [img_turn_out ef h]
  | face a i => exact ⟨p0, p1, rfl⟩
  | swap a i b j =>
    obtain ⟨k1, k2, k3, k4⟩ := hk
    have hr' : ¬ n < max i j + 1 := hr
    exact sw_sw (plc_bd (a := a) (i := i) (n := n) k1 (by omega)) (plc_bd (a := b) (i := j) (n := n) k3 (by omega)) p0 p1
  | carry a i b j =>
    obtain ⟨k1, k2, k3, k4⟩ := hk
    have hr' : ¬ n < max i j + 1 := hr
    exact cr_cr (plc_bd (a := a) (i := i) (n := n) k1 (by omega)) (plc_bd (a := b) (i := j) (n := n) k3 (by omega)) p0 p1
theorem img_swap {n p i j : Int} {a b : Bool} : (Mv.swap a i b j).img n p = if p = plc a i n then (plc b j n, false) else if p = plc b j n then (plc a i n, false) else (p, false) := rfl
theorem img_carry {n p i j : Int} {a b : Bool} : (Mv.carry a i b j).img n p = if p = plc a i n then (plc b j n, false) else if plc a i n < p ∧ p ≤ plc b j n then (p - 1, false) else if plc b j n ≤ p ∧ p < plc a i n then (p + 1, false) else (p, false) := rfl
theorem dB {a b : Bool} : (!decide (V.bl a = V.bl b)) = (a != b) := by
  cases a <;> cases b <;> decide
/-! ### the program's moves, by data -/
theorem mvD_nm (m : Mv) : ∃ items, mvD m = .tup (.str m.nm :: items) := by cases m <;> exact ⟨_, rfl⟩
section
variable {P : Program} {w : World} {K : PySem.W.Frag} {mg : Str → Option Value} {base : Heap}
abbrev S_cn : Sd := fun _ ds Pq => ∃ m : Mv, ds = [mvD m] ∧ Pq (.ok (.int m.reach))
theorem ok_cards_needed (T : Txt K mg w) : FnOk P w K mg base CX0 1 T.a_cards_needed T.d_cards_needed P_cards_needed (spD K S_cn) := by
  refine okD T.F_cards_needed sc_cards_needed (fun bs ds Pq h => ?_) (fun cdv A outer s H E hr => ⟨_, (pss_cons (ps_set (i := 1) sc_cards_needed.nd rfl (Or.inl rfl) (pe_ix (k_ixT (K := K)) (pv 0) pe_int (fun _ _ => rfl)))
  (pss_cons (ps_if (pt_cmpR op_eq (pv 1) pe_str (nomark _))
  (pss_one (ps_ret pe_int)) pss_nil)
  (pss_cons (ps_if (pt_cmpR op_eq (pv 1) pe_str (nomark _))
  (pss_one (ps_ret (pe_callB k_abs (by rfl) T.m_abs boot_abs (pa_cons (pe_ix (k_ixT (K := K)) (pv 0) pe_int (fun _ _ => rfl)) pa_nil)))) pss_nil)
  (pss_cons (ps_if (pt_cmpR op_eq (pv 1) pe_str (nomark _))
  (pss_one (ps_ret (pe_ix (k_ixT (K := K)) (pv 0) pe_int (fun _ _ => rfl)))) pss_nil)
  (pss_one (ps_ret (pe_op op_add (pe_callB (k_max (K := K)) (by rfl) T.m_max boot_max (pa_cons (pe_lc (own := [("end", 2), ("depth", 3)]) rfl sc_cards_needed.nd (k_piT (K := K) (pe_slice (k_slT (K := K)) (pv 0) (po_some pe_int) po_none)) (blkOk_by (N := N_cards_needed) (sc := defScope s_cards_needed) (by decide +kernel)) (fun _ _ _ _ _ => (k_gT (K := K) (n := 2) (pgs_cons (pg_name (i := 2) sc_cards_needed.nd rfl (Or.inl rfl)) (pgs_cons (pg_name (i := 3) sc_cards_needed.nd rfl (Or.inl rfl)) pgs_nil)))) (fun _ _ _ _ _ => pts_nil) (fun _ _ _ _ _ => (pv 3))) pa_nil)) pe_int))))))), ?_⟩)
  · obtain ⟨d, rfl, _⟩ := h
    rfl
  · rintro C ds Pq hE hX ⟨m, rfl, q⟩
    cases m with
    | over => walk_at "dgo"; exact q
    | cut k => walk_at "dgo"; exact q
    | turn a k => walk_at "dgo"; exact q
    | swap a i b j =>
      walk_at "dgo"
      refine ev_lcm sndD (by rfl) ?_
      walk_at "dgo"
      rw [cutD_tail]
      walk_at "dgo"
      refine ⟨fun C' e1 e2 e3 n d hn => ?_, ?_⟩
      · match n, hn with
        | 0, hn => cases hn; walk_at "dgo"; exact rfl
        | 1, hn => cases hn; walk_at "dgo"; exact rfl
        | n + 2, hn => exact nomatch hn
      · walk_at "dgo"
        refine And.intro (show 0 < [i, j].length from Nat.le_of_ble_eq_true rfl) (fun m hm hy => ?_)
        have hm : m ∈ [i, j] := hm
        have h1 : i ≤ m := hy i (List.mem_cons_self ..)
        have h2 : j ≤ m := hy j (List.mem_cons_of_mem _ (List.mem_cons_self ..))
        walk_at "dgo"
        have e : m + 1 = max i j + 1 := by
          simp only [List.mem_cons, List.not_mem_nil, or_false] at hm
          omega
        show Pq (.ok (.int (m + 1)))
        rw [e]
        exact q
    | carry a i b j =>
      walk_at "dgo"
      refine ev_lcm sndD (by rfl) ?_
      walk_at "dgo"
      rw [cutD_tail]
      walk_at "dgo"
      refine ⟨fun C' e1 e2 e3 n d hn => ?_, ?_⟩
      · match n, hn with
        | 0, hn => cases hn; walk_at "dgo"; exact rfl
        | 1, hn => cases hn; walk_at "dgo"; exact rfl
        | n + 2, hn => exact nomatch hn
      · walk_at "dgo"
        refine And.intro (show 0 < [i, j].length from Nat.le_of_ble_eq_true rfl) (fun m hm hy => ?_)
        have hm : m ∈ [i, j] := hm
        have h1 : i ≤ m := hy i (List.mem_cons_self ..)
        have h2 : j ≤ m := hy j (List.mem_cons_of_mem _ (List.mem_cons_self ..))
        walk_at "dgo"
        have e : m + 1 = max i j + 1 := by
          simp only [List.mem_cons, List.not_mem_nil, or_false] at hm
          omega
        show Pq (.ok (.int (m + 1)))
        rw [e]
        exact q
    | face a i =>
      walk_at "dgo"
      refine ev_lcm sndD (by rfl) ?_
      walk_at "dgo"
      rw [cutD_tail]
      walk_at "dgo"
      refine ⟨fun C' e1 e2 e3 n d hn => ?_, ?_⟩
      · match n, hn with
        | 0, hn => cases hn; walk_at "dgo"; exact rfl
        | n + 1, hn => exact nomatch hn
      · walk_at "dgo"
        refine And.intro (show 0 < [i].length from Nat.le_of_ble_eq_true rfl) (fun m hm hy => ?_)
        have hm : m ∈ [i] := hm
        walk_at "dgo"
        rw [List.mem_singleton.mp hm]
        exact q
/-- of a move, or of what is none -/
abbrev mvOr (T : Txt K mg w) (d : D) (Pq : Rs → Prop) (r : Mv → Rs) : Prop := (∃ m, d = mvD m ∧ m.ok ∧ Pq (r m)) ∨ (fine d ∧ isMoveD d = false ∧ Pq (.er ⟨T.a_BadMove, "at", "BadMove", .int 0⟩))
theorem mvOr_mv (T : Txt K mg w) {m : Mv} {Pq : Rs → Prop} {r : Mv → Rs} (hk : m.ok) (q : Pq (r m)) : mvOr T (mvD m) Pq r := .inl ⟨m, rfl, hk, q⟩
end
/-! ### blocks -/
theorem blks_cut1 {k n : Int} (a : 0 ≤ k) : (Mv.cut k).blks n = [(k, n, false), (0, k, false)] := by simp only [Mv.blks, if_pos a]
theorem blks_cut2 {k n : Int} (a : ¬ 0 ≤ k) : (Mv.cut k).blks n = [(n + k, n, false), (0, n + k, false)] := by simp only [Mv.blks, if_neg a]
theorem blks_carry1 {a b : Bool} {i j n : Int} (c : plc a i n ≤ plc b j n) : (Mv.carry a i b j).blks n = [(0, plc a i n, false), (plc a i n + 1, plc b j n + 1, false), (plc a i n, plc a i n + 1, false), (plc b j n + 1, n, false)] := by simp only [Mv.blks, if_pos c]
theorem blks_carry2 {a b : Bool} {i j n : Int} (c : ¬ plc a i n ≤ plc b j n) : (Mv.carry a i b j).blks n = [(0, plc b j n, false), (plc a i n, plc a i n + 1, false), (plc b j n, plc a i n, false), (plc a i n + 1, n, false)] := by simp only [Mv.blks, if_neg c]
theorem blks_swap1 {a b : Bool} {i j n : Int} (c : min (plc a i n) (plc b j n) = max (plc a i n) (plc b j n)) : (Mv.swap a i b j).blks n = [(0, n, false)] := by simp only [Mv.blks, if_pos c]
theorem blks_swap2 {a b : Bool} {i j n x y : Int} (ex : min (plc a i n) (plc b j n) = x) (ey : max (plc a i n) (plc b j n) = y) (c : ¬ x = y) : (Mv.swap a i b j).blks n = [(0, x, false), (y, y + 1, false), (x + 1, y, false), (x, x + 1, false), (y + 1, n, false)] := by
  simp only [Mv.blks, ex, ey, if_neg c]
theorem sort2 {x y : Int} {ns : List Int} (h : ns.Perm [x, y]) (s : ns.Pairwise (· ≤ ·)) : ns = [min x y, max x y] := by
  have hl := h.length_eq
  match ns, hl with
  | [u, v], _ =>
    have s' : u ≤ v := (List.pairwise_cons.mp s).1 v (List.mem_singleton.mpr rfl)
    have hu : u ∈ [x, y] := h.subset (List.mem_cons_self ..)
    have hv : v ∈ [x, y] := h.subset (List.mem_cons_of_mem _ (List.mem_cons_self ..))
    have hx : x ∈ [u, v] := h.symm.subset (List.mem_cons_self ..)
    have hy : y ∈ [u, v] := h.symm.subset (List.mem_cons_of_mem _ (List.mem_cons_self ..))
    simp only [List.mem_cons, List.not_mem_nil, or_false] at hu hv hx hy
    congr 1
    · omega
    · congr 1; omega
section
variable {P : Program} {w : World} {K : PySem.W.Frag} {mg : Str → Option Value} {base : Heap}
abbrev S_blk (C : Mv → Prop) : Sd := fun _ ds Pq => ∃ (m : Mv) (n : Int), ds = [mvD m, .int n] ∧ C m ∧ m.ok ∧ m.reach ≤ n ∧ n ≤ 1000000000000000000000000000000 ∧ Pq (.ok (.lst ((m.blks n).map blkD)))
theorem nbad {n : Int} (h0 : 0 ≤ n) (h1 : n ≤ 1000000000000000000000000000000) : ¬ badSize n := fun h => h.elim (fun h => by omega) fun h => by omega
theorem ok_over_blocks (T : Txt K mg w) : FnOk P w K mg base (L2.CX P w) 7 T.a_over_blocks T.d_over_blocks P_over_blocks (spD K (S_blk fun m => m = .over)) := by
  refine okDX T.F_over_blocks sc_over_blocks (fun bs ds Pq h => ?_) (fun cdv A outer s H E hr => ⟨_, (pss_one (ps_ret (pe_lst (pa_cons (pe_tup (pa_cons pe_int (pa_cons (pv 1) (pa_cons pe_bl pa_nil)))) pa_nil)))), ?_⟩)
  · obtain ⟨d, n, rfl, _⟩ := h
    rfl
  · rintro C ds Pq hE hX ⟨m, n, rfl, rfl, hk, hn, h30, q⟩
    walk_at "dgo"
    exact q
theorem ok_cut_blocks (T : Txt K mg w) : FnOk P w K mg base (L2.CX P w) 7 T.a_cut_blocks T.d_cut_blocks P_cut_blocks (spD K (S_blk fun m => ∃ k, m = .cut k)) := by
  refine okDX T.F_cut_blocks sc_cut_blocks (fun bs ds Pq h => ?_) (fun cdv A outer s H E hr => ⟨_, (pss_cons (ps_set (i := 2) sc_cut_blocks.nd rfl (Or.inl rfl) (pe_ifExp (pt_cmpR op_ge (pe_ix (k_ixT (K := K)) (pv 0) pe_int (fun _ _ => rfl)) pe_int (nomark _)) (pe_ix (k_ixT (K := K)) (pv 0) pe_int (fun _ _ => rfl)) (pe_op op_add (pv 1) (pe_ix (k_ixT (K := K)) (pv 0) pe_int (fun _ _ => rfl)))))
  (pss_one (ps_ret (pe_lst (pa_cons (pe_tup (pa_cons (pv 2) (pa_cons (pv 1) (pa_cons pe_bl pa_nil)))) (pa_cons (pe_tup (pa_cons pe_int (pa_cons (pv 2) (pa_cons pe_bl pa_nil)))) pa_nil)))))), ?_⟩)
  · obtain ⟨d, n, rfl, _⟩ := h
    rfl
  · rintro C ds Pq hE hX ⟨m, n, rfl, ⟨k, rfl⟩, hk, hn, h30, q⟩
    walk_at "dgo"
    refine iteD (fun a => ?_) (fun a => ?_)
    · rw [blks_cut1 a] at q
      walk_at "dgo"
      exact q
    · rw [blks_cut2 a] at q
      walk_at "dgo"
      exact q
theorem ok_turn_blocks (T : Txt K mg w) : FnOk P w K mg base (L2.CX P w) 7 T.a_turn_blocks T.d_turn_blocks P_turn_blocks (spD K (S_blk fun m => ∃ a k, m = .turn a k)) := by
  refine okDX T.F_turn_blocks sc_turn_blocks (fun bs ds Pq h => ?_) (fun cdv A outer s H E hr => ⟨_, (pss_cons (ps_if (pt_cmpR op_eq (pe_ix (k_ixT (K := K)) (pv 0) pe_int (fun _ _ => rfl)) pe_str (nomark _))
  (pss_one (ps_ret (pe_lst (pa_cons (pe_tup (pa_cons pe_int (pa_cons (pe_ix (k_ixT (K := K)) (pv 0) pe_int (fun _ _ => rfl)) (pa_cons pe_bl pa_nil)))) (pa_cons (pe_tup (pa_cons (pe_ix (k_ixT (K := K)) (pv 0) pe_int (fun _ _ => rfl)) (pa_cons (pv 1) (pa_cons pe_bl pa_nil)))) pa_nil))))) pss_nil)
  (pss_cons (ps_set (i := 2) sc_turn_blocks.nd rfl (Or.inl rfl) (pe_op op_sub (pv 1) (pe_ix (k_ixT (K := K)) (pv 0) pe_int (fun _ _ => rfl))))
  (pss_one (ps_ret (pe_lst (pa_cons (pe_tup (pa_cons pe_int (pa_cons (pv 2) (pa_cons pe_bl pa_nil)))) (pa_cons (pe_tup (pa_cons (pv 2) (pa_cons (pv 1) (pa_cons pe_bl pa_nil)))) pa_nil))))))), ?_⟩)
  · obtain ⟨d, n, rfl, _⟩ := h
    rfl
  · rintro C ds Pq hE hX ⟨m, n, rfl, ⟨a, k, rfl⟩, hk, hn, h30, q⟩
    walk_at "dgo"
    rw [endS_top]
    cases a <;> (walk_at "dgo"; exact q)
theorem ok_face_blocks (T : Txt K mg w) : FnOk P w K mg base (L2.CX P w) 7 T.a_face_blocks T.d_face_blocks P_face_blocks (spD K (S_blk fun m => ∃ a i, m = .face a i)) := by
  have G_resolve := ok_resolve (P := P) (w := w) (base := base) T
  refine okDX T.F_face_blocks sc_face_blocks (fun bs ds Pq h => ?_) (fun cdv A outer s H E hr => ⟨_, (pss_cons (ps_set (i := 2) sc_face_blocks.nd rfl (Or.inl rfl) (pe_call G_resolve (hr.mono (by decide)) (by rfl) T.g_resolve T.F_resolve.kp T.b_resolve .nil (passes_call (takes_of rfl rfl rfl rfl) fun _ _ _ _ h => h) (pa_cons (pe_ix (k_ixT (K := K)) (pv 0) pe_int (fun _ _ => rfl)) (pa_cons (pv 1) pa_nil))))
  (pss_one (ps_ret (pe_lst (pa_cons (pe_tup (pa_cons pe_int (pa_cons (pv 2) (pa_cons pe_bl pa_nil)))) (pa_cons (pe_tup (pa_cons (pv 2) (pa_cons (pe_op op_add (pv 2) pe_int) (pa_cons pe_bl pa_nil)))) (pa_cons (pe_tup (pa_cons (pe_op op_add (pv 2) pe_int) (pa_cons (pv 1) (pa_cons pe_bl pa_nil)))) pa_nil))))))), ?_⟩)
  · obtain ⟨d, n, rfl, _⟩ := h
    rfl
  · rintro C ds Pq hE hX ⟨m, n, rfl, ⟨a, i, rfl⟩, hk, hn, h30, q⟩
    have hE' := hE.symm
    have hi := hk.1
    have hn' : i + 1 ≤ n := hn
    have b1 := nbad (n := n) (by omega) h30
    walk_at "dgo"
    rw [if_neg b1, if_neg (by omega)]
    walk_at "dgo"
    exact q
theorem ok_swap_blocks (T : Txt K mg w) : FnOk P w K mg base (L2.CX P w) 7 T.a_swap_blocks T.d_swap_blocks P_swap_blocks (spD K (S_blk fun m => ∃ a i b j, m = .swap a i b j)) := by
  have G_resolve := ok_resolve (P := P) (w := w) (base := base) T
  refine okDX T.F_swap_blocks sc_swap_blocks (fun bs ds Pq h => ?_) (fun cdv A outer s H E hr => ⟨_, (pss_cons (ps_asg (pe_callB (k_sorted (K := K)) (by rfl) T.m_sorted boot_sorted (pa_cons (pe_lst (pa_cons (pe_call G_resolve (hr.mono (by decide)) (by rfl) T.g_resolve T.F_resolve.kp T.b_resolve .nil (passes_call (takes_of rfl rfl rfl rfl) fun _ _ _ _ h => h) (pa_cons (pe_ix (k_ixT (K := K)) (pv 0) pe_int (fun _ _ => rfl)) (pa_cons (pv 1) pa_nil))) (pa_cons (pe_call G_resolve (hr.mono (by decide)) (by rfl) T.g_resolve T.F_resolve.kp T.b_resolve .nil (passes_call (takes_of rfl rfl rfl rfl) fun _ _ _ _ h => h) (pa_cons (pe_ix (k_ixT (K := K)) (pv 0) pe_int (fun _ _ => rfl)) (pa_cons (pv 1) pa_nil))) pa_nil))) pa_nil)) (k_gL (K := K) (n := 2) (pgs_cons (pg_name (i := 2) sc_swap_blocks.nd rfl (Or.inl rfl)) (pgs_cons (pg_name (i := 3) sc_swap_blocks.nd rfl (Or.inl rfl)) pgs_nil))))
  (pss_cons (ps_if (pt_cmpR op_eq (pv 2) (pv 3) (nomark _))
  (pss_one (ps_ret (pe_lst (pa_cons (pe_tup (pa_cons pe_int (pa_cons (pv 1) (pa_cons pe_bl pa_nil)))) pa_nil)))) pss_nil)
  (pss_one (ps_ret (pe_lst (pa_cons (pe_tup (pa_cons pe_int (pa_cons (pv 2) (pa_cons pe_bl pa_nil)))) (pa_cons (pe_tup (pa_cons (pv 3) (pa_cons (pe_op op_add (pv 3) pe_int) (pa_cons pe_bl pa_nil)))) (pa_cons (pe_tup (pa_cons (pe_op op_add (pv 2) pe_int) (pa_cons (pv 3) (pa_cons pe_bl pa_nil)))) (pa_cons (pe_tup (pa_cons (pv 2) (pa_cons (pe_op op_add (pv 2) pe_int) (pa_cons pe_bl pa_nil)))) (pa_cons (pe_tup (pa_cons (pe_op op_add (pv 3) pe_int) (pa_cons (pv 1) (pa_cons pe_bl pa_nil)))) pa_nil)))))))))), ?_⟩)
  · obtain ⟨d, n, rfl, _⟩ := h
    rfl
  · rintro C ds Pq hE hX ⟨m, n, rfl, ⟨a, i, b, j, rfl⟩, hk, hn, h30, q⟩
    have hE' := hE.symm
    obtain ⟨k1, k2, k3, k4⟩ := hk
    have hn' : max i j + 1 ≤ n := hn
    have b1 := nbad (n := n) (by omega) h30
    walk_at "dgo"
    rw [if_neg b1, if_neg (by omega)]
    walk_at "dgo"
    rw [if_neg b1, if_neg (by omega)]
    walk_at "dgo"
    intro ns hp hs
    rw [sort2 hp hs]
    simp only [List.map_cons, List.map_nil]
    walk_at "dgo"
    refine iteE (fun c => ?_) (fun c => ?_)
    · rw [blks_swap1 c] at q
      walk_at "dgo"
      exact q
    · rw [blks_swap2 rfl rfl c] at q
      walk_at "dgo"
      exact q
theorem ok_carry_blocks (T : Txt K mg w) : FnOk P w K mg base (L2.CX P w) 7 T.a_carry_blocks T.d_carry_blocks P_carry_blocks (spD K (S_blk fun m => ∃ a i b j, m = .carry a i b j)) := by
  have G_resolve := ok_resolve (P := P) (w := w) (base := base) T
  refine okDX T.F_carry_blocks sc_carry_blocks (fun bs ds Pq h => ?_) (fun cdv A outer s H E hr => ⟨_, (pss_cons (ps_set (i := 2) sc_carry_blocks.nd rfl (Or.inl rfl) (pe_call G_resolve (hr.mono (by decide)) (by rfl) T.g_resolve T.F_resolve.kp T.b_resolve .nil (passes_call (takes_of rfl rfl rfl rfl) fun _ _ _ _ h => h) (pa_cons (pe_ix (k_ixT (K := K)) (pv 0) pe_int (fun _ _ => rfl)) (pa_cons (pv 1) pa_nil))))
  (pss_cons (ps_set (i := 3) sc_carry_blocks.nd rfl (Or.inl rfl) (pe_call G_resolve (hr.mono (by decide)) (by rfl) T.g_resolve T.F_resolve.kp T.b_resolve .nil (passes_call (takes_of rfl rfl rfl rfl) fun _ _ _ _ h => h) (pa_cons (pe_ix (k_ixT (K := K)) (pv 0) pe_int (fun _ _ => rfl)) (pa_cons (pv 1) pa_nil))))
  (pss_cons (ps_set (i := 4) sc_carry_blocks.nd rfl (Or.inl rfl) (pe_tup (pa_cons (pv 2) (pa_cons (pe_op op_add (pv 2) pe_int) (pa_cons pe_bl pa_nil)))))
  (pss_cons (ps_if (pt_cmpR op_le (pv 2) (pv 3) (nomark _))
  (pss_one (ps_ret (pe_lst (pa_cons (pe_tup (pa_cons pe_int (pa_cons (pv 2) (pa_cons pe_bl pa_nil)))) (pa_cons (pe_tup (pa_cons (pe_op op_add (pv 2) pe_int) (pa_cons (pe_op op_add (pv 3) pe_int) (pa_cons pe_bl pa_nil)))) (pa_cons (pv 4) (pa_cons (pe_tup (pa_cons (pe_op op_add (pv 3) pe_int) (pa_cons (pv 1) (pa_cons pe_bl pa_nil)))) pa_nil))))))) pss_nil)
  (pss_one (ps_ret (pe_lst (pa_cons (pe_tup (pa_cons pe_int (pa_cons (pv 3) (pa_cons pe_bl pa_nil)))) (pa_cons (pv 4) (pa_cons (pe_tup (pa_cons (pv 3) (pa_cons (pv 2) (pa_cons pe_bl pa_nil)))) (pa_cons (pe_tup (pa_cons (pe_op op_add (pv 2) pe_int) (pa_cons (pv 1) (pa_cons pe_bl pa_nil)))) pa_nil))))))))))), ?_⟩)
  · obtain ⟨d, n, rfl, _⟩ := h
    rfl
  · rintro C ds Pq hE hX ⟨m, n, rfl, ⟨a, i, b, j, rfl⟩, hk, hn, h30, q⟩
    have hE' := hE.symm
    obtain ⟨k1, k2, k3, k4⟩ := hk
    have hn' : max i j + 1 ≤ n := hn
    have b1 := nbad (n := n) (by omega) h30
    walk_at "dgo"
    rw [if_neg b1, if_neg (by omega)]
    walk_at "dgo"
    rw [if_neg b1, if_neg (by omega)]
    walk_at "dgo"
    refine iteD (fun c => ?_) (fun c => ?_)
    · rw [blks_carry1 c] at q
      walk_at "dgo"
      exact q
    · rw [blks_carry2 c] at q
      walk_at "dgo"
      exact q
/-- the def that the table tells -/
def blkFn (T : Txt K mg w) : Mv → Addr
  | .swap .. => T.a_swap_blocks
  | .carry .. => T.a_carry_blocks
  | .cut .. => T.a_cut_blocks
  | .turn .. => T.a_turn_blocks
  | .over => T.a_over_blocks
  | .face .. => T.a_face_blocks
abbrev S_blk1 (m : Mv) : Sd := fun _ ds Pq => ∃ n : Int, ds = [mvD m, .int n] ∧ m.ok ∧ m.reach ≤ n ∧ n ≤ 1000000000000000000000000000000 ∧ Pq (.ok (.lst ((m.blks n).map blkD)))
theorem blk_any (T : Txt K mg w) (m : Mv) : ∃ fd ps, FnOk P w K mg base (L2.CX P w) 7 (blkFn T m) fd ps (spD K (S_blk1 m)) ∧ PySem.W.keepIn K (.ref (blkFn T m)) = true ∧ Binds K fd ps [] := by
  have h : ∀ {C : Mv → Prop} {f : Addr} {fd : FuncData} {ps : List Str}, C m → FnOk P w K mg base (L2.CX P w) 7 f fd ps (spD K (S_blk C)) → FnOk P w K mg base (L2.CX P w) 7 f fd ps (spD K (S_blk1 m)) := fun {C f fd ps} hC F =>
    FnOk.weak F fun vs H Q E => spD_mono fun bs ds Pq ⟨n, e, h1, h2, h3, q⟩ => ⟨m, n, e, hC, h1, h2, h3, q⟩
  cases m with
  | swap a i b j => exact ⟨_, _, h ⟨_, _, _, _, rfl⟩ (ok_swap_blocks T), T.F_swap_blocks.kp, T.b_swap_blocks⟩
  | carry a i b j => exact ⟨_, _, h ⟨_, _, _, _, rfl⟩ (ok_carry_blocks T), T.F_carry_blocks.kp, T.b_carry_blocks⟩
  | cut k => exact ⟨_, _, h ⟨_, rfl⟩ (ok_cut_blocks T), T.F_cut_blocks.kp, T.b_cut_blocks⟩
  | turn a k => exact ⟨_, _, h ⟨_, _, rfl⟩ (ok_turn_blocks T), T.F_turn_blocks.kp, T.b_turn_blocks⟩
  | over => exact ⟨_, _, h (C := fun m => m = .over) rfl (ok_over_blocks T), T.F_over_blocks.kp, T.b_over_blocks⟩
  | face a i => exact ⟨_, _, h ⟨_, _, rfl⟩ (ok_face_blocks T), T.F_face_blocks.kp, T.b_face_blocks⟩
theorem blk_at (T : Txt K mg w) (m : Mv) : KDct K w T.a_BLOCKS m.nm (.ref (blkFn T m)) := by
  cases m
  · exact T.e_BLOCKS_swap
  · exact T.e_BLOCKS_carry
  · exact T.e_BLOCKS_cut
  · exact T.e_BLOCKS_turn
  · exact T.e_BLOCKS_over
  · exact T.e_BLOCKS_face
abbrev S_blocks : Sd := fun _ ds Pq => ∃ (m : Mv) (n : Int), ds = [mvD m, .int n] ∧ m.ok ∧ n ≤ 1000000000000000000000000000000 ∧ Pq (.ok (.lst ((m.blocks n).map blkD)))
theorem ok_blocks (T : Txt K mg w) : FnOk P w K mg base (L2.CX P w) 8 T.a_blocks T.d_blocks P_blocks (spD K S_blocks) := by
  have G_cards_needed := ok_cards_needed (P := P) (w := w) (base := base) T
  have AT_action := blk_any (P := P) (base := base) T
  refine okDX T.F_blocks sc_blocks (fun bs ds Pq h => ?_) (fun cdv A outer s H E hr => ⟨_, (pss_cons (ps_if (pt_cmpR op_lt (pv 1) (pe_call G_cards_needed (hr.mono (by decide)) (by rfl) T.g_cards_needed T.F_cards_needed.kp T.b_cards_needed .nil pass0 (pa_cons (pv 0) pa_nil)) (nomark _))
  (pss_one (ps_ret (pe_lst (pa_cons (pe_tup (pa_cons pe_int (pa_cons (pv 1) (pa_cons pe_bl pa_nil)))) pa_nil)))) pss_nil)
  (pss_cons (ps_set (i := 2) sc_blocks.nd rfl (Or.inl rfl) (pe_ix (k_ixK (K := K) (w := w)) (pe_glob (v := .ref T.a_BLOCKS) rfl T.c_BLOCKS rfl) (pe_ix (k_ixT (K := K)) (pv 0) pe_int (fun _ _ => rfl)) (fun _ _ => rfl)))
  (pss_one (ps_ret (pe_callT (K := K) (i := 2) AT_action (hr.mono (by decide)) rfl (by first | exact Or.inl rfl | exact Or.inr (Or.inl rfl)) (passes_call (takes_of rfl rfl rfl rfl) fun _ _ _ _ h => h) (pa_cons (pv 0) (pa_cons (pv 1) pa_nil))))))), ?_⟩)
  · obtain ⟨d, n, rfl, _⟩ := h
    rfl
  · rintro C ds Pq hE hX ⟨m, n, rfl, hk, h30, q⟩
    have hE' := hE.symm
    unfold Mv.blocks at q
    walk_at "dgo"
    refine iteD (fun a => ?_) (fun a => ?_)
    · rw [if_pos a] at q
      walk_at "dgo"
      exact q
    · rw [if_neg a] at q
      have e := blk_at T m
      obtain ⟨items, e2⟩ := mvD_nm m
      walk_at "dgo"
      rw [e2]
      walk_at "dgo"
      refine ⟨_, _, e, fun O H => .oth _, ?_⟩
      walk_at "dgo"
      refine ev_callT m hE' rfl ?_
      walk_at "dgo"
      exact ⟨n, by rw [e2], hk, by omega, h30, q⟩
abbrev imgD (r : Int × Bool) : D := .tup [.int r.1, .bl r.2]
end
end Z
namespace Z
open PySem PySem.Spec PyProof.Rows L2
-- what stands at an address
local macro_rules | `(tactic| walk_at "hp") => `(tactic| first | assumption | exact upd_same | exact BagAt.at_ (by assumption) | exact BagAt.cells (by assumption) | fail "hp")
local macro_rules | `(tactic| walk_at "sq") => `(tactic| first | assumption | (refine Or.inl (Or.inl ?_); walk_at "hp") | (apply Same.seq <;> assumption))
-- bounds
local macro_rules | `(tactic| walk_at "num") => `(tactic| first
  | exact rfl | decide | exact le_line (Nat.le_of_ble_eq_true rfl) | exact lt_line (Nat.le_of_ble_eq_true rfl)
  | (exact mul_ok (small_abs (by omega)) (small_abs (by omega)))
  | (exact div_small (by omega) (by omega))
  | (exact div_ok (by omega) (by assumption))
  | (refine ⟨?_, ?_⟩ <;> omega) | omega
  | (show (_ : Int) ≠ 0; omega) | (show CPow _ _; unfold CPow; decide))
-- one step
local macro_rules | `(tactic| walk_at "rd") => `(tactic| first
  | (refine Exists.intro _ (And.intro rfl ?_))
  | (refine Exists.intro _ (Exists.intro _ (And.intro rfl (And.intro rfl ?_))))
  | (refine Or.inl (Exists.intro _ (And.intro rfl ?_)))
  | (refine Or.inr (Exists.intro _ (And.intro rfl ?_)))
  | (with_reducible refine iteF ?_) | (with_reducible refine iteT ?_)
  | (refine And.intro ?cc ?_; (case cc => walk_at "num"))
  | (refine' Exists.intro _ (Exists.intro _ (Exists.intro _ (Exists.intro _ (And.intro rfl (And.intro rfl (And.intro ?sq (And.intro ?ha ?k))))))); (case sq => walk_at "sq"); (case ha => first | exact rfl | assumption | exact at_zero))
  | (refine' Exists.intro _ (Exists.intro _ (And.intro rfl (And.intro (Or.inl ?sq) ?k))); (case sq => walk_at "sq")))
local macro_rules | `(tactic| walk_at "sqt") => `(tactic| first | assumption | (refine Or.inl (Or.inl ?_); walk_at "hp") | (apply Same.tup <;> assumption))
local macro_rules | `(tactic| walk_at "rdt") => `(tactic| first
  | walk_at "rd"
  | (refine' Exists.intro _ (Exists.intro _ (And.intro rfl (And.intro (Or.inr ?sq) ?k))); (case sq => walk_at "sqt"))
  | (refine' Exists.intro _ (Exists.intro _ (Exists.intro _ (Exists.intro _ (And.intro rfl (And.intro rfl (And.intro ?sq (And.intro ?ha ?k))))))); (case sq => walk_at "sqt"); (case ha => first | exact rfl | assumption | exact at_zero))
  | (refine iteF ?_) | (refine iteT ?_))
local macro_rules | `(tactic| walk_at "rds") => `(tactic| repeat walk_at "rdt")
local macro_rules | `(tactic| walk_at "pull") => `(tactic| (refine' Exists.intro _ (Exists.intro _ (Exists.intro _ (And.intro rfl (And.intro ?bag (And.intro ?pos (And.intro ?fit ?kk)))))); (case bag => assumption); (case pos => first | decide | omega); (case fit => exact Fit.of (by first | decide | omega) (by first | decide | omega))))
local macro_rules | `(tactic| walk_at "two") => `(tactic| refine Exists.intro _ (Exists.intro _ (And.intro rfl ?_)))
/-! ### steps by data -/
local macro_rules | `(tactic| walk_at "side") => `(tactic| first
  | exact rfl | assumption | exact Nat.le_of_ble_eq_true rfl | decide | exact True.intro | exact le_line (Nat.le_of_ble_eq_true rfl) | exact lt_line (Nat.le_of_ble_eq_true rfl) | omega | (show (_ : Int) ≠ 0; omega) | exact cut1_ok | (unfold CPow; decide) | exact mul_ok (small_abs (by omega)) (small_abs (by omega)) | exact div_small (by omega) (by omega))
local macro_rules | `(tactic| walk_at "dR") => `(tactic| first
  | with_reducible refine run_seq ?_ | with_reducible refine run_if ?_ | with_reducible refine run_set ?_ | with_reducible refine run_ret ?_ | with_reducible refine run_next ?_
  | with_reducible refine run_asg ?_ | with_reducible refine run_for ?_ | ((with_reducible refine' run_append ?ev ?kk); (case ev => exact rfl)) | ((with_reducible refine' run_aug ?ev ?kk); (case ev => exact rfl))
  | with_reducible refine run_par ?_ | with_reducible refine run_drop ?_ | with_reducible refine run_retN ?_ | with_reducible refine run_break ?_ | with_reducible refine run_cont ?_)
local macro_rules | `(tactic| walk_at "dE") => `(tactic| first
  | ((with_reducible refine' ev_var ?ev ?kk); (case ev => exact rfl))
  | with_reducible refine ev_op ?_ | with_reducible refine ev_int ?_ | with_reducible refine ev_str ?_ | with_reducible refine ev_callC (by assumption) ?_ | with_reducible refine ev_callX (by assumption) ?_ | with_reducible refine ev_call ?_ | with_reducible refine ev_cb ?_ | with_reducible refine ev_tup ?_
  | with_reducible refine ev_if ?_ | with_reducible refine ev_and ?_ | with_reducible refine ev_or ?_ | with_reducible refine ev_not ?_ | with_reducible refine ev_bl ?_ | with_reducible refine ev_non ?_ | with_reducible refine ev_isi ?_
  | with_reducible refine ev_un ?_ | with_reducible refine ev_chain ?_ | with_reducible refine ev_lst ?_ | with_reducible refine ev_cbf ?_ | with_reducible refine ev_sl ?_ | with_reducible refine ev_m1 ?_ | with_reducible refine ev_kget ?_ | with_reducible refine ev_fmt ?_ | with_reducible refine ev_join ?_ | with_reducible refine ev_ty ?_ | with_reducible refine ev_cV ?_)
local macro_rules | `(tactic| walk_at "dT") => `(tactic| first
  | with_reducible refine evt_t ?_ | with_reducible refine evt_b ?_ | with_reducible refine evt_and ?_ | with_reducible refine evt_or ?_ | with_reducible refine evt_not ?_ | with_reducible refine evt_yes ?_)
local macro_rules | `(tactic| walk_at "dX") => `(tactic| first
  | ((with_reducible refine' evx_name ?ev ?kk); (case ev => first | exact rfl | assumption)) | with_reducible refine evx_tup ?_ | with_reducible refine evx_lst ?_ | with_reducible refine evxs_cons ?_ | with_reducible refine evxs_nil ?_
  | ((with_reducible refine' evg_name ?ev ?mm ?kk); (case ev => first | exact rfl | assumption); (case mm => decide)) | with_reducible refine evg_tup ?_ | with_reducible refine evg_lst ?_ | with_reducible refine evgs_cons ?_ | with_reducible refine evgs_nil ?_
  | with_reducible refine evi_list ?_ | with_reducible refine evi_tup ?_ | with_reducible refine evi_rng1 ?_ | with_reducible refine evi_rng2 ?_ | with_reducible refine evi_enum ?_ | with_reducible refine evi_zip ?_
  | with_reducible refine evo_none ?_ | with_reducible refine evo_some ?_ | with_reducible refine evj_cons ?_ | with_reducible refine evj_nil ?_)
local macro_rules | `(tactic| walk_at "d1") => `(tactic| first
  | ((with_reducible change Ev _ _ _ _ _); walk_at "dE")
  | ((with_reducible change Run _ _ _ _ _); walk_at "dR")
  | with_reducible refine eva_cons ?_ | with_reducible refine eva_nil ?_
  | ((with_reducible change EvT _ _ _ _ _); walk_at "dT")
  | with_reducible refine eva_star ?_
  | with_reducible refine iteT ?_ | with_reducible refine iteF ?_
  | ((with_reducible change if (_ : Bool) = true then _ else _); first | refine iteT ?_ | refine iteF ?_)
  | ((with_reducible refine And.intro ?cc ?_); (case cc => walk_at "side"))
  | ((with_reducible refine' Exists.intro _ (And.intro ?cc ?kk)); (case cc => first | exact rfl | exact at_zero))
  | ((with_reducible refine' Exists.intro _ (Exists.intro _ (And.intro ?cc ?kk))); (case cc => exact rfl))
  | ((with_reducible refine' Exists.intro _ (Exists.intro _ (Exists.intro _ (And.intro ?cc (And.intro ?cd ?kk))))); (case cc => exact rfl); (case cd => exact rfl))
  | ((with_reducible refine' Exists.intro _ (Exists.intro _ (Exists.intro _ (And.intro ?cc ?kk)))); (case cc => exact rfl))
  | ((with_reducible refine' Exists.intro _ (Exists.intro _ (Exists.intro _ (Exists.intro _ (And.intro ?cc ?kk))))); (case cc => exact rfl))
  | walk_at "dX")
local macro_rules | `(tactic| walk_at "d2") => `(tactic| walk_at "d1")
local macro_rules | `(tactic| walk_at "dgo") => `(tactic| repeat walk_at "d1")
local macro_rules | `(tactic| walk_at "wk") => `(tactic| repeat first | exact True.intro | refine And.intro (Or.inl rfl) ?_ | refine And.intro (Or.inr (And.intro rfl rfl)) ?_)
/-! ### a list of cards, dealt -/
def flipL (L : List (Int × Bool)) : List (Int × Bool) := L.reverse.map fun c => (c.1, !c.2)
def dealtL (m : Mv) (L : List (Int × Bool)) : List (Int × Bool) :=
  if (L.length : Int) < m.reach then L else match m with
  | .over => flipL L
  | .cut k => L.drop (k.fmod L.length).toNat ++ L.take (k.fmod L.length).toNat
  | .turn a k => if a = true then flipL (L.take k.toNat) ++ L.drop k.toNat else L.take ((L.length : Int) - k).toNat ++ flipL (L.drop ((L.length : Int) - k).toNat)
  | .face a i => let o := (plc a i L.length).toNat
    L.set o ((L.getD o (0, false)).1, !(L.getD o (0, false)).2)
  | .swap a i b j => let o := (plc a i L.length).toNat
    let u := (plc b j L.length).toNat
    (L.set o (L.getD u (0, false))).set u (L.getD o (0, false))
  | .carry a i b j => let o := (plc a i L.length).toNat
    let u := (plc b j L.length).toNat
    (L.eraseIdx o).take u ++ [L.getD o (0, false)] ++ (L.eraseIdx o).drop u
theorem flipL_len (L : List (Int × Bool)) : (flipL L).length = L.length := by unfold flipL; rw [List.length_map, List.length_reverse]
theorem flipL_at {L : List (Int × Bool)} {i : Nat} {c : Int × Bool} (h : L[i]? = some c) : (flipL L)[L.length - 1 - i]? = some (c.1, !c.2) := by
  have hi : i < L.length := (List.getElem?_eq_some_iff.mp h).1
  unfold flipL
  rw [List.getElem?_map, List.getElem?_reverse (by omega), show L.length - 1 - (L.length - 1 - i) = i by omega, h]
  rfl
theorem deal_at {m : Mv} (hk : m.ok) {L : List (Int × Bool)} {i : Nat} {c : Int × Bool} (h : L[i]? = some c) :
    (dealtL m L)[((m.image L.length i).1).toNat]? = some (c.1, c.2 != (m.image L.length i).2) := by
  have hi : i < L.length := (List.getElem?_eq_some_iff.mp h).1
  have bf : ∀ b : Bool, (b != false) = b := fun b => by cases b <;> rfl
  have bt : ∀ b : Bool, (b != true) = !b := fun b => by cases b <;> rfl
  unfold Mv.image dealtL
  by_cases hr : (L.length : Int) < m.reach
  · simp only [if_pos hr]
    rw [bf, Int.toNat_natCast]
    exact h
  simp only [if_neg hr]
  cases m with
  | over =>
    show (flipL L)[((L.length : Int) - 1 - i).toNat]? = some (c.1, c.2 != true)
    rw [bt, show ((L.length : Int) - 1 - i).toNat = L.length - 1 - i by omega]
    exact flipL_at h
  | cut k =>
    show (L.drop (k.fmod L.length).toNat ++ L.take (k.fmod L.length).toNat)[(((i : Int) - k).fmod L.length).toNat]? = some (c.1, c.2 != false)
    rw [bf]
    have e0 : k.fmod L.length = k % (L.length : Int) := Int.fmod_eq_emod_of_nonneg _ (by omega)
    have e1 : ((i : Int) - k).fmod L.length = ((i : Int) - k % (L.length : Int)) % (L.length : Int) := by
      rw [Int.fmod_eq_emod_of_nonneg _ (by omega), Int.sub_emod, Int.sub_emod (i : Int) (k % (L.length : Int)), Int.emod_emod]
    rw [e0, e1]
    have b0 := Int.emod_nonneg k (show (L.length : Int) ≠ 0 by omega)
    have b1 := Int.emod_lt_of_pos k (show 0 < (L.length : Int) by omega)
    generalize k % (L.length : Int) = a at b0 b1 ⊢
    by_cases h1 : a ≤ i
    · have e2 : ((i : Int) - a) % (L.length : Int) = (i : Int) - a := Int.emod_eq_of_lt (by omega) (by omega)
      rw [e2, List.getElem?_append_left (by rw [List.length_drop]; omega), List.getElem?_drop, show a.toNat + ((i : Int) - a).toNat = i by omega]
      exact h
    · have e2 : ((i : Int) - a) % (L.length : Int) = (i : Int) - a + L.length := by
        rw [← Int.add_emod_right]
        exact Int.emod_eq_of_lt (by omega) (by omega)
      rw [e2, List.getElem?_append_right (by rw [List.length_drop]; omega), List.length_drop, List.getElem?_take_of_lt (by omega), show ((i : Int) - a + L.length).toNat - (L.length - a.toNat) = i by omega]
      exact h
  | turn a k =>
    have hk0 : 0 ≤ k := hk.1
    have hr' : ¬ (L.length : Int) < k := hr
    show (if a = true then flipL (L.take k.toNat) ++ L.drop k.toNat else L.take ((L.length : Int) - k).toNat ++ flipL (L.drop ((L.length : Int) - k).toNat))[(((Mv.turn a k).img L.length i).1).toNat]? = some (c.1, c.2 != ((Mv.turn a k).img L.length i).2)
    cases a with
    | true =>
      rw [if_pos rfl]
      by_cases h1 : (i : Int) < k
      · rw [img_turn_in (f := 0) rfl (by omega) (by omega), bt]
        have hf := flipL_at (L := L.take k.toNat) (i := i) (c := c) (by rw [List.getElem?_take_of_lt (by omega)]; exact h)
        rw [List.length_take, Nat.min_eq_left (by omega)] at hf
        rw [List.getElem?_append_left (by rw [flipL_len, List.length_take]; omega), show ((0 : Int) + (0 + k) - 1 - i).toNat = k.toNat - 1 - i by omega]
        exact hf
      · rw [img_turn_out (f := 0) rfl (by omega), bf]
        show (flipL (L.take k.toNat) ++ L.drop k.toNat)[((i : Int)).toNat]? = _
        rw [List.getElem?_append_right (by rw [flipL_len, List.length_take]; omega), flipL_len, List.length_take, List.getElem?_drop, show k.toNat + ((i : Int).toNat - min k.toNat L.length) = i by omega]
        exact h
    | false =>
      rw [if_neg (by decide)]
      by_cases h1 : (L.length : Int) - k ≤ i
      · rw [img_turn_in (f := (L.length : Int) - k) rfl h1 (by omega), bt]
        have hf := flipL_at (L := L.drop ((L.length : Int) - k).toNat) (i := i - ((L.length : Int) - k).toNat) (c := c) (by rw [List.getElem?_drop, show ((L.length : Int) - k).toNat + (i - ((L.length : Int) - k).toNat) = i by omega]; exact h)
        rw [List.length_drop] at hf
        show (L.take ((L.length : Int) - k).toNat ++ flipL (L.drop ((L.length : Int) - k).toNat))[((L.length : Int) - k + ((L.length : Int) - k + k) - 1 - i).toNat]? = _
        rw [List.getElem?_append_right (by rw [List.length_take]; omega), List.length_take, show ((L.length : Int) - k + ((L.length : Int) - k + k) - 1 - i).toNat - min ((L.length : Int) - k).toNat L.length = L.length - ((L.length : Int) - k).toNat - 1 - (i - ((L.length : Int) - k).toNat) by omega]
        exact hf
      · rw [img_turn_out (f := (L.length : Int) - k) rfl (by omega), bf]
        show (L.take ((L.length : Int) - k).toNat ++ flipL (L.drop ((L.length : Int) - k).toNat))[((i : Int)).toNat]? = _
        rw [Int.toNat_natCast, List.getElem?_append_left (by rw [List.length_take]; omega), List.getElem?_take_of_lt (by omega)]
        exact h
  | face a k =>
    obtain ⟨k1, k2⟩ := hk
    have hr' : ¬ (L.length : Int) < k + 1 := hr
    have b1 := plc_bd (a := a) (i := k) (n := L.length) k1 (by omega)
    show (L.set (plc a k L.length).toNat ((L.getD (plc a k L.length).toNat (0, false)).1, !(L.getD (plc a k L.length).toNat (0, false)).2))[((i : Int)).toNat]? = some (c.1, c.2 != decide ((i : Int) = plc a k L.length))
    rw [Int.toNat_natCast]
    by_cases h1 : (i : Int) = plc a k L.length
    · have e : (plc a k L.length).toNat = i := by omega
      rw [decide_eq_true h1, bt, e, List.getElem?_set_self hi, List.getD_eq_getElem?_getD, h]
      rfl
    · rw [decide_eq_false h1, bf, List.getElem?_set_ne (by omega)]
      exact h
  | swap a k b j =>
    obtain ⟨k1, k2, k3, k4⟩ := hk
    have hr' : ¬ (L.length : Int) < max k j + 1 := hr
    have b1 := plc_bd (a := a) (i := k) (n := L.length) k1 (by omega)
    have b2 := plc_bd (a := b) (i := j) (n := L.length) k3 (by omega)
    rw [img_swap]
    show ((L.set (plc a k L.length).toNat (L.getD (plc b j L.length).toNat (0, false))).set (plc b j L.length).toNat (L.getD (plc a k L.length).toNat (0, false)))[_]? = _
    generalize plc a k L.length = x at b1 ⊢
    generalize plc b j L.length = y at b2 ⊢
    by_cases h1 : (i : Int) = x
    · have e : x.toNat = i := by omega
      rw [if_pos h1, bf]
      show (_ : List (Int × Bool))[y.toNat]? = _
      rw [List.getElem?_set_self (by rw [List.length_set]; omega), e, List.getD_eq_getElem?_getD, h]
      rfl
    · by_cases h2 : (i : Int) = y
      · have e : y.toNat = i := by omega
        rw [if_neg h1, if_pos h2, bf]
        show (_ : List (Int × Bool))[x.toNat]? = _
        rw [List.getElem?_set_ne (by omega), List.getElem?_set_self (by omega), e, List.getD_eq_getElem?_getD, h]
        rfl
      · rw [if_neg h1, if_neg h2, bf]
        show (_ : List (Int × Bool))[((i : Int)).toNat]? = _
        rw [Int.toNat_natCast, List.getElem?_set_ne (by omega), List.getElem?_set_ne (by omega)]
        exact h
  | carry a k b j =>
    obtain ⟨k1, k2, k3, k4⟩ := hk
    have hr' : ¬ (L.length : Int) < max k j + 1 := hr
    have b1 := plc_bd (a := a) (i := k) (n := L.length) k1 (by omega)
    have b2 := plc_bd (a := b) (i := j) (n := L.length) k3 (by omega)
    rw [img_carry]
    show ((L.eraseIdx (plc a k L.length).toNat).take (plc b j L.length).toNat ++ [L.getD (plc a k L.length).toNat (0, false)] ++ (L.eraseIdx (plc a k L.length).toNat).drop (plc b j L.length).toNat)[_]? = _
    generalize plc a k L.length = x at b1 ⊢
    generalize plc b j L.length = y at b2 ⊢
    have hx : x.toNat < L.length := by omega
    have hel : (L.eraseIdx x.toNat).length = L.length - 1 := List.length_eraseIdx_of_lt hx
    have hb : ∀ q : Nat, q < y.toNat → ((L.eraseIdx x.toNat).take y.toNat ++ [L.getD x.toNat (0, false)] ++ (L.eraseIdx x.toNat).drop y.toNat)[q]? = (L.eraseIdx x.toNat)[q]? := fun q hq => by
      rw [List.append_assoc, List.getElem?_append_left (by rw [List.length_take, hel]; omega), List.getElem?_take_of_lt hq]
    have hm : ((L.eraseIdx x.toNat).take y.toNat ++ [L.getD x.toNat (0, false)] ++ (L.eraseIdx x.toNat).drop y.toNat)[y.toNat]? = some (L.getD x.toNat (0, false)) := by
      rw [List.append_assoc, List.getElem?_append_right (by rw [List.length_take]; omega), List.length_take, hel, Nat.min_eq_left (by omega), Nat.sub_self]
      rfl
    have ha : ∀ q : Nat, y.toNat < q → ((L.eraseIdx x.toNat).take y.toNat ++ [L.getD x.toNat (0, false)] ++ (L.eraseIdx x.toNat).drop y.toNat)[q]? = (L.eraseIdx x.toNat)[q - 1]? := fun q hq => by
      rw [List.getElem?_append_right (by rw [List.length_append, List.length_take, List.length_singleton, hel]; omega), List.length_append, List.length_take, List.length_singleton, hel, List.getElem?_drop, show y.toNat + (q - (min y.toNat (L.length - 1) + 1)) = q - 1 by omega]
    have hlo : ∀ q : Nat, q < x.toNat → (L.eraseIdx x.toNat)[q]? = L[q]? := fun q hq => List.getElem?_eraseIdx_of_lt hq
    have hhi : ∀ q : Nat, x.toNat ≤ q → (L.eraseIdx x.toNat)[q]? = L[q + 1]? := fun q hq => List.getElem?_eraseIdx_of_ge hq
    by_cases h1 : (i : Int) = x
    · rw [if_pos h1, bf]
      show (_ : List (Int × Bool))[y.toNat]? = _
      rw [hm, show x.toNat = i by omega, List.getD_eq_getElem?_getD, h]
      rfl
    · by_cases h2 : x < (i : Int) ∧ (i : Int) ≤ y
      · rw [if_neg h1, if_pos h2, bf]
        show (_ : List (Int × Bool))[((i : Int) - 1).toNat]? = _
        rw [hb _ (by omega), hhi _ (by omega), show ((i : Int) - 1).toNat + 1 = i by omega]
        exact h
      · by_cases h3 : y ≤ (i : Int) ∧ (i : Int) < x
        · rw [if_neg h1, if_neg h2, if_pos h3, bf]
          show (_ : List (Int × Bool))[((i : Int) + 1).toNat]? = _
          rw [ha _ (by omega), hlo _ (by omega), show ((i : Int) + 1).toNat - 1 = i by omega]
          exact h
        · rw [if_neg h1, if_neg h2, if_neg h3, bf]
          show (_ : List (Int × Bool))[((i : Int)).toNat]? = _
          rw [Int.toNat_natCast]
          by_cases h4 : i < y.toNat
          · rw [hb _ h4, hlo _ (by omega)]
            exact h
          · rw [ha _ (by omega), hhi _ (by omega), show i - 1 + 1 = i by omega]
            exact h
theorem deal_len {m : Mv} (hk : m.ok) (L : List (Int × Bool)) : (dealtL m L).length = L.length := by
  unfold dealtL
  by_cases hr : (L.length : Int) < m.reach
  · simp only [if_pos hr]
  simp only [if_neg hr]
  cases m with
  | over => exact flipL_len L
  | cut k =>
    show (L.drop (k.fmod L.length).toNat ++ L.take (k.fmod L.length).toNat).length = L.length
    rw [List.length_append, List.length_drop, List.length_take]
    omega
  | turn a k =>
    show (if a = true then flipL (L.take k.toNat) ++ L.drop k.toNat else L.take ((L.length : Int) - k).toNat ++ flipL (L.drop ((L.length : Int) - k).toNat)).length = L.length
    cases a with
    | true => rw [if_pos rfl, List.length_append, flipL_len, List.length_take, List.length_drop]; omega
    | false => rw [if_neg (by decide), List.length_append, flipL_len, List.length_take, List.length_drop]; omega
  | face a k => exact List.length_set ..
  | swap a k b j =>
    show (List.set _ _ _).length = _
    rw [List.length_set, List.length_set]
  | carry a k b j =>
    obtain ⟨k1, k2, k3, k4⟩ := hk
    have hr' : ¬ (L.length : Int) < max k j + 1 := hr
    have b1 := plc_bd (a := a) (i := k) (n := L.length) k1 (by omega)
    have hel : (L.eraseIdx (plc a k L.length).toNat).length = L.length - 1 := List.length_eraseIdx_of_lt (by omega)
    show ((L.eraseIdx (plc a k L.length).toNat).take (plc b j L.length).toNat ++ [L.getD (plc a k L.length).toNat (0, false)] ++ (L.eraseIdx (plc a k L.length).toNat).drop (plc b j L.length).toNat).length = _
    rw [List.length_append, List.length_append, List.length_take, List.length_drop, hel, List.length_singleton]
    omega
/-! ### several moves -/
def runM (n : Int) : List Mv → Int × Bool → Int × Bool
  | [], c => c
  | m :: ms, c => runM n ms ((m.image n c.1).1, c.2 != (m.image n c.1).2)
theorem runM_snoc (n : Int) (m : Mv) : ∀ (ms : List Mv) (c : Int × Bool), runM n (ms ++ [m]) c = ((m.image n (runM n ms c).1).1, (runM n ms c).2 != (m.image n (runM n ms c).1).2)
  | [], _ => rfl
  | _ :: ms, _ => runM_snoc n m ms _
theorem runM_one (n : Int) (m : Mv) (p : Int) : runM n [m] (p, false) = m.image n p := by
  show ((m.image n p).1, false != (m.image n p).2) = m.image n p
  cases h : m.image n p with
  | mk x f => cases f <;> rfl
theorem runM_bd {n : Int} : ∀ {ms : List Mv} {c : Int × Bool}, (∀ m ∈ ms, m.ok) → 0 ≤ c.1 → c.1 < n → 0 ≤ (runM n ms c).1 ∧ (runM n ms c).1 < n
  | [], _, _, h0, h1 => ⟨h0, h1⟩
  | m :: ms, c, hk, h0, h1 => by
    obtain ⟨e0, e1, _⟩ := image_undo (hk m (List.mem_cons_self ..)) h0 h1
    exact runM_bd (ms := ms) (fun x hx => hk x (List.mem_cons_of_mem _ hx)) e0 e1
def runP (n : Int) : List Mv → Int → Int
  | [], p => p
  | m :: ms, p => runP n ms (m.image n p).1
theorem runM_fst (n : Int) : ∀ (ms : List Mv) (c : Int × Bool), (runM n ms c).1 = runP n ms c.1
  | [], _ => rfl
  | _ :: ms, _ => runM_fst n ms _
theorem runP_onto {n : Int} {j : Int} (h0 : 0 ≤ j) (h1 : j < n) : ∀ {ms : List Mv}, (∀ m ∈ ms, m.ok) → ∃ p, 0 ≤ p ∧ p < n ∧ runP n ms p = j
  | [], _ => ⟨j, h0, h1, rfl⟩
  | m :: ms, hk => by
    obtain ⟨q, q0, q1, hq⟩ := runP_onto h0 h1 (ms := ms) (fun x hx => hk x (List.mem_cons_of_mem _ hx))
    obtain ⟨e0, e1, e2⟩ := image_undo (undo_ok (hk m (List.mem_cons_self ..))) q0 q1
    rw [undo_undo] at e2
    refine ⟨_, e0, e1, ?_⟩
    show runP n ms (m.image n (m.undo.image n q).1).1 = j
    rw [e2]
    exact hq
def initL (n : Nat) : List (Int × Bool) := (List.range n).map fun i : Nat => ((i : Int), false)
/-- the cards after these moves -/
structure Deal (n : Nat) (ms : List Mv) (C : List (Int × Bool)) : Prop where
  ok : ∀ m ∈ ms, m.ok
  len : C.length = n
  at_ : ∀ i : Nat, i < n → C[(runM n ms ((i : Int), false)).1.toNat]? = some ((i : Int), (runM n ms ((i : Int), false)).2)
theorem Deal.nil (n : Nat) : Deal n [] (initL n) := ⟨fun _ h => (nomatch h), by unfold initL; rw [List.length_map, List.length_range], fun i hi => by
  show (initL n)[((i : Int)).toNat]? = some ((i : Int), false)
  unfold initL
  rw [Int.toNat_natCast, List.getElem?_map, List.getElem?_range hi]
  rfl⟩
theorem Deal.snoc {n : Nat} {ms : List Mv} {C : List (Int × Bool)} (d : Deal n ms C) {m : Mv} (hk : m.ok) : Deal n (ms ++ [m]) (dealtL m C) := by
  refine ⟨fun x hx => ?_, by rw [deal_len hk, d.len], fun i hi => ?_⟩
  · rcases List.mem_append.mp hx with h | h
    · exact d.ok x h
    · rw [List.mem_singleton] at h
      rw [h]
      exact hk
  · have b := runM_bd (n := n) (ms := ms) (c := ((i : Int), false)) d.ok (by show (0 : Int) ≤ i; omega) (by show (i : Int) < n; omega)
    have h := deal_at hk (d.at_ i hi)
    rw [d.len, Int.toNat_of_nonneg b.1] at h
    rw [runM_snoc]
    exact h
theorem Deal.here {n : Nat} {ms : List Mv} {C : List (Int × Bool)} (d : Deal n ms C) {t : Nat} (ht : t < n) : ∃ (i : Nat) (f : Bool), i < n ∧ C[t]? = some ((i : Int), f) ∧ runM n ms ((i : Int), false) = ((t : Int), f) := by
  obtain ⟨p, p0, p1, hp⟩ := runP_onto (n := n) (j := t) (by omega) (by omega) d.ok
  obtain ⟨i, rfl⟩ := Int.eq_ofNat_of_zero_le p0
  have hi : i < n := by omega
  have e : (runM n ms ((i : Int), false)).1 = t := (runM_fst n ms _).trans hp
  have h := d.at_ i hi
  rw [e, Int.toNat_natCast] at h
  refine ⟨i, _, hi, h, ?_⟩
  rw [← e]
/-- the images found so far -/
structure Fnd (n : Nat) (ms : List Mv) (t : Nat) (F : List (Int × Bool)) : Prop where
  len : F.length = n
  at_ : ∀ i : Nat, i < n → (runM n ms ((i : Int), false)).1 < t → F[i]? = some (runM n ms ((i : Int), false))
theorem Fnd.step {n : Nat} {ms : List Mv} {C F : List (Int × Bool)} {t i : Nat} {f : Bool} (d : Deal n ms C) (x : Fnd n ms t F) (hi : i < n) (hc : C[t]? = some ((i : Int), f)) (hr : runM n ms ((i : Int), false) = ((t : Int), f)) :
    Fnd n ms (t + 1) (F.set i ((t : Int), f)) := by
  refine ⟨by rw [List.length_set, x.len], fun k hk hlt => ?_⟩
  by_cases e : k = i
  · subst e
    rw [List.getElem?_set_self (by rw [x.len]; exact hk), hr]
  · rw [List.getElem?_set_ne (Ne.symm e)]
    refine x.at_ k hk ?_
    have b := runM_bd (n := n) (ms := ms) (c := ((k : Int), false)) d.ok (by show (0 : Int) ≤ k; omega) (by show (k : Int) < n; omega)
    by_cases e2 : (runM n ms ((k : Int), false)).1 = t
    · have h := d.at_ k hk
      rw [e2, Int.toNat_natCast, hc] at h
      have h1 := congrArg Prod.fst (Option.some.inj h)
      exact absurd (by have h2 : (i : Int) = k := h1; omega) e
    · omega
theorem Fnd.all {n : Nat} {ms : List Mv} {F : List (Int × Bool)} (hk : ∀ m ∈ ms, m.ok) (x : Fnd n ms n F) : F = (List.range n).map fun i : Nat => runM n ms ((i : Int), false) := by
  apply List.ext_getElem?
  intro i
  by_cases hi : i < n
  · have b := runM_bd (n := n) (ms := ms) (c := ((i : Int), false)) hk (by show (0 : Int) ≤ i; omega) (by show (i : Int) < n; omega)
    rw [x.at_ i hi b.2, List.getElem?_map, List.getElem?_range hi]
    rfl
  · rw [List.getElem?_eq_none (by rw [x.len]; omega), List.getElem?_eq_none (by rw [List.length_map, List.length_range]; omega)]
theorem ixN_of {n : Nat} {z : Int} (h0 : 0 ≤ z) (h1 : z < n) : ixN n z = some z.toNat := by
  unfold ixN
  rw [if_pos h0, if_pos h1]
theorem seqIx_of {n : Nat} {z : Int} (h0 : 0 ≤ z) (h1 : z < n) : seqIndex? z n = some z.toNat := by
  have e : (if z < 0 then z + n else z) = z := if_neg (by omega)
  show (if (0 ≤ (if z < 0 then z + n else z) && (if z < 0 then z + n else z) < n) = true then some (if z < 0 then z + n else z).toNat else none) = _
  rw [e, if_pos (by rw [Bool.and_eq_true, decide_eq_true_eq, decide_eq_true_eq]; exact ⟨h0, h1⟩)]
theorem deal_same {m : Mv} {L : List (Int × Bool)} (h : (L.length : Int) < m.reach) : dealtL m L = L := if_pos h
theorem deal_nil {m : Mv} (hk : m.ok) {L : List (Int × Bool)} (h : L.length = 0) : dealtL m L = L := by
  have e := deal_len hk L
  rw [List.eq_nil_of_length_eq_zero (e.trans h), List.eq_nil_of_length_eq_zero h]
theorem deal_over {L : List (Int × Bool)} (h : ¬ (L.length : Int) < 0) : dealtL .over L = flipL L := if_neg h
theorem deal_cut {k : Int} {L : List (Int × Bool)} (h : ¬ (L.length : Int) < (Mv.cut k).reach) : dealtL (.cut k) L = L.drop (k.fmod L.length).toNat ++ L.take (k.fmod L.length).toNat := if_neg h
theorem deal_top {k : Int} {L : List (Int × Bool)} (h : ¬ (L.length : Int) < k) : dealtL (.turn true k) L = flipL (L.take k.toNat) ++ L.drop k.toNat := if_neg h
theorem deal_bot {k : Int} {L : List (Int × Bool)} (h : ¬ (L.length : Int) < k) : dealtL (.turn false k) L = L.take ((L.length : Int) - k).toNat ++ flipL (L.drop ((L.length : Int) - k).toNat) := if_neg h
theorem deal_face {a : Bool} {i : Int} {L : List (Int × Bool)} (h : ¬ (L.length : Int) < i + 1) : dealtL (.face a i) L = L.set (plc a i L.length).toNat ((L.getD (plc a i L.length).toNat (0, false)).1, !(L.getD (plc a i L.length).toNat (0, false)).2) := if_neg h
theorem deal_swap {a b : Bool} {i j : Int} {L : List (Int × Bool)} (h : ¬ (L.length : Int) < max i j + 1) : dealtL (.swap a i b j) L = (L.set (plc a i L.length).toNat (L.getD (plc b j L.length).toNat (0, false))).set (plc b j L.length).toNat (L.getD (plc a i L.length).toNat (0, false)) := if_neg h
theorem deal_carry {a b : Bool} {i j : Int} {L : List (Int × Bool)} (h : ¬ (L.length : Int) < max i j + 1) : dealtL (.carry a i b j) L = (L.eraseIdx (plc a i L.length).toNat).take (plc b j L.length).toNat ++ [L.getD (plc a i L.length).toNat (0, false)] ++ (L.eraseIdx (plc a i L.length).toNat).drop (plc b j L.length).toNat := if_neg h
theorem initL_take (n i : Nat) (h : i < n) : (initL n).take (i + 1) = (initL n).take i ++ [((i : Int), false)] := by
  have g : (initL n)[i]? = some ((i : Int), false) := by
    unfold initL
    rw [List.getElem?_map, List.getElem?_range h]
    rfl
  rw [List.take_add_one, g]
  rfl
def imagesL (n : Nat) (ms : List Mv) : List (Int × Bool) := (List.range n).map fun i : Nat => runM n ms ((i : Int), false)
/-! ### cards as data -/
def flipD : D → D
  | .tup [.int i, .bl b] => .tup [.int i, .bl (!b)]
  | _ => .non
theorem flipD_map (L : List (Int × Bool)) : ((L.map imgD).reverse).map flipD = (flipL L).map imgD := by
  unfold flipL
  rw [← List.map_reverse, List.map_map, List.map_map]
  rfl
theorem cutD_lo (zs : List D) (n : Int) (h0 : 0 ≤ n) (h1 : n ≤ zs.length) : cutD zs (some n) none = zs.drop n.toNat := by
  obtain ⟨k, rfl⟩ := Int.eq_ofNat_of_zero_le h0
  unfold cutD
  rw [HT.sIx_nat, HT.sIx_none, Nat.min_eq_left (by omega), Int.toNat_natCast]
  exact List.take_of_length_le (by rw [List.length_drop]; exact Nat.le_refl _)
theorem cutD_hi (zs : List D) (n : Int) (h0 : 0 ≤ n) (h1 : n ≤ zs.length) : cutD zs none (some n) = zs.take n.toNat := by
  obtain ⟨k, rfl⟩ := Int.eq_ofNat_of_zero_le h0
  unfold cutD
  rw [HT.sIx_nat, HT.sIx_none, Nat.min_eq_left (by omega), Int.toNat_natCast]
  rfl
theorem at_card {L : List (Int × Bool)} {z : Int} (h0 : 0 ≤ z) (h1 : z < L.length) : atI (L.map imgD) z = some (imgD (L.getD z.toNat (0, false))) := by
  obtain ⟨k, rfl⟩ := Int.eq_ofNat_of_zero_le h0
  rw [Int.toNat_natCast]
  have e : L[k]? = some (L.getD k (0, false)) := by
    rw [List.getD_eq_getElem?_getD, List.getElem?_eq_getElem (by omega)]
    rfl
  exact atI_nat (by rw [List.getElem?_map, e]; rfl)
theorem get_card {L : List (Int × Bool)} {z : Int} (h0 : 0 ≤ z) (h1 : z < L.length) : (L.map imgD)[z.toNat]? = some (imgD (L.getD z.toNat (0, false))) := by
  have e : L[z.toNat]? = some (L.getD z.toNat (0, false)) := by
    rw [List.getD_eq_getElem?_getD, List.getElem?_eq_getElem (by omega)]
    rfl
  rw [List.getElem?_map, e]
  rfl
theorem erase_map (L : List (Int × Bool)) (i : Nat) : (L.map imgD).eraseIdx i = (L.eraseIdx i).map imgD := by
  rw [List.eraseIdx_eq_take_drop_succ, List.eraseIdx_eq_take_drop_succ, List.map_append, List.map_take, List.map_drop]
def numD : D → D
  | .int i => .tup [.int i, .bl false]
  | _ => .non
theorem num_map (n : Nat) : (rngD 0 n).map numD = (initL n).map imgD := by
  unfold rngD initL
  rw [List.map_map, List.map_map]
  apply List.map_congr_left
  intro i _
  show numD (.int (0 + (i : Int))) = imgD ((i : Int), false)
  rw [Int.zero_add]
  rfl
theorem rng_len (n : Nat) : (rngD 0 n).length = n := by unfold rngD; rw [List.length_map, List.length_range]
theorem rng_get {n i : Nat} {d : D} (h : (rngD 0 n)[i]? = some d) : i < n ∧ d = .int (i : Int) := by
  have hi := (List.getElem?_eq_some_iff.mp h).1
  rw [rng_len] at hi
  refine ⟨hi, ?_⟩
  unfold rngD at h
  rw [List.getElem?_map, List.getElem?_range hi] at h
  have e := Option.some.inj h
  rw [← e]
  show D.int (0 + (i : Int)) = _
  rw [Int.zero_add]
/-! ### cards laid anew -/
def sliceL (L : List (Int × Bool)) (f b : Int) : List (Int × Bool) := (L.drop f.toNat).take (b.toNat - f.toNat)
def pieceL (L : List (Int × Bool)) (b : Blk) : List (Int × Bool) := if b.2.2 = true then flipL (sliceL L b.1 b.2.1) else sliceL L b.1 b.2.1
def laidL (bl : List Blk) (L : List (Int × Bool)) : List (Int × Bool) := bl.flatMap (pieceL L)
def blkOk (n : Int) (b : Blk) : Prop := 0 ≤ b.1 ∧ b.1 ≤ b.2.1 ∧ b.2.1 ≤ n
def blkSum : List Blk → Int
  | [] => 0
  | b :: r => (b.2.1 - b.1) + blkSum r
theorem slice_len {L : List (Int × Bool)} {f b : Int} (h0 : 0 ≤ f) (h1 : f ≤ b) (h2 : b ≤ L.length) : ((sliceL L f b).length : Int) = b - f := by
  unfold sliceL
  rw [List.length_take, List.length_drop]
  omega
theorem slice_at {L : List (Int × Bool)} {f b p : Int} (h0 : 0 ≤ f) (h1 : f ≤ p) (h2 : p < b) : (sliceL L f b)[(p - f).toNat]? = L[p.toNat]? := by
  unfold sliceL
  rw [List.getElem?_take_of_lt (by omega), List.getElem?_drop, show f.toNat + (p - f).toNat = p.toNat by omega]
theorem piece_len {L : List (Int × Bool)} {b : Blk} (h : blkOk L.length b) : ((pieceL L b).length : Int) = b.2.1 - b.1 := by
  obtain ⟨h0, h1, h2⟩ := h
  unfold pieceL
  split
  · rw [flipL_len]; exact slice_len h0 h1 h2
  · exact slice_len h0 h1 h2
theorem laid_len {L : List (Int × Bool)} : ∀ {bl : List Blk}, (∀ b ∈ bl, blkOk L.length b) → ((laidL bl L).length : Int) = blkSum bl
  | [], _ => rfl
  | b :: r, h => by
    have e1 := piece_len (h b (List.mem_cons_self ..))
    have e2 := laid_len (bl := r) fun x m => h x (List.mem_cons_of_mem _ m)
    show ((pieceL L b ++ laidL r L).length : Int) = _
    rw [List.length_append]
    show _ = (b.2.1 - b.1) + blkSum r
    omega
theorem laid_at {L : List (Int × Bool)} {p : Int} {c : Int × Bool} (hp : L[p.toNat]? = some c) : ∀ {bl : List Blk} {ab q : Int} {t : Bool}, (∀ b ∈ bl, blkOk L.length b) → movedL bl ab p = some (q, t) →
    ab ≤ q ∧ (laidL bl L)[(q - ab).toNat]? = some (c.1, c.2 != t)
  | [], _, _, _, _, h => nomatch h
  | (f, b, tt) :: r, ab, q, t, h, hm => by
    have hb := h (f, b, tt) (List.mem_cons_self ..)
    obtain ⟨h0, h1, h2⟩ := id hb
    dsimp only at h0 h1 h2
    have hl := piece_len hb
    dsimp only at hl
    have bf : ∀ x : Bool, (x != false) = x := fun x => by cases x <;> rfl
    have bt : ∀ x : Bool, (x != true) = !x := fun x => by cases x <;> rfl
    show ab ≤ q ∧ (pieceL L (f, b, tt) ++ laidL r L)[(q - ab).toNat]? = _
    simp only [movedL] at hm
    by_cases hit : f ≤ p ∧ p < b
    · rw [if_pos hit] at hm
      obtain ⟨i1, i2⟩ := hit
      have hs : (sliceL L f b)[(p - f).toNat]? = some c := by rw [slice_at h0 i1 i2]; exact hp
      cases tt with
      | true =>
        rw [if_pos rfl] at hm
        have e := Option.some.inj hm
        have e1 : ab + b - 1 - p = q := congrArg Prod.fst e
        have e2 : true = t := congrArg Prod.snd e
        subst e2
        have hf := flipL_at hs
        have hsl := slice_len h0 h1 h2 (L := L)
        refine ⟨by omega, ?_⟩
        rw [List.getElem?_append_left (by omega), bt]
        show (flipL (sliceL L f b))[(q - ab).toNat]? = _
        rw [show (q - ab).toNat = (sliceL L f b).length - 1 - (p - f).toNat by omega]
        exact hf
      | false =>
        rw [if_neg (by decide)] at hm
        have e := Option.some.inj hm
        have e1 : ab + p - f = q := congrArg Prod.fst e
        have e2 : false = t := congrArg Prod.snd e
        subst e2
        refine ⟨by omega, ?_⟩
        rw [List.getElem?_append_left (by omega), bf]
        show (sliceL L f b)[(q - ab).toNat]? = _
        rw [show (q - ab).toNat = (p - f).toNat by omega]
        exact hs
    · rw [if_neg hit] at hm
      obtain ⟨g1, g2⟩ := laid_at hp (bl := r) (fun x m => h x (List.mem_cons_of_mem _ m)) hm
      refine ⟨by omega, ?_⟩
      rw [List.getElem?_append_right (by omega), show (q - ab).toNat - (pieceL L (f, b, tt)).length = (q - (ab + (b - f))).toNat by omega]
      exact g2
theorem blocks_ok {m : Mv} (hk : m.ok) {n : Int} (hn : 0 ≤ n) : (∀ b ∈ m.blocks n, blkOk n b) ∧ blkSum (m.blocks n) = n := by
  unfold Mv.blocks
  by_cases hr : n < m.reach
  · rw [if_pos hr]
    refine ⟨fun b hb => ?_, ?_⟩
    · rw [List.mem_singleton.mp hb]
      exact ⟨Int.le_refl _, hn, Int.le_refl _⟩
    · show (n - 0) + 0 = n
      omega
  rw [if_neg hr]
  have pb : ∀ (a : Bool) (i : Int), 0 ≤ i → i < n → 0 ≤ plc a i n ∧ plc a i n < n := fun a i h0 h1 => by unfold plc; split <;> omega
  have all : ∀ bl : List Blk, (∀ b ∈ bl, blkOk n b) ∧ blkSum bl = n → (∀ b ∈ bl, blkOk n b) ∧ blkSum bl = n := fun _ h => h
  have nil : ∀ b ∈ ([] : List Blk), blkOk n b := fun b h => nomatch h
  have cons : ∀ (b : Blk) (r : List Blk), blkOk n b → (∀ b ∈ r, blkOk n b) → ∀ x ∈ b :: r, blkOk n x := fun b r h g x m => by
    rcases List.mem_cons.mp m with rfl | m
    · exact h
    · exact g x m
  cases m with
  | over => exact ⟨cons _ _ ⟨Int.le_refl _, hn, Int.le_refl _⟩ nil, by show (n - 0) + 0 = n; omega⟩
  | cut k =>
    have hr' : ¬ n < (if k < 0 then -k else k) := hr
    have hk1 : ¬ n < k ∧ ¬ n < -k := by
      split at hr' <;> omega
    simp only [Mv.blks]
    by_cases h : 0 ≤ k
    · rw [if_pos h]
      exact ⟨cons _ _ ⟨h, by show k ≤ n; omega, Int.le_refl _⟩ (cons _ _ ⟨Int.le_refl _, h, by show k ≤ n; omega⟩ nil), by show (n - k) + ((k - 0) + 0) = n; omega⟩
    · rw [if_neg h]
      exact ⟨cons _ _ ⟨by show 0 ≤ n + k; omega, by show n + k ≤ n; omega, Int.le_refl _⟩ (cons _ _ ⟨Int.le_refl _, by show 0 ≤ n + k; omega, by show n + k ≤ n; omega⟩ nil), by show (n - (n + k)) + ((n + k - 0) + 0) = n; omega⟩
  | turn a k =>
    have hk0 : 0 ≤ k := hk.1
    have hr' : ¬ n < k := hr
    cases a with
    | true => exact ⟨cons _ _ ⟨Int.le_refl _, hk0, by show k ≤ n; omega⟩ (cons _ _ ⟨hk0, by show k ≤ n; omega, Int.le_refl _⟩ nil), by show (k - 0) + ((n - k) + 0) = n; omega⟩
    | false => exact ⟨cons _ _ ⟨Int.le_refl _, by show 0 ≤ n - k; omega, by show n - k ≤ n; omega⟩ (cons _ _ ⟨by show 0 ≤ n - k; omega, by show n - k ≤ n; omega, Int.le_refl _⟩ nil), by show (n - k - 0) + ((n - (n - k)) + 0) = n; omega⟩
  | face a i =>
    obtain ⟨h0, _⟩ := hk
    have hr' : ¬ n < i + 1 := hr
    obtain ⟨p0, p1⟩ := pb a i h0 (by omega)
    simp only [Mv.blks]
    generalize plc a i n = x at p0 p1 ⊢
    exact ⟨cons _ _ ⟨Int.le_refl _, p0, by show x ≤ n; omega⟩ (cons _ _ ⟨p0, by show x ≤ x + 1; omega, by show x + 1 ≤ n; omega⟩ (cons _ _ ⟨by show 0 ≤ x + 1; omega, by show x + 1 ≤ n; omega, Int.le_refl _⟩ nil)), by show (x - 0) + ((x + 1 - x) + ((n - (x + 1)) + 0)) = n; omega⟩
  | swap a i b j =>
    obtain ⟨h0, _, g0, _⟩ := hk
    have hr' : ¬ n < max i j + 1 := hr
    obtain ⟨p0, p1⟩ := pb a i h0 (by omega)
    obtain ⟨q0, q1⟩ := pb b j g0 (by omega)
    simp only [Mv.blks]
    generalize plc a i n = u at p0 p1 ⊢
    generalize plc b j n = v at q0 q1 ⊢
    obtain ⟨x, hx⟩ : ∃ x, x = min u v := ⟨_, rfl⟩
    obtain ⟨y, hy⟩ : ∃ y, y = max u v := ⟨_, rfl⟩
    rw [← hx, ← hy]
    by_cases e : x = y
    · rw [if_pos e]
      exact ⟨cons _ _ ⟨Int.le_refl _, hn, Int.le_refl _⟩ nil, by show (n - 0) + 0 = n; omega⟩
    · rw [if_neg e]
      refine ⟨cons _ _ ⟨Int.le_refl _, by show 0 ≤ x; omega, by show x ≤ n; omega⟩ (cons _ _ ⟨by show 0 ≤ y; omega, by show y ≤ y + 1; omega, by show y + 1 ≤ n; omega⟩ (cons _ _ ⟨by show 0 ≤ x + 1; omega, by show x + 1 ≤ y; omega, by show y ≤ n; omega⟩ (cons _ _ ⟨by show 0 ≤ x; omega, by show x ≤ x + 1; omega, by show x + 1 ≤ n; omega⟩ (cons _ _ ⟨by show 0 ≤ y + 1; omega, by show y + 1 ≤ n; omega, Int.le_refl _⟩ nil)))), ?_⟩
      show (x - 0) + ((y + 1 - y) + ((y - (x + 1)) + ((x + 1 - x) + ((n - (y + 1)) + 0)))) = n
      omega
  | carry a i b j =>
    obtain ⟨h0, _, g0, _⟩ := hk
    have hr' : ¬ n < max i j + 1 := hr
    obtain ⟨p0, p1⟩ := pb a i h0 (by omega)
    obtain ⟨q0, q1⟩ := pb b j g0 (by omega)
    simp only [Mv.blks]
    generalize plc a i n = x at p0 p1 ⊢
    generalize plc b j n = y at q0 q1 ⊢
    by_cases e : x ≤ y
    · rw [if_pos e]
      refine ⟨cons _ _ ⟨Int.le_refl _, p0, by show x ≤ n; omega⟩ (cons _ _ ⟨by show 0 ≤ x + 1; omega, by show x + 1 ≤ y + 1; omega, by show y + 1 ≤ n; omega⟩ (cons _ _ ⟨p0, by show x ≤ x + 1; omega, by show x + 1 ≤ n; omega⟩ (cons _ _ ⟨by show 0 ≤ y + 1; omega, by show y + 1 ≤ n; omega, Int.le_refl _⟩ nil))), ?_⟩
      show (x - 0) + ((y + 1 - (x + 1)) + ((x + 1 - x) + ((n - (y + 1)) + 0))) = n
      omega
    · rw [if_neg e]
      refine ⟨cons _ _ ⟨Int.le_refl _, q0, by show y ≤ n; omega⟩ (cons _ _ ⟨p0, by show x ≤ x + 1; omega, by show x + 1 ≤ n; omega⟩ (cons _ _ ⟨q0, by show y ≤ x; omega, by show x ≤ n; omega⟩ (cons _ _ ⟨by show 0 ≤ x + 1; omega, by show x + 1 ≤ n; omega, Int.le_refl _⟩ nil))), ?_⟩
      show (y - 0) + ((x + 1 - x) + ((x - y) + ((n - (x + 1)) + 0))) = n
      omega
theorem laid_length {m : Mv} (hk : m.ok) (L : List (Int × Bool)) : (laidL (m.blocks L.length) L).length = L.length := by
  obtain ⟨h1, h2⟩ := blocks_ok hk (n := L.length) (by omega)
  have := laid_len h1
  omega
theorem Deal.laid {n : Nat} {ms : List Mv} {C : List (Int × Bool)} (d : Deal n ms C) {m : Mv} (hk : m.ok) : Deal n (ms ++ [m]) (laidL (m.blocks n) C) := by
  have hl := d.len
  have e := laid_length hk C
  rw [hl] at e
  refine ⟨fun x hx => ?_, e, fun i hi => ?_⟩
  · rcases List.mem_append.mp hx with h | h
    · exact d.ok x h
    · rw [List.mem_singleton] at h
      rw [h]
      exact hk
  · have b := runM_bd (n := n) (ms := ms) (c := ((i : Int), false)) d.ok (by show (0 : Int) ≤ i; omega) (by show (i : Int) < n; omega)
    obtain ⟨h1, h2⟩ := blocks_ok hk (n := n) (by omega)
    rw [← hl] at h1
    have hm := moved_image hk b.1 b.2
    have h := laid_at (L := C) (d.at_ i hi) h1 (by rw [hl]; exact hm)
    rw [runM_snoc, show ∀ x : Int, x - 0 = x from fun x => by omega] at *
    rw [hl] at h
    exact h.2
theorem laid_take {bl : List Blk} {L : List (Int × Bool)} {k : Nat} {b : Blk} (h : bl[k]? = some b) : laidL (bl.take (k + 1)) L = laidL (bl.take k) L ++ pieceL L b := by
  unfold laidL
  rw [List.take_add_one, h, List.flatMap_append]
  show _ ++ (pieceL L b ++ []) = _
  rw [List.append_nil]
theorem laid_take_len (bl : List Blk) (L : List (Int × Bool)) (k : Nat) : (laidL (bl.take k) L).length ≤ (laidL bl L).length := by
  have e : laidL bl L = laidL (bl.take k) L ++ laidL (bl.drop k) L := by
    unfold laidL
    rw [← List.flatMap_append, List.take_append_drop]
  rw [e, List.length_append]
  omega
/-! ### steps by data -/
local macro_rules | `(tactic| walk_at "side") => `(tactic| first
  | exact rfl | with_reducible assumption | exact Nat.le_of_ble_eq_true rfl | decide | exact True.intro | exact le_line (Nat.le_of_ble_eq_true rfl) | exact lt_line (Nat.le_of_ble_eq_true rfl) | omega | (show (_ : Int) ≠ 0; omega) | exact cut1_ok | (unfold CPow; decide) | exact mul_ok (small_abs (by omega)) (small_abs (by omega)) | exact div_small (by omega) (by omega) | assumption)
local macro_rules | `(tactic| walk_at "dR") => `(tactic| first
  | with_reducible refine run_ownNil ?_ | with_reducible refine run_ownL ?_ | ((with_reducible refine' run_extend ?ev ?kk); (case ev => exact rfl))
  | ((with_reducible refine' run_fld ?c ?n ?e ?kk); (case c => assumption); (case n => assumption); (case e => exact rfl))
  | ((with_reducible refine' run_retO ?ev ?kk); (case ev => exact rfl)) | ((with_reducible refine' run_setix ?ev ?kk); (case ev => exact rfl)) | ((with_reducible refine' run_popAt ?ev ?kk); (case ev => exact rfl)) | ((with_reducible refine' run_insert ?ev ?kk); (case ev => exact rfl)) | with_reducible refine run_parL ?_ | with_reducible refine run_ownRep ?_
  | with_reducible refine run_seq ?_ | with_reducible refine run_if ?_ | with_reducible refine run_set ?_ | with_reducible refine run_ret ?_ | with_reducible refine run_next ?_
  | with_reducible refine run_asg ?_ | with_reducible refine run_for ?_ | ((with_reducible refine' run_append ?ev ?kk); (case ev => exact rfl)) | ((with_reducible refine' run_aug ?ev ?kk); (case ev => exact rfl))
  | with_reducible refine run_par ?_ | with_reducible refine run_drop ?_ | with_reducible refine run_retN ?_ | with_reducible refine run_break ?_ | with_reducible refine run_cont ?_)
local macro_rules | `(tactic| walk_at "dE") => `(tactic| first
  | ((with_reducible refine' ev_var ?ev ?kk); (case ev => exact rfl))
  | with_reducible refine ev_lenOwn ?_
  | ((with_reducible refine' ev_fldO ?ev ?dd ?kk); (case ev => exact rfl); (case dd => exact rfl)) | with_reducible refine ev_fld ?_ | with_reducible refine ev_methX (by assumption) ?_ | with_reducible refine ev_meth ?_ | with_reducible refine ev_prop ?_ | with_reducible refine ev_makeX (by assumption) ?_ | with_reducible refine ev_make ?_ | with_reducible refine ev_ownX (by assumption) ?_ | with_reducible refine ev_own ?_ | ((with_reducible refine' ev_isiOwn ?o ?kk); (case o => assumption))
  | ((with_reducible refine' ev_ixO ?ev ?kk); (case ev => exact rfl)) | with_reducible refine ev_rev ?_ | with_reducible refine ev_op ?_ | with_reducible refine ev_int ?_ | with_reducible refine ev_str ?_ | with_reducible refine ev_callKX (by assumption) ?_ | with_reducible refine ev_callK ?_ | with_reducible refine ev_callC (by assumption) ?_ | with_reducible refine ev_callX (by assumption) ?_ | with_reducible refine ev_call ?_ | with_reducible refine ev_cb ?_ | with_reducible refine ev_tup ?_
  | with_reducible refine ev_if ?_ | with_reducible refine ev_and ?_ | with_reducible refine ev_or ?_ | with_reducible refine ev_not ?_ | with_reducible refine ev_bl ?_ | with_reducible refine ev_non ?_ | with_reducible refine ev_isi ?_
  | with_reducible refine ev_un ?_ | with_reducible refine ev_chain ?_ | with_reducible refine ev_lst ?_ | with_reducible refine ev_cbf ?_ | with_reducible refine ev_sl ?_ | with_reducible refine ev_m1 ?_ | with_reducible refine ev_kget ?_ | with_reducible refine ev_fmt ?_ | with_reducible refine ev_join ?_ | with_reducible refine ev_ty ?_ | with_reducible refine ev_cV ?_)
local macro_rules | `(tactic| walk_at "dT") => `(tactic| first
  | with_reducible refine evt_t ?_ | with_reducible refine evt_b ?_ | with_reducible refine evt_and ?_ | with_reducible refine evt_or ?_ | with_reducible refine evt_not ?_ | with_reducible refine evt_yes ?_)
local macro_rules | `(tactic| walk_at "dX") => `(tactic| first
  | ((with_reducible refine' evx_name ?ev ?kk); (case ev => first | exact rfl | assumption)) | with_reducible refine evx_tup ?_ | with_reducible refine evx_lst ?_ | with_reducible refine evxs_cons ?_ | with_reducible refine evxs_nil ?_
  | ((with_reducible refine' evg_name ?ev ?mm ?kk); (case ev => first | exact rfl | assumption); (case mm => decide)) | with_reducible refine evg_tup ?_ | with_reducible refine evg_lst ?_ | with_reducible refine evgs_cons ?_ | with_reducible refine evgs_nil ?_
  | with_reducible refine evi_list ?_ | with_reducible refine evi_tup ?_ | with_reducible refine evi_rng1 ?_ | with_reducible refine evi_rng2 ?_ | with_reducible refine evi_enum ?_ | with_reducible refine evi_zip ?_
  | with_reducible refine eva_items ?_ | with_reducible refine evi_revA ?_ | with_reducible refine evi_enumT ?_ | with_reducible refine evf_cb ?_ | with_reducible refine evo_none ?_ | with_reducible refine evo_some ?_ | with_reducible refine evj_cons ?_ | with_reducible refine evj_nil ?_)
local macro_rules | `(tactic| walk_at "d1") => `(tactic| first
  | ((with_reducible change Ev _ _ _ _ _); walk_at "dE")
  | ((with_reducible change Run _ _ _ _ _); walk_at "dR")
  | with_reducible refine eva_cons ?_ | with_reducible refine eva_nil ?_
  | ((with_reducible change EvT _ _ _ _ _); walk_at "dT")
  | with_reducible refine eva_star ?_
  | with_reducible refine iteT ?_ | with_reducible refine iteF ?_
  | ((with_reducible change if (_ : Bool) = true then _ else _); first | refine iteT ?_ | refine iteF ?_)
  | ((with_reducible refine And.intro ?cc ?_); (case cc => walk_at "side"))
  | ((with_reducible refine' Exists.intro _ (And.intro ?cc ?kk)); (case cc => first | exact rfl | exact at_zero))
  | ((with_reducible refine' Exists.intro _ (Exists.intro _ (And.intro ?cc ?kk))); (case cc => exact rfl))
  | ((with_reducible refine' Exists.intro _ (Exists.intro _ (Exists.intro _ (And.intro ?cc (And.intro ?cd ?kk))))); (case cc => exact rfl); (case cd => exact rfl))
  | ((with_reducible refine' Exists.intro _ (Exists.intro _ (Exists.intro _ (And.intro ?cc ?kk)))); (case cc => exact rfl))
  | ((with_reducible refine' Exists.intro _ (Exists.intro _ (Exists.intro _ (Exists.intro _ (And.intro ?cc ?kk))))); (case cc => exact rfl))
  | walk_at "dX")
local macro_rules | `(tactic| walk_at "d2") => `(tactic| walk_at "d1")
local macro_rules | `(tactic| walk_at "dgo") => `(tactic| repeat walk_at "d1")
local macro_rules | `(tactic| walk_at "wk") => `(tactic| repeat first | exact True.intro | refine And.intro (Or.inl rfl) ?_ | refine And.intro (Or.inr (And.intro rfl rfl)) ?_)
local macro_rules | `(tactic| walk_at "d3") => `(tactic| first
  | ((with_reducible refine' ev_lenO ?ev ?kk); (case ev => exact rfl))
  | ((with_reducible refine' run_dputT ?ev ?kk); (case ev => exact rfl)) | ((with_reducible refine' run_dputK ?ev ?kk); (case ev => exact rfl)) | with_reducible refine run_dnewK ?_ | with_reducible refine run_dnewT ?_
  | ((with_reducible refine' ev_dgetK ?ev ?kk); (case ev => exact rfl)) | ((with_reducible refine' ev_dinK ?ev ?kk); (case ev => exact rfl)) | ((with_reducible refine' ev_dinT ?ev ?kk); (case ev => exact rfl)) | ((with_reducible refine' ev_dnotinK ?ev ?kk); (case ev => exact rfl))
  | ((with_reducible refine' run_append ?ev ?kk); (case ev => exact rfl)) | with_reducible refine run_appC ?_ | with_reducible refine run_par3 ?_ | ((with_reducible refine' eva_self ?ev ?kk); (case ev => exact rfl)) | with_reducible refine evf_methN ?_ | with_reducible refine ev_methN ?_ | with_reducible refine ev_listRg1 ?_
  | with_reducible refine evi_zipM ?_)
local macro_rules | `(tactic| walk_at "dgo") => `(tactic| repeat first | walk_at "d3" | walk_at "d1")
local macro_rules | `(tactic| walk_at "d3") => `(tactic| first
  | with_reducible refine evi_seq ?_ | with_reducible refine evi_orL ?_ | with_reducible refine ev_cref ?_ | ((with_reducible refine' ev_makeVX ?he ?ev ?kk); (case he => assumption); (case ev => exact rfl)))
/-! ### the program's cards -/
theorem cut_slice (L : List (Int × Bool)) {f b : Int} (h0 : 0 ≤ f) (h1 : f ≤ b) (h2 : b ≤ L.length) : cutD (L.map imgD) (some f) (some b) = (sliceL L f b).map imgD := by
  obtain ⟨x, rfl⟩ := Int.eq_ofNat_of_zero_le h0
  obtain ⟨y, rfl⟩ := Int.eq_ofNat_of_zero_le (by omega : 0 ≤ b)
  have hl : (L.map imgD).length = L.length := List.length_map _
  unfold cutD sliceL
  rw [HT.sIx_nat, HT.sIx_nat, Nat.min_eq_left (by omega), Nat.min_eq_left (by omega), Int.toNat_natCast, Int.toNat_natCast, ← List.map_drop, ← List.map_take]
theorem imagesL_eq (n : Nat) (ms : List Mv) : imagesL n ms = (List.range n).map fun i : Nat => runM n ms ((i : Int), false) := rfl
theorem le_line2 {n : Nat} (h : n ≤ 2000) : n ≤ sizeLine := Nat.le_trans h (by decide)
section
variable {P : Program} {w : World} {K : PySem.W.Frag} {mg : Str → Option Value} {base : Heap}
abbrev S_turned : Sd := fun _ ds Pq => ∃ L : List (Int × Bool), ds = [.lst (L.map imgD)] ∧ L.length ≤ 2000 ∧ Pq (.ok (.lst ((flipL L).map imgD)))
theorem ok_turned_over (T : Txt K mg w) : FnOk P w K mg base CX0 1 T.a_turned_over T.d_turned_over P_turned_over (spD K S_turned) := by
  refine okD T.F_turned_over sc_turned_over (fun bs ds Pq h => ?_) (fun cdv A outer s H E hr => ⟨_, (pss_one (ps_ret (pe_lc (own := [("card", 1), ("turned", 2)]) rfl sc_turned_over.nd (k_revA (K := K) (by rfl) T.m_reversed (pv 0)) (blkOk_by (N := N_turned_over) (sc := defScope s_turned_over) (by decide +kernel)) (fun _ _ _ _ _ => (k_gT (K := K) (n := 2) (pgs_cons (pg_name (i := 1) sc_turned_over.nd rfl (Or.inl rfl)) (pgs_cons (pg_name (i := 2) sc_turned_over.nd rfl (Or.inl rfl)) pgs_nil)))) (fun _ _ _ _ _ => pts_nil) (fun _ _ _ _ _ => (pe_tup (pa_cons (pv 1) (pa_cons (pe_not (pv 2)) pa_nil))))))), ?_⟩)
  · obtain ⟨L, rfl, _⟩ := h
    rfl
  · rintro C ds Pq hE hX ⟨L, rfl, hL, q⟩
    walk_at "dgo"
    refine ev_lcm flipD (by rfl) ?_
    walk_at "dgo"
    refine ⟨by rw [List.length_reverse, List.length_map]; omega, fun C' e1 e2 e3 n d hn => ?_, ?_⟩
    · obtain ⟨⟨i, b⟩, _, rfl⟩ := List.mem_map.mp (List.mem_reverse.mp (List.mem_of_getElem? hn))
      walk_at "dgo"
      exact rfl
    · rw [flipD_map]
      exact q
abbrev S_laid : Sd := fun _ ds Pq => ∃ (m : Mv) (L : List (Int × Bool)), ds = [mvD m, .lst (L.map imgD)] ∧ m.ok ∧ L.length ≤ 2000 ∧ Pq (.ok (.lst ((laidL (m.blocks L.length) L).map imgD)))
theorem ok_laid_anew (T : Txt K mg w) : FnOk P w K mg base (L2.CX P w) 9 T.a_laid_anew T.d_laid_anew P_laid_anew (spD K S_laid) := by
  have G_blocks := ok_blocks (P := P) (w := w) (base := base) T
  have G_turned_over := ok_turned_over (P := P) (w := w) (base := base) T
  refine okDX T.F_laid_anew sc_laid_anew (fun bs ds Pq h => ?_) (fun cdv A outer s H E hr => ⟨_, (pss_cons (ps_set (i := 2) sc_laid_anew.nd rfl (Or.inl rfl) (pe_lst pa_nil))
  (pss_cons (ps_for PassesOwn.leaving rfl (k_piL (K := K) (pe_call G_blocks (hr.mono (by decide)) (by rfl) T.g_blocks T.F_blocks.kp T.b_blocks .nil (passes_call (takes_of rfl rfl rfl rfl) fun _ _ _ _ h => h) (pa_cons (pv 0) (pa_cons (pe_callB (k_len (K := K)) (by rfl) T.m_len boot_len (pa_cons (pv 1) pa_nil)) pa_nil)))) (k_gT (K := K) (n := 3) (pgs_cons (pg_name (i := 3) sc_laid_anew.nd rfl (Or.inl rfl)) (pgs_cons (pg_name (i := 4) sc_laid_anew.nd rfl (Or.inl rfl)) (pgs_cons (pg_name (i := 5) sc_laid_anew.nd rfl (Or.inl rfl)) pgs_nil))))
  (pss_cons (ps_set (i := 6) sc_laid_anew.nd rfl (Or.inl rfl) (pe_slice (k_slL (K := K)) (pv 1) (po_some (pv 3)) (po_some (pv 4))))
  (pss_one (ps_expr (k_bm (K := K) PySem.F.plainAttrs_list PySem.F.slot_list_extend PySem.F.type_list_extend mt_extend (pv 2) (pa_cons (pe_ifExp (pt_val (pv 5)) (pe_call G_turned_over (hr.mono (by decide)) (by rfl) T.g_turned_over T.F_turned_over.kp T.b_turned_over .nil pass0 (pa_cons (pv 6) pa_nil)) (pv 6)) pa_nil))))))
  (pss_one (ps_ret (pv 2))))), ?_⟩)
  · obtain ⟨m, L, rfl, _⟩ := h
    rfl
  · rintro C ds Pq hE hX ⟨m, L, rfl, hk, hz, q⟩
    have hE' := hE.symm
    have hl : (L.map imgD).length = L.length := List.length_map _
    obtain ⟨hb, hs⟩ := blocks_ok hk (n := L.length) (by omega)
    walk_at "dgo"
    intro p
    walk_at "dgo"
    rw [hl]
    walk_at "dgo"
    refine forX (fun k (F : List (Int × Bool)) => F = laidL ((m.blocks L.length).take k) L) (fun F => [.val (mvD m), .val (.lst (L.map imgD)), .own p (F.map imgD), .no, .no, .no, .no]) [] rfl ?_ (fun hv hd k d F hi hF => ?_) (fun F hF => seq_wk ?_)
    · walk_at "wk"
    · obtain ⟨⟨f, b, t⟩, gb, rfl⟩ := map_inv hi
      obtain ⟨h0, h1, h2⟩ := hb _ (List.mem_of_getElem? gb)
      dsimp only at h0 h1 h2
      have key := laid_take (L := L) gb
      have len := laid_take_len (m.blocks L.length) L (k + 1)
      rw [laid_length hk] at len
      rw [key, List.length_append] at len
      rw [← hF] at key len
      walk_at "dgo"
      rw [cut_slice L h0 h1 h2]
      cases t with
      | true =>
        have e : pieceL L (f, b, true) = flipL (sliceL L f b) := rfl
        rw [e] at key len
        have hs : (sliceL L f b).length ≤ 2000 := by rw [flipL_len] at len; omega
        walk_at "dgo"
        refine And.intro (le_line2 (by rw [List.length_map, List.length_map]; omega)) ?_
        walk_at "dgo"
        rw [key, List.map_append]
        walk_at "wk"
      | false =>
        have e : pieceL L (f, b, false) = sliceL L f b := rfl
        rw [e] at key len
        walk_at "dgo"
        refine And.intro (le_line2 (by rw [List.length_map, List.length_map]; omega)) ?_
        walk_at "dgo"
        rw [key, List.map_append]
        walk_at "wk"
    · rw [List.length_map, List.take_length] at hF
      subst hF
      walk_at "dgo"
      exact q
abbrev S_allimg : Sd := fun _ ds Pq => ∃ (ms : List Mv) (n : Nat), ds = [.tup (ms.map mvD), .int n] ∧ (∀ m ∈ ms, m.ok) ∧ n ≤ 2000 ∧ Pq (.ok (.lst ((imagesL n ms).map imgD)))
theorem ok_all_images (T : Txt K mg w) : FnOk P w K mg base (L2.CX P w) 10 T.a_all_images T.d_all_images P_all_images (spD K S_allimg) := by
  have G_laid_anew := ok_laid_anew (P := P) (w := w) (base := base) T
  refine okDX T.F_all_images sc_all_images (fun bs ds Pq h => ?_) (fun cdv A outer s H E hr => ⟨_, (pss_cons (ps_setLc (i := 2) (own := [("card", 6)]) rfl sc_all_images.nd rfl rfl (sw_true rfl rfl rfl (by decide +kernel)) (pi_range1 rfl T.m_range (pa_cons (pv 1) pa_nil)) (blkOk_by (N := N_all_images) (sc := defScope s_all_images) (by decide +kernel)) (fun _ _ _ _ _ => (pg_name (i := 6) sc_all_images.nd rfl (Or.inl rfl))) (fun _ _ _ _ _ => pts_nil) (fun _ _ _ _ _ => (pe_tup (pa_cons (pv 6) (pa_cons pe_bl pa_nil)))))
  (pss_cons (ps_for PassesOwn.leaving rfl (k_piQ (K := K) (pv 0)) (pg_name (i := 3) sc_all_images.nd rfl (Or.inl rfl))
  (pss_one (ps_set (i := 2) sc_all_images.nd rfl (Or.inl rfl) (pe_call G_laid_anew (hr.mono (by decide)) (by rfl) T.g_laid_anew T.F_laid_anew.kp T.b_laid_anew .nil (passes_call (takes_of rfl rfl rfl rfl) fun _ _ _ _ h => h) (pa_cons (pv 3) (pa_cons (pv 2) pa_nil))))))
  (pss_cons (ps_set (i := 4) sc_all_images.nd rfl (Or.inl rfl) (pe_callTy (k_list (K := K)) (by rfl) T.m_list boot_list (pa_cons (pv 2) pa_nil)))
  (pss_cons (ps_for PassesOwn.leaving rfl (k_enum (K := K) (pa_cons (pv 2) pa_nil) T.m_enumerate) (k_gT (K := K) (n := 2) (pgs_cons (pg_name (i := 5) sc_all_images.nd rfl (Or.inl rfl)) (pgs_cons (k_gT (K := K) (n := 2) (pgs_cons (pg_name (i := 6) sc_all_images.nd rfl (Or.inl rfl)) (pgs_cons (pg_name (i := 7) sc_all_images.nd rfl (Or.inl rfl)) pgs_nil))) pgs_nil)))
  (pss_one (ps_asg (pe_tup (pa_cons (pv 5) (pa_cons (pv 7) pa_nil))) (pg_sub (pv 4) (pv 6) set_list))))
  (pss_one (ps_ret (pv 4))))))), ?_⟩)
  · obtain ⟨ms, n, rfl, _⟩ := h
    rfl
  · rintro C ds Pq hE hX ⟨ms, n, rfl, hk, hn, q⟩
    have hE' := hE.symm
    walk_at "dgo"
    refine ev_lcm numD (by rfl) ?_
    walk_at "dgo"
    refine ⟨by rw [rng_len]; omega, fun C' e1 e2 e3 i d hi => ?_, ?_⟩
    · obtain ⟨_, rfl⟩ := rng_get hi
      walk_at "dgo"
      exact rfl
    rw [Int.toNat_natCast, num_map]
    walk_at "dgo"
    refine forX (fun k (F : List (Int × Bool)) => Deal n (ms.take k) F) (fun F => [.val (.tup (ms.map mvD)), .val (.int n), .val (.lst (F.map imgD)), .no, .no, .no, .no, .no]) (initL n) (Deal.nil n) ?_ (fun hv hd k d F hi hF => ?_) (fun F hF => seq_wk ?_)
    · walk_at "wk"
    · obtain ⟨m, gm, rfl⟩ := map_inv hi
      have hkk := hk m (List.mem_of_getElem? gm)
      have hz : F.length ≤ 2000 := by rw [hF.len]; exact hn
      walk_at "dgo"
      have hd2 := hF.laid hkk
      refine ⟨laidL (m.blocks n) F, by rw [List.take_add_one, gm]; exact hd2, ?_⟩
      rw [hF.len]
      walk_at "wk"
    · rw [List.length_map, List.take_length] at hF
      walk_at "dgo"
      intro p
      walk_at "dgo"
      have f0 : Fnd n ms 0 F := ⟨hF.len, fun i hi hlt => by
        have b := runM_bd (n := n) (ms := ms) (c := ((i : Int), false)) hk (by show (0 : Int) ≤ i; omega) (by show (i : Int) < n; omega)
        omega⟩
      refine forX (fun k (G : List (Int × Bool)) => Fnd n ms k G) (fun G => [.val (.tup (ms.map mvD)), .val (.int n), .val (.lst (F.map imgD)), .no, .own p (G.map imgD), .no, .no, .no]) F f0 ?_ (fun hv hd k d G hi hG => ?_) (fun G hG => seq_wk ?_)
      · walk_at "wk"
      · obtain ⟨x, hx, rfl⟩ := enum_get hi
        obtain ⟨c, hc, rfl⟩ := map_inv hx
        have hkn : k < n := by rw [← hF.len]; exact (List.getElem?_eq_some_iff.mp hc).1
        obtain ⟨i, f, hin, hCi, hri⟩ := hF.here hkn
        obtain rfl := Option.some.inj (hc.symm.trans hCi)
        walk_at "dgo"
        refine ⟨_, ixN_of (by omega) (by rw [List.length_map, hG.len]; omega), ?_⟩
        walk_at "dgo"
        refine ⟨G.set i ((k : Int), f), hG.step hF hin hCi hri, ?_⟩
        rw [List.map_set]
        walk_at "wk"
      · rw [enumD_len, List.length_map, hF.len] at hG
        have e := hG.all hk
        subst e
        walk_at "dgo"
        exact q
end
section
variable {P : Program} {w : World} {K : PySem.W.Frag} {mg : Str → Option Value} {base : Heap}
abbrev S_allimgL : Sd := fun _ ds Pq => ∃ (ms : List Mv) (n : Nat), ds = [.lst (ms.map mvD), .int n] ∧ (∀ m ∈ ms, m.ok) ∧ n ≤ 2000 ∧ Pq (.ok (.lst ((imagesL n ms).map imgD)))
theorem ok_all_imagesL (T : Txt K mg w) : FnOk P w K mg base (L2.CX P w) 10 T.a_all_images T.d_all_images P_all_images (spD K S_allimgL) := by
  have G_laid_anew := ok_laid_anew (P := P) (w := w) (base := base) T
  refine okDX T.F_all_images sc_all_images (fun bs ds Pq h => ?_) (fun cdv A outer s H E hr => ⟨_, (pss_cons (ps_setLc (i := 2) (own := [("card", 6)]) rfl sc_all_images.nd rfl rfl (sw_true rfl rfl rfl (by decide +kernel)) (pi_range1 rfl T.m_range (pa_cons (pv 1) pa_nil)) (blkOk_by (N := N_all_images) (sc := defScope s_all_images) (by decide +kernel)) (fun _ _ _ _ _ => (pg_name (i := 6) sc_all_images.nd rfl (Or.inl rfl))) (fun _ _ _ _ _ => pts_nil) (fun _ _ _ _ _ => (pe_tup (pa_cons (pv 6) (pa_cons pe_bl pa_nil)))))
  (pss_cons (ps_for PassesOwn.leaving rfl (k_piQ (K := K) (pv 0)) (pg_name (i := 3) sc_all_images.nd rfl (Or.inl rfl))
  (pss_one (ps_set (i := 2) sc_all_images.nd rfl (Or.inl rfl) (pe_call G_laid_anew (hr.mono (by decide)) (by rfl) T.g_laid_anew T.F_laid_anew.kp T.b_laid_anew .nil (passes_call (takes_of rfl rfl rfl rfl) fun _ _ _ _ h => h) (pa_cons (pv 3) (pa_cons (pv 2) pa_nil))))))
  (pss_cons (ps_set (i := 4) sc_all_images.nd rfl (Or.inl rfl) (pe_callTy (k_list (K := K)) (by rfl) T.m_list boot_list (pa_cons (pv 2) pa_nil)))
  (pss_cons (ps_for PassesOwn.leaving rfl (k_enum (K := K) (pa_cons (pv 2) pa_nil) T.m_enumerate) (k_gT (K := K) (n := 2) (pgs_cons (pg_name (i := 5) sc_all_images.nd rfl (Or.inl rfl)) (pgs_cons (k_gT (K := K) (n := 2) (pgs_cons (pg_name (i := 6) sc_all_images.nd rfl (Or.inl rfl)) (pgs_cons (pg_name (i := 7) sc_all_images.nd rfl (Or.inl rfl)) pgs_nil))) pgs_nil)))
  (pss_one (ps_asg (pe_tup (pa_cons (pv 5) (pa_cons (pv 7) pa_nil))) (pg_sub (pv 4) (pv 6) set_list))))
  (pss_one (ps_ret (pv 4))))))), ?_⟩)
  · obtain ⟨ms, n, rfl, _⟩ := h
    rfl
  · rintro C ds Pq hE hX ⟨ms, n, rfl, hk, hn, q⟩
    have hE' := hE.symm
    walk_at "dgo"
    refine ev_lcm numD (by rfl) ?_
    walk_at "dgo"
    refine ⟨by rw [rng_len]; omega, fun C' e1 e2 e3 i d hi => ?_, ?_⟩
    · obtain ⟨_, rfl⟩ := rng_get hi
      walk_at "dgo"
      exact rfl
    rw [Int.toNat_natCast, num_map]
    walk_at "dgo"
    refine forX (fun k (F : List (Int × Bool)) => Deal n (ms.take k) F) (fun F => [.val (.lst (ms.map mvD)), .val (.int n), .val (.lst (F.map imgD)), .no, .no, .no, .no, .no]) (initL n) (Deal.nil n) ?_ (fun hv hd k d F hi hF => ?_) (fun F hF => seq_wk ?_)
    · walk_at "wk"
    · obtain ⟨m, gm, rfl⟩ := map_inv hi
      have hkk := hk m (List.mem_of_getElem? gm)
      have hz : F.length ≤ 2000 := by rw [hF.len]; exact hn
      walk_at "dgo"
      have hd2 := hF.laid hkk
      refine ⟨laidL (m.blocks n) F, by rw [List.take_add_one, gm]; exact hd2, ?_⟩
      rw [hF.len]
      walk_at "wk"
    · rw [List.length_map, List.take_length] at hF
      walk_at "dgo"
      intro p
      walk_at "dgo"
      have f0 : Fnd n ms 0 F := ⟨hF.len, fun i hi hlt => by
        have b := runM_bd (n := n) (ms := ms) (c := ((i : Int), false)) hk (by show (0 : Int) ≤ i; omega) (by show (i : Int) < n; omega)
        omega⟩
      refine forX (fun k (G : List (Int × Bool)) => Fnd n ms k G) (fun G => [.val (.lst (ms.map mvD)), .val (.int n), .val (.lst (F.map imgD)), .no, .own p (G.map imgD), .no, .no, .no]) F f0 ?_ (fun hv hd k d G hi hG => ?_) (fun G hG => seq_wk ?_)
      · walk_at "wk"
      · obtain ⟨x, hx, rfl⟩ := enum_get hi
        obtain ⟨c, hc, rfl⟩ := map_inv hx
        have hkn : k < n := by rw [← hF.len]; exact (List.getElem?_eq_some_iff.mp hc).1
        obtain ⟨i, f, hin, hCi, hri⟩ := hF.here hkn
        obtain rfl := Option.some.inj (hc.symm.trans hCi)
        walk_at "dgo"
        refine ⟨_, ixN_of (by omega) (by rw [List.length_map, hG.len]; omega), ?_⟩
        walk_at "dgo"
        refine ⟨G.set i ((k : Int), f), hG.step hF hin hCi hri, ?_⟩
        rw [List.map_set]
        walk_at "wk"
      · rw [enumD_len, List.length_map, hF.len] at hG
        have e := hG.all hk
        subst e
        walk_at "dgo"
        exact q
end
end Z
namespace Z
open PySem PySem.Spec PyProof.Rows L2
-- what stands at an address
local macro_rules | `(tactic| walk_at "hp") => `(tactic| first | assumption | exact upd_same | exact BagAt.at_ (by assumption) | exact BagAt.cells (by assumption) | fail "hp")
local macro_rules | `(tactic| walk_at "sq") => `(tactic| first | assumption | (refine Or.inl (Or.inl ?_); walk_at "hp") | (apply Same.seq <;> assumption))
-- bounds
local macro_rules | `(tactic| walk_at "num") => `(tactic| first
  | exact rfl | decide | exact le_line (Nat.le_of_ble_eq_true rfl) | exact lt_line (Nat.le_of_ble_eq_true rfl)
  | (exact mul_ok (small_abs (by omega)) (small_abs (by omega)))
  | (exact div_small (by omega) (by omega))
  | (exact div_ok (by omega) (by assumption))
  | (refine ⟨?_, ?_⟩ <;> omega) | omega
  | (show (_ : Int) ≠ 0; omega) | (show CPow _ _; unfold CPow; decide))
-- one step
local macro_rules | `(tactic| walk_at "rd") => `(tactic| first
  | (refine Exists.intro _ (And.intro rfl ?_))
  | (refine Exists.intro _ (Exists.intro _ (And.intro rfl (And.intro rfl ?_))))
  | (refine Or.inl (Exists.intro _ (And.intro rfl ?_)))
  | (refine Or.inr (Exists.intro _ (And.intro rfl ?_)))
  | (with_reducible refine iteF ?_) | (with_reducible refine iteT ?_)
  | (refine And.intro ?cc ?_; (case cc => walk_at "num"))
  | (refine' Exists.intro _ (Exists.intro _ (Exists.intro _ (Exists.intro _ (And.intro rfl (And.intro rfl (And.intro ?sq (And.intro ?ha ?k))))))); (case sq => walk_at "sq"); (case ha => first | exact rfl | assumption | exact at_zero))
  | (refine' Exists.intro _ (Exists.intro _ (And.intro rfl (And.intro (Or.inl ?sq) ?k))); (case sq => walk_at "sq")))
local macro_rules | `(tactic| walk_at "sqt") => `(tactic| first | assumption | (refine Or.inl (Or.inl ?_); walk_at "hp") | (apply Same.tup <;> assumption))
local macro_rules | `(tactic| walk_at "rdt") => `(tactic| first
  | walk_at "rd"
  | (refine' Exists.intro _ (Exists.intro _ (And.intro rfl (And.intro (Or.inr ?sq) ?k))); (case sq => walk_at "sqt"))
  | (refine' Exists.intro _ (Exists.intro _ (Exists.intro _ (Exists.intro _ (And.intro rfl (And.intro rfl (And.intro ?sq (And.intro ?ha ?k))))))); (case sq => walk_at "sqt"); (case ha => first | exact rfl | assumption | exact at_zero))
  | (refine iteF ?_) | (refine iteT ?_))
local macro_rules | `(tactic| walk_at "rds") => `(tactic| repeat walk_at "rdt")
local macro_rules | `(tactic| walk_at "pull") => `(tactic| (refine' Exists.intro _ (Exists.intro _ (Exists.intro _ (And.intro rfl (And.intro ?bag (And.intro ?pos (And.intro ?fit ?kk)))))); (case bag => assumption); (case pos => first | decide | omega); (case fit => exact Fit.of (by first | decide | omega) (by first | decide | omega))))
local macro_rules | `(tactic| walk_at "two") => `(tactic| refine Exists.intro _ (Exists.intro _ (And.intro rfl ?_)))
/-! ### steps by data -/
local macro_rules | `(tactic| walk_at "side") => `(tactic| first
  | exact rfl | assumption | exact Nat.le_of_ble_eq_true rfl | decide | exact True.intro | exact le_line (Nat.le_of_ble_eq_true rfl) | exact lt_line (Nat.le_of_ble_eq_true rfl) | omega | (show (_ : Int) ≠ 0; omega) | exact cut1_ok | (unfold CPow; decide) | exact mul_ok (small_abs (by omega)) (small_abs (by omega)) | exact div_small (by omega) (by omega))
local macro_rules | `(tactic| walk_at "dR") => `(tactic| first
  | with_reducible refine run_seq ?_ | with_reducible refine run_if ?_ | with_reducible refine run_set ?_ | with_reducible refine run_ret ?_ | with_reducible refine run_next ?_
  | with_reducible refine run_asg ?_ | with_reducible refine run_for ?_ | ((with_reducible refine' run_append ?ev ?kk); (case ev => exact rfl)) | ((with_reducible refine' run_aug ?ev ?kk); (case ev => exact rfl))
  | with_reducible refine run_par ?_ | with_reducible refine run_drop ?_ | with_reducible refine run_retN ?_ | with_reducible refine run_break ?_ | with_reducible refine run_cont ?_)
local macro_rules | `(tactic| walk_at "dE") => `(tactic| first
  | ((with_reducible refine' ev_var ?ev ?kk); (case ev => exact rfl))
  | with_reducible refine ev_op ?_ | with_reducible refine ev_int ?_ | with_reducible refine ev_str ?_ | with_reducible refine ev_callC (by assumption) ?_ | with_reducible refine ev_callX (by assumption) ?_ | with_reducible refine ev_call ?_ | with_reducible refine ev_cb ?_ | with_reducible refine ev_tup ?_
  | with_reducible refine ev_if ?_ | with_reducible refine ev_and ?_ | with_reducible refine ev_or ?_ | with_reducible refine ev_not ?_ | with_reducible refine ev_bl ?_ | with_reducible refine ev_non ?_ | with_reducible refine ev_isi ?_
  | with_reducible refine ev_un ?_ | with_reducible refine ev_chain ?_ | with_reducible refine ev_lst ?_ | with_reducible refine ev_cbf ?_ | with_reducible refine ev_sl ?_ | with_reducible refine ev_m1 ?_ | with_reducible refine ev_kget ?_ | with_reducible refine ev_fmt ?_ | with_reducible refine ev_join ?_ | with_reducible refine ev_ty ?_ | with_reducible refine ev_cV ?_)
local macro_rules | `(tactic| walk_at "dT") => `(tactic| first
  | with_reducible refine evt_t ?_ | with_reducible refine evt_b ?_ | with_reducible refine evt_and ?_ | with_reducible refine evt_or ?_ | with_reducible refine evt_not ?_ | with_reducible refine evt_yes ?_)
local macro_rules | `(tactic| walk_at "dX") => `(tactic| first
  | ((with_reducible refine' evx_name ?ev ?kk); (case ev => first | exact rfl | assumption)) | with_reducible refine evx_tup ?_ | with_reducible refine evx_lst ?_ | with_reducible refine evxs_cons ?_ | with_reducible refine evxs_nil ?_
  | ((with_reducible refine' evg_name ?ev ?mm ?kk); (case ev => first | exact rfl | assumption); (case mm => decide)) | with_reducible refine evg_tup ?_ | with_reducible refine evg_lst ?_ | with_reducible refine evgs_cons ?_ | with_reducible refine evgs_nil ?_
  | with_reducible refine evi_list ?_ | with_reducible refine evi_tup ?_ | with_reducible refine evi_rng1 ?_ | with_reducible refine evi_rng2 ?_ | with_reducible refine evi_enum ?_ | with_reducible refine evi_zip ?_
  | with_reducible refine evo_none ?_ | with_reducible refine evo_some ?_ | with_reducible refine evj_cons ?_ | with_reducible refine evj_nil ?_)
local macro_rules | `(tactic| walk_at "d1") => `(tactic| first
  | ((with_reducible change Ev _ _ _ _ _); walk_at "dE")
  | ((with_reducible change Run _ _ _ _ _); walk_at "dR")
  | with_reducible refine eva_cons ?_ | with_reducible refine eva_nil ?_
  | ((with_reducible change EvT _ _ _ _ _); walk_at "dT")
  | with_reducible refine eva_star ?_
  | with_reducible refine iteT ?_ | with_reducible refine iteF ?_
  | ((with_reducible change if (_ : Bool) = true then _ else _); first | refine iteT ?_ | refine iteF ?_)
  | ((with_reducible refine And.intro ?cc ?_); (case cc => walk_at "side"))
  | ((with_reducible refine' Exists.intro _ (And.intro ?cc ?kk)); (case cc => first | exact rfl | exact at_zero))
  | ((with_reducible refine' Exists.intro _ (Exists.intro _ (And.intro ?cc ?kk))); (case cc => exact rfl))
  | ((with_reducible refine' Exists.intro _ (Exists.intro _ (Exists.intro _ (And.intro ?cc (And.intro ?cd ?kk))))); (case cc => exact rfl); (case cd => exact rfl))
  | ((with_reducible refine' Exists.intro _ (Exists.intro _ (Exists.intro _ (And.intro ?cc ?kk)))); (case cc => exact rfl))
  | ((with_reducible refine' Exists.intro _ (Exists.intro _ (Exists.intro _ (Exists.intro _ (And.intro ?cc ?kk))))); (case cc => exact rfl))
  | walk_at "dX")
local macro_rules | `(tactic| walk_at "d2") => `(tactic| walk_at "d1")
local macro_rules | `(tactic| walk_at "dgo") => `(tactic| repeat walk_at "d1")
local macro_rules | `(tactic| walk_at "wk") => `(tactic| repeat first | exact True.intro | refine And.intro (Or.inl rfl) ?_ | refine And.intro (Or.inr (And.intro rfl rfl)) ?_)
local macro_rules | `(tactic| walk_at "isi") => `(tactic| (refine' Exists.intro _ (Exists.intro _ (Exists.intro _ (Exists.intro _ (Exists.intro _ (And.intro rfl (And.intro (ClsV.ty _) (And.intro ?tt (And.intro (kit_ty ?ee) ?kk)))))))); (case tt => assumption); (case ee => first | exact kb_int_list | exact kb_int_tuple | exact kb_int_dict | exact kb_int_bool | exact kb_int_int | exact kb_int_str | exact kb_str_list | exact kb_str_tuple | exact kb_str_dict | exact kb_str_bool | exact kb_str_int | exact kb_str_str | exact kb_bool_list | exact kb_bool_tuple | exact kb_bool_dict | exact kb_bool_bool | exact kb_bool_int | exact kb_bool_str | exact kb_NoneType_list | exact kb_NoneType_tuple | exact kb_NoneType_dict | exact kb_NoneType_bool | exact kb_NoneType_int | exact kb_NoneType_str | exact kb_list_list | exact kb_list_tuple | exact kb_list_dict | exact kb_list_bool | exact kb_list_int | exact kb_list_str | exact kb_tuple_list | exact kb_tuple_tuple | exact kb_tuple_dict | exact kb_tuple_bool | exact kb_tuple_int | exact kb_tuple_str)))
-- one step
local macro_rules | `(tactic| walk_at "same") => `(tactic| repeat first | walk_at "rdt" | walk_at "isi")
/-! ### steps by data -/
local macro_rules | `(tactic| walk_at "side") => `(tactic| first
  | exact rfl | with_reducible assumption | exact Nat.le_of_ble_eq_true rfl | decide | exact True.intro | exact le_line (Nat.le_of_ble_eq_true rfl) | exact lt_line (Nat.le_of_ble_eq_true rfl) | omega | (show (_ : Int) ≠ 0; omega) | exact cut1_ok | (unfold CPow; decide) | exact mul_ok (small_abs (by omega)) (small_abs (by omega)) | exact div_small (by omega) (by omega) | assumption)
local macro_rules | `(tactic| walk_at "dR") => `(tactic| first
  | with_reducible refine run_ownNil ?_ | with_reducible refine run_ownL ?_ | ((with_reducible refine' run_extend ?ev ?kk); (case ev => exact rfl))
  | ((with_reducible refine' run_fld ?c ?n ?e ?kk); (case c => assumption); (case n => assumption); (case e => exact rfl))
  | ((with_reducible refine' run_retO ?ev ?kk); (case ev => exact rfl)) | ((with_reducible refine' run_setix ?ev ?kk); (case ev => exact rfl)) | ((with_reducible refine' run_popAt ?ev ?kk); (case ev => exact rfl)) | ((with_reducible refine' run_insert ?ev ?kk); (case ev => exact rfl)) | with_reducible refine run_parL ?_ | with_reducible refine run_ownRep ?_
  | with_reducible refine run_seq ?_ | with_reducible refine run_if ?_ | with_reducible refine run_set ?_ | with_reducible refine run_ret ?_ | with_reducible refine run_next ?_
  | with_reducible refine run_asg ?_ | with_reducible refine run_for ?_ | ((with_reducible refine' run_append ?ev ?kk); (case ev => exact rfl)) | ((with_reducible refine' run_aug ?ev ?kk); (case ev => exact rfl))
  | with_reducible refine run_par ?_ | with_reducible refine run_drop ?_ | with_reducible refine run_retN ?_ | with_reducible refine run_break ?_ | with_reducible refine run_cont ?_)
local macro_rules | `(tactic| walk_at "dE") => `(tactic| first
  | ((with_reducible refine' ev_var ?ev ?kk); (case ev => exact rfl))
  | with_reducible refine ev_lenOwn ?_
  | ((with_reducible refine' ev_fldO ?ev ?dd ?kk); (case ev => exact rfl); (case dd => exact rfl)) | with_reducible refine ev_fld ?_ | with_reducible refine ev_methX (by assumption) ?_ | with_reducible refine ev_meth ?_ | with_reducible refine ev_prop ?_ | with_reducible refine ev_makeX (by assumption) ?_ | with_reducible refine ev_make ?_ | with_reducible refine ev_ownX (by assumption) ?_ | with_reducible refine ev_own ?_ | ((with_reducible refine' ev_isiOwn ?o ?kk); (case o => assumption))
  | ((with_reducible refine' ev_ixO ?ev ?kk); (case ev => exact rfl)) | with_reducible refine ev_rev ?_ | with_reducible refine ev_op ?_ | with_reducible refine ev_int ?_ | with_reducible refine ev_str ?_ | with_reducible refine ev_callKX (by assumption) ?_ | with_reducible refine ev_callK ?_ | with_reducible refine ev_callC (by assumption) ?_ | with_reducible refine ev_callX (by assumption) ?_ | with_reducible refine ev_call ?_ | with_reducible refine ev_cb ?_ | with_reducible refine ev_tup ?_
  | with_reducible refine ev_if ?_ | with_reducible refine ev_and ?_ | with_reducible refine ev_or ?_ | with_reducible refine ev_not ?_ | with_reducible refine ev_bl ?_ | with_reducible refine ev_non ?_ | with_reducible refine ev_isi ?_
  | with_reducible refine ev_un ?_ | with_reducible refine ev_chain ?_ | with_reducible refine ev_lst ?_ | with_reducible refine ev_cbf ?_ | with_reducible refine ev_sl ?_ | with_reducible refine ev_m1 ?_ | with_reducible refine ev_kget ?_ | with_reducible refine ev_fmt ?_ | with_reducible refine ev_join ?_ | with_reducible refine ev_ty ?_ | with_reducible refine ev_cV ?_)
local macro_rules | `(tactic| walk_at "dT") => `(tactic| first
  | with_reducible refine evt_t ?_ | with_reducible refine evt_b ?_ | with_reducible refine evt_and ?_ | with_reducible refine evt_or ?_ | with_reducible refine evt_not ?_ | with_reducible refine evt_yes ?_)
local macro_rules | `(tactic| walk_at "dX") => `(tactic| first
  | ((with_reducible refine' evx_name ?ev ?kk); (case ev => first | exact rfl | assumption)) | with_reducible refine evx_tup ?_ | with_reducible refine evx_lst ?_ | with_reducible refine evxs_cons ?_ | with_reducible refine evxs_nil ?_
  | ((with_reducible refine' evg_name ?ev ?mm ?kk); (case ev => first | exact rfl | assumption); (case mm => decide)) | with_reducible refine evg_tup ?_ | with_reducible refine evg_lst ?_ | with_reducible refine evgs_cons ?_ | with_reducible refine evgs_nil ?_
  | with_reducible refine evi_list ?_ | with_reducible refine evi_tup ?_ | with_reducible refine evi_rng1 ?_ | with_reducible refine evi_rng2 ?_ | with_reducible refine evi_enum ?_ | with_reducible refine evi_zip ?_
  | with_reducible refine eva_items ?_ | with_reducible refine evi_revA ?_ | with_reducible refine evi_enumT ?_ | with_reducible refine evf_cb ?_ | with_reducible refine evo_none ?_ | with_reducible refine evo_some ?_ | with_reducible refine evj_cons ?_ | with_reducible refine evj_nil ?_)
local macro_rules | `(tactic| walk_at "d1") => `(tactic| first
  | ((with_reducible change Ev _ _ _ _ _); walk_at "dE")
  | ((with_reducible change Run _ _ _ _ _); walk_at "dR")
  | with_reducible refine eva_cons ?_ | with_reducible refine eva_nil ?_
  | ((with_reducible change EvT _ _ _ _ _); walk_at "dT")
  | with_reducible refine eva_star ?_
  | with_reducible refine iteT ?_ | with_reducible refine iteF ?_
  | ((with_reducible change if (_ : Bool) = true then _ else _); first | refine iteT ?_ | refine iteF ?_)
  | ((with_reducible refine And.intro ?cc ?_); (case cc => walk_at "side"))
  | ((with_reducible refine' Exists.intro _ (And.intro ?cc ?kk)); (case cc => first | exact rfl | exact at_zero))
  | ((with_reducible refine' Exists.intro _ (Exists.intro _ (And.intro ?cc ?kk))); (case cc => exact rfl))
  | ((with_reducible refine' Exists.intro _ (Exists.intro _ (Exists.intro _ (And.intro ?cc (And.intro ?cd ?kk))))); (case cc => exact rfl); (case cd => exact rfl))
  | ((with_reducible refine' Exists.intro _ (Exists.intro _ (Exists.intro _ (And.intro ?cc ?kk)))); (case cc => exact rfl))
  | ((with_reducible refine' Exists.intro _ (Exists.intro _ (Exists.intro _ (Exists.intro _ (And.intro ?cc ?kk))))); (case cc => exact rfl))
  | walk_at "dX")
local macro_rules | `(tactic| walk_at "d2") => `(tactic| walk_at "d1")
local macro_rules | `(tactic| walk_at "dgo") => `(tactic| repeat walk_at "d1")
local macro_rules | `(tactic| walk_at "wk") => `(tactic| repeat first | exact True.intro | refine And.intro (Or.inl rfl) ?_ | refine And.intro (Or.inr (And.intro rfl rfl)) ?_)
local macro_rules | `(tactic| walk_at "d3") => `(tactic| first
  | ((with_reducible refine' ev_lenO ?ev ?kk); (case ev => exact rfl))
  | ((with_reducible refine' run_dputT ?ev ?kk); (case ev => exact rfl)) | ((with_reducible refine' run_dputK ?ev ?kk); (case ev => exact rfl)) | with_reducible refine run_dnewK ?_ | with_reducible refine run_dnewT ?_
  | ((with_reducible refine' ev_dgetK ?ev ?kk); (case ev => exact rfl)) | ((with_reducible refine' ev_dinK ?ev ?kk); (case ev => exact rfl)) | ((with_reducible refine' ev_dinT ?ev ?kk); (case ev => exact rfl)) | ((with_reducible refine' ev_dnotinK ?ev ?kk); (case ev => exact rfl))
  | ((with_reducible refine' run_append ?ev ?kk); (case ev => exact rfl)) | with_reducible refine run_appC ?_ | with_reducible refine run_par3 ?_ | ((with_reducible refine' eva_self ?ev ?kk); (case ev => exact rfl)) | with_reducible refine evf_methN ?_ | with_reducible refine ev_methN ?_ | with_reducible refine ev_listRg1 ?_
  | with_reducible refine evi_zipM ?_)
local macro_rules | `(tactic| walk_at "dgo") => `(tactic| repeat first | walk_at "d3" | walk_at "d1")
/-! ### forms by data -/
def eS (a : Bool) : Str := if a = true then "top" else "bottom"
@[reducible] def enD (e : Fm.En) : D := .tup [.str (eS e.a), .int e.d, .bl e.f]
def enL (l : List Fm.En) : List D := l.map enD
@[reducible] def ptD (p : Fm.Pt) : D := .tup [.bl p.t, .int p.s, .tup (enL p.top), .tup (enL p.bot)]
theorem eS_top (a : Bool) : decide (V.str (eS a) = V.str "top") = a := by cases a <;> decide
section
variable {P : Program} {w : World} {K : PySem.W.Frag} {mg : Str → Option Value} {base : Heap}
abbrev S_ruled : Sd := fun _ ds Pq => ∃ (t : Bool) (s : Int) (a : Bool) (d : Int), ds = [.bl t, .int s, .str (eS a), .int d] ∧ Pq (.ok (enD (Fm.ruled t s a d)))
theorem ok_ruled (T : Txt K mg w) : FnOk P w K mg base CX0 1 T.a_ruled T.d_ruled P_ruled (spD K S_ruled) := by
  refine okD T.F_ruled sc_ruled (fun bs ds Pq h => ?_) (fun cdv A outer s H E hr => ⟨_, (pss_cons (ps_if (pt_cmpR op_ne (pe_cmpR op_eq (pv 2) pe_str (nomark _)) (pv 0) (nomark _))
  (pss_one (ps_ret (pe_tup (pa_cons pe_str (pa_cons (pe_op op_add (pv 3) (pv 1)) (pa_cons (pv 0) pa_nil)))))) pss_nil)
  (pss_one (ps_ret (pe_tup (pa_cons pe_str (pa_cons (pe_op op_sub (pv 3) (pv 1)) (pa_cons (pv 0) pa_nil))))))), ?_⟩)
  · obtain ⟨t, s, a, d, rfl, _⟩ := h
    rfl
  · rintro C ds Pq hE hX ⟨t, s, a, d, rfl, q⟩
    walk_at "dgo"
    rw [eS_top]
    cases a <;> cases t <;> (walk_at "dgo"; exact q)
abbrev S_entry : Sd := fun _ ds Pq => ∃ (p : Fm.Pt) (a : Bool) (d : Nat), ds = [ptD p, .str (eS a), .int d] ∧ Pq (.ok (enD (Fm.entry p a d)))
theorem ok_entry_at (T : Txt K mg w) : FnOk P w K mg base CX0 2 T.a_entry_at T.d_entry_at P_entry_at (spD K S_entry) := by
  have G_ruled := ok_ruled (P := P) (w := w) (base := base) T
  refine okD T.F_entry_at sc_entry_at (fun bs ds Pq h => ?_) (fun cdv A outer s H E hr => ⟨_, (pss_cons (ps_asg (pv 0) (k_gT (K := K) (n := 4) (pgs_cons (pg_name (i := 3) sc_entry_at.nd rfl (Or.inl rfl)) (pgs_cons (pg_name (i := 4) sc_entry_at.nd rfl (Or.inl rfl)) (pgs_cons (pg_name (i := 5) sc_entry_at.nd rfl (Or.inl rfl)) (pgs_cons (pg_name (i := 6) sc_entry_at.nd rfl (Or.inl rfl)) pgs_nil))))))
  (pss_cons (ps_set (i := 7) sc_entry_at.nd rfl (Or.inl rfl) (pe_ifExp (pt_cmpR op_eq (pv 1) pe_str (nomark _)) (pv 5) (pv 6)))
  (pss_cons (ps_if (pt_cmpR op_lt (pv 2) (pe_callB (k_len (K := K)) (by rfl) T.m_len boot_len (pa_cons (pv 7) pa_nil)) (nomark _))
  (pss_one (ps_ret (pe_ix (k_ixT (K := K)) (pv 7) (pv 2) (fun _ _ => rfl)))) pss_nil)
  (pss_one (ps_ret (pe_call G_ruled (hr.mono (by decide)) (by rfl) T.g_ruled T.F_ruled.kp T.b_ruled .nil pass0 (pa_cons (pv 3) (pa_cons (pv 4) (pa_cons (pv 1) (pa_cons (pv 2) pa_nil)))))))))), ?_⟩)
  · obtain ⟨p, a, d, rfl, _⟩ := h
    rfl
  · rintro C ds Pq hE hX ⟨p, a, d, rfl, q⟩
    walk_at "dgo"
    rw [eS_top]
    unfold Fm.entry Fm.rd at q
    cases a
    · rw [show Fm.tabL p false = p.bot from rfl] at q
      walk_at "dgo"
      refine iteD (fun h => ?_) (fun h => ?_)
      · have hd : d < p.bot.length := by
          unfold enL at h
          rw [List.length_map] at h
          omega
        rw [List.getElem?_eq_getElem hd] at q
        walk_at "dgo"
        refine ⟨enD p.bot[d], atI_nat (by unfold enL; rw [List.getElem?_map, List.getElem?_eq_getElem hd]; rfl), ?_⟩
        exact q
      · have hd : p.bot.length ≤ d := by
          unfold enL at h
          rw [List.length_map] at h
          omega
        rw [List.getElem?_eq_none hd] at q
        walk_at "dgo"
        exact q
    · rw [show Fm.tabL p true = p.top from rfl] at q
      walk_at "dgo"
      refine iteD (fun h => ?_) (fun h => ?_)
      · have hd : d < p.top.length := by
          unfold enL at h
          rw [List.length_map] at h
          omega
        rw [List.getElem?_eq_getElem hd] at q
        walk_at "dgo"
        refine ⟨enD p.top[d], atI_nat (by unfold enL; rw [List.getElem?_map, List.getElem?_eq_getElem hd]; rfl), ?_⟩
        exact q
      · have hd : p.top.length ≤ d := by
          unfold enL at h
          rw [List.length_map] at h
          omega
        rw [List.getElem?_eq_none hd] at q
        walk_at "dgo"
        exact q
/-- what has the entries l -/
@[reducible] def tabD : Bool → List Fm.En → D
  | true, l => .lst (enL l)
  | false, l => .tup (enL l)
abbrev S_ends : Sd := fun _ ds Pq => ∃ (t : Bool) (s : Int) (b c : Bool) (l m : List Fm.En), ds = [.tup [.bl t, .int s, tabD b l, tabD c m]] ∧ Pq (.ok (.tup [.tup [.str (eS true), tabD b l], .tup [.str (eS false), tabD c m]]))
theorem ok_ends_of (T : Txt K mg w) : FnOk P w K mg base CX0 1 T.a_ends_of T.d_ends_of P_ends_of (spD K S_ends) := by
  refine okD T.F_ends_of sc_ends_of (fun bs ds Pq h => ?_) (fun cdv A outer s H E hr => ⟨_, (pss_one (ps_ret (pe_tup (pa_cons (pe_tup (pa_cons pe_str (pa_cons (pe_ix (k_ixT (K := K)) (pv 0) pe_int (fun _ _ => rfl)) pa_nil))) (pa_cons (pe_tup (pa_cons pe_str (pa_cons (pe_ix (k_ixT (K := K)) (pv 0) pe_int (fun _ _ => rfl)) pa_nil))) pa_nil))))), ?_⟩)
  · obtain ⟨t, s, b, c, l, m, rfl, _⟩ := h
    rfl
  · rintro C ds Pq hE hX ⟨t, s, b, c, l, m, rfl, q⟩
    walk_at "dgo"
    exact q
end
/-! ### is_form, by data -/
def keysL (es : List Fm.En) : List (List Key × D) := es.map fun e => ([Sum.inr (eS e.a), Sum.inl e.d], .bl true)
theorem enL_get {l : List Fm.En} {i : Nat} {d : D} (h : (enL l)[i]? = some d) : ∃ e, l[i]? = some e ∧ d = enD e := by
  unfold enL at h
  rw [List.getElem?_map] at h
  cases e : l[i]? with
  | none => rw [e] at h; cases h
  | some a => rw [e] at h; cases h; exact ⟨a, rfl, rfl⟩
theorem eS_inj {a b : Bool} (h : eS a = eS b) : a = b := by
  cases a <;> cases b <;> first | rfl | exact absurd h (by decide +kernel)
theorem keys_none {es : List Fm.En} (nd : (es.map fun e => (e.a, e.d)).Nodup) {x : Nat} {e : Fm.En} (he : es[x]? = some e) : valG (keysL (es.take x)) [Sum.inr (eS e.a), Sum.inl e.d] = none := by
  have hx := (List.getElem?_eq_some_iff.mp he).1
  have e1 : es.drop x = e :: es.drop (x + 1) := by
    rw [List.drop_eq_getElem_cons hx, (List.getElem?_eq_some_iff.mp he).2]
  rw [← List.take_append_drop x es, e1, List.map_append, List.map_cons] at nd
  have h3 := (List.nodup_append.mp nd).2.2
  unfold valG keysL
  have : (List.map (fun (e : Fm.En) => (([Sum.inr (eS e.a), Sum.inl e.d] : List Key), D.bl true)) (es.take x)).find? (fun kv => decide (kv.1 = [Sum.inr (eS e.a), Sum.inl e.d])) = none := by
    refine List.find?_eq_none.mpr fun y hy hk => ?_
    obtain ⟨e', he', rfl⟩ := List.mem_map.mp hy
    have hk : ([Sum.inr (eS e'.a), Sum.inl e'.d] : List Key) = [Sum.inr (eS e.a), Sum.inl e.d] := of_decide_eq_true hk
    injection hk with k1 k2
    injection k2 with k2 _
    injection k1 with k1
    injection k2 with k2
    exact h3 _ (List.mem_map.mpr ⟨e', he', rfl⟩) _ (List.mem_cons_self ..) (by rw [eS_inj k1, k2])
  rw [this]
  rfl
theorem put_new {κ α : Type} [DecidableEq κ] {l : List (κ × α)} {k : κ} {d : α} (h : valG l k = none) : putG l k d = l ++ [(k, d)] := by
  unfold putG
  rw [if_neg]
  intro ha
  obtain ⟨y, hy, hk⟩ := List.any_eq_true.mp ha
  unfold valG at h
  have := List.find?_eq_none.mp (Option.map_eq_none_iff.mp h) y hy
  exact this hk
section
variable {P : Program} {w : World} {K : PySem.W.Frag} {mg : Str → Option Value} {base : Heap}
/-- is_form -/
abbrev S_isform : Sd := fun _ ds Pq => ∃ (t : Bool) (s : Int) (b c : Bool) (l m : List Fm.En), ds = [.tup [.bl t, .int s, tabD b l, tabD c m]] ∧ l.length + m.length ≤ 10000 ∧ Fm.Valid ⟨t, s, l, m⟩ ∧ Pq (.ok (.bl true))
theorem ok_is_form (T : Txt K mg w) : FnOk P w K mg base CX0 2 T.a_is_form T.d_is_form P_is_form (spD K S_isform) := by
  have G_ruled := ok_ruled (P := P) (w := w) (base := base) T
  have G_ends_of := ok_ends_of (P := P) (w := w) (base := base) T
  refine okD T.F_is_form sc_is_form (fun bs ds Pq h => ?_) (fun cdv A outer s H E hr => ⟨_, (pss_cons (ps_asg (pv 0) (k_gT (K := K) (n := 4) (pgs_cons (pg_name (i := 1) sc_is_form.nd rfl (Or.inl rfl)) (pgs_cons (pg_name (i := 2) sc_is_form.nd rfl (Or.inl rfl)) (pgs_cons (pg_name (i := 3) sc_is_form.nd rfl (Or.inl rfl)) (pgs_cons (pg_name (i := 4) sc_is_form.nd rfl (Or.inl rfl)) pgs_nil))))))
  (pss_cons (ps_set (i := 5) sc_is_form.nd rfl (Or.inl rfl) pe_dnewK)
  (pss_cons (ps_for PassesOwn.never rfl (k_piT (K := K) (pe_call G_ends_of (hr.mono (by decide)) (by rfl) T.g_ends_of T.F_ends_of.kp T.b_ends_of .nil pass0 (pa_cons (pv 0) pa_nil))) (k_gT (K := K) (n := 2) (pgs_cons (pg_name (i := 6) sc_is_form.nd rfl (Or.inl rfl)) (pgs_cons (pg_name (i := 7) sc_is_form.nd rfl (Or.inl rfl)) pgs_nil)))
  (pss_cons (ps_asg (pe_call G_ruled (hr.mono (by decide)) (by rfl) T.g_ruled T.F_ruled.kp T.b_ruled .nil pass0 (pa_cons (pv 1) (pa_cons (pv 2) (pa_cons (pv 6) (pa_cons (pe_callB (k_len (K := K)) (by rfl) T.m_len boot_len (pa_cons (pv 7) pa_nil)) pa_nil))))) (k_gT (K := K) (n := 3) (pgs_cons (pg_name (i := 8) sc_is_form.nd rfl (Or.inl rfl)) (pgs_cons (pg_name (i := 9) sc_is_form.nd rfl (Or.inl rfl)) (pgs_cons (pg_name (i := 10) sc_is_form.nd rfl (Or.inl rfl)) pgs_nil)))))
  (pss_cons (ps_if (pt_cmpR op_lt (pv 9) pe_int (nomark _))
  (pss_one (ps_ret pe_bl)) pss_nil)
  (pss_one (ps_dput (hu_of hr) (pv 5) (pv 8) (pv 9) (by rfl))))))
  (pss_cons (ps_set (i := 11) sc_is_form.nd rfl (Or.inl rfl) pe_dnewT)
  (pss_cons (ps_for PassesOwn.never rfl (k_piL (K := K) (pe_lst (k_star (K := K) (pv 3) (k_star (K := K) (pv 4) pa_nil)))) (k_gT (K := K) (n := 3) (pgs_cons (pg_name (i := 6) sc_is_form.nd rfl (Or.inl rfl)) (pgs_cons (pg_name (i := 9) sc_is_form.nd rfl (Or.inl rfl)) (pgs_cons (pg_name (i := 10) sc_is_form.nd rfl (Or.inl rfl)) pgs_nil))))
  (pss_cons (ps_if (PW.pt (pw_or (pt_cmp (pc_dnotin (hu_of hr) (pv 6) (pv 5))) (pw_or (pt_cmpR op_lt (pv 9) pe_int (nomark _)) (pw_or (pt_cmpR op_ge (pv 9) (pe_dget (hu_of hr) (pv 5) (pv 6) (fun _ _ => rfl)) (nomark _)) (pw_or1 (pt_cmp (pc_din (hu_of hr) (pe_tup (pa_cons (pv 6) (pa_cons (pv 9) pa_nil))) (pv 11))))))))
  (pss_one (ps_ret pe_bl)) pss_nil)
  (pss_one (ps_dput (hu_of hr) (pv 11) (pe_tup (pa_cons (pv 6) (pa_cons (pv 9) pa_nil))) pe_bl (by rfl)))))
  (pss_one (ps_ret pe_bl))))))), ?_⟩)
  · obtain ⟨t, s, b, c, l, m, rfl, _⟩ := h
    rfl
  · rintro C ds Pq hE hX ⟨t, s, b, c, l, m, rfl, hlen, hv, q⟩
    have eL : ∀ x : List Fm.En, ((enL x).length : Int) = x.length := fun x => by unfold enL; rw [List.length_map]
    have r1 : Fm.fst ⟨t, s, l, m⟩ (true != t) = (Fm.ruled t s true ((enL l).length : Int)).d := by
      unfold Fm.fst
      rw [Fm.bne_bne, eL]
      rfl
    have r2 : Fm.fst ⟨t, s, l, m⟩ (false != t) = (Fm.ruled t s false ((enL m).length : Int)).d := by
      unfold Fm.fst
      rw [Fm.bne_bne, eL]
      rfl
    have p1 := hv.f0 (true != t)
    have p2 := hv.f0 (false != t)
    rw [r1] at p1
    rw [r2] at p2
    have ra1 : (Fm.ruled t s true ((enL l).length : Int)).a = (true != t) := Fm.ruled_a _ _ _ _
    have ra2 : (Fm.ruled t s false ((enL m).length : Int)).a = (false != t) := Fm.ruled_a _ _ _ _
    cases b <;> cases c
    · walk_at "dgo"
      intro p
      walk_at "dgo"
      refine ⟨t, s, false, false, l, m, rfl, ?_⟩
      walk_at "dgo"
      refine forU ?_
      intro hv2 hd
      walk_at "dgo"
      refine iteD (fun h => absurd h (Int.not_lt.mpr p1)) (fun _ => ?_)
      refine run_next ?_
      refine run_dputK rfl ?_
      walk_at "dgo"
      generalize hd1 : putG ([] : List (Key × D)) (Sum.inr (eS (Fm.ruled t s true ((enL l).length : Int)).a)) (D.int (Fm.ruled t s true ((enL l).length : Int)).d) = d1
      have hl1 : d1.length < sizeLine := by
        rw [← hd1]
        exact lt_line (Nat.le_of_ble_eq_true rfl)
      change Unr K C _ _ _ _ [.val (.tup [.bl t, .int s, tabD false l, tabD false m]), .val (.bl t), .val (.int s), .val (tabD false l), .val (tabD false m), .cell p (.dK d1), .val (.str (eS true)), .val (tabD false l), .val (.str _), .val (.int _), .val (.bl _), .no]
      generalize Fm.ruled t s true ((enL l).length : Int) = R1 at *
      intro hv3 hd3
      walk_at "dgo"
      generalize Fm.ruled t s false ((enL m).length : Int) = R2 at *
      refine iteD (fun h => absurd h (Int.not_lt.mpr p2)) (fun _ => ?_)
      refine run_next ?_
      refine run_dputK rfl ?_
      walk_at "dgo"
      generalize hd2 : putG d1 (Sum.inr (eS R2.a)) (D.int R2.d) = d2
      change seqP K C _ _ (Out.nx [.val (.tup [.bl t, .int s, tabD false l, tabD false m]), .val (.bl t), .val (.int s), .val (tabD false l), .val (tabD false m), .cell p (.dK d2), .val (.str (eS false)), .val (tabD false m), .val (.str (eS R2.a)), .val (.int R2.d), .val (.bl R2.f), .no])
      have hval : ∀ b, valG d2 (Sum.inr (eS b)) = some (.int (Fm.fst ⟨t, s, l, m⟩ b)) := by
        rw [← hd2, ← hd1, ra1, ra2, ← r1, ← r2]
        cases t
        · intro b
          cases b <;> rfl
        · intro b
          cases b <;> rfl
      clear hd1 hd2 hl1
      refine run_seq (run_dnewT ?_)
      refine And.intro (Nat.le_of_ble_eq_true rfl) fun p9 => ?_
      walk_at "dgo"
      have hsz : (enL l ++ (enL m ++ [])).length ≤ sizeLine := Nat.le_trans (show (enL l ++ (enL m ++ [])).length ≤ 10000 by unfold enL; simp only [List.length_append, List.length_map, List.length_nil]; omega) (Nat.le_of_ble_eq_true rfl)
      have heq : enL l ++ (enL m ++ []) = enL (l ++ m) := by unfold enL; simp
      refine And.intro hsz ?_
      rw [heq]
      show Exists _
      refine forX (fun k (x : Nat) => x = k) (fun x => [.val (.tup [.bl t, .int s, tabD false l, tabD false m]), .val (.bl t), .val (.int s), .val (tabD false l), .val (tabD false m), .cell p (.dK d2), .no, .val (tabD false m), .val (.str (eS R2.a)), .no, .no, .cell p9 (.dT (keysL ((l ++ m).take x)))]) 0 rfl (by walk_at "wk") (fun hv4 hd4 k d x hi hx => ?_) (fun x hx => ?_)
      · obtain ⟨e, he, rfl⟩ := enL_get hi
        subst hx
        walk_at "dgo"
        obtain ⟨b1, b2⟩ := hv.mem (List.mem_of_getElem? he)
        refine as_F (c := !(valG d2 (Sum.inr (eS e.a))).isSome) (by rw [hval]; rfl) ?_
        walk_at "dgo"
        refine iteD (fun h => absurd h (Int.not_lt.mpr b1)) (fun _ => ?_)
        walk_at "dgo"
        refine ⟨_, hval e.a, ?_⟩
        walk_at "dgo"
        refine iteD (fun h => absurd h (Int.not_le.mpr b2)) (fun _ => ?_)
        have hn := keys_none hv.keys he
        have hlt : (keysL ((l ++ m).take x)).length < sizeLine := Nat.lt_of_le_of_lt (show (keysL ((l ++ m).take x)).length ≤ 10000 by unfold keysL; rw [List.length_map, List.length_take, List.length_append]; omega) (show 10001 ≤ sizeLine from Nat.le_of_ble_eq_true rfl)
        walk_at "dgo"
        refine as_F (c := (valG (keysL ((l ++ m).take x)) [Sum.inr (eS e.a), Sum.inl e.d]).isSome) (by rw [hn]; rfl) ?_
        walk_at "dgo"
        rw [put_new hn]
        have hk : keysL ((l ++ m).take (x + 1)) = keysL ((l ++ m).take x) ++ [([Sum.inr (eS e.a), Sum.inl e.d], .bl true)] := by
          unfold keysL
          rw [List.take_add_one, he, List.map_append]
          rfl
        rw [hk]
        walk_at "wk"
      · subst hx
        refine seq_wk ?_
        walk_at "dgo"
        exact q
    · walk_at "dgo"
      intro p
      walk_at "dgo"
      refine ⟨t, s, false, true, l, m, rfl, ?_⟩
      walk_at "dgo"
      refine forU ?_
      intro hv2 hd
      walk_at "dgo"
      refine iteD (fun h => absurd h (Int.not_lt.mpr p1)) (fun _ => ?_)
      refine run_next ?_
      refine run_dputK rfl ?_
      walk_at "dgo"
      generalize hd1 : putG ([] : List (Key × D)) (Sum.inr (eS (Fm.ruled t s true ((enL l).length : Int)).a)) (D.int (Fm.ruled t s true ((enL l).length : Int)).d) = d1
      have hl1 : d1.length < sizeLine := by
        rw [← hd1]
        exact lt_line (Nat.le_of_ble_eq_true rfl)
      change Unr K C _ _ _ _ [.val (.tup [.bl t, .int s, tabD false l, tabD true m]), .val (.bl t), .val (.int s), .val (tabD false l), .val (tabD true m), .cell p (.dK d1), .val (.str (eS true)), .val (tabD false l), .val (.str _), .val (.int _), .val (.bl _), .no]
      generalize Fm.ruled t s true ((enL l).length : Int) = R1 at *
      intro hv3 hd3
      walk_at "dgo"
      generalize Fm.ruled t s false ((enL m).length : Int) = R2 at *
      refine iteD (fun h => absurd h (Int.not_lt.mpr p2)) (fun _ => ?_)
      refine run_next ?_
      refine run_dputK rfl ?_
      walk_at "dgo"
      generalize hd2 : putG d1 (Sum.inr (eS R2.a)) (D.int R2.d) = d2
      change seqP K C _ _ (Out.nx [.val (.tup [.bl t, .int s, tabD false l, tabD true m]), .val (.bl t), .val (.int s), .val (tabD false l), .val (tabD true m), .cell p (.dK d2), .val (.str (eS false)), .val (tabD true m), .val (.str (eS R2.a)), .val (.int R2.d), .val (.bl R2.f), .no])
      have hval : ∀ b, valG d2 (Sum.inr (eS b)) = some (.int (Fm.fst ⟨t, s, l, m⟩ b)) := by
        rw [← hd2, ← hd1, ra1, ra2, ← r1, ← r2]
        cases t
        · intro b
          cases b <;> rfl
        · intro b
          cases b <;> rfl
      clear hd1 hd2 hl1
      refine run_seq (run_dnewT ?_)
      refine And.intro (Nat.le_of_ble_eq_true rfl) fun p9 => ?_
      walk_at "dgo"
      have hsz : (enL l ++ (enL m ++ [])).length ≤ sizeLine := Nat.le_trans (show (enL l ++ (enL m ++ [])).length ≤ 10000 by unfold enL; simp only [List.length_append, List.length_map, List.length_nil]; omega) (Nat.le_of_ble_eq_true rfl)
      have heq : enL l ++ (enL m ++ []) = enL (l ++ m) := by unfold enL; simp
      refine And.intro hsz ?_
      rw [heq]
      show Exists _
      refine forX (fun k (x : Nat) => x = k) (fun x => [.val (.tup [.bl t, .int s, tabD false l, tabD true m]), .val (.bl t), .val (.int s), .val (tabD false l), .val (tabD true m), .cell p (.dK d2), .no, .val (tabD true m), .val (.str (eS R2.a)), .no, .no, .cell p9 (.dT (keysL ((l ++ m).take x)))]) 0 rfl (by walk_at "wk") (fun hv4 hd4 k d x hi hx => ?_) (fun x hx => ?_)
      · obtain ⟨e, he, rfl⟩ := enL_get hi
        subst hx
        walk_at "dgo"
        obtain ⟨b1, b2⟩ := hv.mem (List.mem_of_getElem? he)
        refine as_F (c := !(valG d2 (Sum.inr (eS e.a))).isSome) (by rw [hval]; rfl) ?_
        walk_at "dgo"
        refine iteD (fun h => absurd h (Int.not_lt.mpr b1)) (fun _ => ?_)
        walk_at "dgo"
        refine ⟨_, hval e.a, ?_⟩
        walk_at "dgo"
        refine iteD (fun h => absurd h (Int.not_le.mpr b2)) (fun _ => ?_)
        have hn := keys_none hv.keys he
        have hlt : (keysL ((l ++ m).take x)).length < sizeLine := Nat.lt_of_le_of_lt (show (keysL ((l ++ m).take x)).length ≤ 10000 by unfold keysL; rw [List.length_map, List.length_take, List.length_append]; omega) (show 10001 ≤ sizeLine from Nat.le_of_ble_eq_true rfl)
        walk_at "dgo"
        refine as_F (c := (valG (keysL ((l ++ m).take x)) [Sum.inr (eS e.a), Sum.inl e.d]).isSome) (by rw [hn]; rfl) ?_
        walk_at "dgo"
        rw [put_new hn]
        have hk : keysL ((l ++ m).take (x + 1)) = keysL ((l ++ m).take x) ++ [([Sum.inr (eS e.a), Sum.inl e.d], .bl true)] := by
          unfold keysL
          rw [List.take_add_one, he, List.map_append]
          rfl
        rw [hk]
        walk_at "wk"
      · subst hx
        refine seq_wk ?_
        walk_at "dgo"
        exact q
    · walk_at "dgo"
      intro p
      walk_at "dgo"
      refine ⟨t, s, true, false, l, m, rfl, ?_⟩
      walk_at "dgo"
      refine forU ?_
      intro hv2 hd
      walk_at "dgo"
      refine iteD (fun h => absurd h (Int.not_lt.mpr p1)) (fun _ => ?_)
      refine run_next ?_
      refine run_dputK rfl ?_
      walk_at "dgo"
      generalize hd1 : putG ([] : List (Key × D)) (Sum.inr (eS (Fm.ruled t s true ((enL l).length : Int)).a)) (D.int (Fm.ruled t s true ((enL l).length : Int)).d) = d1
      have hl1 : d1.length < sizeLine := by
        rw [← hd1]
        exact lt_line (Nat.le_of_ble_eq_true rfl)
      change Unr K C _ _ _ _ [.val (.tup [.bl t, .int s, tabD true l, tabD false m]), .val (.bl t), .val (.int s), .val (tabD true l), .val (tabD false m), .cell p (.dK d1), .val (.str (eS true)), .val (tabD true l), .val (.str _), .val (.int _), .val (.bl _), .no]
      generalize Fm.ruled t s true ((enL l).length : Int) = R1 at *
      intro hv3 hd3
      walk_at "dgo"
      generalize Fm.ruled t s false ((enL m).length : Int) = R2 at *
      refine iteD (fun h => absurd h (Int.not_lt.mpr p2)) (fun _ => ?_)
      refine run_next ?_
      refine run_dputK rfl ?_
      walk_at "dgo"
      generalize hd2 : putG d1 (Sum.inr (eS R2.a)) (D.int R2.d) = d2
      change seqP K C _ _ (Out.nx [.val (.tup [.bl t, .int s, tabD true l, tabD false m]), .val (.bl t), .val (.int s), .val (tabD true l), .val (tabD false m), .cell p (.dK d2), .val (.str (eS false)), .val (tabD false m), .val (.str (eS R2.a)), .val (.int R2.d), .val (.bl R2.f), .no])
      have hval : ∀ b, valG d2 (Sum.inr (eS b)) = some (.int (Fm.fst ⟨t, s, l, m⟩ b)) := by
        rw [← hd2, ← hd1, ra1, ra2, ← r1, ← r2]
        cases t
        · intro b
          cases b <;> rfl
        · intro b
          cases b <;> rfl
      clear hd1 hd2 hl1
      refine run_seq (run_dnewT ?_)
      refine And.intro (Nat.le_of_ble_eq_true rfl) fun p9 => ?_
      walk_at "dgo"
      have hsz : (enL l ++ (enL m ++ [])).length ≤ sizeLine := Nat.le_trans (show (enL l ++ (enL m ++ [])).length ≤ 10000 by unfold enL; simp only [List.length_append, List.length_map, List.length_nil]; omega) (Nat.le_of_ble_eq_true rfl)
      have heq : enL l ++ (enL m ++ []) = enL (l ++ m) := by unfold enL; simp
      refine And.intro hsz ?_
      rw [heq]
      show Exists _
      refine forX (fun k (x : Nat) => x = k) (fun x => [.val (.tup [.bl t, .int s, tabD true l, tabD false m]), .val (.bl t), .val (.int s), .val (tabD true l), .val (tabD false m), .cell p (.dK d2), .no, .val (tabD false m), .val (.str (eS R2.a)), .no, .no, .cell p9 (.dT (keysL ((l ++ m).take x)))]) 0 rfl (by walk_at "wk") (fun hv4 hd4 k d x hi hx => ?_) (fun x hx => ?_)
      · obtain ⟨e, he, rfl⟩ := enL_get hi
        subst hx
        walk_at "dgo"
        obtain ⟨b1, b2⟩ := hv.mem (List.mem_of_getElem? he)
        refine as_F (c := !(valG d2 (Sum.inr (eS e.a))).isSome) (by rw [hval]; rfl) ?_
        walk_at "dgo"
        refine iteD (fun h => absurd h (Int.not_lt.mpr b1)) (fun _ => ?_)
        walk_at "dgo"
        refine ⟨_, hval e.a, ?_⟩
        walk_at "dgo"
        refine iteD (fun h => absurd h (Int.not_le.mpr b2)) (fun _ => ?_)
        have hn := keys_none hv.keys he
        have hlt : (keysL ((l ++ m).take x)).length < sizeLine := Nat.lt_of_le_of_lt (show (keysL ((l ++ m).take x)).length ≤ 10000 by unfold keysL; rw [List.length_map, List.length_take, List.length_append]; omega) (show 10001 ≤ sizeLine from Nat.le_of_ble_eq_true rfl)
        walk_at "dgo"
        refine as_F (c := (valG (keysL ((l ++ m).take x)) [Sum.inr (eS e.a), Sum.inl e.d]).isSome) (by rw [hn]; rfl) ?_
        walk_at "dgo"
        rw [put_new hn]
        have hk : keysL ((l ++ m).take (x + 1)) = keysL ((l ++ m).take x) ++ [([Sum.inr (eS e.a), Sum.inl e.d], .bl true)] := by
          unfold keysL
          rw [List.take_add_one, he, List.map_append]
          rfl
        rw [hk]
        walk_at "wk"
      · subst hx
        refine seq_wk ?_
        walk_at "dgo"
        exact q
    · walk_at "dgo"
      intro p
      walk_at "dgo"
      refine ⟨t, s, true, true, l, m, rfl, ?_⟩
      walk_at "dgo"
      refine forU ?_
      intro hv2 hd
      walk_at "dgo"
      refine iteD (fun h => absurd h (Int.not_lt.mpr p1)) (fun _ => ?_)
      refine run_next ?_
      refine run_dputK rfl ?_
      walk_at "dgo"
      generalize hd1 : putG ([] : List (Key × D)) (Sum.inr (eS (Fm.ruled t s true ((enL l).length : Int)).a)) (D.int (Fm.ruled t s true ((enL l).length : Int)).d) = d1
      have hl1 : d1.length < sizeLine := by
        rw [← hd1]
        exact lt_line (Nat.le_of_ble_eq_true rfl)
      change Unr K C _ _ _ _ [.val (.tup [.bl t, .int s, tabD true l, tabD true m]), .val (.bl t), .val (.int s), .val (tabD true l), .val (tabD true m), .cell p (.dK d1), .val (.str (eS true)), .val (tabD true l), .val (.str _), .val (.int _), .val (.bl _), .no]
      generalize Fm.ruled t s true ((enL l).length : Int) = R1 at *
      intro hv3 hd3
      walk_at "dgo"
      generalize Fm.ruled t s false ((enL m).length : Int) = R2 at *
      refine iteD (fun h => absurd h (Int.not_lt.mpr p2)) (fun _ => ?_)
      refine run_next ?_
      refine run_dputK rfl ?_
      walk_at "dgo"
      generalize hd2 : putG d1 (Sum.inr (eS R2.a)) (D.int R2.d) = d2
      change seqP K C _ _ (Out.nx [.val (.tup [.bl t, .int s, tabD true l, tabD true m]), .val (.bl t), .val (.int s), .val (tabD true l), .val (tabD true m), .cell p (.dK d2), .val (.str (eS false)), .val (tabD true m), .val (.str (eS R2.a)), .val (.int R2.d), .val (.bl R2.f), .no])
      have hval : ∀ b, valG d2 (Sum.inr (eS b)) = some (.int (Fm.fst ⟨t, s, l, m⟩ b)) := by
        rw [← hd2, ← hd1, ra1, ra2, ← r1, ← r2]
        cases t
        · intro b
          cases b <;> rfl
        · intro b
          cases b <;> rfl
      clear hd1 hd2 hl1
      refine run_seq (run_dnewT ?_)
      refine And.intro (Nat.le_of_ble_eq_true rfl) fun p9 => ?_
      walk_at "dgo"
      have hsz : (enL l ++ (enL m ++ [])).length ≤ sizeLine := Nat.le_trans (show (enL l ++ (enL m ++ [])).length ≤ 10000 by unfold enL; simp only [List.length_append, List.length_map, List.length_nil]; omega) (Nat.le_of_ble_eq_true rfl)
      have heq : enL l ++ (enL m ++ []) = enL (l ++ m) := by unfold enL; simp
      refine And.intro hsz ?_
      rw [heq]
      show Exists _
      refine forX (fun k (x : Nat) => x = k) (fun x => [.val (.tup [.bl t, .int s, tabD true l, tabD true m]), .val (.bl t), .val (.int s), .val (tabD true l), .val (tabD true m), .cell p (.dK d2), .no, .val (tabD true m), .val (.str (eS R2.a)), .no, .no, .cell p9 (.dT (keysL ((l ++ m).take x)))]) 0 rfl (by walk_at "wk") (fun hv4 hd4 k d x hi hx => ?_) (fun x hx => ?_)
      · obtain ⟨e, he, rfl⟩ := enL_get hi
        subst hx
        walk_at "dgo"
        obtain ⟨b1, b2⟩ := hv.mem (List.mem_of_getElem? he)
        refine as_F (c := !(valG d2 (Sum.inr (eS e.a))).isSome) (by rw [hval]; rfl) ?_
        walk_at "dgo"
        refine iteD (fun h => absurd h (Int.not_lt.mpr b1)) (fun _ => ?_)
        walk_at "dgo"
        refine ⟨_, hval e.a, ?_⟩
        walk_at "dgo"
        refine iteD (fun h => absurd h (Int.not_le.mpr b2)) (fun _ => ?_)
        have hn := keys_none hv.keys he
        have hlt : (keysL ((l ++ m).take x)).length < sizeLine := Nat.lt_of_le_of_lt (show (keysL ((l ++ m).take x)).length ≤ 10000 by unfold keysL; rw [List.length_map, List.length_take, List.length_append]; omega) (show 10001 ≤ sizeLine from Nat.le_of_ble_eq_true rfl)
        walk_at "dgo"
        refine as_F (c := (valG (keysL ((l ++ m).take x)) [Sum.inr (eS e.a), Sum.inl e.d]).isSome) (by rw [hn]; rfl) ?_
        walk_at "dgo"
        rw [put_new hn]
        have hk : keysL ((l ++ m).take (x + 1)) = keysL ((l ++ m).take x) ++ [([Sum.inr (eS e.a), Sum.inl e.d], .bl true)] := by
          unfold keysL
          rw [List.take_add_one, he, List.map_append]
          rfl
        rw [hk]
        walk_at "wk"
      · subst hx
        refine seq_wk ?_
        walk_at "dgo"
        exact q
end
/-! ### trimmed, normal, by data -/
theorem en_eqv (e f : Fm.En) : PyData.eqv (enD e).py (enD f).py = decide (e = f) := by
  show ((eS e.a == eS f.a) && ((e.d == f.d) && ((e.f == f.f) && true))) = _
  rw [Bool.eq_iff_iff]
  simp only [Bool.and_eq_true, beq_iff_eq, decide_eq_true_eq, and_true]
  constructor
  · rintro ⟨h1, h2, h3⟩
    obtain ⟨a, d, x⟩ := e
    obtain ⟨b, k, z⟩ := f
    have := eS_inj h1
    dsimp only at *
    subst this h2 h3
    rfl
  · rintro rfl
    exact ⟨rfl, rfl, rfl⟩
theorem fineN_en (e : Fm.En) : fineN 1 (enD e) := fineN_tup fun x m => by
  rcases List.mem_cons.mp m with rfl | m
  · exact fineN_str 0 (by cases e.a <;> decide +kernel)
  rcases List.mem_cons.mp m with rfl | m
  · exact fineN_int 0 _
  · rw [List.mem_singleton.mp m]; exact fineN_bl 0 _
section
variable {P : Program} {w : World} {K : PySem.W.Frag} {mg : Str → Option Value} {base : Heap}
def ownLen (ρ : List Sl) : Nat := match ρ[4]? with
  | some (Sl.cell _ (Cd.lst y)) => y.length
  | _ => 0
abbrev S_trim : Sd := fun _ ds Pq => ∃ (t : Bool) (s : Int) (a : Bool) (b : Bool) (l : List Fm.En), ds = [.bl t, .int s, .str (eS a), tabD b l] ∧ l.length ≤ 10000 ∧ Pq (.ok (.tup (enL (Fm.trim t s a l))))
theorem ok_trimmed (T : Txt K mg w) : FnOk P w K mg base CX0 2 T.a_trimmed T.d_trimmed P_trimmed (spD K S_trim) := by
  have G_ruled := ok_ruled (P := P) (w := w) (base := base) T
  refine okD T.F_trimmed sc_trimmed (fun bs ds Pq h => ?_) (fun cdv A outer s H E hr => ⟨_, (pss_cons (ps_set (i := 4) sc_trimmed.nd rfl (Or.inl rfl) (pe_callTy (k_list (K := K)) (by rfl) T.m_list boot_list (pa_cons (pv 3) pa_nil)))
  (pss_cons (ps_while PassesOwn.never (PW.pt (pw_and (pt_cmpR op_gt (pe_callB (k_len (K := K)) (by rfl) T.m_len boot_len (pa_cons (pv 4) pa_nil)) pe_int (nomark _)) (pw_and1 (pt_cmpR (k_eqD (K := K) hr.units) (pe_ix (k_ixL (K := K)) (pv 4) (pe_un un_neg pe_int) (fun _ _ => rfl)) (pe_call G_ruled (hr.mono (by decide)) (by rfl) T.g_ruled T.F_ruled.kp T.b_ruled .nil pass0 (pa_cons (pv 0) (pa_cons (pv 1) (pa_cons (pv 2) (pa_cons (pe_op op_sub (pe_callB (k_len (K := K)) (by rfl) T.m_len boot_len (pa_cons (pv 4) pa_nil)) pe_int) pa_nil))))) (nomark _)))))
  (pss_one (ps_expr (k_bm0 (K := K) PySem.F.plainAttrs_list PySem.F.slot_list_pop PySem.F.type_list_pop mt_pop (pv 4)))))
  (pss_one (ps_ret (pe_callTy (k_tuple (K := K)) (by rfl) T.m_tuple boot_tuple (pa_cons (pv 4) pa_nil)))))), ?_⟩)
  · obtain ⟨t, s, a, b, l, rfl, _⟩ := h
    rfl
  · rintro C ds Pq hE hX ⟨t, s, a, b, l, rfl, hlen, q⟩
    cases b
    · walk_at "dgo"
      intro p
      walk_at "dgo"
      refine run_while (fun ρ' => ∃ x : List Fm.En, ρ' = [.val (.bl t), .val (.int s), .val (.str (eS a)), .val (tabD false l), .own p (enL x)] ∧ x.length ≤ 10000 ∧ Fm.trim t s a x = Fm.trim t s a l) ownLen ⟨l, rfl, hlen, rfl⟩ ?_
      rintro ρ' ⟨x, rfl, hx, ex⟩
      walk_at "dgo"
      refine iteD (fun h => ?_) (fun h => ?_)
      rotate_left
      · have hx0 : x = [] := by
          unfold enL at h
          rw [List.length_map] at h
          exact List.length_eq_zero_iff.mp (by omega)
        subst hx0
        rw [if_neg (by decide)]
        refine run_freeze 4 rfl ?_
        walk_at "dgo"
        rw [← ex] at q
        exact q
      · rcases List.eq_nil_or_concat x with rfl | ⟨y, e, rfl⟩
        · exact absurd h (by unfold enL; decide)
        rw [List.concat_eq_append] at *
        have hll : (enL (y ++ [e])).length = y.length + 1 := by unfold enL; simp
        have hat : atI (enL (y ++ [e])) (-1) = some (enD e) := by unfold enL; rw [List.map_append]; exact atI_last _ _
        have hi : ((enL (y ++ [e])).length : Int) - 1 = (y.length : Int) := by rw [hll]; omega
        walk_at "dgo"
        refine ⟨_, hat, ?_⟩
        walk_at "dgo"
        refine And.intro (fineN_en e).fine.2 (And.intro (fineN_en _).fine.2 ?_)
        rw [en_eqv, hi]
        by_cases he : e = Fm.ruled t s a y.length
        · refine as_T (decide_eq_true he) ?_
          refine run_pop rfl (by unfold enL; simp) ?_
          refine ⟨⟨y, ?_, ?_, ?_⟩, ?_⟩
          · show [_, _, _, _, Sl.own p (enL (y ++ [e])).dropLast] = _
            rw [show (enL (y ++ [e])).dropLast = enL y by unfold enL; rw [List.map_append]; exact List.dropLast_concat]
          · rw [List.length_append] at hx
            omega
          · rw [← ex, Fm.trim_snoc he]
          · show (enL (y ++ [e])).dropLast.length < (enL (y ++ [e])).length
            rw [List.length_dropLast]
            omega
        · refine as_F (decide_eq_false he) ?_
          refine run_freeze 4 rfl ?_
          walk_at "dgo"
          rw [← ex, Fm.trim_stop he] at q
          exact q
    · walk_at "dgo"
      intro p
      walk_at "dgo"
      refine run_while (fun ρ' => ∃ x : List Fm.En, ρ' = [.val (.bl t), .val (.int s), .val (.str (eS a)), .val (tabD true l), .own p (enL x)] ∧ x.length ≤ 10000 ∧ Fm.trim t s a x = Fm.trim t s a l) ownLen ⟨l, rfl, hlen, rfl⟩ ?_
      rintro ρ' ⟨x, rfl, hx, ex⟩
      walk_at "dgo"
      refine iteD (fun h => ?_) (fun h => ?_)
      rotate_left
      · have hx0 : x = [] := by
          unfold enL at h
          rw [List.length_map] at h
          exact List.length_eq_zero_iff.mp (by omega)
        subst hx0
        rw [if_neg (by decide)]
        refine run_freeze 4 rfl ?_
        walk_at "dgo"
        rw [← ex] at q
        exact q
      · rcases List.eq_nil_or_concat x with rfl | ⟨y, e, rfl⟩
        · exact absurd h (by unfold enL; decide)
        rw [List.concat_eq_append] at *
        have hll : (enL (y ++ [e])).length = y.length + 1 := by unfold enL; simp
        have hat : atI (enL (y ++ [e])) (-1) = some (enD e) := by unfold enL; rw [List.map_append]; exact atI_last _ _
        have hi : ((enL (y ++ [e])).length : Int) - 1 = (y.length : Int) := by rw [hll]; omega
        walk_at "dgo"
        refine ⟨_, hat, ?_⟩
        walk_at "dgo"
        refine And.intro (fineN_en e).fine.2 (And.intro (fineN_en _).fine.2 ?_)
        rw [en_eqv, hi]
        by_cases he : e = Fm.ruled t s a y.length
        · refine as_T (decide_eq_true he) ?_
          refine run_pop rfl (by unfold enL; simp) ?_
          refine ⟨⟨y, ?_, ?_, ?_⟩, ?_⟩
          · show [_, _, _, _, Sl.own p (enL (y ++ [e])).dropLast] = _
            rw [show (enL (y ++ [e])).dropLast = enL y by unfold enL; rw [List.map_append]; exact List.dropLast_concat]
          · rw [List.length_append] at hx
            omega
          · rw [← ex, Fm.trim_snoc he]
          · show (enL (y ++ [e])).dropLast.length < (enL (y ++ [e])).length
            rw [List.length_dropLast]
            omega
        · refine as_F (decide_eq_false he) ?_
          refine run_freeze 4 rfl ?_
          walk_at "dgo"
          rw [← ex, Fm.trim_stop he] at q
          exact q
abbrev S_normal : Sd := fun _ ds Pq => ∃ (t : Bool) (s : Int) (b c : Bool) (l m : List Fm.En), ds = [.bl t, .int s, tabD b l, tabD c m] ∧ l.length ≤ 10000 ∧ m.length ≤ 10000 ∧ Pq (.ok (ptD (Fm.normal t s l m)))
theorem ok_normal (T : Txt K mg w) : FnOk P w K mg base CX0 3 T.a_normal T.d_normal P_normal (spD K S_normal) := by
  have G_trimmed := ok_trimmed (P := P) (w := w) (base := base) T
  refine okD T.F_normal sc_normal (fun bs ds Pq h => ?_) (fun cdv A outer s H E hr => ⟨_, (pss_one (ps_ret (pe_tup (pa_cons (pv 0) (pa_cons (pv 1) (pa_cons (pe_call G_trimmed (hr.mono (by decide)) (by rfl) T.g_trimmed T.F_trimmed.kp T.b_trimmed .nil pass0 (pa_cons (pv 0) (pa_cons (pv 1) (pa_cons pe_str (pa_cons (pv 2) pa_nil))))) (pa_cons (pe_call G_trimmed (hr.mono (by decide)) (by rfl) T.g_trimmed T.F_trimmed.kp T.b_trimmed .nil pass0 (pa_cons (pv 0) (pa_cons (pv 1) (pa_cons pe_str (pa_cons (pv 3) pa_nil))))) pa_nil))))))), ?_⟩)
  · obtain ⟨t, s, b, c, l, m, rfl, _⟩ := h
    rfl
  · rintro C ds Pq hE hX ⟨t, s, b, c, l, m, rfl, h1, h2, q⟩
    walk_at "dgo"
    refine ⟨t, s, true, b, l, rfl, h1, ?_⟩
    walk_at "dgo"
    refine ⟨t, s, false, c, m, rfl, h2, ?_⟩
    walk_at "dgo"
    exact q
end
end Z
namespace Z
/-! ### what a move does near the ends of every pile that is large enough -/
def Mv.ent (A : Bool) (d : Int) : Mv → Fm.En
  | .swap a i b j => if A = a ∧ d = i then ⟨b, j, false⟩ else if A = b ∧ d = j then ⟨a, i, false⟩ else ⟨A, d, false⟩
  | .carry a i b j =>
    if a = b then (if A = a then (if d = i then ⟨a, j, false⟩ else if i < d ∧ d ≤ j then ⟨a, d - 1, false⟩ else if j ≤ d ∧ d < i then ⟨a, d + 1, false⟩ else ⟨a, d, false⟩) else ⟨A, d, false⟩)
    else (if A = a then (if d = i then ⟨b, j, false⟩ else if i < d then ⟨a, d - 1, false⟩ else ⟨a, d, false⟩) else (if j ≤ d then ⟨A, d + 1, false⟩ else ⟨A, d, false⟩))
  | .cut k => if 0 ≤ k then (if A = true then (if d < k then ⟨false, k - 1 - d, false⟩ else ⟨true, d - k, false⟩) else ⟨false, d + k, false⟩)
    else (if A = true then ⟨true, d - k, false⟩ else (if d < -k then ⟨true, -k - 1 - d, false⟩ else ⟨false, d + k, false⟩))
  | .turn a k => if A = a ∧ d < k then ⟨A, k - 1 - d, true⟩ else ⟨A, d, false⟩
  | .over => ⟨!A, d, true⟩
  | .face a i => ⟨A, d, decide (A = a ∧ d = i)⟩
def Mv.trn : Mv → Bool
  | .over => true
  | _ => false
def Mv.sh : Mv → Int
  | .carry a _ b _ => if a = b then 0 else if a = true then -1 else 1
  | .cut k => -k
  | _ => 0
theorem Mv.reach0 {m : Mv} (h : m.ok) : 0 ≤ m.reach := by
  cases m <;> simp only [Mv.ok, Mv.reach] at h ⊢
  · omega
  · omega
  · split <;> omega
  · omega
  · omega
  · omega
theorem Mv.reach400 {m : Mv} (h : m.ok) : m.reach ≤ 400 := by
  cases m <;> simp only [Mv.ok, Mv.reach] at h ⊢
  · omega
  · omega
  · split <;> omega
  · omega
  · omega
  · omega
theorem ent_far {m : Mv} (h : m.ok) {A : Bool} {d : Int} (hd : m.reach ≤ d) : m.ent A d = Fm.ruled m.trn m.sh A d := by
  cases m with
  | swap a i b j =>
    simp only [Mv.reach] at hd
    have h1 : ¬ (A = a ∧ d = i) := fun z => by omega
    have h2 : ¬ (A = b ∧ d = j) := fun z => by omega
    simp only [Mv.ent, if_neg h1, if_neg h2, Mv.trn, Mv.sh]
    cases A <;> simp [Fm.ruled]
  | carry a i b j =>
    simp only [Mv.reach] at hd
    cases A <;> cases a <;> cases b <;> simp [Mv.ent, Mv.trn, Mv.sh, Fm.ruled] <;> (repeat' split) <;> (try simp) <;> omega
  | cut k =>
    simp only [Mv.reach] at hd
    cases A <;> simp [Mv.ent, Mv.trn, Mv.sh, Fm.ruled] <;> (split at hd) <;> (repeat' split) <;> (try simp) <;> omega
  | turn a k =>
    simp only [Mv.reach] at hd
    have h1 : ¬ (A = a ∧ d < k) := fun z => by omega
    simp only [Mv.ent, if_neg h1, Mv.trn, Mv.sh]
    cases A <;> simp [Fm.ruled]
  | over => cases A <;> simp [Mv.ent, Mv.trn, Mv.sh, Fm.ruled]
  | face a i =>
    simp only [Mv.reach] at hd
    have h1 : ¬ (A = a ∧ d = i) := fun z => by omega
    simp only [Mv.ent, decide_eq_false h1, Mv.trn, Mv.sh]
    cases A <;> simp [Fm.ruled]
theorem ent_wf {m : Mv} (h : m.ok) {A : Bool} {d : Int} (hd : 0 ≤ d) : 0 ≤ (m.ent A d).d := by
  cases m <;> simp only [Mv.ok] at h <;> simp only [Mv.ent] <;> (repeat' split) <;> (try simp) <;> omega
theorem ent_inj {m : Mv} (h : m.ok) {A A' : Bool} {d d' : Int} (hd : 0 ≤ d) (hd' : 0 ≤ d') (h1 : (m.ent A d).a = (m.ent A' d').a) (h2 : (m.ent A d).d = (m.ent A' d').d) : A = A' ∧ d = d' := by
  cases m with
  | swap a i b j =>
    simp only [Mv.ok] at h
    simp only [Mv.ent] at h1 h2
    cases A <;> cases A' <;> cases a <;> cases b <;> simp at h1 h2 ⊢ <;> (repeat' split at h1) <;> simp_all <;> omega
  | carry a i b j =>
    simp only [Mv.ok] at h
    simp only [Mv.ent] at h1 h2
    cases A <;> cases A' <;> cases a <;> cases b <;> simp at h1 h2 ⊢ <;> (repeat' split at h1) <;> simp_all <;> omega
  | cut k =>
    simp only [Mv.ent] at h1 h2
    cases A <;> cases A' <;> simp at h1 h2 ⊢ <;> (repeat' split at h1) <;> simp_all <;> omega
  | turn a k =>
    simp only [Mv.ent] at h1 h2
    cases A <;> cases A' <;> cases a <;> simp at h1 h2 ⊢ <;> (repeat' split at h1) <;> simp_all <;> omega
  | over =>
    simp only [Mv.ent] at h1 h2
    cases A <;> cases A' <;> simp at h1 h2 ⊢ <;> exact h2
  | face a i => exact ⟨h1, h2⟩
/-- at every size from twice the reach on: the image of an end place that is not too near the other end -/
theorem ent_img {m : Mv} (h : m.ok) {A : Bool} {d n : Int} (hd : 0 ≤ d) (hn : d < n - m.reach) : m.image n (plc A d n) = Fm.imgE n (m.ent A d) := by
  have hr := Mv.reach0 h
  unfold Mv.image
  rw [if_neg (by omega)]
  cases m with
  | swap a i b j =>
    simp only [Mv.ok] at h
    simp only [Mv.reach] at hn hr
    simp only [Mv.img, Mv.ent, Fm.imgE, plc]
    cases A <;> cases a <;> cases b <;> simp <;> (repeat' split) <;> simp_all <;> omega
  | carry a i b j =>
    simp only [Mv.ok] at h
    simp only [Mv.reach] at hn hr
    simp only [Mv.img, Mv.ent, Fm.imgE, plc]
    cases A <;> cases a <;> cases b <;> simp <;> (repeat' split) <;> simp_all <;> omega
  | cut k =>
    simp only [Mv.ok] at h
    simp only [Mv.reach] at hn hr
    have fm : ∀ z : Int, z.fmod n = z % n := fun z => Int.fmod_eq_emod_of_nonneg _ (by omega)
    have e1 : ∀ p : Int, 0 ≤ p → p < n → p % n = p := fun p h h2 => Int.emod_eq_of_lt h h2
    have e2 : ∀ p : Int, p < 0 → 0 ≤ p + n → p % n = p + n := fun p h h2 => by
      rw [← Int.add_emod_right, Int.emod_eq_of_lt h2 (by omega)]
    have e3 : ∀ p : Int, n ≤ p → p < n + n → p % n = p - n := fun p h h2 => by
      rw [← Int.sub_emod_right, Int.emod_eq_of_lt (by omega) (by omega)]
    simp only [Mv.img, Mv.ent, Fm.imgE, plc]
    rw [fm]
    cases A <;> simp <;> (split at hn) <;> (repeat' split) <;> simp_all <;> first
      | (rw [e1 _ (by omega) (by omega)]; try omega)
      | (rw [e2 _ (by omega) (by omega)]; try omega)
      | (rw [e3 _ (by omega) (by omega)]; try omega)
      | omega
  | turn a k =>
    simp only [Mv.ok] at h
    simp only [Mv.reach] at hn hr
    simp only [Mv.img, Mv.ent, Fm.imgE, plc]
    cases A <;> cases a <;> simp <;> (repeat' split) <;> simp_all <;> omega
  | over =>
    simp only [Mv.img, Mv.ent, Fm.imgE, plc]
    cases A <;> simp <;> omega
  | face a i =>
    simp only [Mv.ok] at h
    simp only [Mv.reach] at hn hr
    simp only [Mv.img, Mv.ent, Fm.imgE, plc]
    cases A <;> cases a <;> simp <;> omega
/-- the form of a move -/
def mvTab (m : Mv) (A : Bool) : List Fm.En := (List.range m.reach.toNat).map fun d : Nat => m.ent A (d : Int)
def mvP (m : Mv) : Fm.Pt := Fm.normal m.trn m.sh (mvTab m true) (mvTab m false)
theorem mvTab_len (m : Mv) (A : Bool) : (mvTab m A).length = m.reach.toNat := by unfold mvTab; rw [List.length_map, List.length_range]
theorem mvTab_rd {m : Mv} (h : m.ok) (A : Bool) (d : Nat) : Fm.rd m.trn m.sh A (mvTab m A) d = m.ent A (d : Int) := by
  unfold Fm.rd mvTab
  by_cases hd : d < m.reach.toNat
  · rw [List.getElem?_map, List.getElem?_range hd]
    rfl
  · rw [List.getElem?_eq_none (by rw [List.length_map, List.length_range]; omega)]
    exact (ent_far h (by omega)).symm
theorem mvP_entry {m : Mv} (h : m.ok) (A : Bool) (d : Nat) : Fm.entry (mvP m) A d = m.ent A (d : Int) := by
  unfold mvP
  rw [Fm.normal_entry]
  cases A
  · exact mvTab_rd h false d
  · exact mvTab_rd h true d
theorem mvP_valid {m : Mv} (h : m.ok) : Fm.Valid (mvP m) := .of (fun a d => by rw [mvP_entry h]; exact ent_wf h (Int.natCast_nonneg d)) fun a d a' d' h1 h2 => by
  rw [mvP_entry h, mvP_entry h] at h1 h2
  obtain ⟨e1, e2⟩ := ent_inj h (Int.natCast_nonneg d) (Int.natCast_nonneg d') h1 h2
  exact ⟨e1, by omega⟩
theorem mvP_norm (m : Mv) : Fm.Norm (mvP m) := Fm.normal_norm _ _ _ _
theorem mvP_len (m : Mv) (A : Bool) : (Fm.tabL (mvP m) A).length ≤ m.reach.toNat := by
  cases A
  · exact Nat.le_trans (Fm.trim_len _ _ _ _) (Nat.le_of_eq (mvTab_len m false))
  · exact Nat.le_trans (Fm.trim_len _ _ _ _) (Nat.le_of_eq (mvTab_len m true))
theorem mvP_fo {m : Mv} (h : m.ok) : Fm.Fo (mvP m) m.reach.toNat := ⟨mvP_valid h, mvP_norm m, mvP_len m⟩
theorem mvP_img {m : Mv} (h : m.ok) {n x : Int} (hn : 2 * m.reach ≤ n) (h0 : 0 ≤ x) (h1 : x < n) : Fm.img (mvP m) n x = m.image n x := by
  have hr := Mv.reach0 h
  have l1 : (mvP m).top.length ≤ m.reach.toNat := mvP_len m true
  have l2 : (mvP m).bot.length ≤ m.reach.toNat := mvP_len m false
  by_cases hx : n - 1 - x < m.reach
  · rw [← Fm.img_false h0 h1 (.inr (by omega)), mvP_entry h, ← ent_img h (by omega) (by omega)]
    congr 1
    unfold plc
    rw [if_neg (by decide)]
    omega
  · rw [← Fm.img_true (p := mvP m) (n := n) (x := x) (by omega), mvP_entry h, ← ent_img h (by omega) (by omega)]
    congr 1
    unfold plc
    rw [if_pos rfl]
    omega
end Z
namespace Z
/-! ### the images from which the program reads a move's form -/
theorem ent_near {m : Mv} (h : m.ok) {A : Bool} {d : Int} (hd : 0 ≤ d) (hn : d < m.reach) : (m.ent A d).d ≤ 2 * m.reach := by
  cases m <;> simp only [Mv.ok] at h <;> simp only [Mv.reach] at hn ⊢ <;> simp only [Mv.ent] <;> (repeat' split) <;> (try split at hn) <;> (try simp) <;> omega
def half (m : Mv) : Nat := 2 * m.reach.toNat + 1
def atHalf (h : Int) (c : Int × Bool) : Fm.En := if c.1 < h then ⟨true, c.1, c.2⟩ else ⟨false, 2 * h - 1 - c.1, c.2⟩
theorem atHalf_img {m : Mv} (h : m.ok) {A : Bool} {d : Int} (hd : 0 ≤ d) (hn : d < m.reach) : atHalf (half m : Int) (m.image (2 * (half m : Int)) (plc A d (2 * (half m : Int)))) = m.ent A d := by
  have hr := Mv.reach0 h
  have e : (half m : Int) = 2 * m.reach + 1 := by unfold half; omega
  rw [ent_img h hd (by rw [e]; omega)]
  have n1 := ent_near h (A := A) hd hn
  have n0 := ent_wf h (A := A) hd
  generalize m.ent A d = x at n0 n1
  obtain ⟨a, k, f⟩ := x
  unfold atHalf Fm.imgE
  dsimp only at n0 n1 ⊢
  cases a
  · simp only [Bool.false_eq_true, if_false]
    rw [if_neg (by rw [e]; omega)]
    congr 1
    omega
  · simp only [if_true]
    rw [if_pos (by rw [e]; omega)]
theorem img_mid {m : Mv} (h : m.ok) : m.image (2 * (half m : Int)) m.reach = ((if m.trn = true then 2 * (half m : Int) - 1 - (m.reach - m.sh) else m.reach + m.sh), m.trn) := by
  have hr := Mv.reach0 h
  have e : (half m : Int) = 2 * m.reach + 1 := by unfold half; omega
  have k := ent_img h (A := true) (d := m.reach) (n := 2 * (half m : Int)) hr (by rw [e]; omega)
  rw [ent_far h (Int.le_refl _)] at k
  have e2 : plc true m.reach (2 * (half m : Int)) = m.reach := rfl
  rw [e2] at k
  rw [k]
  unfold Fm.imgE Fm.ruled
  cases m.trn <;> rfl
end Z
namespace Z
/-! ### the form of moves one after another -/
def wordP (ms : List Mv) : Fm.Pt := ms.foldl (fun p m => Fm.product p (mvP m)) Fm.still
theorem wordP_snoc (ms : List Mv) (m : Mv) : wordP (ms ++ [m]) = Fm.product (wordP ms) (mvP m) := by
  unfold wordP
  rw [List.foldl_append]
  rfl
def sumR (ms : List Mv) : Nat := (ms.map fun m => m.reach.toNat).sum
theorem sumR_append (a b : List Mv) : sumR (a ++ b) = sumR a + sumR b := by
  unfold sumR
  rw [List.map_append, List.sum_append]
theorem sumR_take (ms : List Mv) (k : Nat) : sumR (ms.take k) ≤ sumR ms := by
  have h := sumR_append (ms.take k) (ms.drop k)
  rw [List.take_append_drop] at h
  omega
theorem snoc_ind {p : List Mv → Prop} (h0 : p []) (h1 : ∀ ms m, p ms → p (ms ++ [m])) (ms : List Mv) : p ms := by
  have h : ∀ l : List Mv, p l.reverse := fun l => by
    induction l with
    | nil => exact h0
    | cons m l ih => rw [List.reverse_cons]; exact h1 _ _ ih
  have := h ms.reverse
  rwa [List.reverse_reverse] at this
theorem wordP_fo {ms : List Mv} (h : ∀ m ∈ ms, m.ok) : Fm.Fo (wordP ms) (sumR ms) := by
  revert h
  refine snoc_ind (p := fun ms => (∀ m ∈ ms, m.ok) → Fm.Fo (wordP ms) (sumR ms)) (fun _ => Fm.Fo.still) (fun ms m ih h => ?_) ms
  rw [wordP_snoc, sumR_append]
  have h1 := ih fun x hx => h x (List.mem_append_left _ hx)
  have h2 := h1.mul (mvP_fo (h m (List.mem_append_right _ (List.mem_singleton.mpr rfl))))
  have e : sumR [m] = m.reach.toNat := by simp [sumR]
  rw [e]
  exact h2
theorem wordP_append {a : List Mv} (b : List Mv) (ha : ∀ m ∈ a, m.ok) : wordP (a ++ b) = Fm.product (wordP a) (wordP b) := by
  refine snoc_ind (p := fun b => wordP (a ++ b) = Fm.product (wordP a) (wordP b)) ?_ (fun b m ih => ?_) b
  · rw [List.append_nil]
    have f := wordP_fo ha
    exact (Fm.product_still f.nm f.v.wf).symm
  · rw [← List.append_assoc, wordP_snoc, ih, wordP_snoc, Fm.product_assoc]
end Z
namespace Z
/-! ### what the form of a word does, the word does at every size from twice its reach on -/
theorem img_read {p : Fm.Pt} {n x : Int} {w : Nat} (hw : ∀ a, (Fm.tabL p a).length ≤ w) (A : Bool) (d : Nat) (h0 : 0 ≤ x) (h1 : x < n) (hx : x = plc A d n) (hd : (d : Int) + w < n) : Fm.img p n x = Fm.imgE n (Fm.entry p A d) := by
  have l1 : p.top.length ≤ w := hw true
  have l2 : p.bot.length ≤ w := hw false
  unfold plc at hx
  cases A
  · rw [if_neg (by decide)] at hx
    rw [← Fm.img_false h0 h1 (.inr (by omega))]
    congr 2
    omega
  · rw [if_pos rfl] at hx
    rw [← Fm.img_true (p := p) (n := n) (x := x) (by omega)]
    congr 2
    omega
theorem entry_le {p : Fm.Pt} {w : Nat} (hv : Fm.Valid p) (hw : ∀ a, (Fm.tabL p a).length ≤ w) (A : Bool) (d : Nat) : (Fm.entry p A d).d ≤ (d : Int) + w ∨ (Fm.entry p A d).d < 2 * (w : Int) := by
  have l1 : p.top.length ≤ w := hw true
  have l2 : p.bot.length ≤ w := hw false
  have f1 := hv.f0 true
  have f2 := hv.f0 false
  have fs := Fm.fst_sum p
  by_cases h : d < (Fm.tabL p A).length
  · have h2 := (hv.rng (A, d) (Fm.mem_src.mpr h)).2
    dsimp only at h2
    generalize Fm.entry p A d = e at h2 ⊢
    refine .inr ?_
    cases ha : e.a <;> rw [ha] at h2 <;> omega
  · obtain ⟨_, g⟩ := Fm.far_fst (p := p) (a := A) (d := d) (by omega)
    rw [g]
    refine .inl ?_
    have hA := hw A
    have e1 : Fm.fst p (A != p.t) ≤ (Fm.tabL p A).length + w := by
      have : ∀ b, Fm.fst p b ≤ p.top.length + p.bot.length := fun b => by cases b <;> omega
      have h3 := this (A != p.t)
      cases A
      · show _ ≤ ((p.bot.length : Int)) + w
        omega
      · show _ ≤ ((p.top.length : Int)) + w
        omega
    omega
theorem step_img {p : Fm.Pt} {m : Mv} {w : Nat} (hp : Fm.Fo p w) (hm : m.ok) {n x : Int} (hn : 2 * ((w : Int) + m.reach) ≤ n) (h0 : 0 ≤ x) (h1 : x < n) :
    Fm.img (Fm.product p (mvP m)) n x = ((m.image n (Fm.img p n x).1).1, (Fm.img p n x).2 != (m.image n (Fm.img p n x).1).2) := by
  have hr := Mv.reach0 hm
  have fx := hp.mul (mvP_fo hm)
  obtain ⟨A, d, hx, hd⟩ : ∃ (A : Bool) (d : Nat), x = plc A d n ∧ (d : Int) + (w + m.reach) < n := by
    by_cases h : 2 * x < n
    · exact ⟨true, x.toNat, by unfold plc; rw [if_pos rfl]; omega, by omega⟩
    · exact ⟨false, (n - 1 - x).toNat, by unfold plc; rw [if_neg (by decide)]; omega, by omega⟩
  rw [img_read fx.l A d h0 h1 hx (by omega), img_read hp.l A d h0 h1 hx (by omega), Fm.product_entry]
  have w0 := hp.v.wf A d
  have w1 := entry_le hp.v hp.l A d
  unfold Fm.comp
  generalize Fm.entry p A d = e at w0 w1
  obtain ⟨a1, d1, f1⟩ := e
  obtain ⟨k, rfl⟩ := Int.eq_ofNat_of_zero_le w0
  have key := ent_img hm (A := a1) (d := (k : Int)) (n := n) (Int.natCast_nonneg k) (by rcases w1 with w1 | w1 <;> dsimp only at w1 <;> omega)
  have e2 : (Fm.imgE n ⟨a1, (k : Int), f1⟩).1 = plc a1 k n := by unfold Fm.imgE plc; rfl
  rw [e2, key]
  show Fm.imgE n ⟨(Fm.entry (mvP m) a1 (k : Int).toNat).a, (Fm.entry (mvP m) a1 (k : Int).toNat).d, f1 != (Fm.entry (mvP m) a1 (k : Int).toNat).f⟩ = _
  rw [Int.toNat_natCast, mvP_entry hm]
  rfl
theorem word_img {ms : List Mv} (hk : ∀ m ∈ ms, m.ok) {n x : Int} (hn : 2 * (sumR ms : Int) ≤ n) (h0 : 0 ≤ x) (h1 : x < n) : Fm.img (wordP ms) n x = runM n ms (x, false) := by
  revert hk hn
  refine snoc_ind (p := fun ms => (∀ m ∈ ms, m.ok) → 2 * (sumR ms : Int) ≤ n → Fm.img (wordP ms) n x = runM n ms (x, false)) (fun _ _ => ?_) (fun ms m ih hk hn => ?_) ms
  · show Fm.img Fm.still n x = (x, false)
    rw [img_read (w := 0) Fm.Fo.still.l true x.toNat h0 h1 (by unfold plc; rw [if_pos rfl]; omega) (by omega), Fm.still_entry]
    unfold Fm.imgE
    simp only [if_true]
    rw [Int.toNat_of_nonneg h0]
  · have km := hk m (List.mem_append_right _ (List.mem_singleton.mpr rfl))
    have hr := Mv.reach0 km
    have e : sumR (ms ++ [m]) = sumR ms + m.reach.toNat := by rw [sumR_append]; simp [sumR]
    rw [e] at hn
    have h := ih (fun x hx => hk x (List.mem_append_left _ hx)) (by omega)
    rw [wordP_snoc, step_img (wordP_fo fun x hx => hk x (List.mem_append_left _ hx)) km (by omega) h0 h1, h, runM_snoc]
end Z
namespace Z
open PySem PySem.Spec PyProof.Rows L2
-- what stands at an address
local macro_rules | `(tactic| walk_at "hp") => `(tactic| first | assumption | exact upd_same | exact BagAt.at_ (by assumption) | exact BagAt.cells (by assumption) | fail "hp")
local macro_rules | `(tactic| walk_at "sq") => `(tactic| first | assumption | (refine Or.inl (Or.inl ?_); walk_at "hp") | (apply Same.seq <;> assumption))
-- bounds
local macro_rules | `(tactic| walk_at "num") => `(tactic| first
  | exact rfl | decide | exact le_line (Nat.le_of_ble_eq_true rfl) | exact lt_line (Nat.le_of_ble_eq_true rfl)
  | (exact mul_ok (small_abs (by omega)) (small_abs (by omega)))
  | (exact div_small (by omega) (by omega))
  | (exact div_ok (by omega) (by assumption))
  | (refine ⟨?_, ?_⟩ <;> omega) | omega
  | (show (_ : Int) ≠ 0; omega) | (show CPow _ _; unfold CPow; decide))
-- one step
local macro_rules | `(tactic| walk_at "rd") => `(tactic| first
  | (refine Exists.intro _ (And.intro rfl ?_))
  | (refine Exists.intro _ (Exists.intro _ (And.intro rfl (And.intro rfl ?_))))
  | (refine Or.inl (Exists.intro _ (And.intro rfl ?_)))
  | (refine Or.inr (Exists.intro _ (And.intro rfl ?_)))
  | (with_reducible refine iteF ?_) | (with_reducible refine iteT ?_)
  | (refine And.intro ?cc ?_; (case cc => walk_at "num"))
  | (refine' Exists.intro _ (Exists.intro _ (Exists.intro _ (Exists.intro _ (And.intro rfl (And.intro rfl (And.intro ?sq (And.intro ?ha ?k))))))); (case sq => walk_at "sq"); (case ha => first | exact rfl | assumption | exact at_zero))
  | (refine' Exists.intro _ (Exists.intro _ (And.intro rfl (And.intro (Or.inl ?sq) ?k))); (case sq => walk_at "sq")))
local macro_rules | `(tactic| walk_at "sqt") => `(tactic| first | assumption | (refine Or.inl (Or.inl ?_); walk_at "hp") | (apply Same.tup <;> assumption))
local macro_rules | `(tactic| walk_at "rdt") => `(tactic| first
  | walk_at "rd"
  | (refine' Exists.intro _ (Exists.intro _ (And.intro rfl (And.intro (Or.inr ?sq) ?k))); (case sq => walk_at "sqt"))
  | (refine' Exists.intro _ (Exists.intro _ (Exists.intro _ (Exists.intro _ (And.intro rfl (And.intro rfl (And.intro ?sq (And.intro ?ha ?k))))))); (case sq => walk_at "sqt"); (case ha => first | exact rfl | assumption | exact at_zero))
  | (refine iteF ?_) | (refine iteT ?_))
local macro_rules | `(tactic| walk_at "rds") => `(tactic| repeat walk_at "rdt")
local macro_rules | `(tactic| walk_at "pull") => `(tactic| (refine' Exists.intro _ (Exists.intro _ (Exists.intro _ (And.intro rfl (And.intro ?bag (And.intro ?pos (And.intro ?fit ?kk)))))); (case bag => assumption); (case pos => first | decide | omega); (case fit => exact Fit.of (by first | decide | omega) (by first | decide | omega))))
local macro_rules | `(tactic| walk_at "two") => `(tactic| refine Exists.intro _ (Exists.intro _ (And.intro rfl ?_)))
/-! ### steps by data -/
local macro_rules | `(tactic| walk_at "side") => `(tactic| first
  | exact rfl | assumption | exact Nat.le_of_ble_eq_true rfl | decide | exact True.intro | exact le_line (Nat.le_of_ble_eq_true rfl) | exact lt_line (Nat.le_of_ble_eq_true rfl) | omega | (show (_ : Int) ≠ 0; omega) | exact cut1_ok | (unfold CPow; decide) | exact mul_ok (small_abs (by omega)) (small_abs (by omega)) | exact div_small (by omega) (by omega))
local macro_rules | `(tactic| walk_at "dR") => `(tactic| first
  | with_reducible refine run_seq ?_ | with_reducible refine run_if ?_ | with_reducible refine run_set ?_ | with_reducible refine run_ret ?_ | with_reducible refine run_next ?_
  | with_reducible refine run_asg ?_ | with_reducible refine run_for ?_ | ((with_reducible refine' run_append ?ev ?kk); (case ev => exact rfl)) | ((with_reducible refine' run_aug ?ev ?kk); (case ev => exact rfl))
  | with_reducible refine run_par ?_ | with_reducible refine run_drop ?_ | with_reducible refine run_retN ?_ | with_reducible refine run_break ?_ | with_reducible refine run_cont ?_)
local macro_rules | `(tactic| walk_at "dE") => `(tactic| first
  | ((with_reducible refine' ev_var ?ev ?kk); (case ev => exact rfl))
  | with_reducible refine ev_op ?_ | with_reducible refine ev_int ?_ | with_reducible refine ev_str ?_ | with_reducible refine ev_callC (by assumption) ?_ | with_reducible refine ev_callX (by assumption) ?_ | with_reducible refine ev_call ?_ | with_reducible refine ev_cb ?_ | with_reducible refine ev_tup ?_
  | with_reducible refine ev_if ?_ | with_reducible refine ev_and ?_ | with_reducible refine ev_or ?_ | with_reducible refine ev_not ?_ | with_reducible refine ev_bl ?_ | with_reducible refine ev_non ?_ | with_reducible refine ev_isi ?_
  | with_reducible refine ev_un ?_ | with_reducible refine ev_chain ?_ | with_reducible refine ev_lst ?_ | with_reducible refine ev_cbf ?_ | with_reducible refine ev_sl ?_ | with_reducible refine ev_m1 ?_ | with_reducible refine ev_kget ?_ | with_reducible refine ev_fmt ?_ | with_reducible refine ev_join ?_ | with_reducible refine ev_ty ?_ | with_reducible refine ev_cV ?_)
local macro_rules | `(tactic| walk_at "dT") => `(tactic| first
  | with_reducible refine evt_t ?_ | with_reducible refine evt_b ?_ | with_reducible refine evt_and ?_ | with_reducible refine evt_or ?_ | with_reducible refine evt_not ?_ | with_reducible refine evt_yes ?_)
local macro_rules | `(tactic| walk_at "dX") => `(tactic| first
  | ((with_reducible refine' evx_name ?ev ?kk); (case ev => first | exact rfl | assumption)) | with_reducible refine evx_tup ?_ | with_reducible refine evx_lst ?_ | with_reducible refine evxs_cons ?_ | with_reducible refine evxs_nil ?_
  | ((with_reducible refine' evg_name ?ev ?mm ?kk); (case ev => first | exact rfl | assumption); (case mm => decide)) | with_reducible refine evg_tup ?_ | with_reducible refine evg_lst ?_ | with_reducible refine evgs_cons ?_ | with_reducible refine evgs_nil ?_
  | with_reducible refine evi_list ?_ | with_reducible refine evi_tup ?_ | with_reducible refine evi_rng1 ?_ | with_reducible refine evi_rng2 ?_ | with_reducible refine evi_enum ?_ | with_reducible refine evi_zip ?_
  | with_reducible refine evo_none ?_ | with_reducible refine evo_some ?_ | with_reducible refine evj_cons ?_ | with_reducible refine evj_nil ?_)
local macro_rules | `(tactic| walk_at "d1") => `(tactic| first
  | ((with_reducible change Ev _ _ _ _ _); walk_at "dE")
  | ((with_reducible change Run _ _ _ _ _); walk_at "dR")
  | with_reducible refine eva_cons ?_ | with_reducible refine eva_nil ?_
  | ((with_reducible change EvT _ _ _ _ _); walk_at "dT")
  | with_reducible refine eva_star ?_
  | with_reducible refine iteT ?_ | with_reducible refine iteF ?_
  | ((with_reducible change if (_ : Bool) = true then _ else _); first | refine iteT ?_ | refine iteF ?_)
  | ((with_reducible refine And.intro ?cc ?_); (case cc => walk_at "side"))
  | ((with_reducible refine' Exists.intro _ (And.intro ?cc ?kk)); (case cc => first | exact rfl | exact at_zero))
  | ((with_reducible refine' Exists.intro _ (Exists.intro _ (And.intro ?cc ?kk))); (case cc => exact rfl))
  | ((with_reducible refine' Exists.intro _ (Exists.intro _ (Exists.intro _ (And.intro ?cc (And.intro ?cd ?kk))))); (case cc => exact rfl); (case cd => exact rfl))
  | ((with_reducible refine' Exists.intro _ (Exists.intro _ (Exists.intro _ (And.intro ?cc ?kk)))); (case cc => exact rfl))
  | ((with_reducible refine' Exists.intro _ (Exists.intro _ (Exists.intro _ (Exists.intro _ (And.intro ?cc ?kk))))); (case cc => exact rfl))
  | walk_at "dX")
local macro_rules | `(tactic| walk_at "d2") => `(tactic| walk_at "d1")
local macro_rules | `(tactic| walk_at "dgo") => `(tactic| repeat walk_at "d1")
local macro_rules | `(tactic| walk_at "wk") => `(tactic| repeat first | exact True.intro | refine And.intro (Or.inl rfl) ?_ | refine And.intro (Or.inr (And.intro rfl rfl)) ?_)
local macro_rules | `(tactic| walk_at "isi") => `(tactic| (refine' Exists.intro _ (Exists.intro _ (Exists.intro _ (Exists.intro _ (Exists.intro _ (And.intro rfl (And.intro (ClsV.ty _) (And.intro ?tt (And.intro (kit_ty ?ee) ?kk)))))))); (case tt => assumption); (case ee => first | exact kb_int_list | exact kb_int_tuple | exact kb_int_dict | exact kb_int_bool | exact kb_int_int | exact kb_int_str | exact kb_str_list | exact kb_str_tuple | exact kb_str_dict | exact kb_str_bool | exact kb_str_int | exact kb_str_str | exact kb_bool_list | exact kb_bool_tuple | exact kb_bool_dict | exact kb_bool_bool | exact kb_bool_int | exact kb_bool_str | exact kb_NoneType_list | exact kb_NoneType_tuple | exact kb_NoneType_dict | exact kb_NoneType_bool | exact kb_NoneType_int | exact kb_NoneType_str | exact kb_list_list | exact kb_list_tuple | exact kb_list_dict | exact kb_list_bool | exact kb_list_int | exact kb_list_str | exact kb_tuple_list | exact kb_tuple_tuple | exact kb_tuple_dict | exact kb_tuple_bool | exact kb_tuple_int | exact kb_tuple_str)))
-- one step
local macro_rules | `(tactic| walk_at "same") => `(tactic| repeat first | walk_at "rdt" | walk_at "isi")
/-! ### steps by data -/
local macro_rules | `(tactic| walk_at "side") => `(tactic| first
  | exact rfl | with_reducible assumption | exact Nat.le_of_ble_eq_true rfl | decide | exact True.intro | exact le_line (Nat.le_of_ble_eq_true rfl) | exact lt_line (Nat.le_of_ble_eq_true rfl) | omega | (show (_ : Int) ≠ 0; omega) | exact cut1_ok | (unfold CPow; decide) | exact mul_ok (small_abs (by omega)) (small_abs (by omega)) | exact div_small (by omega) (by omega) | assumption)
local macro_rules | `(tactic| walk_at "dR") => `(tactic| first
  | with_reducible refine run_ownNil ?_ | with_reducible refine run_ownL ?_ | ((with_reducible refine' run_extend ?ev ?kk); (case ev => exact rfl))
  | ((with_reducible refine' run_fld ?c ?n ?e ?kk); (case c => assumption); (case n => assumption); (case e => exact rfl))
  | ((with_reducible refine' run_retO ?ev ?kk); (case ev => exact rfl)) | ((with_reducible refine' run_setix ?ev ?kk); (case ev => exact rfl)) | ((with_reducible refine' run_popAt ?ev ?kk); (case ev => exact rfl)) | ((with_reducible refine' run_insert ?ev ?kk); (case ev => exact rfl)) | with_reducible refine run_parL ?_ | with_reducible refine run_ownRep ?_
  | with_reducible refine run_seq ?_ | with_reducible refine run_if ?_ | with_reducible refine run_set ?_ | with_reducible refine run_ret ?_ | with_reducible refine run_next ?_
  | with_reducible refine run_asg ?_ | with_reducible refine run_for ?_ | ((with_reducible refine' run_append ?ev ?kk); (case ev => exact rfl)) | ((with_reducible refine' run_aug ?ev ?kk); (case ev => exact rfl))
  | with_reducible refine run_par ?_ | with_reducible refine run_drop ?_ | with_reducible refine run_retN ?_ | with_reducible refine run_break ?_ | with_reducible refine run_cont ?_)
local macro_rules | `(tactic| walk_at "dE") => `(tactic| first
  | ((with_reducible refine' ev_var ?ev ?kk); (case ev => exact rfl))
  | with_reducible refine ev_lenOwn ?_
  | ((with_reducible refine' ev_fldO ?ev ?dd ?kk); (case ev => exact rfl); (case dd => exact rfl)) | with_reducible refine ev_fld ?_ | with_reducible refine ev_methX (by assumption) ?_ | with_reducible refine ev_meth ?_ | with_reducible refine ev_prop ?_ | with_reducible refine ev_makeX (by assumption) ?_ | with_reducible refine ev_make ?_ | with_reducible refine ev_ownX (by assumption) ?_ | with_reducible refine ev_own ?_ | ((with_reducible refine' ev_isiOwn ?o ?kk); (case o => assumption))
  | ((with_reducible refine' ev_ixO ?ev ?kk); (case ev => exact rfl)) | with_reducible refine ev_rev ?_ | with_reducible refine ev_op ?_ | with_reducible refine ev_int ?_ | with_reducible refine ev_str ?_ | with_reducible refine ev_callKX (by assumption) ?_ | with_reducible refine ev_callK ?_ | with_reducible refine ev_callC (by assumption) ?_ | with_reducible refine ev_callX (by assumption) ?_ | with_reducible refine ev_call ?_ | with_reducible refine ev_cb ?_ | with_reducible refine ev_tup ?_
  | with_reducible refine ev_if ?_ | with_reducible refine ev_and ?_ | with_reducible refine ev_or ?_ | with_reducible refine ev_not ?_ | with_reducible refine ev_bl ?_ | with_reducible refine ev_non ?_ | with_reducible refine ev_isi ?_
  | with_reducible refine ev_un ?_ | with_reducible refine ev_chain ?_ | with_reducible refine ev_lst ?_ | with_reducible refine ev_cbf ?_ | with_reducible refine ev_sl ?_ | with_reducible refine ev_m1 ?_ | with_reducible refine ev_kget ?_ | with_reducible refine ev_fmt ?_ | with_reducible refine ev_join ?_ | with_reducible refine ev_ty ?_ | with_reducible refine ev_cV ?_)
local macro_rules | `(tactic| walk_at "dT") => `(tactic| first
  | with_reducible refine evt_t ?_ | with_reducible refine evt_b ?_ | with_reducible refine evt_and ?_ | with_reducible refine evt_or ?_ | with_reducible refine evt_not ?_ | with_reducible refine evt_yes ?_)
local macro_rules | `(tactic| walk_at "dX") => `(tactic| first
  | ((with_reducible refine' evx_name ?ev ?kk); (case ev => first | exact rfl | assumption)) | with_reducible refine evx_tup ?_ | with_reducible refine evx_lst ?_ | with_reducible refine evxs_cons ?_ | with_reducible refine evxs_nil ?_
  | ((with_reducible refine' evg_name ?ev ?mm ?kk); (case ev => first | exact rfl | assumption); (case mm => decide)) | with_reducible refine evg_tup ?_ | with_reducible refine evg_lst ?_ | with_reducible refine evgs_cons ?_ | with_reducible refine evgs_nil ?_
  | with_reducible refine evi_list ?_ | with_reducible refine evi_tup ?_ | with_reducible refine evi_rng1 ?_ | with_reducible refine evi_rng2 ?_ | with_reducible refine evi_enum ?_ | with_reducible refine evi_zip ?_
  | with_reducible refine eva_items ?_ | with_reducible refine evi_revA ?_ | with_reducible refine evi_enumT ?_ | with_reducible refine evf_cb ?_ | with_reducible refine evo_none ?_ | with_reducible refine evo_some ?_ | with_reducible refine evj_cons ?_ | with_reducible refine evj_nil ?_)
local macro_rules | `(tactic| walk_at "d1") => `(tactic| first
  | ((with_reducible change Ev _ _ _ _ _); walk_at "dE")
  | ((with_reducible change Run _ _ _ _ _); walk_at "dR")
  | with_reducible refine eva_cons ?_ | with_reducible refine eva_nil ?_
  | ((with_reducible change EvT _ _ _ _ _); walk_at "dT")
  | with_reducible refine eva_star ?_
  | with_reducible refine iteT ?_ | with_reducible refine iteF ?_
  | ((with_reducible change if (_ : Bool) = true then _ else _); first | refine iteT ?_ | refine iteF ?_)
  | ((with_reducible refine And.intro ?cc ?_); (case cc => walk_at "side"))
  | ((with_reducible refine' Exists.intro _ (And.intro ?cc ?kk)); (case cc => first | exact rfl | exact at_zero))
  | ((with_reducible refine' Exists.intro _ (Exists.intro _ (And.intro ?cc ?kk))); (case cc => exact rfl))
  | ((with_reducible refine' Exists.intro _ (Exists.intro _ (Exists.intro _ (And.intro ?cc (And.intro ?cd ?kk))))); (case cc => exact rfl); (case cd => exact rfl))
  | ((with_reducible refine' Exists.intro _ (Exists.intro _ (Exists.intro _ (And.intro ?cc ?kk)))); (case cc => exact rfl))
  | ((with_reducible refine' Exists.intro _ (Exists.intro _ (Exists.intro _ (Exists.intro _ (And.intro ?cc ?kk))))); (case cc => exact rfl))
  | walk_at "dX")
local macro_rules | `(tactic| walk_at "d2") => `(tactic| walk_at "d1")
local macro_rules | `(tactic| walk_at "dgo") => `(tactic| repeat walk_at "d1")
local macro_rules | `(tactic| walk_at "wk") => `(tactic| repeat first | exact True.intro | refine And.intro (Or.inl rfl) ?_ | refine And.intro (Or.inr (And.intro rfl rfl)) ?_)
local macro_rules | `(tactic| walk_at "d3") => `(tactic| first
  | ((with_reducible refine' ev_lenO ?ev ?kk); (case ev => exact rfl))
  | ((with_reducible refine' run_dputT ?ev ?kk); (case ev => exact rfl)) | ((with_reducible refine' run_dputK ?ev ?kk); (case ev => exact rfl)) | with_reducible refine run_dnewK ?_ | with_reducible refine run_dnewT ?_
  | ((with_reducible refine' ev_dgetK ?ev ?kk); (case ev => exact rfl)) | ((with_reducible refine' ev_dinK ?ev ?kk); (case ev => exact rfl)) | ((with_reducible refine' ev_dinT ?ev ?kk); (case ev => exact rfl)) | ((with_reducible refine' ev_dnotinK ?ev ?kk); (case ev => exact rfl))
  | ((with_reducible refine' run_append ?ev ?kk); (case ev => exact rfl)) | with_reducible refine run_appC ?_ | with_reducible refine run_par3 ?_ | ((with_reducible refine' eva_self ?ev ?kk); (case ev => exact rfl)) | with_reducible refine evf_methN ?_ | with_reducible refine ev_methN ?_ | with_reducible refine ev_listRg1 ?_
  | with_reducible refine evi_zipM ?_)
local macro_rules | `(tactic| walk_at "dgo") => `(tactic| repeat first | walk_at "d3" | walk_at "d1")
/-! ### products by data -/
theorem enL_len (l : List Fm.En) : ((enL l).length : Int) = l.length := by unfold enL; rw [List.length_map]
theorem ne_bl (x y : Bool) : (!decide (V.bl x = V.bl y)) = (x != y) := by cases x <;> cases y <;> decide
section
variable {P : Program} {w : World} {K : PySem.W.Frag} {mg : Str → Option Value} {base : Heap}
abbrev S_senton : Sd := fun _ ds Pq => ∃ (p q : Fm.Pt) (a : Bool), ds = [ptD p, ptD q, .str (eS a)] ∧ Fm.Wf p ∧ Fm.width p q a ≤ 10000 ∧ Pq (.ok (.lst (enL (Fm.sentOn p q a))))
theorem ok_sent_on (T : Txt K mg w) : FnOk P w K mg base CX0 3 T.a_sent_on T.d_sent_on P_sent_on (spD K S_senton) := by
  have G_ruled := ok_ruled (P := P) (w := w) (base := base) T
  have G_entry_at := ok_entry_at (P := P) (w := w) (base := base) T
  refine okD T.F_sent_on sc_sent_on (fun bs ds Pq h => ?_) (fun cdv A outer s H E hr => ⟨_, (pss_cons (ps_asg (pe_call G_ruled (hr.mono (by decide)) (by rfl) T.g_ruled T.F_ruled.kp T.b_ruled .nil pass0 (pa_cons (pe_ix (k_ixT (K := K)) (pv 0) pe_int (fun _ _ => rfl)) (pa_cons (pe_ix (k_ixT (K := K)) (pv 0) pe_int (fun _ _ => rfl)) (pa_cons (pv 2) (pa_cons pe_int pa_nil))))) (k_gT (K := K) (n := 3) (pgs_cons (pg_name (i := 3) sc_sent_on.nd rfl (Or.inl rfl)) (pgs_cons (pg_name (i := 4) sc_sent_on.nd rfl (Or.inl rfl)) (pgs_cons (pg_name (i := 5) sc_sent_on.nd rfl (Or.inl rfl)) pgs_nil)))))
  (pss_cons (ps_set (i := 6) sc_sent_on.nd rfl (Or.inl rfl) (pe_callB (k_len (K := K)) (by rfl) T.m_len boot_len (pa_cons (pe_ifExp (pt_cmpR op_eq (pv 3) pe_str (nomark _)) (pe_ix (k_ixT (K := K)) (pv 1) pe_int (fun _ _ => rfl)) (pe_ix (k_ixT (K := K)) (pv 1) pe_int (fun _ _ => rfl))) pa_nil)))
  (pss_cons (ps_set (i := 7) sc_sent_on.nd rfl (Or.inl rfl) (pe_callB k_max2 (by rfl) T.m_max boot_max (pa_cons (pe_callB (k_len (K := K)) (by rfl) T.m_len boot_len (pa_cons (pe_ifExp (pt_cmpR op_eq (pv 2) pe_str (nomark _)) (pe_ix (k_ixT (K := K)) (pv 0) pe_int (fun _ _ => rfl)) (pe_ix (k_ixT (K := K)) (pv 0) pe_int (fun _ _ => rfl))) pa_nil)) (pa_cons (pe_op op_sub (pv 6) (pv 4)) pa_nil))))
  (pss_cons (ps_set (i := 8) sc_sent_on.nd rfl (Or.inl rfl) (pe_lst pa_nil))
  (pss_cons (ps_for PassesOwn.never rfl (pi_range1 rfl T.m_range (pa_cons (pv 7) pa_nil)) (pg_name (i := 9) sc_sent_on.nd rfl (Or.inl rfl))
  (pss_cons (ps_asg (pe_call G_entry_at (hr.mono (by decide)) (by rfl) T.g_entry_at T.F_entry_at.kp T.b_entry_at .nil pass0 (pa_cons (pv 0) (pa_cons (pv 2) (pa_cons (pv 9) pa_nil)))) (k_gT (K := K) (n := 3) (pgs_cons (pg_name (i := 10) sc_sent_on.nd rfl (Or.inl rfl)) (pgs_cons (pg_name (i := 11) sc_sent_on.nd rfl (Or.inl rfl)) (pgs_cons (pg_name (i := 12) sc_sent_on.nd rfl (Or.inl rfl)) pgs_nil)))))
  (pss_cons (ps_asg (pe_call G_entry_at (hr.mono (by decide)) (by rfl) T.g_entry_at T.F_entry_at.kp T.b_entry_at .nil pass0 (pa_cons (pv 1) (pa_cons (pv 10) (pa_cons (pv 11) pa_nil)))) (k_gT (K := K) (n := 3) (pgs_cons (pg_name (i := 13) sc_sent_on.nd rfl (Or.inl rfl)) (pgs_cons (pg_name (i := 14) sc_sent_on.nd rfl (Or.inl rfl)) (pgs_cons (pg_name (i := 15) sc_sent_on.nd rfl (Or.inl rfl)) pgs_nil)))))
  (pss_one (ps_expr (k_bm (K := K) PySem.F.plainAttrs_list PySem.F.slot_list_append PySem.F.type_list_append mt_append (pv 8) (pa_cons (pe_tup (pa_cons (pv 13) (pa_cons (pv 14) (pa_cons (pe_cmpR op_ne (pv 12) (pv 15) (nomark _)) pa_nil)))) pa_nil)))))))
  (pss_one (ps_ret (pv 8)))))))), ?_⟩)
  · obtain ⟨p, q, a, rfl, _⟩ := h
    rfl
  · rintro C ds Pq hE hX ⟨p, q, a, rfl, hw, hz, qq⟩
    walk_at "dgo"
    generalize hR : Fm.ruled p.t p.s a 0 = R
    have hW : max ((Fm.tabL p a).length : Int) ((Fm.tabL q R.a).length - R.d) = (Fm.width p q a : Int) := by
      unfold Fm.width
      rw [hR]
      omega
    rw [eS_top]
    have hWz : (Fm.width p q a : Int) ≤ 10000 := by omega
    generalize hwd : Fm.width p q a = wd at *
    refine iteC2 (fun hb => ?_) (fun hb => ?_) <;> walk_at "dgo" <;> rw [eS_top] <;> refine iteC2 (fun ha => ?_) (fun ha => ?_) <;> rw [hb, ha] at hW
    all_goals
      have hW2 := hW
      simp only [Fm.tabL, if_true, if_false, Bool.false_eq_true, ← enL_len] at hW2
      walk_at "dgo"
      rw [hW2]
      intro p8
      refine seq_wk (ρ0 := [.val (ptD p), .val (ptD q), .val (.str (eS a)), .no, .no, .no, .no, .val (.int (wd : Int)), .own p8 (enL ((Fm.sentOn p q a).take 0)), .no, .no, .no, .no, .no, .no, .no]) ?_ _ (by walk_at "wk")
      walk_at "dgo"
      rw [Int.toNat_natCast]
      refine forX (fun k (x : Nat) => x = k) (fun x => [.val (ptD p), .val (ptD q), .val (.str (eS a)), .no, .no, .no, .no, .val (.int (wd : Int)), .own p8 (enL ((Fm.sentOn p q a).take x)), .no, .no, .no, .no, .no, .no, .no]) 0 rfl (by walk_at "wk") (fun hv hd k d x hi hx => ?_) (fun x hx => ?_)
      · obtain ⟨hk, rfl⟩ := rng_get hi
        subst hx
        have hlt : (enL ((Fm.sentOn p q a).take x)).length < sizeLine := Nat.lt_of_lt_of_le (show (enL ((Fm.sentOn p q a).take x)).length < 10001 by unfold enL; rw [List.length_map]; exact Nat.lt_of_le_of_lt (List.length_take_le _ _) (by omega)) (Nat.le_of_ble_eq_true rfl)
        walk_at "dgo"
        refine ⟨q, (Fm.entry p a x).a, (Fm.entry p a x).d.toNat, by rw [Int.toNat_of_nonneg (hw _ _)], ?_⟩
        walk_at "dgo"
        rw [ne_bl]
        walk_at "dgo"
        have hs : enL ((Fm.sentOn p q a).take (x + 1)) = enL ((Fm.sentOn p q a).take x) ++ [enD (Fm.comp p q a x)] := by
          unfold enL Fm.sentOn
          rw [List.take_add_one, List.getElem?_map, List.getElem?_range (by omega), List.map_append]
          rfl
        rw [hs]
        walk_at "wk"
      · subst hx
        rw [rng_len]
        refine seq_wk ?_
        walk_at "dgo"
        rw [List.take_of_length_le (by unfold Fm.sentOn; rw [List.length_map, List.length_range]; omega)]
        exact qq
abbrev S_product : Sd := fun _ ds Pq => ∃ (p q : Fm.Pt), ds = [ptD p, ptD q] ∧ Fm.Wf p ∧ (∀ a, Fm.width p q a ≤ 10000) ∧ Pq (.ok (ptD (Fm.product p q)))
theorem ok_product (T : Txt K mg w) : FnOk P w K mg base CX0 4 T.a_product T.d_product P_product (spD K S_product) := by
  have G_normal := ok_normal (P := P) (w := w) (base := base) T
  have G_sent_on := ok_sent_on (P := P) (w := w) (base := base) T
  refine okD T.F_product sc_product (fun bs ds Pq h => ?_) (fun cdv A outer s H E hr => ⟨_, (pss_cons (ps_set (i := 2) sc_product.nd rfl (Or.inl rfl) (pe_cmpR op_ne (pe_ix (k_ixT (K := K)) (pv 0) pe_int (fun _ _ => rfl)) (pe_ix (k_ixT (K := K)) (pv 1) pe_int (fun _ _ => rfl)) (nomark _)))
  (pss_cons (ps_set (i := 3) sc_product.nd rfl (Or.inl rfl) (pe_ifExp (pt_val (pe_ix (k_ixT (K := K)) (pv 1) pe_int (fun _ _ => rfl))) (pe_op op_sub (pe_ix (k_ixT (K := K)) (pv 1) pe_int (fun _ _ => rfl)) (pe_ix (k_ixT (K := K)) (pv 0) pe_int (fun _ _ => rfl))) (pe_op op_add (pe_ix (k_ixT (K := K)) (pv 1) pe_int (fun _ _ => rfl)) (pe_ix (k_ixT (K := K)) (pv 0) pe_int (fun _ _ => rfl)))))
  (pss_one (ps_ret (pe_call G_normal (hr.mono (by decide)) (by rfl) T.g_normal T.F_normal.kp T.b_normal .nil pass0 (pa_cons (pv 2) (pa_cons (pv 3) (pa_cons (pe_call G_sent_on (hr.mono (by decide)) (by rfl) T.g_sent_on T.F_sent_on.kp T.b_sent_on .nil pass0 (pa_cons (pv 0) (pa_cons (pv 1) (pa_cons pe_str pa_nil)))) (pa_cons (pe_call G_sent_on (hr.mono (by decide)) (by rfl) T.g_sent_on T.F_sent_on.kp T.b_sent_on .nil pass0 (pa_cons (pv 0) (pa_cons (pv 1) (pa_cons pe_str pa_nil)))) pa_nil))))))))), ?_⟩)
  · obtain ⟨p, q, rfl, _⟩ := h
    rfl
  · rintro C ds Pq hE hX ⟨p, q, rfl, hw, hz, qq⟩
    have hpb : (!decide (V.bl p.t = V.bl q.t)) = Fm.pt p q := ne_bl _ _
    have hws : ∀ a, (Fm.sentOn p q a).length ≤ 10000 := fun a => by unfold Fm.sentOn; rw [List.length_map, List.length_range]; exact hz a
    have hz1 := hz true
    have hz2 := hz false
    walk_at "dgo"
    rw [hpb]
    refine iteC2 (fun ht => ?_) (fun ht => ?_)
    · have es : q.s - p.s = Fm.ps p q := by unfold Fm.ps; rw [if_pos ht]
      walk_at "dgo"
      rw [es]
      refine ⟨p, q, true, rfl, hw, hz1, ?_⟩
      walk_at "dgo"
      refine ⟨p, q, false, rfl, hw, hz2, ?_⟩
      walk_at "dgo"
      refine ⟨_, _, true, true, _, _, rfl, hws _, hws _, ?_⟩
      exact qq
    · have es : q.s + p.s = Fm.ps p q := by unfold Fm.ps; rw [if_neg (by rw [ht]; decide)]
      walk_at "dgo"
      rw [es]
      refine ⟨p, q, true, rfl, hw, hz1, ?_⟩
      walk_at "dgo"
      refine ⟨p, q, false, rfl, hw, hz2, ?_⟩
      walk_at "dgo"
      refine ⟨_, _, true, true, _, _, rfl, hws _, hws _, ?_⟩
      exact qq
abbrev S_width (T : Txt K mg w) : Sd := fun _ ds Pq => ∃ (t : Bool) (s : Int) (b c : Bool) (l m : List Fm.En) (n : Nat), ds = [.tup [.bl t, .int s, tabD b l, tabD c m], .int n] ∧ Pq (if n < max l.length m.length then .er ⟨T.a_TooWide, "limit", "TooWide", .int n⟩ else .ok .non)
theorem ok_check_width (T : Txt K mg w) : FnOk P w K mg base (L2.CX P w) 4 T.a_check_width T.d_check_width P_check_width (spD K (S_width T)) := by
  have G_TooWide := ok_TooWide (P := P) (w := w) (base := base) T
  refine okDX T.F_check_width sc_check_width (fun bs ds Pq h => ?_) (fun cdv A outer s H E hr => ⟨_, (pss_one (ps_if (pt_cmpR op_gt (pe_callB k_max2 (by rfl) T.m_max boot_max (pa_cons (pe_callB (k_len (K := K)) (by rfl) T.m_len boot_len (pa_cons (pe_ix (k_ixT (K := K)) (pv 0) pe_int (fun _ _ => rfl)) pa_nil)) (pa_cons (pe_callB (k_len (K := K)) (by rfl) T.m_len boot_len (pa_cons (pe_ix (k_ixT (K := K)) (pv 0) pe_int (fun _ _ => rfl)) pa_nil)) pa_nil))) (pv 1) (nomark _))
  (pss_one (ps_raise rfl (takes_of rfl rfl rfl rfl) (pmk_oex T.x_TooWide.o T.i_TooWide T.ti_TooWide G_TooWide (hr.mono (by decide)) T.b_TooWide .nil pass0 (by rfl) T.g_TooWide (pa_cons (pv 1) pa_nil)))) pss_nil)), ?_⟩)
  · obtain ⟨t, s, b, c, l, m, n, rfl, _⟩ := h
    rfl
  · rintro C ds Pq hE hX ⟨t, s, b, c, l, m, n, rfl, q⟩
    have hE' := hE.symm
    have e1 := enL_len l
    have e2 := enL_len m
    cases b <;> cases c <;> walk_at "dgo"
    all_goals
      refine iteD (fun a => ?_) (fun a => ?_)
      · rw [if_pos (by omega)] at q
        walk_at "dgo"
        refine run_raise hE ?_
        walk_at "dgo"
        exact hX _ q
      · rw [if_neg (by omega)] at q
        walk_at "dgo"
        exact q
end
theorem unr_wk {K : PySem.W.Frag} {C : Cz} {ρ ρ0 : List Sl} {g : TG} {tb : TS} {P : Out → Prop} {d : D} {r : List D} (w : Wk ρ ρ0) (h : Unr K C g tb P (d :: r) ρ0) : Unr K C g tb P (d :: r) ρ := fun hv hd => evx_wk w (h hv hd)
theorem entry_tab {p : Fm.Pt} {a : Bool} {l : List Fm.En} (hl : Fm.tabL p a = l) {i : Nat} {e : Fm.En} (he : l[i]? = some e) : Fm.entry p a i = e := by
  unfold Fm.entry Fm.rd
  rw [hl, he]
  rfl
/-! ### forms made, by data -/
theorem fnR_of0 {P : Program} {w : World} {K : PySem.W.Frag} {mg : Str → Option Value} {base : Heap} {CX : CXT} {k : Nat} {f : Addr} {fd : FuncData} {ps : List Str} {sp : Sp} (F : FnOk P w K mg base CX k f fd ps sp) (hb : Binds K fd ps []) : FnR P w K mg base CX k f sp :=
  (F.raw (dvs := []) hb .nil).imp fun vs H Q E h => by rw [List.append_nil]; exact h
theorem ens_eqv : ∀ l m : List Fm.En, PyData.eqvAll (pys (enL l)) (pys (enL m)) = decide (l = m)
  | [], [] => by simp [enL, pys, PyData.eqvAll]
  | [], _ :: _ => by simp [enL, pys, PyData.eqvAll]
  | _ :: _, [] => by simp [enL, pys, PyData.eqvAll]
  | e :: l, f :: m => by
    show (PyData.eqv (enD e).py (enD f).py && PyData.eqvAll (pys (enL l)) (pys (enL m))) = _
    rw [en_eqv, ens_eqv l m]
    by_cases h1 : e = f <;> by_cases h2 : l = m <;> simp [h1, h2]
theorem pt_eqv (p q : Fm.Pt) : PyData.eqv (ptD p).py (ptD q).py = decide (p = q) := by
  show ((p.t == q.t) && ((p.s == q.s) && (PyData.eqvAll (pys (enL p.top)) (pys (enL q.top)) && (PyData.eqvAll (pys (enL p.bot)) (pys (enL q.bot)) && true)))) = _
  rw [ens_eqv, ens_eqv]
  obtain ⟨t, s, l, m⟩ := p
  obtain ⟨t', s', l', m'⟩ := q
  dsimp only
  rw [Bool.eq_iff_iff]
  simp only [Bool.and_eq_true, beq_iff_eq, decide_eq_true_eq, and_true, Fm.Pt.mk.injEq]
theorem fineN_ens (l : List Fm.En) : fineN 2 (.tup (enL l)) := fineN_tup fun d hd => by
  obtain ⟨e, _, rfl⟩ := List.mem_map.mp hd
  exact fineN_en e
theorem fineN_pt (p : Fm.Pt) : fineN 3 (ptD p) := fineN_tup fun x m => by
  rcases List.mem_cons.mp m with rfl | m
  · exact fineN_bl _ _
  rcases List.mem_cons.mp m with rfl | m
  · exact fineN_int _ _
  rcases List.mem_cons.mp m with rfl | m
  · exact fineN_ens _
  · rw [List.mem_singleton.mp m]; exact fineN_ens _
@[reducible] def formD (C : Addr) (p : Fm.Pt) : D := .ins C [("parts", ptD p)]
def wideB (p : Fm.Pt) : Prop := 400 < max p.top.length p.bot.length
section
variable {P : Program} {w : World} {K : PySem.W.Frag} {mg : Str → Option Value} {base : Heap}
abbrev S_form (T : Txt K mg w) : Sd := fun _ ds Pq => ∃ (t : Bool) (s : Int) (b c : Bool) (l m : List Fm.En), ds = [.bl t, .int s, tabD b l, tabD c m] ∧ l.length + m.length ≤ 10000 ∧ Fm.Valid ⟨t, s, l, m⟩ ∧
  Pq (if 400 < max l.length m.length then .er ⟨T.a_TooWide, "limit", "TooWide", .int 400⟩ else .ok (formD T.a_Form (Fm.normal t s l m)))
theorem ok_Form___init__ (T : Txt K mg w) : FnOk P w K mg base (L2.CX P w) 5 T.a_Form___init__ T.d_Form___init__ P_Form___init__ (spM K T.a_Form (S_form T)) := by
  have G_check_width := ok_check_width (P := P) (w := w) (base := base) T
  have G_is_form := ok_is_form (P := P) (w := w) (base := base) T
  have G_normal := ok_normal (P := P) (w := w) (base := base) T
  have c1 := T.cls_Form
  have n1 := T.no_Form_parts
  refine okMX T.F_Form___init__ sc_Form___init__ (fun bs ds Pq h => ?_) (fun cdv A outer s H E hr => ⟨_, (pss_cons (ps_set (i := 5) sc_Form___init__.nd rfl (Or.inl rfl) (pe_tup (pa_cons (pv 1) (pa_cons (pv 2) (pa_cons (pv 3) (pa_cons (pv 4) pa_nil))))))
  (pss_cons (ps_expr (pe_call G_check_width (hr.mono (by decide)) (by rfl) T.g_check_width T.F_check_width.kp T.b_check_width .nil (passes_call (takes_of rfl rfl rfl rfl) fun _ _ _ _ h => h) (pa_cons (pv 5) (pa_cons (k_cval (K := K) rfl T.g_Form T.r_Form T.v_Form_WIDEST) pa_nil))))
  (pss_cons (ps_if (pt_not (pt_val (pe_call G_is_form (hr.mono (by decide)) (by rfl) T.g_is_form T.F_is_form.kp T.b_is_form .nil pass0 (pa_cons (pv 5) pa_nil))))
  (pss_one ps_never) pss_nil)
  (pss_one (k_sfld (K := K) (pv 0) (pe_call G_normal (hr.mono (by decide)) (by rfl) T.g_normal T.F_normal.kp T.b_normal .nil pass0 (pa_cons (pv 1) (pa_cons (pv 2) (pa_cons (pv 3) (pa_cons (pv 4) pa_nil)))))))))), ?_⟩)
  · obtain ⟨t, s, b, c, l, m, rfl, _⟩ := h
    rfl
  · rintro C ds Pq x dx hE hX ⟨t, s, b, c, l, m, rfl, hlen, hv, q⟩
    have hE' := hE.symm
    by_cases hw : 400 < max l.length m.length
    · rw [if_pos hw] at q
      walk_at "dgo"
      refine ⟨t, s, b, c, l, m, 400, rfl, ?_⟩
      rw [if_pos hw]
      exact hX _ q
    · rw [if_neg hw] at q
      walk_at "dgo"
      refine ⟨t, s, b, c, l, m, 400, rfl, ?_⟩
      rw [if_neg hw]
      walk_at "dgo"
      refine ⟨t, s, b, c, l, m, rfl, hlen, hv, ?_⟩
      walk_at "dgo"
      refine ⟨t, s, b, c, l, m, rfl, by omega, by omega, ?_⟩
      walk_at "dgo"
      exact q
def Fit400 (p : Fm.Pt) : Prop := p.top.length ≤ 400 ∧ p.bot.length ≤ 400
theorem Fit400.tab {p : Fm.Pt} (h : Fit400 p) (a : Bool) : (Fm.tabL p a).length ≤ 400 := by
  cases a
  · exact h.2
  · exact h.1
/-- the form of these parts, or what is raised -/
@[reducible] def wide (T : Txt K mg w) (p : Fm.Pt) : Rs := if 400 < max p.top.length p.bot.length then .er ⟨T.a_TooWide, "limit", "TooWide", .int 400⟩ else .ok (formD T.a_Form p)
end
/-! ### what a form tells, by data -/
section
variable {P : Program} {w : World} {K : PySem.W.Frag} {mg : Str → Option Value} {base : Heap}
abbrev S_fturned (T : Txt K mg w) : Sd := fun _ ds Pq => ∃ p, ds = [formD T.a_Form p] ∧ Pq (.ok (.bl p.t))
theorem ok_Form_turned (T : Txt K mg w) : FnOk P w K mg base CX0 1 T.a_Form_turned T.d_Form_turned P_Form_turned (spD K (S_fturned T)) := by
  refine okD T.F_Form_turned sc_Form_turned (fun bs ds Pq h => ?_) (fun cdv A outer s H E hr => ⟨_, (pss_one (ps_ret (pe_ix (k_ixT (K := K)) (k_fld (K := K) T.cls_Form T.no_Form_parts (pv 0)) pe_int (fun _ _ => rfl)))), ?_⟩)
  · obtain ⟨p, rfl, _⟩ := h
    rfl
  · rintro C ds Pq hE hX ⟨p, rfl, h⟩
    walk_at "dgo"
    exact h
abbrev S_fshift (T : Txt K mg w) : Sd := fun _ ds Pq => ∃ p, ds = [formD T.a_Form p] ∧ Pq (.ok (.int p.s))
theorem ok_Form_shift (T : Txt K mg w) : FnOk P w K mg base CX0 1 T.a_Form_shift T.d_Form_shift P_Form_shift (spD K (S_fshift T)) := by
  refine okD T.F_Form_shift sc_Form_shift (fun bs ds Pq h => ?_) (fun cdv A outer s H E hr => ⟨_, (pss_one (ps_ret (pe_ix (k_ixT (K := K)) (k_fld (K := K) T.cls_Form T.no_Form_parts (pv 0)) pe_int (fun _ _ => rfl)))), ?_⟩)
  · obtain ⟨p, rfl, _⟩ := h
    rfl
  · rintro C ds Pq hE hX ⟨p, rfl, h⟩
    walk_at "dgo"
    exact h
def least (p : Fm.Pt) : Nat := p.top.length + p.bot.length
abbrev S_fleast (T : Txt K mg w) : Sd := fun _ ds Pq => ∃ p, ds = [formD T.a_Form p] ∧ Pq (.ok (.int (least p)))
theorem ok_Form_least (T : Txt K mg w) : FnOk P w K mg base CX0 1 T.a_Form_least T.d_Form_least P_Form_least (spD K (S_fleast T)) := by
  refine okD T.F_Form_least sc_Form_least (fun bs ds Pq h => ?_) (fun cdv A outer s H E hr => ⟨_, (pss_one (ps_ret (pe_op op_add (pe_callB (k_len (K := K)) (by rfl) T.m_len boot_len (pa_cons (pe_ix (k_ixT (K := K)) (k_fld (K := K) T.cls_Form T.no_Form_parts (pv 0)) pe_int (fun _ _ => rfl)) pa_nil)) (pe_callB (k_len (K := K)) (by rfl) T.m_len boot_len (pa_cons (pe_ix (k_ixT (K := K)) (k_fld (K := K) T.cls_Form T.no_Form_parts (pv 0)) pe_int (fun _ _ => rfl)) pa_nil))))), ?_⟩)
  · obtain ⟨p, rfl, _⟩ := h
    rfl
  · rintro C ds Pq hE hX ⟨p, rfl, h⟩
    have e : ((enL p.top).length : Int) + ((enL p.bot).length : Int) = (least p : Int) := by
      rw [enL_len, enL_len]
      unfold least
      omega
    walk_at "dgo"
    show Pq (.ok (.int (((enL p.top).length : Int) + ((enL p.bot).length : Int))))
    rw [e]
    exact h
abbrev S_ftop (T : Txt K mg w) : Sn := fun _ ds Pq => ∃ p, ds = [formD T.a_Form p] ∧ Pq (enL p.top)
theorem ok_Form_top (T : Txt K mg w) : FnOk P w K mg base CX0 1 T.a_Form_top T.d_Form_top P_Form_top (spN K (S_ftop T)) := by
  refine okN T.F_Form_top sc_Form_top (fun bs ds Pq h => ?_) (fun cdv A outer s H E hr => ⟨_, (pss_one (ps_ret (pe_callTy (k_list (K := K)) (by rfl) T.m_list boot_list (pa_cons (pe_ix (k_ixT (K := K)) (k_fld (K := K) T.cls_Form T.no_Form_parts (pv 0)) pe_int (fun _ _ => rfl)) pa_nil)))), ?_⟩)
  · obtain ⟨p, rfl, _⟩ := h
    rfl
  · rintro C ds Pq hE ⟨p, rfl, h⟩
    refine evf_cb ?_
    walk_at "dgo"
    exact h
abbrev S_fbottom (T : Txt K mg w) : Sn := fun _ ds Pq => ∃ p, ds = [formD T.a_Form p] ∧ Pq (enL p.bot)
theorem ok_Form_bottom (T : Txt K mg w) : FnOk P w K mg base CX0 1 T.a_Form_bottom T.d_Form_bottom P_Form_bottom (spN K (S_fbottom T)) := by
  refine okN T.F_Form_bottom sc_Form_bottom (fun bs ds Pq h => ?_) (fun cdv A outer s H E hr => ⟨_, (pss_one (ps_ret (pe_callTy (k_list (K := K)) (by rfl) T.m_list boot_list (pa_cons (pe_ix (k_ixT (K := K)) (k_fld (K := K) T.cls_Form T.no_Form_parts (pv 0)) pe_int (fun _ _ => rfl)) pa_nil)))), ?_⟩)
  · obtain ⟨p, rfl, _⟩ := h
    rfl
  · rintro C ds Pq hE ⟨p, rfl, h⟩
    refine evf_cb ?_
    walk_at "dgo"
    exact h
end
/-! ### end places are fine -/
theorem fine_ep (a : Bool) (i : Int) : fine (.tup [.str (eS a), .int i]) := (fineN_tup (n := 0) fun d m => by
  rcases List.mem_cons.mp m with rfl | m
  · exact fineN_str 0 (by cases a <;> decide +kernel)
  · rw [List.mem_singleton.mp m]; exact fineN_int _ i).fine
theorem isEP_ep (a : Bool) (i : Nat) : isEP (.tup [.str (eS a), .int (i : Int)]) = true := by
  show (isEnd (.str (eS a)) && decide (0 ≤ (i : Int))) = true
  rw [decide_eq_true (Int.natCast_nonneg i), Bool.and_true]
  cases a <;> decide
/-! ### images of places, by data -/
@[reducible] def imD (r : Int × Bool) : D := .tup [.int r.1, .bl r.2]
section
variable {P : Program} {w : World} {K : PySem.W.Frag} {mg : Str → Option Value} {base : Heap}
abbrev S_pimg : Sd := fun _ ds Pq => ∃ (p : Fm.Pt) (n x : Int), ds = [ptD p, .int n, .int x] ∧ 0 ≤ x ∧ x < n ∧ Pq (.ok (imD (Fm.img p n x)))
theorem ok_place_image (T : Txt K mg w) : FnOk P w K mg base CX0 3 T.a_place_image T.d_place_image P_place_image (spD K S_pimg) := by
  have G_entry_at := ok_entry_at (P := P) (w := w) (base := base) T
  refine okD T.F_place_image sc_place_image (fun bs ds Pq h => ?_) (fun cdv A outer s H E hr => ⟨_, (pss_cons (ps_set (i := 3) sc_place_image.nd rfl (Or.inl rfl) (pe_op op_sub (pe_op op_sub (pv 1) pe_int) (pv 2)))
  (pss_cons (ps_if (pt_cmpR op_lt (pv 3) (pe_callB (k_len (K := K)) (by rfl) T.m_len boot_len (pa_cons (pe_ix (k_ixT (K := K)) (pv 0) pe_int (fun _ _ => rfl)) pa_nil)) (nomark _))
  (pss_one (ps_asg (pe_ix (k_ixT (K := K)) (pe_ix (k_ixT (K := K)) (pv 0) pe_int (fun _ _ => rfl)) (pv 3) (fun _ _ => rfl)) (k_gT (K := K) (n := 3) (pgs_cons (pg_name (i := 4) sc_place_image.nd rfl (Or.inl rfl)) (pgs_cons (pg_name (i := 5) sc_place_image.nd rfl (Or.inl rfl)) (pgs_cons (pg_name (i := 6) sc_place_image.nd rfl (Or.inl rfl)) pgs_nil)))))) (pss_one (ps_asg (pe_call G_entry_at (hr.mono (by decide)) (by rfl) T.g_entry_at T.F_entry_at.kp T.b_entry_at .nil pass0 (pa_cons (pv 0) (pa_cons pe_str (pa_cons (pv 2) pa_nil)))) (k_gT (K := K) (n := 3) (pgs_cons (pg_name (i := 4) sc_place_image.nd rfl (Or.inl rfl)) (pgs_cons (pg_name (i := 5) sc_place_image.nd rfl (Or.inl rfl)) (pgs_cons (pg_name (i := 6) sc_place_image.nd rfl (Or.inl rfl)) pgs_nil)))))))
  (pss_one (ps_ret (pe_tup (pa_cons (pe_ifExp (pt_cmpR op_eq (pv 4) pe_str (nomark _)) (pv 5) (pe_op op_sub (pe_op op_sub (pv 1) pe_int) (pv 5))) (pa_cons (pv 6) pa_nil))))))), ?_⟩)
  · obtain ⟨p, n, x, rfl, _⟩ := h
    rfl
  · rintro C ds Pq hE hX ⟨p, n, x, rfl, h0, h1, q⟩
    have fin : ∀ e : Fm.En, Fm.side p n x = e → Pq (.ok (imD (Fm.imgE n e))) := fun e he => by
      unfold Fm.img at q
      rw [he] at q
      exact q
    walk_at "dgo"
    refine iteD (fun h => ?_) (fun h => ?_)
    · have hb : n - 1 - x < (p.bot.length : Int) := by rw [← enL_len]; exact h
      obtain ⟨e, he⟩ : ∃ e, p.bot[(n - 1 - x).toNat]? = some e := ⟨_, List.getElem?_eq_getElem (by omega)⟩
      have hs : Fm.side p n x = e := by
        unfold Fm.side
        rw [if_pos hb]
        exact entry_tab (p := p) (a := false) rfl he
      have hat : atI (enL p.bot) (n - 1 - x) = some (enD e) := by
        have hg : (enL p.bot)[(n - 1 - x).toNat]? = some (enD e) := by unfold enL; rw [List.getElem?_map, he]; rfl
        have h := atI_nat hg
        rwa [Int.toNat_of_nonneg (by omega)] at h
      walk_at "dgo"
      refine ⟨_, hat, ?_⟩
      walk_at "dgo"
      have q2 := fin e hs
      unfold Fm.imgE at q2
      rw [eS_top]
      refine iteC2 (fun ha => ?_) (fun ha => ?_)
      · rw [if_pos ha] at q2
        walk_at "dgo"
        exact q2
      · rw [if_neg (by rw [ha]; decide)] at q2
        walk_at "dgo"
        exact q2
    · have hb : ¬ n - 1 - x < (p.bot.length : Int) := by rw [← enL_len]; exact h
      have hs : Fm.side p n x = Fm.entry p true x.toNat := by
        unfold Fm.side
        rw [if_neg hb]
      obtain ⟨k, rfl⟩ := Int.eq_ofNat_of_zero_le h0
      rw [Int.toNat_natCast] at hs
      walk_at "dgo"
      refine ⟨p, true, k, rfl, ?_⟩
      have q2 := fin _ hs
      unfold Fm.imgE at q2
      walk_at "dgo"
      rw [eS_top]
      refine iteC2 (fun ha => ?_) (fun ha => ?_)
      · rw [if_pos ha] at q2
        walk_at "dgo"
        exact q2
      · rw [if_neg (by rw [ha]; decide)] at q2
        walk_at "dgo"
        exact q2
abbrev S_ckls (T : Txt K mg w) : Sd := fun _ ds Pq => ∃ n : Int, ds = [.int n] ∧ Pq (if 1000 < n then .er ⟨T.a_TooGreat, "limit", "TooGreat", .int 1000⟩ else .ok .non)
theorem ok_check_listed (T : Txt K mg w) : FnOk P w K mg base (L2.CX P w) 4 T.a_check_listed T.d_check_listed P_check_listed (spD K (S_ckls T)) := by
  have G_TooGreat := ok_TooGreat (P := P) (w := w) (base := base) T
  refine okDX T.F_check_listed sc_check_listed (fun bs ds Pq h => ?_) (fun cdv A outer s H E hr => ⟨_, (pss_one (ps_if (pt_cmpR op_gt (pv 0) (pe_glob (v := .int 1000) rfl T.c_MOST_LISTED ⟨_, rfl⟩) (nomark _))
  (pss_one (ps_raise rfl (takes_of rfl rfl rfl rfl) (pmk_oex T.x_TooGreat.o T.i_TooGreat T.ti_TooGreat G_TooGreat (hr.mono (by decide)) T.b_TooGreat .nil pass0 (by rfl) T.g_TooGreat (pa_cons (pe_glob (v := .int 1000) rfl T.c_MOST_LISTED ⟨_, rfl⟩) pa_nil)))) pss_nil)), ?_⟩)
  · obtain ⟨d, rfl, _⟩ := h
    rfl
  · rintro C ds Pq hE hX ⟨n, rfl, q⟩
    have hE' := hE.symm
    walk_at "dgo"
    refine iteD (fun a => ?_) (fun a => ?_)
    · rw [if_pos a] at q
      walk_at "dgo"
      refine run_raise hE ?_
      walk_at "dgo"
      exact hX _ q
    · rw [if_neg a] at q
      walk_at "dgo"
      exact q
abbrev S_fleastck (T : Txt K mg w) : Sd := fun _ ds Pq => ∃ p n, ds = [formD T.a_Form p, .int n] ∧ Pq (if badSize n then .er ⟨T.a_BadSize, "size", "BadSize", .int n⟩ else if n < least p then .er ⟨T.a_TooSmall, "limit", "TooSmall", .int (least p)⟩ else .ok .non)
theorem ok_Form_check_least (T : Txt K mg w) : FnOk P w K mg base (L2.CX P w) 6 T.a_Form_check_least T.d_Form_check_least P_Form_check_least (spD K (S_fleastck T)) := by
  have G_TooSmall := ok_TooSmall (P := P) (w := w) (base := base) T
  have G_check_size := ok_check_size (P := P) (w := w) (base := base) T
  have G_Form_least := ok_Form_least (P := P) (w := w) (base := base) T
  refine okDX T.F_Form_check_least sc_Form_check_least (fun bs ds Pq h => ?_) (fun cdv A outer s H E hr => ⟨_, (pss_cons (ps_expr (pe_call G_check_size (hr.mono (by decide)) (by rfl) T.g_check_size T.F_check_size.kp T.b_check_size .nil (passes_call (takes_of rfl rfl rfl rfl) fun _ _ _ _ h => h) (pa_cons (pv 1) pa_nil)))
  (pss_one (ps_if (pt_cmpR op_lt (pv 1) (pe_prop (pv 0) T.cls_Form T.P_Form_least G_Form_least (hr.mono (by decide)) T.b_Form_least .nil pass0 rfl) (nomark _))
  (pss_one (ps_raise rfl (takes_of rfl rfl rfl rfl) (pmk_oex T.x_TooSmall.o T.i_TooSmall T.ti_TooSmall G_TooSmall (hr.mono (by decide)) T.b_TooSmall .nil pass0 (by rfl) T.g_TooSmall (pa_cons (pe_prop (pv 0) T.cls_Form T.P_Form_least G_Form_least (hr.mono (by decide)) T.b_Form_least .nil pass0 rfl) pa_nil)))) pss_nil))), ?_⟩)
  · obtain ⟨p, n, rfl, _⟩ := h
    rfl
  · rintro C ds Pq hE hX ⟨p, n, rfl, q⟩
    have hE' := hE.symm
    walk_at "dgo"
    by_cases h1 : badSize n
    · rw [if_pos h1] at q ⊢
      exact hX _ q
    rw [if_neg h1] at q ⊢
    walk_at "dgo"
    refine iteD (fun a => ?_) (fun a => ?_)
    · rw [if_pos a] at q
      walk_at "dgo"
      refine run_raise hE ?_
      walk_at "dgo"
      exact hX _ q
    · rw [if_neg a] at q
      walk_at "dgo"
      exact q
abbrev S_fimage (T : Txt K mg w) : Sd := fun _ ds Pq => ∃ p n x, ds = [formD T.a_Form p, .int n, .int x] ∧ Pq (if badSize n then .er ⟨T.a_BadSize, "size", "BadSize", .int n⟩ else if n < least p then .er ⟨T.a_TooSmall, "limit", "TooSmall", .int (least p)⟩ else if x < 0 ∨ n ≤ x then .er ⟨T.a_NoPlace, "place", "NoPlace", .int x⟩ else .ok (imD (Fm.img p n x)))
theorem ok_Form_image (T : Txt K mg w) : FnOk P w K mg base (L2.CX P w) 7 T.a_Form_image T.d_Form_image P_Form_image (spD K (S_fimage T)) := by
  have G_Form_check_least := ok_Form_check_least (P := P) (w := w) (base := base) T
  have G_check_place := ok_check_place (P := P) (w := w) (base := base) T
  have G_place_image := ok_place_image (P := P) (w := w) (base := base) T
  refine okDX T.F_Form_image sc_Form_image (fun bs ds Pq h => ?_) (fun cdv A outer s H E hr => ⟨_, (pss_cons (ps_expr (pe_meth (pv 0) T.cls_Form T.M_Form_check_least G_Form_check_least (hr.mono (by decide)) T.b_Form_check_least .nil (passes_call (takes_of rfl rfl rfl rfl) fun _ _ _ _ h => h) (pa_cons (pv 1) pa_nil)))
  (pss_cons (ps_expr (pe_call G_check_place (hr.mono (by decide)) (by rfl) T.g_check_place T.F_check_place.kp T.b_check_place .nil (passes_call (takes_of rfl rfl rfl rfl) fun _ _ _ _ h => h) (pa_cons (pv 2) (pa_cons (pv 1) pa_nil))))
  (pss_one (ps_ret (pe_call G_place_image (hr.mono (by decide)) (by rfl) T.g_place_image T.F_place_image.kp T.b_place_image .nil pass0 (pa_cons (k_fld (K := K) T.cls_Form T.no_Form_parts (pv 0)) (pa_cons (pv 1) (pa_cons (pv 2) pa_nil)))))))), ?_⟩)
  · obtain ⟨p, n, x, rfl, _⟩ := h
    rfl
  · rintro C ds Pq hE hX ⟨p, n, x, rfl, q⟩
    have hE' := hE.symm
    walk_at "dgo"
    by_cases h1 : badSize n
    · rw [if_pos h1] at q ⊢
      exact hX _ q
    rw [if_neg h1] at q ⊢
    by_cases h2 : n < least p
    · rw [if_pos h2] at q ⊢
      exact hX _ q
    rw [if_neg h2] at q ⊢
    walk_at "dgo"
    by_cases h3 : x < 0 ∨ n ≤ x
    · rw [if_pos h3] at q ⊢
      exact hX _ q
    rw [if_neg h3] at q ⊢
    have x0 : 0 ≤ x := Int.not_lt.mp fun z => h3 (.inl z)
    have x1 : x < n := Int.not_le.mp fun z => h3 (.inr z)
    walk_at "dgo"
    exact q
def imgL (p : Fm.Pt) (n : Nat) : List (Int × Bool) := (List.range n).map fun (x : Nat) => Fm.img p n x
abbrev S_flisted (T : Txt K mg w) : Sd := fun _ ds Pq => ∃ p n, ds = [formD T.a_Form p, .int n] ∧ Pq (if badSize n then .er ⟨T.a_BadSize, "size", "BadSize", .int n⟩ else if n < least p then .er ⟨T.a_TooSmall, "limit", "TooSmall", .int (least p)⟩ else if 1000 < n then .er ⟨T.a_TooGreat, "limit", "TooGreat", .int 1000⟩ else .ok (.lst ((imgL p n.toNat).map imD)))
theorem ok_Form_listed (T : Txt K mg w) : FnOk P w K mg base (L2.CX P w) 7 T.a_Form_listed T.d_Form_listed P_Form_listed (spD K (S_flisted T)) := by
  have G_Form_check_least := ok_Form_check_least (P := P) (w := w) (base := base) T
  have G_check_listed := ok_check_listed (P := P) (w := w) (base := base) T
  have G_place_image := ok_place_image (P := P) (w := w) (base := base) T
  refine okDX T.F_Form_listed sc_Form_listed (fun bs ds Pq h => ?_) (fun cdv A outer s H E hr => ⟨_, (pss_cons (ps_expr (pe_meth (pv 0) T.cls_Form T.M_Form_check_least G_Form_check_least (hr.mono (by decide)) T.b_Form_check_least .nil (passes_call (takes_of rfl rfl rfl rfl) fun _ _ _ _ h => h) (pa_cons (pv 1) pa_nil)))
  (pss_cons (ps_expr (pe_call G_check_listed (hr.mono (by decide)) (by rfl) T.g_check_listed T.F_check_listed.kp T.b_check_listed .nil (passes_call (takes_of rfl rfl rfl rfl) fun _ _ _ _ h => h) (pa_cons (pv 1) pa_nil)))
  (pss_one (ps_ret (pe_lc (own := [("place", 2)]) rfl sc_Form_listed.nd (pi_range1 rfl T.m_range (pa_cons (pv 1) pa_nil)) (blkOk_by (N := N_Form_listed) (sc := defScope s_Form_listed) (by decide +kernel)) (fun _ _ _ _ _ => (pg_name (i := 2) sc_Form_listed.nd rfl (Or.inl rfl))) (fun _ _ _ _ _ => pts_nil) (fun _ _ _ _ _ => (pe_call G_place_image (hr.mono (by decide)) (by rfl) T.g_place_image T.F_place_image.kp T.b_place_image .nil pass0 (pa_cons (k_fld (K := K) T.cls_Form T.no_Form_parts (pv 0)) (pa_cons (pv 1) (pa_cons (pv 2) pa_nil)))))))))), ?_⟩)
  · obtain ⟨p, n, rfl, _⟩ := h
    rfl
  · rintro C ds Pq hE hX ⟨p, n, rfl, q⟩
    have hE' := hE.symm
    walk_at "dgo"
    by_cases h1 : badSize n
    · rw [if_pos h1] at q ⊢
      exact hX _ q
    rw [if_neg h1] at q ⊢
    by_cases h2 : n < least p
    · rw [if_pos h2] at q ⊢
      exact hX _ q
    rw [if_neg h2] at q ⊢
    walk_at "dgo"
    by_cases h3 : 1000 < n
    · rw [if_pos h3] at q ⊢
      exact hX _ q
    rw [if_neg h3] at q ⊢
    have n0 : 0 ≤ n := Int.not_lt.mp fun z => h1 (.inl z)
    obtain ⟨k, rfl⟩ := Int.eq_ofNat_of_zero_le n0
    walk_at "dgo"
    refine ev_lcx (fun _ => (imgL p k).map imD) (by rfl) ?_
    walk_at "dgo"
    rw [Int.toNat_natCast] at q ⊢
    refine ⟨⟨by rw [rng_len]; omega, by rw [rng_len]; unfold imgL; simp⟩, fun C' e1 e2 e3 i d hi => ?_, ?_⟩
    · obtain ⟨hi2, rfl⟩ := rng_get hi
      walk_at "dgo"
      unfold imgL
      rw [List.getElem?_map, List.getElem?_map, List.getElem?_range hi2]
      rfl
    · exact q
end
end Z
namespace Z
open PySem PySem.Spec PyProof.Rows L2
-- what stands at an address
local macro_rules | `(tactic| walk_at "hp") => `(tactic| first | assumption | exact upd_same | exact BagAt.at_ (by assumption) | exact BagAt.cells (by assumption) | fail "hp")
local macro_rules | `(tactic| walk_at "sq") => `(tactic| first | assumption | (refine Or.inl (Or.inl ?_); walk_at "hp") | (apply Same.seq <;> assumption))
-- bounds
local macro_rules | `(tactic| walk_at "num") => `(tactic| first
  | exact rfl | decide | exact le_line (Nat.le_of_ble_eq_true rfl) | exact lt_line (Nat.le_of_ble_eq_true rfl)
  | (exact mul_ok (small_abs (by omega)) (small_abs (by omega)))
  | (exact div_small (by omega) (by omega))
  | (exact div_ok (by omega) (by assumption))
  | (refine ⟨?_, ?_⟩ <;> omega) | omega
  | (show (_ : Int) ≠ 0; omega) | (show CPow _ _; unfold CPow; decide))
-- one step
local macro_rules | `(tactic| walk_at "rd") => `(tactic| first
  | (refine Exists.intro _ (And.intro rfl ?_))
  | (refine Exists.intro _ (Exists.intro _ (And.intro rfl (And.intro rfl ?_))))
  | (refine Or.inl (Exists.intro _ (And.intro rfl ?_)))
  | (refine Or.inr (Exists.intro _ (And.intro rfl ?_)))
  | (with_reducible refine iteF ?_) | (with_reducible refine iteT ?_)
  | (refine And.intro ?cc ?_; (case cc => walk_at "num"))
  | (refine' Exists.intro _ (Exists.intro _ (Exists.intro _ (Exists.intro _ (And.intro rfl (And.intro rfl (And.intro ?sq (And.intro ?ha ?k))))))); (case sq => walk_at "sq"); (case ha => first | exact rfl | assumption | exact at_zero))
  | (refine' Exists.intro _ (Exists.intro _ (And.intro rfl (And.intro (Or.inl ?sq) ?k))); (case sq => walk_at "sq")))
local macro_rules | `(tactic| walk_at "sqt") => `(tactic| first | assumption | (refine Or.inl (Or.inl ?_); walk_at "hp") | (apply Same.tup <;> assumption))
local macro_rules | `(tactic| walk_at "rdt") => `(tactic| first
  | walk_at "rd"
  | (refine' Exists.intro _ (Exists.intro _ (And.intro rfl (And.intro (Or.inr ?sq) ?k))); (case sq => walk_at "sqt"))
  | (refine' Exists.intro _ (Exists.intro _ (Exists.intro _ (Exists.intro _ (And.intro rfl (And.intro rfl (And.intro ?sq (And.intro ?ha ?k))))))); (case sq => walk_at "sqt"); (case ha => first | exact rfl | assumption | exact at_zero))
  | (refine iteF ?_) | (refine iteT ?_))
local macro_rules | `(tactic| walk_at "rds") => `(tactic| repeat walk_at "rdt")
local macro_rules | `(tactic| walk_at "pull") => `(tactic| (refine' Exists.intro _ (Exists.intro _ (Exists.intro _ (And.intro rfl (And.intro ?bag (And.intro ?pos (And.intro ?fit ?kk)))))); (case bag => assumption); (case pos => first | decide | omega); (case fit => exact Fit.of (by first | decide | omega) (by first | decide | omega))))
local macro_rules | `(tactic| walk_at "two") => `(tactic| refine Exists.intro _ (Exists.intro _ (And.intro rfl ?_)))
/-! ### steps by data -/
local macro_rules | `(tactic| walk_at "side") => `(tactic| first
  | exact rfl | assumption | exact Nat.le_of_ble_eq_true rfl | decide | exact True.intro | exact le_line (Nat.le_of_ble_eq_true rfl) | exact lt_line (Nat.le_of_ble_eq_true rfl) | omega | (show (_ : Int) ≠ 0; omega) | exact cut1_ok | (unfold CPow; decide) | exact mul_ok (small_abs (by omega)) (small_abs (by omega)) | exact div_small (by omega) (by omega))
local macro_rules | `(tactic| walk_at "dR") => `(tactic| first
  | with_reducible refine run_seq ?_ | with_reducible refine run_if ?_ | with_reducible refine run_set ?_ | with_reducible refine run_ret ?_ | with_reducible refine run_next ?_
  | with_reducible refine run_asg ?_ | with_reducible refine run_for ?_ | ((with_reducible refine' run_append ?ev ?kk); (case ev => exact rfl)) | ((with_reducible refine' run_aug ?ev ?kk); (case ev => exact rfl))
  | with_reducible refine run_par ?_ | with_reducible refine run_drop ?_ | with_reducible refine run_retN ?_ | with_reducible refine run_break ?_ | with_reducible refine run_cont ?_)
local macro_rules | `(tactic| walk_at "dE") => `(tactic| first
  | ((with_reducible refine' ev_var ?ev ?kk); (case ev => exact rfl))
  | with_reducible refine ev_op ?_ | with_reducible refine ev_int ?_ | with_reducible refine ev_str ?_ | with_reducible refine ev_callC (by assumption) ?_ | with_reducible refine ev_callX (by assumption) ?_ | with_reducible refine ev_call ?_ | with_reducible refine ev_cb ?_ | with_reducible refine ev_tup ?_
  | with_reducible refine ev_if ?_ | with_reducible refine ev_and ?_ | with_reducible refine ev_or ?_ | with_reducible refine ev_not ?_ | with_reducible refine ev_bl ?_ | with_reducible refine ev_non ?_ | with_reducible refine ev_isi ?_
  | with_reducible refine ev_un ?_ | with_reducible refine ev_chain ?_ | with_reducible refine ev_lst ?_ | with_reducible refine ev_cbf ?_ | with_reducible refine ev_sl ?_ | with_reducible refine ev_m1 ?_ | with_reducible refine ev_kget ?_ | with_reducible refine ev_fmt ?_ | with_reducible refine ev_join ?_ | with_reducible refine ev_ty ?_ | with_reducible refine ev_cV ?_)
local macro_rules | `(tactic| walk_at "dT") => `(tactic| first
  | with_reducible refine evt_t ?_ | with_reducible refine evt_b ?_ | with_reducible refine evt_and ?_ | with_reducible refine evt_or ?_ | with_reducible refine evt_not ?_ | with_reducible refine evt_yes ?_)
local macro_rules | `(tactic| walk_at "dX") => `(tactic| first
  | ((with_reducible refine' evx_name ?ev ?kk); (case ev => first | exact rfl | assumption)) | with_reducible refine evx_tup ?_ | with_reducible refine evx_lst ?_ | with_reducible refine evxs_cons ?_ | with_reducible refine evxs_nil ?_
  | ((with_reducible refine' evg_name ?ev ?mm ?kk); (case ev => first | exact rfl | assumption); (case mm => decide)) | with_reducible refine evg_tup ?_ | with_reducible refine evg_lst ?_ | with_reducible refine evgs_cons ?_ | with_reducible refine evgs_nil ?_
  | with_reducible refine evi_list ?_ | with_reducible refine evi_tup ?_ | with_reducible refine evi_rng1 ?_ | with_reducible refine evi_rng2 ?_ | with_reducible refine evi_enum ?_ | with_reducible refine evi_zip ?_
  | with_reducible refine evo_none ?_ | with_reducible refine evo_some ?_ | with_reducible refine evj_cons ?_ | with_reducible refine evj_nil ?_)
local macro_rules | `(tactic| walk_at "d1") => `(tactic| first
  | ((with_reducible change Ev _ _ _ _ _); walk_at "dE")
  | ((with_reducible change Run _ _ _ _ _); walk_at "dR")
  | with_reducible refine eva_cons ?_ | with_reducible refine eva_nil ?_
  | ((with_reducible change EvT _ _ _ _ _); walk_at "dT")
  | with_reducible refine eva_star ?_
  | with_reducible refine iteT ?_ | with_reducible refine iteF ?_
  | ((with_reducible change if (_ : Bool) = true then _ else _); first | refine iteT ?_ | refine iteF ?_)
  | ((with_reducible refine And.intro ?cc ?_); (case cc => walk_at "side"))
  | ((with_reducible refine' Exists.intro _ (And.intro ?cc ?kk)); (case cc => first | exact rfl | exact at_zero))
  | ((with_reducible refine' Exists.intro _ (Exists.intro _ (And.intro ?cc ?kk))); (case cc => exact rfl))
  | ((with_reducible refine' Exists.intro _ (Exists.intro _ (Exists.intro _ (And.intro ?cc (And.intro ?cd ?kk))))); (case cc => exact rfl); (case cd => exact rfl))
  | ((with_reducible refine' Exists.intro _ (Exists.intro _ (Exists.intro _ (And.intro ?cc ?kk)))); (case cc => exact rfl))
  | ((with_reducible refine' Exists.intro _ (Exists.intro _ (Exists.intro _ (Exists.intro _ (And.intro ?cc ?kk))))); (case cc => exact rfl))
  | walk_at "dX")
local macro_rules | `(tactic| walk_at "d2") => `(tactic| walk_at "d1")
local macro_rules | `(tactic| walk_at "dgo") => `(tactic| repeat walk_at "d1")
local macro_rules | `(tactic| walk_at "wk") => `(tactic| repeat first | exact True.intro | refine And.intro (Or.inl rfl) ?_ | refine And.intro (Or.inr (And.intro rfl rfl)) ?_)
local macro_rules | `(tactic| walk_at "isi") => `(tactic| (refine' Exists.intro _ (Exists.intro _ (Exists.intro _ (Exists.intro _ (Exists.intro _ (And.intro rfl (And.intro (ClsV.ty _) (And.intro ?tt (And.intro (kit_ty ?ee) ?kk)))))))); (case tt => assumption); (case ee => first | exact kb_int_list | exact kb_int_tuple | exact kb_int_dict | exact kb_int_bool | exact kb_int_int | exact kb_int_str | exact kb_str_list | exact kb_str_tuple | exact kb_str_dict | exact kb_str_bool | exact kb_str_int | exact kb_str_str | exact kb_bool_list | exact kb_bool_tuple | exact kb_bool_dict | exact kb_bool_bool | exact kb_bool_int | exact kb_bool_str | exact kb_NoneType_list | exact kb_NoneType_tuple | exact kb_NoneType_dict | exact kb_NoneType_bool | exact kb_NoneType_int | exact kb_NoneType_str | exact kb_list_list | exact kb_list_tuple | exact kb_list_dict | exact kb_list_bool | exact kb_list_int | exact kb_list_str | exact kb_tuple_list | exact kb_tuple_tuple | exact kb_tuple_dict | exact kb_tuple_bool | exact kb_tuple_int | exact kb_tuple_str)))
-- one step
local macro_rules | `(tactic| walk_at "same") => `(tactic| repeat first | walk_at "rdt" | walk_at "isi")
/-! ### steps by data -/
local macro_rules | `(tactic| walk_at "side") => `(tactic| first
  | exact rfl | with_reducible assumption | exact Nat.le_of_ble_eq_true rfl | decide | exact True.intro | exact le_line (Nat.le_of_ble_eq_true rfl) | exact lt_line (Nat.le_of_ble_eq_true rfl) | omega | (show (_ : Int) ≠ 0; omega) | exact cut1_ok | (unfold CPow; decide) | exact mul_ok (small_abs (by omega)) (small_abs (by omega)) | exact div_small (by omega) (by omega) | assumption)
local macro_rules | `(tactic| walk_at "dR") => `(tactic| first
  | with_reducible refine run_ownNil ?_ | with_reducible refine run_ownL ?_ | ((with_reducible refine' run_extend ?ev ?kk); (case ev => exact rfl))
  | ((with_reducible refine' run_fld ?c ?n ?e ?kk); (case c => assumption); (case n => assumption); (case e => exact rfl))
  | ((with_reducible refine' run_retO ?ev ?kk); (case ev => exact rfl)) | ((with_reducible refine' run_setix ?ev ?kk); (case ev => exact rfl)) | ((with_reducible refine' run_popAt ?ev ?kk); (case ev => exact rfl)) | ((with_reducible refine' run_insert ?ev ?kk); (case ev => exact rfl)) | with_reducible refine run_parL ?_ | with_reducible refine run_ownRep ?_
  | with_reducible refine run_seq ?_ | with_reducible refine run_if ?_ | with_reducible refine run_set ?_ | with_reducible refine run_ret ?_ | with_reducible refine run_next ?_
  | with_reducible refine run_asg ?_ | with_reducible refine run_for ?_ | ((with_reducible refine' run_append ?ev ?kk); (case ev => exact rfl)) | ((with_reducible refine' run_aug ?ev ?kk); (case ev => exact rfl))
  | with_reducible refine run_par ?_ | with_reducible refine run_drop ?_ | with_reducible refine run_retN ?_ | with_reducible refine run_break ?_ | with_reducible refine run_cont ?_)
local macro_rules | `(tactic| walk_at "dE") => `(tactic| first
  | ((with_reducible refine' ev_var ?ev ?kk); (case ev => exact rfl))
  | with_reducible refine ev_lenOwn ?_
  | ((with_reducible refine' ev_fldO ?ev ?dd ?kk); (case ev => exact rfl); (case dd => exact rfl)) | with_reducible refine ev_fld ?_ | with_reducible refine ev_methX (by assumption) ?_ | with_reducible refine ev_meth ?_ | with_reducible refine ev_prop ?_ | with_reducible refine ev_makeX (by assumption) ?_ | with_reducible refine ev_make ?_ | with_reducible refine ev_ownX (by assumption) ?_ | with_reducible refine ev_own ?_ | ((with_reducible refine' ev_isiOwn ?o ?kk); (case o => assumption))
  | ((with_reducible refine' ev_ixO ?ev ?kk); (case ev => exact rfl)) | with_reducible refine ev_rev ?_ | with_reducible refine ev_op ?_ | with_reducible refine ev_int ?_ | with_reducible refine ev_str ?_ | with_reducible refine ev_callKX (by assumption) ?_ | with_reducible refine ev_callK ?_ | with_reducible refine ev_callC (by assumption) ?_ | with_reducible refine ev_callX (by assumption) ?_ | with_reducible refine ev_call ?_ | with_reducible refine ev_cb ?_ | with_reducible refine ev_tup ?_
  | with_reducible refine ev_if ?_ | with_reducible refine ev_and ?_ | with_reducible refine ev_or ?_ | with_reducible refine ev_not ?_ | with_reducible refine ev_bl ?_ | with_reducible refine ev_non ?_ | with_reducible refine ev_isi ?_
  | with_reducible refine ev_un ?_ | with_reducible refine ev_chain ?_ | with_reducible refine ev_lst ?_ | with_reducible refine ev_cbf ?_ | with_reducible refine ev_sl ?_ | with_reducible refine ev_m1 ?_ | with_reducible refine ev_kget ?_ | with_reducible refine ev_fmt ?_ | with_reducible refine ev_join ?_ | with_reducible refine ev_ty ?_ | with_reducible refine ev_cV ?_)
local macro_rules | `(tactic| walk_at "dT") => `(tactic| first
  | with_reducible refine evt_t ?_ | with_reducible refine evt_b ?_ | with_reducible refine evt_and ?_ | with_reducible refine evt_or ?_ | with_reducible refine evt_not ?_ | with_reducible refine evt_yes ?_)
local macro_rules | `(tactic| walk_at "dX") => `(tactic| first
  | ((with_reducible refine' evx_name ?ev ?kk); (case ev => first | exact rfl | assumption)) | with_reducible refine evx_tup ?_ | with_reducible refine evx_lst ?_ | with_reducible refine evxs_cons ?_ | with_reducible refine evxs_nil ?_
  | ((with_reducible refine' evg_name ?ev ?mm ?kk); (case ev => first | exact rfl | assumption); (case mm => decide)) | with_reducible refine evg_tup ?_ | with_reducible refine evg_lst ?_ | with_reducible refine evgs_cons ?_ | with_reducible refine evgs_nil ?_
  | with_reducible refine evi_list ?_ | with_reducible refine evi_tup ?_ | with_reducible refine evi_rng1 ?_ | with_reducible refine evi_rng2 ?_ | with_reducible refine evi_enum ?_ | with_reducible refine evi_zip ?_
  | with_reducible refine eva_items ?_ | with_reducible refine evi_revA ?_ | with_reducible refine evi_enumT ?_ | with_reducible refine evf_cb ?_ | with_reducible refine evo_none ?_ | with_reducible refine evo_some ?_ | with_reducible refine evj_cons ?_ | with_reducible refine evj_nil ?_)
local macro_rules | `(tactic| walk_at "d1") => `(tactic| first
  | ((with_reducible change Ev _ _ _ _ _); walk_at "dE")
  | ((with_reducible change Run _ _ _ _ _); walk_at "dR")
  | with_reducible refine eva_cons ?_ | with_reducible refine eva_nil ?_
  | ((with_reducible change EvT _ _ _ _ _); walk_at "dT")
  | with_reducible refine eva_star ?_
  | with_reducible refine iteT ?_ | with_reducible refine iteF ?_
  | ((with_reducible change if (_ : Bool) = true then _ else _); first | refine iteT ?_ | refine iteF ?_)
  | ((with_reducible refine And.intro ?cc ?_); (case cc => walk_at "side"))
  | ((with_reducible refine' Exists.intro _ (And.intro ?cc ?kk)); (case cc => first | exact rfl | exact at_zero))
  | ((with_reducible refine' Exists.intro _ (Exists.intro _ (And.intro ?cc ?kk))); (case cc => exact rfl))
  | ((with_reducible refine' Exists.intro _ (Exists.intro _ (Exists.intro _ (And.intro ?cc (And.intro ?cd ?kk))))); (case cc => exact rfl); (case cd => exact rfl))
  | ((with_reducible refine' Exists.intro _ (Exists.intro _ (Exists.intro _ (And.intro ?cc ?kk)))); (case cc => exact rfl))
  | ((with_reducible refine' Exists.intro _ (Exists.intro _ (Exists.intro _ (Exists.intro _ (And.intro ?cc ?kk))))); (case cc => exact rfl))
  | walk_at "dX")
local macro_rules | `(tactic| walk_at "d2") => `(tactic| walk_at "d1")
local macro_rules | `(tactic| walk_at "dgo") => `(tactic| repeat walk_at "d1")
local macro_rules | `(tactic| walk_at "wk") => `(tactic| repeat first | exact True.intro | refine And.intro (Or.inl rfl) ?_ | refine And.intro (Or.inr (And.intro rfl rfl)) ?_)
local macro_rules | `(tactic| walk_at "d3") => `(tactic| first
  | ((with_reducible refine' ev_lenO ?ev ?kk); (case ev => exact rfl))
  | ((with_reducible refine' run_dputT ?ev ?kk); (case ev => exact rfl)) | ((with_reducible refine' run_dputK ?ev ?kk); (case ev => exact rfl)) | with_reducible refine run_dnewK ?_ | with_reducible refine run_dnewT ?_
  | ((with_reducible refine' ev_dgetK ?ev ?kk); (case ev => exact rfl)) | ((with_reducible refine' ev_dinK ?ev ?kk); (case ev => exact rfl)) | ((with_reducible refine' ev_dinT ?ev ?kk); (case ev => exact rfl)) | ((with_reducible refine' ev_dnotinK ?ev ?kk); (case ev => exact rfl))
  | ((with_reducible refine' run_append ?ev ?kk); (case ev => exact rfl)) | with_reducible refine run_appC ?_ | with_reducible refine run_par3 ?_ | ((with_reducible refine' eva_self ?ev ?kk); (case ev => exact rfl)) | with_reducible refine evf_methN ?_ | with_reducible refine ev_methN ?_ | with_reducible refine ev_listRg1 ?_
  | with_reducible refine evi_zipM ?_)
local macro_rules | `(tactic| walk_at "dgo") => `(tactic| repeat first | walk_at "d3" | walk_at "d1")
local macro_rules | `(tactic| walk_at "d3") => `(tactic| first
  | with_reducible refine evi_seq ?_ | with_reducible refine evi_orL ?_ | with_reducible refine ev_cref ?_ | ((with_reducible refine' ev_makeVX ?he ?ev ?kk); (case he => assumption); (case ev => exact rfl)))
/-! ### forms of moves, by data -/
theorem images_one {m : Mv} {N : Nat} : imagesL N [m] = (List.range N).map fun i : Nat => m.image (N : Int) (i : Int) := by
  unfold imagesL
  apply List.map_congr_left
  intro i _
  show ((m.image N i).1, false != (m.image N i).2) = m.image N i
  generalize m.image N i = c
  obtain ⟨p, f⟩ := c
  cases f <;> rfl
theorem images_get {m : Mv} {N i : Nat} (h : i < N) : (imagesL N [m])[i]? = some (m.image (N : Int) (i : Int)) := by
  rw [images_one, List.getElem?_map, List.getElem?_range h]
  rfl
theorem images_len {m : Mv} {N : Nat} : (imagesL N [m]).length = N := by rw [images_one, List.length_map, List.length_range]
/-- the entry of an image, as data -/
def atHalfD (h : Int) : D → D
  | .tup [.int p, .bl f] => enD (atHalf h (p, f))
  | _ => .non
theorem top_map {m : Mv} (hk : m.ok) : (((imagesL (2 * half m) [m]).map imgD).take m.reach.toNat).map (atHalfD (half m)) = enL (mvTab m true) := by
  have hr := Mv.reach0 hk
  have hz : m.reach.toNat ≤ 2 * half m := by unfold half; omega
  unfold enL mvTab
  rw [images_one, ← List.map_take, ← List.map_take, List.map_map, List.map_map, List.map_map]
  have e : (List.range (2 * half m)).take m.reach.toNat = List.range m.reach.toNat := by
    rw [List.take_range, Nat.min_eq_left hz]
  rw [e]
  apply List.map_congr_left
  intro i hi
  have hi := List.mem_range.mp hi
  have k := atHalf_img hk (A := true) (d := (i : Int)) (Int.natCast_nonneg i) (by omega)
  have e2 : plc true (i : Int) (2 * (half m : Int)) = (i : Int) := rfl
  rw [e2] at k
  show enD (atHalf (half m) (m.image ((2 * half m : Nat) : Int) (i : Int))) = enD (m.ent true i)
  rw [← k]
  congr 2
theorem bot_map {m : Mv} (hk : m.ok) : ((((imagesL (2 * half m) [m]).map imgD).drop (2 * half m - m.reach.toNat)).reverse).map (atHalfD (half m)) = enL (mvTab m false) := by
  have hr := Mv.reach0 hk
  have hz : m.reach.toNat ≤ 2 * half m := by unfold half; omega
  apply List.ext_getElem?
  intro i
  unfold enL mvTab
  rw [List.getElem?_map, List.getElem?_map, List.getElem?_map]
  have hl : (((imagesL (2 * half m) [m]).map imgD).drop (2 * half m - m.reach.toNat)).length = m.reach.toNat := by
    rw [List.length_drop, List.length_map, images_len]
    omega
  by_cases hi : i < m.reach.toNat
  · rw [List.getElem?_reverse (by rw [hl]; exact hi), hl, List.getElem?_range hi, List.getElem?_drop, List.getElem?_map, images_get (by omega)]
    have k := atHalf_img hk (A := false) (d := (i : Int)) (Int.natCast_nonneg i) (by omega)
    show some (enD (atHalf (half m) (m.image ((2 * half m : Nat) : Int) ((2 * half m - m.reach.toNat + (m.reach.toNat - 1 - i) : Nat) : Int)))) = some (enD (m.ent false i))
    rw [← k]
    congr 4
    unfold plc
    rw [if_neg (by decide)]
    omega
  · rw [List.getElem?_eq_none (l := List.reverse _) (by rw [List.length_reverse, hl]; omega), List.getElem?_eq_none (l := List.range _) (by rw [List.length_range]; omega)]
    rfl
section
variable {P : Program} {w : World} {K : PySem.W.Frag} {mg : Str → Option Value} {base : Heap}
abbrev S_endent : Sd := fun _ ds Pq => ∃ (p : Int) (f : Bool) (h : Int), ds = [.tup [.int p, .bl f], .int h] ∧ 0 ≤ h ∧ h ≤ 10000 ∧ Pq (.ok (enD (atHalf h (p, f))))
theorem ok_end_entry (T : Txt K mg w) : FnOk P w K mg base CX0 1 T.a_end_entry T.d_end_entry P_end_entry (spD K S_endent) := by
  refine okD T.F_end_entry sc_end_entry (fun bs ds Pq h => ?_) (fun cdv A outer s H E hr => ⟨_, (pss_cons (ps_asg (pv 0) (k_gT (K := K) (n := 2) (pgs_cons (pg_name (i := 2) sc_end_entry.nd rfl (Or.inl rfl)) (pgs_cons (pg_name (i := 3) sc_end_entry.nd rfl (Or.inl rfl)) pgs_nil))))
  (pss_cons (ps_if (pt_cmpR op_lt (pv 2) (pv 1) (nomark _))
  (pss_one (ps_ret (pe_tup (pa_cons pe_str (pa_cons (pv 2) (pa_cons (pv 3) pa_nil)))))) pss_nil)
  (pss_one (ps_ret (pe_tup (pa_cons pe_str (pa_cons (pe_op op_sub (pe_op op_sub (pe_op op_mulW pe_int (pv 1)) pe_int) (pv 2)) (pa_cons (pv 3) pa_nil)))))))), ?_⟩)
  · obtain ⟨p, f, h, rfl, _⟩ := h
    rfl
  · rintro C ds Pq hE hX ⟨p, f, h, rfl, h0, h1, q⟩
    unfold atHalf at q
    dsimp only at q
    walk_at "dgo"
    refine iteD (fun a => ?_) (fun a => ?_)
    · rw [if_pos a] at q
      walk_at "dgo"
      exact q
    · rw [if_neg a] at q
      walk_at "dgo"
      exact q
theorem if_both {C : Cz} {ρ : List Sl} {Pk : D → Prop} {X Y : TE} {t : Bool} {d0 : D} (h : Pk d0) (h1 : t = true → Ev K C X ρ fun d => d = d0) (h2 : t = false → Ev K C Y ρ fun d => d = d0) : asB (.bl t) fun c => if c = true then Ev K C X ρ Pk else Ev K C Y ρ Pk := by
  cases t
  · exact iteF (ev_to (h2 rfl) h)
  · exact iteT (ev_to (h1 rfl) h)
abbrev S_mparts : Sd := fun _ ds Pq => ∃ m : Mv, ds = [mvD m] ∧ m.ok ∧ Pq (.ok (ptD (mvP m)))
theorem ok_move_parts (T : Txt K mg w) : FnOk P w K mg base (L2.CX P w) 11 T.a_move_parts T.d_move_parts P_move_parts (spD K S_mparts) := by
  have G_cards_needed := ok_cards_needed (P := P) (w := w) (base := base) T
  have G_all_images := ok_all_imagesL (P := P) (w := w) (base := base) T
  have G_end_entry := ok_end_entry (P := P) (w := w) (base := base) T
  have G_normal := ok_normal (P := P) (w := w) (base := base) T
  refine okDX T.F_move_parts sc_move_parts (fun bs ds Pq h => ?_) (fun cdv A outer s H E hr => ⟨_, (pss_cons (ps_set (i := 1) sc_move_parts.nd rfl (Or.inl rfl) (pe_call G_cards_needed (hr.mono (by decide)) (by rfl) T.g_cards_needed T.F_cards_needed.kp T.b_cards_needed .nil pass0 (pa_cons (pv 0) pa_nil)))
  (pss_cons (ps_set (i := 2) sc_move_parts.nd rfl (Or.inr rfl) (pe_op op_add (pe_op op_mulW pe_int (pv 1)) pe_int))
  (pss_cons (ps_set (i := 3) sc_move_parts.nd rfl (Or.inl rfl) (pe_call G_all_images (hr.mono (by decide)) (by rfl) T.g_all_images T.F_all_images.kp T.b_all_images .nil (passes_call (takes_of rfl rfl rfl rfl) fun _ _ _ _ h => h) (pa_cons (pe_lst (pa_cons (pv 0) pa_nil)) (pa_cons (pe_op op_mulW pe_int (pv 2)) pa_nil))))
  (pss_cons (ps_asg (pe_ix (k_ixL (K := K)) (pv 3) (pv 1) (fun _ _ => rfl)) (k_gT (K := K) (n := 2) (pgs_cons (pg_name (i := 4) sc_move_parts.nd rfl (Or.inl rfl)) (pgs_cons (pg_name (i := 5) sc_move_parts.nd rfl (Or.inl rfl)) pgs_nil))))
  (pss_cons (ps_set (i := 6) sc_move_parts.nd rfl (Or.inl rfl) (pe_ifExp (pt_val (pv 5)) (pe_op op_sub (pv 4) (pe_op op_sub (pe_op op_sub (pe_op op_mulW pe_int (pv 2)) pe_int) (pv 1))) (pe_op op_sub (pv 4) (pv 1))))
  (pss_cons (ps_setLc (i := 7) (own := [("image", 9)]) rfl sc_move_parts.nd rfl rfl (sw_true rfl rfl rfl (by decide +kernel)) (k_piL (K := K) (pe_slice (k_slL (K := K)) (pv 3) po_none (po_some (pv 1)))) (blkOk_by (N := N_move_parts) (sc := defScope s_move_parts) (by decide +kernel)) (fun _ _ _ _ _ => (pg_name (i := 9) sc_move_parts.nd rfl (Or.inl rfl))) (fun _ _ _ _ _ => pts_nil) (fun _ _ _ _ _ => (pe_call G_end_entry (hr.mono (by decide)) (by rfl) T.g_end_entry T.F_end_entry.kp T.b_end_entry .nil pass0 (pa_cons (pv 9) (pa_cons (pv 2) pa_nil)))))
  (pss_cons (ps_setLc (i := 8) (own := [("image", 9)]) rfl sc_move_parts.nd rfl rfl (sw_true rfl rfl rfl (by decide +kernel)) (k_revA (K := K) (by rfl) T.m_reversed (pe_slice (k_slL (K := K)) (pv 3) (po_some (pe_op op_sub (pe_op op_mulW pe_int (pv 2)) (pv 1))) po_none)) (blkOk_by (N := N_move_parts) (sc := defScope s_move_parts) (by decide +kernel)) (fun _ _ _ _ _ => (pg_name (i := 9) sc_move_parts.nd rfl (Or.inl rfl))) (fun _ _ _ _ _ => pts_nil) (fun _ _ _ _ _ => (pe_call G_end_entry (hr.mono (by decide)) (by rfl) T.g_end_entry T.F_end_entry.kp T.b_end_entry .nil pass0 (pa_cons (pv 9) (pa_cons (pv 2) pa_nil)))))
  (pss_one (ps_ret (pe_call G_normal (hr.mono (by decide)) (by rfl) T.g_normal T.F_normal.kp T.b_normal .nil pass0 (pa_cons (pv 5) (pa_cons (pv 6) (pa_cons (pv 7) (pa_cons (pv 8) pa_nil)))))))))))))), ?_⟩)
  · obtain ⟨m, rfl, _⟩ := h
    rfl
  · rintro C ds Pq hE hX ⟨m, rfl, hk, q⟩
    have hE' := hE.symm
    have hr0 := Mv.reach0 hk
    have hr4 := Mv.reach400 hk
    have hh : 2 * m.reach + 1 = (half m : Int) := by unfold half; omega
    have hN : (2 * (half m : Int)) = ((2 * half m : Nat) : Int) := by omega
    have hB : 2 * half m ≤ 2000 := by unfold half; omega
    have hw : m.reach.toNat < 2 * half m := by unfold half; omega
    have g1 := images_get (m := m) hw
    rw [show ((m.reach.toNat : Nat) : Int) = m.reach by omega, ← hN, img_mid hk] at g1
    have hat : atI ((imagesL (2 * half m) [m]).map imgD) m.reach = some (imgD ((if m.trn = true then 2 * (half m : Int) - 1 - (m.reach - m.sh) else m.reach + m.sh), m.trn)) := by
      have h := atI_nat (xs := (imagesL (2 * half m) [m]).map imgD) (j := m.reach.toNat) (by rw [List.getElem?_map, g1]; rfl)
      rwa [show ((m.reach.toNat : Nat) : Int) = m.reach by omega] at h
    have len : ((imagesL (2 * half m) [m]).map imgD).length = 2 * half m := by rw [List.length_map, images_len]
    walk_at "dgo"
    rw [hh]
    rw [hN]
    refine ⟨[m], _, rfl, fun x hx => by rw [List.mem_singleton.mp hx]; exact hk, hB, ?_⟩
    walk_at "dgo"
    refine ⟨_, hat, ?_⟩
    walk_at "dgo"
    dsimp only
    refine if_both (d0 := .int m.sh) ?_ (fun a => ?_) (fun a => ?_)
    · walk_at "dgo"
      refine ev_lcm (atHalfD (half m)) (by rfl) ?_
      walk_at "dgo"
      simp only [asI, asL]
      rw [cutD_hi _ _ hr0 (by rw [len]; omega)]
      have it : ∀ (x : D), x ∈ (imagesL (2 * half m) [m]).map imgD → ∃ p f, x = .tup [.int p, .bl f] := fun x hx => by
        obtain ⟨⟨p, f⟩, _, rfl⟩ := List.mem_map.mp hx
        exact ⟨p, f, rfl⟩
      refine ⟨by rw [List.length_take, len]; omega, fun C' e1 e2 e3 i d hi => ?_, ?_⟩
      · obtain ⟨p, f, rfl⟩ := it d (List.mem_of_mem_take (List.mem_of_getElem? hi))
        walk_at "dgo"
        exact rfl
      rw [top_map hk]
      walk_at "dgo"
      refine ev_lcm (atHalfD (half m)) (by rfl) ?_
      walk_at "dgo"
      simp only [asI, asL, asQ]
      rw [cutD_lo _ _ (by omega) (by rw [len]; omega)]
      have ed : (2 * (half m : Int) - m.reach).toNat = 2 * half m - m.reach.toNat := by omega
      rw [ed]
      refine ⟨by rw [List.length_reverse, List.length_drop, len]; omega, fun C' e1 e2 e3 i d hi => ?_, ?_⟩
      · obtain ⟨p, f, rfl⟩ := it d (List.mem_of_mem_drop (List.mem_reverse.mp (List.mem_of_getElem? hi)))
        walk_at "dgo"
        exact rfl
      rw [bot_map hk]
      have l1 := mvTab_len m true
      have l2 := mvTab_len m false
      walk_at "dgo"
      refine ⟨_, _, true, true, _, _, rfl, by omega, by omega, ?_⟩
      exact q
    · rw [if_pos a]
      walk_at "dgo"
      show D.int _ = D.int _
      congr 1
      omega
    · rw [if_neg (by rw [a]; decide)]
      walk_at "dgo"
      show D.int _ = D.int _
      congr 1
      omega
end
/-! ### Form.of, by data -/
section
variable {P : Program} {w : World} {K : PySem.W.Frag} {mg : Str → Option Value} {base : Heap}
abbrev S_fof (T : Txt K mg w) : Sd := fun _ ds Pq => ∃ ms : List Mv, ds = [.oth (.ref T.a_Form), .lst (ms.map mvD)] ∧ (∀ m ∈ ms, m.ok) ∧ ms.length ≤ 3000 ∧ sumR ms ≤ 400 ∧ Pq (.ok (formD T.a_Form (wordP ms)))
theorem ok_Form_of (T : Txt K mg w) : FnOk P w K mg base (L2.CX P w) 12 T.a_Form_of T.d_Form_of P_Form_of (spD K (S_fof T)) := by
  have G_is_move := ok_is_move (P := P) (w := w) (base := base) T
  have G_BadMove := ok_BadMove (P := P) (w := w) (base := base) T
  have G_move_parts := ok_move_parts (P := P) (w := w) (base := base) T
  have G_product := ok_product (P := P) (w := w) (base := base) T
  have G_check_width := ok_check_width (P := P) (w := w) (base := base) T
  have G_Form___init__ := fnR_of0 (ok_Form___init__ (P := P) (w := w) (base := base) T) T.b_Form___init__
  have c1 := T.cls_Form
  have n1 := T.no_Form_parts
  refine okDX T.F_Form_of sc_Form_of (fun bs ds Pq h => ?_) (fun cdv A outer s H E hr => ⟨_, (pss_cons (ps_for PassesOwn.leaving rfl (k_enum (K := K) (pa_cons (pv 1) pa_nil) T.m_enumerate) (k_gT (K := K) (n := 2) (pgs_cons (pg_name (i := 2) sc_Form_of.nd rfl (Or.inl rfl)) (pgs_cons (pg_name (i := 3) sc_Form_of.nd rfl (Or.inl rfl)) pgs_nil)))
  (pss_one (ps_if (pt_not (pt_val (pe_call G_is_move (hr.mono (by decide)) (by rfl) T.g_is_move T.F_is_move.kp T.b_is_move .nil pass0 (pa_cons (pv 3) pa_nil))))
  (pss_one (ps_raise rfl (takes_of rfl rfl rfl rfl) (pmk_oex T.x_BadMove.o T.i_BadMove T.ti_BadMove G_BadMove (hr.mono (by decide)) T.b_BadMove .nil pass0 (by rfl) T.g_BadMove (pa_cons (pv 2) pa_nil)))) pss_nil)))
  (pss_cons (ps_set (i := 4) sc_Form_of.nd rfl (Or.inl rfl) (pe_tup (pa_cons pe_bl (pa_cons pe_int (pa_cons (pe_tup pa_nil) (pa_cons (pe_tup pa_nil) pa_nil))))))
  (pss_cons (ps_for PassesOwn.leaving rfl (k_piL (K := K) (pv 1)) (pg_name (i := 3) sc_Form_of.nd rfl (Or.inl rfl))
  (pss_cons (ps_set (i := 4) sc_Form_of.nd rfl (Or.inl rfl) (pe_call G_product (hr.mono (by decide)) (by rfl) T.g_product T.F_product.kp T.b_product .nil pass0 (pa_cons (pv 4) (pa_cons (pe_call G_move_parts (hr.mono (by decide)) (by rfl) T.g_move_parts T.F_move_parts.kp T.b_move_parts .nil (passes_call (takes_of rfl rfl rfl rfl) fun _ _ _ _ h => h) (pa_cons (pv 3) pa_nil)) pa_nil))))
  (pss_one (ps_expr (pe_call G_check_width (hr.mono (by decide)) (by rfl) T.g_check_width T.F_check_width.kp T.b_check_width .nil (passes_call (takes_of rfl rfl rfl rfl) fun _ _ _ _ h => h) (pa_cons (pv 4) (pa_cons (k_cval (K := K) rfl T.g_Form T.r_Form T.v_Form_WIDEST) pa_nil)))))))
  (pss_one (ps_ret (k_makeV (K := K) (i := 0) T.mk_Form G_Form___init__ (hr.mono (by decide)) (passes_call (takes_of rfl rfl rfl rfl) fun _ _ _ _ h => h) rfl (by first | exact Or.inl rfl | exact Or.inr (Or.inl rfl)) (pv 4))))))), ?_⟩)
  · obtain ⟨ms, rfl, _⟩ := h
    rfl
  · rintro C ds Pq hE hX ⟨ms, rfl, hk, hl, hs, q⟩
    have hE' := hE.symm
    have hfo : ∀ k, Fm.Fo (wordP (ms.take k)) 400 := fun k => (wordP_fo fun m hm => hk m (List.mem_of_mem_take hm)).mono (Nat.le_trans (sumR_take ms k) hs)
    walk_at "dgo"
    refine forW [.val (.oth (.ref T.a_Form)), .val (.lst (ms.map mvD)), .no, .no, .no] ?_ (fun hv hd i d hi => ?_) (seq_wk ?_)
    · walk_at "wk"
    · obtain ⟨d, hx, rfl⟩ := enum_get hi
      obtain ⟨m, gm, rfl⟩ := map_inv hx
      have hkm := hk m (List.mem_of_getElem? gm)
      walk_at "dgo"
      refine And.intro (fine_mv m) ?_
      walk_at "dgo"
      rw [isMoveD_mv hkm]
      walk_at "dgo"
      walk_at "wk"
    walk_at "dgo"
    refine forX (fun k (p : Fm.Pt) => p = wordP (ms.take k)) (fun p => [.val (.oth (.ref T.a_Form)), .val (.lst (ms.map mvD)), .no, .no, .val (ptD p)]) Fm.still rfl ?_ (fun hv hd k d p hi hp => ?_) (fun p hp => seq_wk ?_)
    · walk_at "wk"
    · obtain ⟨m, gm, rfl⟩ := map_inv hi
      have hkm := hk m (List.mem_of_getElem? gm)
      have f0 : Fm.Fo p 400 := hp ▸ hfo k
      have e1 : Fm.product p (mvP m) = wordP (ms.take (k + 1)) := by rw [List.take_add_one, gm, hp]; exact (wordP_snoc _ _).symm
      have f1 : Fm.Fo (Fm.product p (mvP m)) 400 := e1 ▸ hfo (k + 1)
      have f2 := mvP_fo hkm
      have hr4 := Mv.reach400 hkm
      have l1 : (Fm.product p (mvP m)).top.length ≤ 400 := f1.l true
      have l2 : (Fm.product p (mvP m)).bot.length ≤ 400 := f1.l false
      walk_at "dgo"
      refine ⟨f0.v.wf, fun a => ?_, ?_⟩
      · have h1 := Fm.width_le (q := mvP m) f0.v a
        have h2 := f0.l a
        have h3 := f2.l (Fm.ruled p.t p.s a 0).a
        omega
      walk_at "dgo"
      refine ⟨_, _, false, false, _, _, 400, rfl, ?_⟩
      rw [if_neg (by omega), e1]
      walk_at "dgo"
      walk_at "wk"
    · rw [List.length_map, List.take_length] at hp
      have f0 := hfo ms.length
      rw [List.take_length, ← hp] at f0
      have l1 : p.top.length ≤ 400 := f0.l true
      have l2 : p.bot.length ≤ 400 := f0.l false
      rw [← hp] at q
      walk_at "dgo"
      refine ⟨_, _, false, false, _, _, rfl, by omega, f0.v, ?_⟩
      rw [if_neg (by omega), Fm.normal_id f0.nm]
      exact q
end
end Z
namespace Z
open PySem PySem.Spec PyProof.Rows L2
-- what stands at an address
local macro_rules | `(tactic| walk_at "hp") => `(tactic| first | assumption | exact upd_same | exact BagAt.at_ (by assumption) | exact BagAt.cells (by assumption) | fail "hp")
local macro_rules | `(tactic| walk_at "sq") => `(tactic| first | assumption | (refine Or.inl (Or.inl ?_); walk_at "hp") | (apply Same.seq <;> assumption))
-- bounds
local macro_rules | `(tactic| walk_at "num") => `(tactic| first
  | exact rfl | decide | exact le_line (Nat.le_of_ble_eq_true rfl) | exact lt_line (Nat.le_of_ble_eq_true rfl)
  | (exact mul_ok (small_abs (by omega)) (small_abs (by omega)))
  | (exact div_small (by omega) (by omega))
  | (exact div_ok (by omega) (by assumption))
  | (refine ⟨?_, ?_⟩ <;> omega) | omega
  | (show (_ : Int) ≠ 0; omega) | (show CPow _ _; unfold CPow; decide))
-- one step
local macro_rules | `(tactic| walk_at "rd") => `(tactic| first
  | (refine Exists.intro _ (And.intro rfl ?_))
  | (refine Exists.intro _ (Exists.intro _ (And.intro rfl (And.intro rfl ?_))))
  | (refine Or.inl (Exists.intro _ (And.intro rfl ?_)))
  | (refine Or.inr (Exists.intro _ (And.intro rfl ?_)))
  | (with_reducible refine iteF ?_) | (with_reducible refine iteT ?_)
  | (refine And.intro ?cc ?_; (case cc => walk_at "num"))
  | (refine' Exists.intro _ (Exists.intro _ (Exists.intro _ (Exists.intro _ (And.intro rfl (And.intro rfl (And.intro ?sq (And.intro ?ha ?k))))))); (case sq => walk_at "sq"); (case ha => first | exact rfl | assumption | exact at_zero))
  | (refine' Exists.intro _ (Exists.intro _ (And.intro rfl (And.intro (Or.inl ?sq) ?k))); (case sq => walk_at "sq")))
local macro_rules | `(tactic| walk_at "sqt") => `(tactic| first | assumption | (refine Or.inl (Or.inl ?_); walk_at "hp") | (apply Same.tup <;> assumption))
local macro_rules | `(tactic| walk_at "rdt") => `(tactic| first
  | walk_at "rd"
  | (refine' Exists.intro _ (Exists.intro _ (And.intro rfl (And.intro (Or.inr ?sq) ?k))); (case sq => walk_at "sqt"))
  | (refine' Exists.intro _ (Exists.intro _ (Exists.intro _ (Exists.intro _ (And.intro rfl (And.intro rfl (And.intro ?sq (And.intro ?ha ?k))))))); (case sq => walk_at "sqt"); (case ha => first | exact rfl | assumption | exact at_zero))
  | (refine iteF ?_) | (refine iteT ?_))
local macro_rules | `(tactic| walk_at "rds") => `(tactic| repeat walk_at "rdt")
local macro_rules | `(tactic| walk_at "pull") => `(tactic| (refine' Exists.intro _ (Exists.intro _ (Exists.intro _ (And.intro rfl (And.intro ?bag (And.intro ?pos (And.intro ?fit ?kk)))))); (case bag => assumption); (case pos => first | decide | omega); (case fit => exact Fit.of (by first | decide | omega) (by first | decide | omega))))
local macro_rules | `(tactic| walk_at "two") => `(tactic| refine Exists.intro _ (Exists.intro _ (And.intro rfl ?_)))
/-! ### steps by data -/
local macro_rules | `(tactic| walk_at "side") => `(tactic| first
  | exact rfl | assumption | exact Nat.le_of_ble_eq_true rfl | decide | exact True.intro | exact le_line (Nat.le_of_ble_eq_true rfl) | exact lt_line (Nat.le_of_ble_eq_true rfl) | omega | (show (_ : Int) ≠ 0; omega) | exact cut1_ok | (unfold CPow; decide) | exact mul_ok (small_abs (by omega)) (small_abs (by omega)) | exact div_small (by omega) (by omega))
local macro_rules | `(tactic| walk_at "dR") => `(tactic| first
  | with_reducible refine run_seq ?_ | with_reducible refine run_if ?_ | with_reducible refine run_set ?_ | with_reducible refine run_ret ?_ | with_reducible refine run_next ?_
  | with_reducible refine run_asg ?_ | with_reducible refine run_for ?_ | ((with_reducible refine' run_append ?ev ?kk); (case ev => exact rfl)) | ((with_reducible refine' run_aug ?ev ?kk); (case ev => exact rfl))
  | with_reducible refine run_par ?_ | with_reducible refine run_drop ?_ | with_reducible refine run_retN ?_ | with_reducible refine run_break ?_ | with_reducible refine run_cont ?_)
local macro_rules | `(tactic| walk_at "dE") => `(tactic| first
  | ((with_reducible refine' ev_var ?ev ?kk); (case ev => exact rfl))
  | with_reducible refine ev_op ?_ | with_reducible refine ev_int ?_ | with_reducible refine ev_str ?_ | with_reducible refine ev_callC (by assumption) ?_ | with_reducible refine ev_callX (by assumption) ?_ | with_reducible refine ev_call ?_ | with_reducible refine ev_cb ?_ | with_reducible refine ev_tup ?_
  | with_reducible refine ev_if ?_ | with_reducible refine ev_and ?_ | with_reducible refine ev_or ?_ | with_reducible refine ev_not ?_ | with_reducible refine ev_bl ?_ | with_reducible refine ev_non ?_ | with_reducible refine ev_isi ?_
  | with_reducible refine ev_un ?_ | with_reducible refine ev_chain ?_ | with_reducible refine ev_lst ?_ | with_reducible refine ev_cbf ?_ | with_reducible refine ev_sl ?_ | with_reducible refine ev_m1 ?_ | with_reducible refine ev_kget ?_ | with_reducible refine ev_fmt ?_ | with_reducible refine ev_join ?_ | with_reducible refine ev_ty ?_ | with_reducible refine ev_cV ?_)
local macro_rules | `(tactic| walk_at "dT") => `(tactic| first
  | with_reducible refine evt_t ?_ | with_reducible refine evt_b ?_ | with_reducible refine evt_and ?_ | with_reducible refine evt_or ?_ | with_reducible refine evt_not ?_ | with_reducible refine evt_yes ?_)
local macro_rules | `(tactic| walk_at "dX") => `(tactic| first
  | ((with_reducible refine' evx_name ?ev ?kk); (case ev => first | exact rfl | assumption)) | with_reducible refine evx_tup ?_ | with_reducible refine evx_lst ?_ | with_reducible refine evxs_cons ?_ | with_reducible refine evxs_nil ?_
  | ((with_reducible refine' evg_name ?ev ?mm ?kk); (case ev => first | exact rfl | assumption); (case mm => decide)) | with_reducible refine evg_tup ?_ | with_reducible refine evg_lst ?_ | with_reducible refine evgs_cons ?_ | with_reducible refine evgs_nil ?_
  | with_reducible refine evi_list ?_ | with_reducible refine evi_tup ?_ | with_reducible refine evi_rng1 ?_ | with_reducible refine evi_rng2 ?_ | with_reducible refine evi_enum ?_ | with_reducible refine evi_zip ?_
  | with_reducible refine evo_none ?_ | with_reducible refine evo_some ?_ | with_reducible refine evj_cons ?_ | with_reducible refine evj_nil ?_)
local macro_rules | `(tactic| walk_at "d1") => `(tactic| first
  | ((with_reducible change Ev _ _ _ _ _); walk_at "dE")
  | ((with_reducible change Run _ _ _ _ _); walk_at "dR")
  | with_reducible refine eva_cons ?_ | with_reducible refine eva_nil ?_
  | ((with_reducible change EvT _ _ _ _ _); walk_at "dT")
  | with_reducible refine eva_star ?_
  | with_reducible refine iteT ?_ | with_reducible refine iteF ?_
  | ((with_reducible change if (_ : Bool) = true then _ else _); first | refine iteT ?_ | refine iteF ?_)
  | ((with_reducible refine And.intro ?cc ?_); (case cc => walk_at "side"))
  | ((with_reducible refine' Exists.intro _ (And.intro ?cc ?kk)); (case cc => first | exact rfl | exact at_zero))
  | ((with_reducible refine' Exists.intro _ (Exists.intro _ (And.intro ?cc ?kk))); (case cc => exact rfl))
  | ((with_reducible refine' Exists.intro _ (Exists.intro _ (Exists.intro _ (And.intro ?cc (And.intro ?cd ?kk))))); (case cc => exact rfl); (case cd => exact rfl))
  | ((with_reducible refine' Exists.intro _ (Exists.intro _ (Exists.intro _ (And.intro ?cc ?kk)))); (case cc => exact rfl))
  | ((with_reducible refine' Exists.intro _ (Exists.intro _ (Exists.intro _ (Exists.intro _ (And.intro ?cc ?kk))))); (case cc => exact rfl))
  | walk_at "dX")
local macro_rules | `(tactic| walk_at "d2") => `(tactic| walk_at "d1")
local macro_rules | `(tactic| walk_at "dgo") => `(tactic| repeat walk_at "d1")
local macro_rules | `(tactic| walk_at "wk") => `(tactic| repeat first | exact True.intro | refine And.intro (Or.inl rfl) ?_ | refine And.intro (Or.inr (And.intro rfl rfl)) ?_)
/-! ### the law's own draws -/
section
variable {P : Program} {w : World} {K : PySem.W.Frag} {mg : Str → Option Value} {base : Heap}
theorem tail_take {xs : List V} (h : xs.length ≤ 63) : cutV xs none (some 63) = xs := by
  unfold cutV
  have e1 : HT.sIx xs.length 0 none = 0 := HT.sIx_none _ _
  have e2 : HT.sIx xs.length xs.length (some 63) = xs.length := by
    have := HT.sIx_nat xs.length xs.length 63
    rw [show ((63 : Nat) : Int) = 63 from rfl] at this
    rw [this]
    omega
  rw [e1, e2, List.drop_zero, Nat.sub_zero]
  exact List.take_length
theorem ne_zero {i : Int} (h : 0 < i) : i ≠ 0 := by omega
theorem ok__law_bag (T : Txt K mg w) : FnOk P w K mg base CX0 1 T.a__law_bag T.d__law_bag P__law_bag (sp_bag K) := by
  refine T.F__law_bag.ok sc__law_bag (fun vs H Q E h => ?_) (fun cdv A outer s H vs Q E hr h => ?_)
  · obtain ⟨a, ns, rfl, _⟩ := h
    rfl
  · obtain ⟨a, ns, rfl, hS, hlen, q⟩ := h
    refine ⟨_, (pss_cons (ps_set (i := 1) sc__law_bag.nd rfl (Or.inl rfl) pe_int)
  (pss_cons (ps_for PassesOwn.never rfl (k_piL (K := K) (pe_slice (k_slL (K := K)) (pv 0) po_none (po_some pe_int))) (pg_name (i := 2) sc__law_bag.nd rfl (Or.inl rfl))
  (pss_one (ps_set (i := 1) sc__law_bag.nd rfl (Or.inl rfl) (pe_op op_modN (pe_callTy call_int1 (by rfl) T.m_int boot_int (pa_cons (pe_op op_add (pe_op op_add (pe_op op_mulW (pv 1) pe_int) (pe_op op_modN (pe_callTy call_int1 (by rfl) T.m_int boot_int (pa_cons (pv 2) pa_nil)) pe_int)) pe_int) pa_nil)) pe_int))))
  (pss_one (ps_ret (pe_lst (pa_cons (pe_callTy (k_list (K := K)) (by rfl) T.m_list boot_list (pa_cons (pe_slice (k_slL (K := K)) (pv 0) po_none (po_some pe_int)) pa_nil)) (pa_cons pe_int (pa_cons pe_int (pa_cons (pv 1) pa_nil))))))))), ?_⟩
    refine ⟨.ref a, rfl, 63, rfl, a, ns.map V.int, rfl, hS, fun c nc => ?_⟩
    rw [tail_take (by rw [List.length_map]; exact hlen)]
    have s1 : Same H (upd H c (.lst (ns.map V.int))) := same_new nc
    have hC : SqL K (upd H c (.lst (ns.map V.int))) c (ns.map V.int) := .inl (.inl upd_same)
    refine ⟨c, rfl, ⟨_, hC⟩, for_list (xs := ns.map V.int) (fun i σ H' => H' = upd H c (.lst (ns.map V.int)) ∧ ∃ salt y, σ = [some (.ref a), some (.int salt), y] ∧ 0 ≤ salt ∧ salt < 2147483647)
      ⟨rfl, 3817, none, rfl, by omega, by omega⟩ (fun i σ H' _ hp => by rw [hp.1]; exact hC) (fun i x σ H' hx hp => ?_) (fun σ H' hp => ?_)⟩
    · obtain ⟨rfl, salt, y, rfl, b1, b2⟩ := hp
      obtain ⟨n, -, rfl⟩ : ∃ n, n ∈ ns ∧ V.int n = x := by simpa using List.mem_of_getElem? hx
      have c1 := fmod_lo n (m := 2147483579) (by decide)
      have c2 := fmod_hi n (m := 2147483579) (by decide)
      refine ⟨_, rfl, _, _, rfl, rfl, mul_ok (small_abs (by omega)) (small_abs (by omega)), ?_⟩
      refine ⟨_, rfl, .inl ⟨_, rfl, ?_⟩⟩
      refine ⟨_, _, rfl, rfl, ne_zero (by decide), _, _, rfl, rfl, _, _, rfl, rfl, .inl ⟨_, rfl, ?_⟩⟩
      refine ⟨_, _, rfl, rfl, ne_zero (by decide), rfl, _, _, rfl, ?_, ?_⟩
      · exact fmod_lo _ (by decide)
      · exact fmod_hi _ (by decide)
    · obtain ⟨rfl, salt, y, rfl, b1, b2⟩ := hp
      refine ⟨.ref a, rfl, 63, rfl, a, ns.map V.int, rfl, s1.seq hS, fun c2 nc2 => ?_⟩
      rw [tail_take (by rw [List.length_map]; exact hlen)]
      refine ⟨c2, _, rfl, .inl (.inl (.inl upd_same)), fun l nl => ?_⟩
      refine ⟨_, rfl, by show 4 ≤ sizeLine; decide, fun b nb => ?_⟩
      have s2 := (s1.trans (same_new nc2)).trans (same_new (o := .lst (ns.map V.int)) nl)
      have s3 := s2.trans (same_new (o := .lst [.ref l, .int 0, .int 0, .int salt]) nb)
      have nlb : l ≠ b := fun e => by
        rw [← e, upd_same] at nb
        cases nb
      refine q b l _ (s2.free nb) ((s1.trans (same_new nc2)).free nl) s3 ⟨ns, 0, 0, salt, ⟨upd_same, ?_, nlb, hlen, by omega, by omega, b1, b2⟩⟩
      rw [upd_ne nlb]
      exact upd_same
theorem ok__law_pull (T : Txt K mg w) : FnOk P w K mg base CX0 1 T.a__law_pull T.d__law_pull P__law_pull sp_pull := by
  refine T.F__law_pull.ok sc__law_pull (fun vs H Q E h => ?_) (fun cdv A outer s H vs Q E hr h => ?_)
  · obtain ⟨a, l, n, rfl, _⟩ := h
    rfl
  · obtain ⟨b, l, n, rfl, ⟨cs, i, hd, s, hB⟩, n0, n1, q⟩ := h
    refine ⟨_, (Evl.pss_cut (ps_if (PW.pt (pw_and (pt_cmpR op_eq (pe_ix (k_ixL (K := K)) (pv 0) pe_int (fun _ _ => rfl)) pe_int (nomark _)) (pw_and1 (pt_cmpR op_lt (pe_ix (k_ixL (K := K)) (pv 0) pe_int (fun _ _ => rfl)) (pe_callB (k_len (K := K)) (by rfl) T.m_len boot_len (pa_cons (pe_ix (k_ixL (K := K)) (pv 0) pe_int (fun _ _ => rfl)) pa_nil)) (nomark _)))))
  (pss_cons (ps_set (i := 2) sc__law_pull.nd rfl (Or.inl rfl) (pe_ix (k_ixL (K := K)) (pe_ix (k_ixL (K := K)) (pv 0) pe_int (fun _ _ => rfl)) (pe_ix (k_ixL (K := K)) (pv 0) pe_int (fun _ _ => rfl)) (fun _ _ => rfl)))
  (pss_cons (ps_asg (pe_op op_add (pe_ix (k_ixL (K := K)) (pv 0) pe_int (fun _ _ => rfl)) pe_int) (pg_sub (pv 0) pe_int set_list))
  (pss_one (ps_if (pt_cmpR op_ge (pv 2) (pe_op op_pow pe_int pe_int) (nomark _))
  (pss_one (ps_asg (pv 2) (pg_sub (pv 0) pe_int set_list))) (pss_one (ps_asg (pe_op op_modN (pe_callTy call_int1 (by rfl) T.m_int boot_int (pa_cons (pe_op op_add (pe_op op_add (pe_op op_mulW (pe_ix (k_ixL (K := K)) (pv 0) pe_int (fun _ _ => rfl)) pe_int) (pe_op op_mulW (pe_op op_modN (pe_callTy call_int1 (by rfl) T.m_int boot_int (pa_cons (pv 2) pa_nil)) pe_int) pe_int)) pe_int) pa_nil)) pe_int) (pg_sub (pv 0) pe_int set_list))))))) pss_nil)
  (pss_cons (ps_if (pt_cmpR op_gt (pe_ix (k_ixL (K := K)) (pv 0) pe_int (fun _ _ => rfl)) pe_int (nomark _))
  (pss_cons (ps_set (i := 3) sc__law_pull.nd rfl (Or.inl rfl) (pe_op op_modN (pe_callTy call_int1 (by rfl) T.m_int boot_int (pa_cons (pe_ix (k_ixL (K := K)) (pv 0) pe_int (fun _ _ => rfl)) pa_nil)) (pv 1)))
  (pss_cons (ps_asg (pe_op op_fdivW (pe_ix (k_ixL (K := K)) (pv 0) pe_int (fun _ _ => rfl)) (pv 1)) (pg_sub (pv 0) pe_int set_list))
  (pss_one (ps_ret (pv 3))))) pss_nil)
  (pss_cons (ps_set (i := 4) sc__law_pull.nd rfl (Or.inl rfl) (pe_ix (k_ixL (K := K)) (pv 0) pe_int (fun _ _ => rfl)))
  (pss_cons (ps_asg (pe_op op_modN (pe_callTy call_int1 (by rfl) T.m_int boot_int (pa_cons (pe_op op_add (pe_op op_add (pe_op op_mulW (pv 4) (pv 4)) (pe_op op_mulW (pv 4) pe_int)) pe_int) pa_nil)) pe_int) (pg_sub (pv 0) pe_int set_list))
  (pss_one (ps_ret (pe_op op_modN (pe_callTy call_int1 (by rfl) T.m_int boot_int (pa_cons (pe_op op_add (pe_op op_fdivW (pe_ix (k_ixL (K := K)) (pv 0) pe_int (fun _ _ => rfl)) pe_int) (pe_op op_mulW (pe_op op_modN (pe_callTy call_int1 (by rfl) T.m_int boot_int (pa_cons (pe_ix (k_ixL (K := K)) (pv 0) pe_int (fun _ _ => rfl)) pa_nil)) pe_int) pe_int)) pa_nil)) (pv 1)))))))), ?_⟩
    have i0 := hB.i0
    have hd0 := hB.h0
    have s0 := hB.s0
    have s1 := hB.s1
    refine ⟨fun σ' H' => ∃ i' hd' s' y2, BagAt H' b l cs i' hd' s' ∧ But b H H' ∧ σ' = [some (.ref b), some (.int n), y2, none, none], ?_, fun σ' H' hM => ?_⟩
    · walk_at "rds"
      refine iteE (fun h0 => ?_) (fun h0 => ?_)
      · walk_at "rds"
        refine iteD (fun h1 => ?_) (fun h1 => ?_)
        · have hl : i.toNat < cs.length := by
            rw [List.length_map] at h1
            omega
          have hat : atI (cs.map V.int) i = some (.int cs[i.toNat]) := by
            exact at_of (j := i.toNat) (by omega) (by rw [List.getElem?_map, List.getElem?_eq_getElem hl]; rfl)
          walk_at "rds"
          refine bag_set hB rfl rfl (by omega) hd0 s0 s1 (fun H2 hB2 b2 => ?_)
          walk_at "rds"
          refine iteD (fun h2 => ?_) (fun h2 => ?_)
          · have h3 : (0 : Int) ≤ cs[i.toNat] := Int.le_trans (by decide) h2
            walk_at "rds"
            exact bag_set hB2 rfl rfl (by omega) h3 s0 s1 fun H3 hB3 b3 => ⟨_, _, _, _, hB3, b2.trans b3, rfl⟩
          · have c1 := fmod_lo cs[i.toNat] (m := 2147483579) (by decide)
            have c2 := fmod_hi cs[i.toNat] (m := 2147483579) (by decide)
            walk_at "rds"
            exact bag_set hB2 rfl rfl (by omega) hd0 (fmod_lo _ (by decide)) (fmod_hi _ (by decide)) fun H3 hB3 b3 => ⟨_, _, _, _, hB3, b2.trans b3, rfl⟩
        · exact ⟨_, _, _, _, hB, But.refl _ _, rfl⟩
      · walk_at "rds"
        exact ⟨_, _, _, _, hB, But.refl _ _, rfl⟩
    · obtain ⟨i', hd', s', y2, hB', hb', rfl⟩ := hM
      have i0 := hB'.i0
      have hd0 := hB'.h0
      have s0 := hB'.s0
      have s1 := hB'.s1
      walk_at "rds"
      refine iteD (fun h0 => ?_) (fun h0 => ?_)
      · have nn : n ≠ 0 := by omega
        walk_at "rds"
        refine bag_set hB' rfl rfl i0 (Int.ediv_nonneg hd0 (by omega)) s0 s1 (fun H2 hB2 b2 => ?_)
        walk_at "rds"
        exact q _ _ (fmod_lo _ n0) (fmod_hi _ n0) ⟨_, _, _, _, hB2⟩ (hb'.trans b2)
      · have nn : n ≠ 0 := by omega
        walk_at "rds"
        refine bag_set hB' rfl rfl i0 hd0 (fmod_lo _ (by decide)) (fmod_hi _ (by decide)) (fun H2 hB2 b2 => ?_)
        have c1 := hB2.s0
        have c2 := hB2.s1
        generalize (s' * s' + s' * 48271 + 1013904223).fmod 2147483647 = z at hB2 c1 c2
        have c3 := fmod_lo z (m := 8191) (by decide)
        have c4 := fmod_hi z (m := 8191) (by decide)
        walk_at "rds"
        exact q _ _ (fmod_lo _ n0) (fmod_hi _ n0) ⟨_, _, _, _, hB2⟩ (hb'.trans b2)
end
local macro_rules | `(tactic| walk_at "isi") => `(tactic| (refine' Exists.intro _ (Exists.intro _ (Exists.intro _ (Exists.intro _ (Exists.intro _ (And.intro rfl (And.intro (ClsV.ty _) (And.intro ?tt (And.intro (kit_ty ?ee) ?kk)))))))); (case tt => assumption); (case ee => first | exact kb_int_list | exact kb_int_tuple | exact kb_int_dict | exact kb_int_bool | exact kb_int_int | exact kb_int_str | exact kb_str_list | exact kb_str_tuple | exact kb_str_dict | exact kb_str_bool | exact kb_str_int | exact kb_str_str | exact kb_bool_list | exact kb_bool_tuple | exact kb_bool_dict | exact kb_bool_bool | exact kb_bool_int | exact kb_bool_str | exact kb_NoneType_list | exact kb_NoneType_tuple | exact kb_NoneType_dict | exact kb_NoneType_bool | exact kb_NoneType_int | exact kb_NoneType_str | exact kb_list_list | exact kb_list_tuple | exact kb_list_dict | exact kb_list_bool | exact kb_list_int | exact kb_list_str | exact kb_tuple_list | exact kb_tuple_tuple | exact kb_tuple_dict | exact kb_tuple_bool | exact kb_tuple_int | exact kb_tuple_str)))
-- one step
local macro_rules | `(tactic| walk_at "same") => `(tactic| repeat first | walk_at "rdt" | walk_at "isi")
/-! ### the law's draws, by data -/
def Mv.within (d : Int) : Mv → Prop
  | .swap _ i _ j => 0 ≤ i ∧ i ≤ d ∧ 0 ≤ j ∧ j ≤ d
  | .carry _ i _ j => 0 ≤ i ∧ i ≤ d ∧ 0 ≤ j ∧ j ≤ d
  | .cut k => -(d + 1) ≤ k ∧ k ≤ d + 1
  | .turn _ k => 0 ≤ k ∧ k ≤ d + 1
  | .over => True
  | .face _ i => 0 ≤ i ∧ i ≤ d
theorem within_ok {d : Int} {m : Mv} (h : m.within d) (hd : d ≤ 399) : m.ok := by
  cases m with
  | swap a i b j => obtain ⟨h1, h2, h3, h4⟩ := h; exact ⟨h1, by omega, h3, by omega⟩
  | carry a i b j => obtain ⟨h1, h2, h3, h4⟩ := h; exact ⟨h1, by omega, h3, by omega⟩
  | cut k => obtain ⟨h1, h2⟩ := h; exact ⟨by omega, by omega⟩
  | turn a k => obtain ⟨h1, h2⟩ := h; exact ⟨h1, by omega⟩
  | over => exact True.intro
  | face a i => obtain ⟨h1, h2⟩ := h; exact ⟨h1, by omega⟩
/-- what is drawn from a list -/
theorem pickD {ds : List D} {p : D → Prop} (h : ∀ d, d ∈ ds → p d) (i : Nat) (d : D) (e : ds[i]? = some d) : p d := h d (List.mem_of_getElem? e)
theorem all2 {a b : D} {p : D → Prop} (h1 : p a) (h2 : p b) : ∀ d, d ∈ [a, b] → p d := fun d m => by
  rcases List.mem_cons.mp m with rfl | m
  · exact h1
  · exact List.mem_singleton.mp m ▸ h2
theorem all3 {a b c : D} {p : D → Prop} (h1 : p a) (h2 : p b) (h3 : p c) : ∀ d, d ∈ [a, b, c] → p d := fun d m => by
  rcases List.mem_cons.mp m with rfl | m
  · exact h1
  · exact all2 h2 h3 d m
section
variable {P : Program} {w : World} {K : PySem.W.Frag} {mg : Str → Option Value} {base : Heap}
abbrev S_pull : Sd := fun bs ds Pq => ∃ (b l : Addr) (n : Int), bs = [(b, l)] ∧ ds = [.oth (.ref b), .int n] ∧ 0 < n ∧ n < 1000000000000000000000000000000000000000000 ∧ ∀ r : Int, 0 ≤ r → r < n → Pq (.ok (.int r))
theorem okd_pull (T : Txt K mg w) : FnOk P w K mg base CX0 1 T.a__law_pull T.d__law_pull P__law_pull (spD K S_pull) :=
  FnOk.weak (ok__law_pull T) fun vs H Q E h => by
    obtain ⟨O, ts, bs, ds, Pq, a, lv, bg, ht, ⟨b, l, n, rfl, rfl, h0, hf, q⟩, q1, q2⟩ := h
    cases a with
    | cons a1 a2 =>
      cases a1
      cases a2 with
      | cons a2 a3 =>
        cases a2
        cases a3
        refine ⟨b, l, n, rfl, (bg _ (List.mem_cons_self ..)).1, h0, Fit.of (by omega) hf, fun r H' r0 r1 hB e => ?_⟩
        refine q1 (.int r) _ H' (q r r0 r1) (fun x o n h _ => e x o (fun z => n (z ▸ List.mem_cons_self ..)) h) (fun p m => ?_) (fun q m => ?_) (fun p m => ?_) (.int r)
        · by_cases z : p = b
          · obtain ⟨cs, i, hh, sd, y⟩ := hB
            rw [z, y.at_]
            exact fun z => nomatch z
          · intro y
            cases e' : H p with
            | none => exact lv p m e'
            | some o => rw [e p o z e'] at y; cases y
        · obtain rfl := List.mem_singleton.mp m
          exact hB
        · obtain ⟨cs, i, hh, sd, y⟩ := (bg _ (List.mem_cons_self ..)).1
          exact (ht p m).but e ⟨_, y.at_⟩
abbrev S_of : Sd := fun bs ds Pq => ∃ (b l : Addr) (xs : List D), bs = [(b, l)] ∧ ds = [.oth (.ref b), .lst xs] ∧ 0 < xs.length ∧ xs.length ≤ 1000 ∧ ∀ (i : Nat) (d : D), xs[i]? = some d → Pq (.ok d)
theorem ok__law_of (T : Txt K mg w) : FnOk P w K mg base CX0 2 T.a__law_of T.d__law_of P__law_of (spD K S_of) := by
  have G__law_pull := okd_pull (P := P) (w := w) (base := base) T
  refine okD T.F__law_of sc__law_of (fun bs ds Pq h => ?_) (fun cdv A outer s H E hr => ⟨_, (pss_one (ps_ret (pe_ix (k_ixL (K := K)) (pv 1) (pe_call G__law_pull (hr.mono (by decide)) (by rfl) T.g__law_pull T.F__law_pull.kp T.b__law_pull .nil pass0 (pa_cons (pv 0) (pa_cons (pe_callB (k_len (K := K)) (by rfl) T.m_len boot_len (pa_cons (pv 1) pa_nil)) pa_nil))) (fun _ _ => rfl)))), ?_⟩)
  · obtain ⟨b, l, xs, _, rfl, _⟩ := h
    rfl
  · rintro C ds Pq hE hX ⟨b, l, xs, hb, rfl, h0, h1, q⟩
    walk_at "dgo"
    intro r r0 r1
    have hi : r.toNat < xs.length := by omega
    have hr : r = (r.toNat : Int) := by omega
    have hx : atI xs r = some xs[r.toNat] := by
      have h := atI_nat (List.getElem?_eq_getElem hi)
      rwa [← hr] at h
    exact ⟨_, hx, q r.toNat _ (List.getElem?_eq_getElem hi)⟩
end
section
variable {P : Program} {w : World} {K : PySem.W.Frag} {mg : Str → Option Value} {base : Heap}
abbrev S_end : Sd := fun bs ds Pq => ∃ (b l : Addr) (d : Int), bs = [(b, l)] ∧ ds = [.oth (.ref b), .int d] ∧ 0 ≤ d ∧ d ≤ 1000 ∧ ∀ a i, 0 ≤ i → i ≤ d → Pq (.ok (epD a i))
theorem ok__law_end (T : Txt K mg w) : FnOk P w K mg base CX0 3 T.a__law_end T.d__law_end P__law_end (spD K S_end) := by
  have G__law_pull := okd_pull (P := P) (w := w) (base := base) T
  have G__law_of := ok__law_of (P := P) (w := w) (base := base) T
  refine okD T.F__law_end sc__law_end (fun bs ds Pq h => ?_) (fun cdv A outer s H E hr => ⟨_, (pss_one (ps_ret (pe_tup (pa_cons (pe_call G__law_of (hr.mono (by decide)) (by rfl) T.g__law_of T.F__law_of.kp T.b__law_of .nil pass0 (pa_cons (pv 0) (pa_cons (pe_lst (pa_cons pe_str (pa_cons pe_str pa_nil))) pa_nil))) (pa_cons (pe_call G__law_pull (hr.mono (by decide)) (by rfl) T.g__law_pull T.F__law_pull.kp T.b__law_pull .nil pass0 (pa_cons (pv 0) (pa_cons (pe_op op_add (pv 1) pe_int) pa_nil))) pa_nil))))), ?_⟩)
  · obtain ⟨b, l, xs, _, rfl, _⟩ := h
    rfl
  · rintro C ds Pq hE hX ⟨b, l, d, hb, rfl, d0, d1, q⟩
    walk_at "dgo"
    refine pickD (all2 ?_ ?_)
    all_goals
      walk_at "dgo"
      intro r r0 r1
      walk_at "dgo"
    · exact q true r r0 (by omega)
    · exact q false r r0 (by omega)
abbrev S_move : Sd := fun bs ds Pq => ∃ (b l : Addr) (d : Int), bs = [(b, l)] ∧ ds = [.oth (.ref b), .int d] ∧ 0 ≤ d ∧ d ≤ 399 ∧ ∀ m, m.within d → Pq (.ok (mvD m))
theorem ok__law_move (T : Txt K mg w) : FnOk P w K mg base CX0 4 T.a__law_move T.d__law_move P__law_move (spD K S_move) := by
  have G__law_pull := okd_pull (P := P) (w := w) (base := base) T
  have G__law_of := ok__law_of (P := P) (w := w) (base := base) T
  have G__law_end := ok__law_end (P := P) (w := w) (base := base) T
  refine okD T.F__law_move sc__law_move (fun bs ds Pq h => ?_) (fun cdv A outer s H E hr => ⟨_, (pss_cons (ps_set (i := 2) sc__law_move.nd rfl (Or.inl rfl) (pe_call G__law_pull (hr.mono (by decide)) (by rfl) T.g__law_pull T.F__law_pull.kp T.b__law_pull .nil pass0 (pa_cons (pv 0) (pa_cons pe_int pa_nil))))
  (pss_cons (ps_if (pt_cmpR op_lt (pv 2) pe_int (nomark _))
  (pss_one (ps_ret (pe_tup (pa_cons (pe_ix (k_ixL (K := K)) (pe_lst (pa_cons pe_str (pa_cons pe_str (pa_cons pe_str pa_nil)))) (pv 2) (fun _ _ => rfl)) (pa_cons (pe_call G__law_end (hr.mono (by decide)) (by rfl) T.g__law_end T.F__law_end.kp T.b__law_end .nil pass0 (pa_cons (pv 0) (pa_cons (pv 1) pa_nil))) (pa_cons (pe_call G__law_end (hr.mono (by decide)) (by rfl) T.g__law_end T.F__law_end.kp T.b__law_end .nil pass0 (pa_cons (pv 0) (pa_cons (pv 1) pa_nil))) pa_nil)))))) pss_nil)
  (pss_cons (ps_if (pt_cmpR op_lt (pv 2) pe_int (nomark _))
  (pss_one (ps_ret (pe_tup (pa_cons pe_str (pa_cons (pe_op op_sub (pe_op op_sub (pe_call G__law_pull (hr.mono (by decide)) (by rfl) T.g__law_pull T.F__law_pull.kp T.b__law_pull .nil pass0 (pa_cons (pv 0) (pa_cons (pe_op op_add (pe_op op_mulW pe_int (pv 1)) pe_int) pa_nil))) (pv 1)) pe_int) pa_nil))))) pss_nil)
  (pss_cons (ps_if (pt_cmpR op_eq (pv 2) pe_int (nomark _))
  (pss_one (ps_ret (pe_tup (pa_cons pe_str (pa_cons (pe_call G__law_of (hr.mono (by decide)) (by rfl) T.g__law_of T.F__law_of.kp T.b__law_of .nil pass0 (pa_cons (pv 0) (pa_cons (pe_lst (pa_cons pe_str (pa_cons pe_str pa_nil))) pa_nil))) (pa_cons (pe_call G__law_pull (hr.mono (by decide)) (by rfl) T.g__law_pull T.F__law_pull.kp T.b__law_pull .nil pass0 (pa_cons (pv 0) (pa_cons (pe_op op_add (pv 1) pe_int) pa_nil))) pa_nil)))))) pss_nil)
  (pss_one (ps_ret (pe_ifExp (pt_cmpR op_eq (pv 2) pe_int (nomark _)) (pe_tup (pa_cons pe_str pa_nil)) (pe_tup (pa_cons pe_str (pa_cons (pe_call G__law_end (hr.mono (by decide)) (by rfl) T.g__law_end T.F__law_end.kp T.b__law_end .nil pass0 (pa_cons (pv 0) (pa_cons (pv 1) pa_nil))) pa_nil)))))))))), ?_⟩)
  · obtain ⟨b, l, xs, _, rfl, _⟩ := h
    rfl
  · rintro C ds Pq hE hX ⟨b, l, d, hb, rfl, d0, d1, q⟩
    walk_at "dgo"
    intro r r0 r1
    walk_at "dgo"
    refine iteD (fun h1 => ?_) (fun h1 => ?_)
    · walk_at "dgo"
      have e : r = 0 ∨ r = 1 ∨ r = 2 := by omega
      rcases e with rfl | rfl | rfl
      all_goals
        refine ⟨_, rfl, ?_⟩
        walk_at "dgo"
        intro a1 i1 i10 i11
        walk_at "dgo"
        intro a2 i2 i20 i21
        walk_at "dgo"
      · exact q (.swap a1 i1 a2 i2) ⟨i10, i11, i20, i21⟩
      · exact q (.carry a1 i1 a2 i2) ⟨i10, i11, i20, i21⟩
      · exact q (.carry a1 i1 a2 i2) ⟨i10, i11, i20, i21⟩
    · walk_at "dgo"
      refine iteD (fun h2 => ?_) (fun h2 => ?_)
      · walk_at "dgo"
        intro r2 r20 r21
        walk_at "dgo"
        exact q (.cut (r2 - d - 1)) ⟨by omega, by omega⟩
      · walk_at "dgo"
        refine iteE (fun h3 => ?_) (fun h3 => ?_)
        · walk_at "dgo"
          refine pickD (all2 ?_ ?_)
          all_goals
            walk_at "dgo"
            intro r2 r20 r21
            walk_at "dgo"
          · exact q (.turn true r2) ⟨r20, by omega⟩
          · exact q (.turn false r2) ⟨r20, by omega⟩
        · walk_at "dgo"
          refine iteE (fun h4 => ?_) (fun h4 => ?_)
          · walk_at "dgo"
            exact q .over True.intro
          · walk_at "dgo"
            intro a1 i1 i10 i11
            walk_at "dgo"
            exact q (.face a1 i1) ⟨i10, i11⟩
end
/-! ### the law's comparison -/
/-- equal data, at most d deep -/
inductive Sm (K : PySem.W.Frag) (H : Hp) : Nat → V → V → Prop where
  | int (d : Nat) (i : Int) : Sm K H d (.int i) (.int i)
  | str (d : Nat) (z : Str) : Sm K H d (.str z) (.str z)
  | bl (d : Nat) (b : Bool) : Sm K H d (.bl b) (.bl b)
  | non (d : Nat) : Sm K H d .non .non
  | lst {d : Nat} {a b : Addr} {xs ys : List V} (hx : SqL K H a xs) (hy : SqL K H b ys) (hl : xs.length = ys.length) (hz : xs.length < 1000) (h : ∀ (i : Nat) (x y : V), xs[i]? = some x → ys[i]? = some y → Sm K H d x y) : Sm K H (d + 1) (.ref a) (.ref b)
  | tup {d : Nat} {a b : Addr} {xs ys : List V} (hx : SqT K H a xs) (hy : SqT K H b ys) (hl : xs.length = ys.length) (hz : xs.length < 1000) (h : ∀ (i : Nat) (x y : V), xs[i]? = some x → ys[i]? = some y → Sm K H d x y) : Sm K H (d + 1) (.ref a) (.ref b)
theorem Sm.same {K : PySem.W.Frag} {H H' : Hp} {d : Nat} {x y : V} (h : Sm K H d x y) (e : Same H H') : Sm K H' d x y := by
  induction h with
  | int d i => exact .int d i
  | str d z => exact .str d z
  | bl d b => exact .bl d b
  | non d => exact .non d
  | lst hx hy hl hz _ ih => exact .lst (e.seq hx) (e.seq hy) hl hz ih
  | tup hx hy hl hz _ ih => exact .tup (Same.tup e hx) (Same.tup e hy) hl hz ih
def sp_same (K : PySem.W.Frag) (d : Nat) : Sp := fun vs H Q _ => ∃ x y : V, vs = [x, y] ∧ Sm K H d x y ∧ ∀ H', Same H H' → Q (.bl true) H'
theorem all_true (n : Nat) : (List.replicate n true).all id = true := by
  rw [List.all_eq_true]
  intro b hb
  exact (List.mem_replicate.mp hb).2
section
variable {P : Program} {w : World} {K : PySem.W.Frag} {mg : Str → Option Value} {base : Heap}
theorem ok_same_step (T : Txt K mg w) {k : Nat} {spr : Sp} (G__law_same : FnOk P w K mg base CX0 k T.a__law_same T.d__law_same P__law_same spr) (d : Nat) (hspr : ∀ e, d = e + 1 → ∀ x y H (Q : VK) E, Sm K H e x y → (∀ H', Same H H' → Q (.bl true) H') → spr [x, y] H Q E) :
    FnOk P w K mg base CX0 (k + 1) T.a__law_same T.d__law_same P__law_same (sp_same K d) := by
  refine T.F__law_same.ok sc__law_same (fun vs H Q E h => ?_) (fun cdv A outer s H vs Q E hr h => ?_)
  · obtain ⟨x, y, rfl, _⟩ := h
    rfl
  · obtain ⟨x, y, rfl, hS, q⟩ := h
    refine ⟨_, (pss_cons (ps_if (PW.pt (pw_or (pt_val (pe_callB (k_isi (K := K)) (by rfl) T.m_isinstance boot_isinstance (pa_cons (pv 1) (pa_cons (pe_bltn (v := .ty "list") (by rfl) T.m_list boot_list rfl) pa_nil)))) (pw_or1 (pt_val (pe_callB (k_isi (K := K)) (by rfl) T.m_isinstance boot_isinstance (pa_cons (pv 1) (pa_cons (pe_bltn (v := .ty "tuple") (by rfl) T.m_tuple boot_tuple rfl) pa_nil)))))))
  (pss_cons (ps_if (PW.pt (pw_or (pt_cmpR op_ne (pe_callB (k_isi (K := K)) (by rfl) T.m_isinstance boot_isinstance (pa_cons (pv 0) (pa_cons (pe_bltn (v := .ty "list") (by rfl) T.m_list boot_list rfl) pa_nil))) (pe_callB (k_isi (K := K)) (by rfl) T.m_isinstance boot_isinstance (pa_cons (pv 1) (pa_cons (pe_bltn (v := .ty "list") (by rfl) T.m_list boot_list rfl) pa_nil))) (nomark _)) (pw_or1 (pt_cmpR op_ne (pe_callB (k_isi (K := K)) (by rfl) T.m_isinstance boot_isinstance (pa_cons (pv 0) (pa_cons (pe_bltn (v := .ty "tuple") (by rfl) T.m_tuple boot_tuple rfl) pa_nil))) (pe_callB (k_isi (K := K)) (by rfl) T.m_isinstance boot_isinstance (pa_cons (pv 1) (pa_cons (pe_bltn (v := .ty "tuple") (by rfl) T.m_tuple boot_tuple rfl) pa_nil))) (nomark _)))))
  (pss_one (ps_ret pe_bl)) pss_nil)
  (pss_one (ps_ret (pe_and (pe_cmpR op_eq (pe_callB (k_len (K := K)) (by rfl) T.m_len boot_len (pa_cons (pv 0) pa_nil)) (pe_callB (k_len (K := K)) (by rfl) T.m_len boot_len (pa_cons (pv 1) pa_nil)) (nomark _)) (pe_one (pe_callB (k_all (K := K)) (by rfl) T.m_all boot_all (pa_cons (pe_lc (own := [("_law_one", 2), ("_law_other", 3)]) rfl sc__law_same.nd (k_zip (K := K) (pa_cons (pv 0) (pa_cons (pv 1) pa_nil)) T.m_zip) (blkOk_by (N := N__law_same) (sc := defScope s__law_same) (by decide +kernel)) (fun _ _ _ _ _ => (k_gT (K := K) (n := 2) (pgs_cons (pg_name (i := 2) sc__law_same.nd rfl (Or.inl rfl)) (pgs_cons (pg_name (i := 3) sc__law_same.nd rfl (Or.inl rfl)) pgs_nil)))) (fun _ _ _ _ _ => pts_nil) (fun _ _ _ _ _ => (pe_call G__law_same hr (by rfl) T.g__law_same T.F__law_same.kp T.b__law_same .nil pass0 (pa_cons (pv 2) (pa_cons (pv 3) pa_nil))))) pa_nil))))))) pss_nil)
  (pss_cons (ps_if (pt_val (pe_callB (k_isi (K := K)) (by rfl) T.m_isinstance boot_isinstance (pa_cons (pv 1) (pa_cons (pe_bltn (v := .ty "dict") (by rfl) T.m_dict boot_dict rfl) pa_nil))))
  (pss_one ps_never) pss_nil)
  (pss_cons (ps_if (PW.pt (pw_or (pt_cmpR op_isN (pv 1) pe_non (nomark _)) (pw_or1 (pt_cmpR op_isN (pv 0) pe_non (nomark _)))))
  (pss_one (ps_ret (pe_and (pe_cmpR op_isN (pv 1) pe_non (nomark _)) (pe_one (pe_cmpR op_isN (pv 0) pe_non (nomark _)))))) pss_nil)
  (pss_cons (ps_if (PW.pt (pw_or (pt_cmpR op_ne (pe_callB (k_isi (K := K)) (by rfl) T.m_isinstance boot_isinstance (pa_cons (pv 0) (pa_cons (pe_bltn (v := .ty "bool") (by rfl) T.m_bool boot_bool rfl) pa_nil))) (pe_callB (k_isi (K := K)) (by rfl) T.m_isinstance boot_isinstance (pa_cons (pv 1) (pa_cons (pe_bltn (v := .ty "bool") (by rfl) T.m_bool boot_bool rfl) pa_nil))) (nomark _)) (pw_or1 (pt_cmpR op_ne (pe_callB (k_isi (K := K)) (by rfl) T.m_isinstance boot_isinstance (pa_cons (pv 0) (pa_cons (pe_bltn (v := .ty "int") (by rfl) T.m_int boot_int rfl) pa_nil))) (pe_callB (k_isi (K := K)) (by rfl) T.m_isinstance boot_isinstance (pa_cons (pv 1) (pa_cons (pe_bltn (v := .ty "int") (by rfl) T.m_int boot_int rfl) pa_nil))) (nomark _)))))
  (pss_one (ps_ret pe_bl)) pss_nil)
  (pss_one (ps_ret (pe_and (pe_cmpR op_eq (pe_callB (k_isi (K := K)) (by rfl) T.m_isinstance boot_isinstance (pa_cons (pv 0) (pa_cons (pe_bltn (v := .ty "str") (by rfl) T.m_str boot_str rfl) pa_nil))) (pe_callB (k_isi (K := K)) (by rfl) T.m_isinstance boot_isinstance (pa_cons (pv 1) (pa_cons (pe_bltn (v := .ty "str") (by rfl) T.m_str boot_str rfl) pa_nil))) (nomark _)) (pe_one (pe_cmpR op_eq (pv 0) (pv 1) (nomark _)))))))))), ?_⟩
    cases hS with
    | int _ i =>
      have tx : TyX K H (.int i) (.type "int") := .base (.int i)
      walk_at "same"
      show Q (V.bl (decide (V.int i = V.int i))) H
      rw [decide_eq_true rfl]
      exact q H (Same.refl H)
    | str _ z =>
      have tx : TyX K H (.str z) (.type "str") := .base (.str z)
      walk_at "same"
      show Q (V.bl (decide (V.str z = V.str z))) H
      rw [decide_eq_true rfl]
      exact q H (Same.refl H)
    | bl _ b =>
      have tx : TyX K H (.bl b) (.type "bool") := .base (.bl b)
      walk_at "same"
      show Q (V.bl (decide (V.bl b = V.bl b))) H
      rw [decide_eq_true rfl]
      exact q H (Same.refl H)
    | non =>
      have tx : TyX K H .non (.type "NoneType") := .base .non
      walk_at "same"
      exact q H (Same.refl H)
    | @lst _ a b xs ys hx hy hl hz hh =>
      have tx := tyL hx
      have ty := tyL hy
      walk_at "same"
      refine iteE (fun _ => ?_) (fun e => absurd (by rw [hl]) e)
      refine ⟨.ref a, rfl, .ref b, rfl, a, b, xs, ys, rfl, .inl ⟨hx, hy, fun D hD => ?_⟩⟩
      have s0 : Same H (upd H D (.lst [])) := same_new hD
      refine lc_by (n := xs.length) (fun i H' => Same H H' ∧ H' D = some (.lst ((List.replicate i true).map V.bl))) ⟨s0, upd_same⟩
        (fun i H' hi hp => ⟨xs, ys, xs[i], ys[i]'(hl ▸ hi), hp.1.seq hx, hp.1.seq hy, List.getElem?_eq_getElem hi, List.getElem?_eq_getElem (hl ▸ hi)⟩)
        (fun H' hp => ⟨xs, ys, hp.1.seq hx, hp.1.seq hy, .inl (Nat.le_refl _)⟩) (fun i H' v H2 hi hp hv => ?_) (fun H' hp => ?_)
      · obtain ⟨t, x, y, rfl, nt, rfl, f1, f2⟩ := hv
        obtain ⟨hp1, hp2⟩ := hp
        have gx := f1 xs (hp1.seq hx)
        have gy := f2 ys (hp1.seq hy)
        have s2 : Same H (upd H' t (.tup [x, y])) := Same.new hp1 nt
        refine ⟨t, [x, y], rfl, .inl (.inl upd_same), rfl, x, [y], rfl, y, [], rfl, rfl, rfl, x, rfl, y, rfl, ?_⟩
        refine hspr _ rfl x y _ _ _ ((hh i x y gx gy).same s2) fun H3 s3 => ⟨_, s3 _ _ (same_new nt _ _ hp2), ?_, Same.mut (s2.trans s3) hD, ?_⟩
        · rw [List.length_map, List.length_replicate]
          exact lt_line (by omega)
        · rw [upd_same, List.replicate_succ']
          simp
      · refine ⟨D, _, rfl, .inl (.inl hp.2), ?_⟩
        rw [all_true]
        exact q H' hp.1
    | @tup _ a b xs ys hx hy hl hz hh =>
      have tx := tyT hx
      have ty := tyT hy
      walk_at "same"
      refine iteE (fun _ => ?_) (fun e => absurd (by rw [hl]) e)
      refine ⟨.ref a, rfl, .ref b, rfl, a, b, xs, ys, rfl, .inr ⟨hx, hy, fun D hD => ?_⟩⟩
      have s0 : Same H (upd H D (.lst [])) := same_new hD
      refine lc_by (n := xs.length) (fun i H' => Same H H' ∧ H' D = some (.lst ((List.replicate i true).map V.bl))) ⟨s0, upd_same⟩
        (fun i H' hi hp => ⟨xs, ys, xs[i], ys[i]'(hl ▸ hi), Same.tup hp.1 hx, Same.tup hp.1 hy, List.getElem?_eq_getElem hi, List.getElem?_eq_getElem (hl ▸ hi)⟩)
        (fun H' hp => ⟨xs, ys, Same.tup hp.1 hx, Same.tup hp.1 hy, .inl (Nat.le_refl _)⟩) (fun i H' v H2 hi hp hv => ?_) (fun H' hp => ?_)
      · obtain ⟨t, x, y, rfl, nt, rfl, f1, f2⟩ := hv
        obtain ⟨hp1, hp2⟩ := hp
        have gx := f1 xs (Same.tup hp1 hx)
        have gy := f2 ys (Same.tup hp1 hy)
        have s2 : Same H (upd H' t (.tup [x, y])) := Same.new hp1 nt
        refine ⟨t, [x, y], rfl, .inl (.inl upd_same), rfl, x, [y], rfl, y, [], rfl, rfl, rfl, x, rfl, y, rfl, ?_⟩
        refine hspr _ rfl x y _ _ _ ((hh i x y gx gy).same s2) fun H3 s3 => ⟨_, s3 _ _ (same_new nt _ _ hp2), ?_, Same.mut (s2.trans s3) hD, ?_⟩
        · rw [List.length_map, List.length_replicate]
          exact lt_line (by omega)
        · rw [upd_same, List.replicate_succ']
          simp
      · refine ⟨D, _, rfl, .inl (.inl hp.2), ?_⟩
        rw [all_true]
        exact q H' hp.1
theorem ok_same (T : Txt K mg w) (d : Nat) : FnOk P w K mg base CX0 (d + 1) T.a__law_same T.d__law_same P__law_same (sp_same K d) := by
  induction d with
  | zero =>
    have z : FnOk P w K mg base CX0 0 T.a__law_same T.d__law_same P__law_same (fun _ _ _ _ => False) := ⟨fun _ _ _ _ h => h.elim, fun _ _ _ _ _ _ _ _ _ _ _ _ _ h => h.elim⟩
    exact ok_same_step T z 0 fun e h => nomatch h
  | succ d ih => exact ok_same_step T ih (d + 1) fun e he x y H Q E h q => ⟨x, y, rfl, (Nat.succ.inj he) ▸ h, q⟩
end
/-! ### the law's sameness, by data -/
/-- equal data, at most n deep -/
def smD : Nat → D → Prop
  | _, .int _ => True
  | _, .str _ => True
  | _, .bl _ => True
  | _, .non => True
  | n + 1, .tup l => l.length < 1000 ∧ ∀ d, d ∈ l → smD n d
  | n + 1, .lst l => l.length < 1000 ∧ ∀ d, d ∈ l → smD n d
  | _, _ => False
theorem sm_of {K : PySem.W.Frag} {O : Ads} {H : Hp} : ∀ {n : Nat} {d : D} {x y : V}, smD n d → At K O H x d → At K O H y d → Sm K H n x y := by
  intro n
  induction n with
  | zero =>
    intro d x y h a b
    cases a with
    | int i => cases b; exact .int _ _
    | str i => cases b; exact .str _ _
    | bl i => cases b; exact .bl _ _
    | non => cases b; exact .non _
    | _ => exact h.elim
  | succ n ih =>
    intro d x y h a b
    have both : ∀ {xs ys : List V} {ds : List D}, (∀ d, d ∈ ds → smD n d) → AtAll K O H xs ds → AtAll K O H ys ds → ∀ (i : Nat) (x y : V), xs[i]? = some x → ys[i]? = some y → Sm K H n x y := fun h a b i x y e1 e2 => by
      obtain ⟨d, g1, g2⟩ := a.get e1
      obtain ⟨d', g3, g4⟩ := b.get e2
      obtain rfl := Option.some.inj (g1.symm.trans g3)
      exact ih (h _ (List.mem_of_getElem? g1)) g2 g4
    cases a with
    | int i => cases b; exact .int _ _
    | str i => cases b; exact .str _ _
    | bl i => cases b; exact .bl _ _
    | non => cases b; exact .non _
    | tup h1 _ h3 =>
      cases b with
      | tup g1 _ g3 => exact .tup h1 g1 (h3.length.trans g3.length.symm) (h3.length ▸ h.1) (both h.2 h3 g3)
    | lst h1 _ h3 =>
      cases b with
      | lst g1 _ g3 => exact .lst (SqL.of h1) (SqL.of g1) (h3.length.trans g3.length.symm) (h3.length ▸ h.1) (both h.2 h3 g3)
    | ins _ _ _ => exact h.elim
    | oth _ => exact h.elim
    | fn _ => exact h.elim
    | any _ => exact h.elim
section
variable {P : Program} {w : World} {K : PySem.W.Frag} {mg : Str → Option Value} {base : Heap}
abbrev S_same (n : Nat) : Sd := fun _ ds Pq => as2 ds fun d e => d = e ∧ smD n d ∧ Pq (.ok (.bl true))
theorem okd_same {k : Nat} {n : Nat} {f : Addr} {fd : FuncData} {ps : List Str} (F : FnOk P w K mg base CX0 k f fd ps (sp_same K n)) : FnOk P w K mg base CX0 k f fd ps (spD K (S_same n)) :=
  FnOk.weak F fun vs H Q E h => by
    obtain ⟨O, ts, bs, ds, Pq, a, lv, bg, ht, h, q1, q2⟩ := h
    obtain ⟨v, v', d, e, rfl, a1, a2, rfl, hs, q⟩ := all_2 a h
    refine ⟨v, v', rfl, sm_of hs a1 a2, fun H' s => ?_⟩
    exact q1 (.bl true) _ H' q (Fr.of s) (fun p m y => by
      cases e' : H p with
      | none => exact lv p m e'
      | some o => rw [s p o e'] at y; cases y) (fun q m => (bg q m).1.same s) (fun p m => (ht p m).ext s) (.bl _)
end
theorem sm_img (n : Nat) (r : Int × Bool) : smD (n + 1) (imgD r) := ⟨show 2 < 1000 from Nat.le_of_ble_eq_true rfl, all2 (by cases n <;> exact True.intro) (by cases n <;> exact True.intro)⟩
theorem smD_str (n : Nat) (z : Str) : smD n (.str z) := by cases n <;> exact True.intro
theorem smD_int (n : Nat) (z : Int) : smD n (.int z) := by cases n <;> exact True.intro
theorem sm_tup {n : Nat} {l : List D} (h1 : l.length < 1000) (h : ∀ d, d ∈ l → smD n d) : smD (n + 1) (.tup l) := ⟨h1, h⟩
theorem sm_lst {n : Nat} {l : List D} (h1 : l.length < 1000) (h : ∀ d, d ∈ l → smD n d) : smD (n + 1) (.lst l) := ⟨h1, h⟩
end Z
namespace Z
open PySem PySem.Spec PyProof.Rows L2
-- what stands at an address
local macro_rules | `(tactic| walk_at "hp") => `(tactic| first | assumption | exact upd_same | exact BagAt.at_ (by assumption) | exact BagAt.cells (by assumption) | fail "hp")
local macro_rules | `(tactic| walk_at "sq") => `(tactic| first | assumption | (refine Or.inl (Or.inl ?_); walk_at "hp") | (apply Same.seq <;> assumption))
-- bounds
local macro_rules | `(tactic| walk_at "num") => `(tactic| first
  | exact rfl | decide | exact le_line (Nat.le_of_ble_eq_true rfl) | exact lt_line (Nat.le_of_ble_eq_true rfl)
  | (exact mul_ok (small_abs (by omega)) (small_abs (by omega)))
  | (exact div_small (by omega) (by omega))
  | (exact div_ok (by omega) (by assumption))
  | (refine ⟨?_, ?_⟩ <;> omega) | omega
  | (show (_ : Int) ≠ 0; omega) | (show CPow _ _; unfold CPow; decide))
-- one step
local macro_rules | `(tactic| walk_at "rd") => `(tactic| first
  | (refine Exists.intro _ (And.intro rfl ?_))
  | (refine Exists.intro _ (Exists.intro _ (And.intro rfl (And.intro rfl ?_))))
  | (refine Or.inl (Exists.intro _ (And.intro rfl ?_)))
  | (refine Or.inr (Exists.intro _ (And.intro rfl ?_)))
  | (with_reducible refine iteF ?_) | (with_reducible refine iteT ?_)
  | (refine And.intro ?cc ?_; (case cc => walk_at "num"))
  | (refine' Exists.intro _ (Exists.intro _ (Exists.intro _ (Exists.intro _ (And.intro rfl (And.intro rfl (And.intro ?sq (And.intro ?ha ?k))))))); (case sq => walk_at "sq"); (case ha => first | exact rfl | assumption | exact at_zero))
  | (refine' Exists.intro _ (Exists.intro _ (And.intro rfl (And.intro (Or.inl ?sq) ?k))); (case sq => walk_at "sq")))
local macro_rules | `(tactic| walk_at "sqt") => `(tactic| first | assumption | (refine Or.inl (Or.inl ?_); walk_at "hp") | (apply Same.tup <;> assumption))
local macro_rules | `(tactic| walk_at "rdt") => `(tactic| first
  | walk_at "rd"
  | (refine' Exists.intro _ (Exists.intro _ (And.intro rfl (And.intro (Or.inr ?sq) ?k))); (case sq => walk_at "sqt"))
  | (refine' Exists.intro _ (Exists.intro _ (Exists.intro _ (Exists.intro _ (And.intro rfl (And.intro rfl (And.intro ?sq (And.intro ?ha ?k))))))); (case sq => walk_at "sqt"); (case ha => first | exact rfl | assumption | exact at_zero))
  | (refine iteF ?_) | (refine iteT ?_))
local macro_rules | `(tactic| walk_at "rds") => `(tactic| repeat walk_at "rdt")
local macro_rules | `(tactic| walk_at "pull") => `(tactic| (refine' Exists.intro _ (Exists.intro _ (Exists.intro _ (And.intro rfl (And.intro ?bag (And.intro ?pos (And.intro ?fit ?kk)))))); (case bag => assumption); (case pos => first | decide | omega); (case fit => exact Fit.of (by first | decide | omega) (by first | decide | omega))))
local macro_rules | `(tactic| walk_at "two") => `(tactic| refine Exists.intro _ (Exists.intro _ (And.intro rfl ?_)))
/-! ### steps by data -/
local macro_rules | `(tactic| walk_at "side") => `(tactic| first
  | exact rfl | assumption | exact Nat.le_of_ble_eq_true rfl | decide | exact True.intro | exact le_line (Nat.le_of_ble_eq_true rfl) | exact lt_line (Nat.le_of_ble_eq_true rfl) | omega | (show (_ : Int) ≠ 0; omega) | exact cut1_ok | (unfold CPow; decide) | exact mul_ok (small_abs (by omega)) (small_abs (by omega)) | exact div_small (by omega) (by omega))
local macro_rules | `(tactic| walk_at "dR") => `(tactic| first
  | with_reducible refine run_seq ?_ | with_reducible refine run_if ?_ | with_reducible refine run_set ?_ | with_reducible refine run_ret ?_ | with_reducible refine run_next ?_
  | with_reducible refine run_asg ?_ | with_reducible refine run_for ?_ | ((with_reducible refine' run_append ?ev ?kk); (case ev => exact rfl)) | ((with_reducible refine' run_aug ?ev ?kk); (case ev => exact rfl))
  | with_reducible refine run_par ?_ | with_reducible refine run_drop ?_ | with_reducible refine run_retN ?_ | with_reducible refine run_break ?_ | with_reducible refine run_cont ?_)
local macro_rules | `(tactic| walk_at "dE") => `(tactic| first
  | ((with_reducible refine' ev_var ?ev ?kk); (case ev => exact rfl))
  | with_reducible refine ev_op ?_ | with_reducible refine ev_int ?_ | with_reducible refine ev_str ?_ | with_reducible refine ev_callC (by assumption) ?_ | with_reducible refine ev_callX (by assumption) ?_ | with_reducible refine ev_call ?_ | with_reducible refine ev_cb ?_ | with_reducible refine ev_tup ?_
  | with_reducible refine ev_if ?_ | with_reducible refine ev_and ?_ | with_reducible refine ev_or ?_ | with_reducible refine ev_not ?_ | with_reducible refine ev_bl ?_ | with_reducible refine ev_non ?_ | with_reducible refine ev_isi ?_
  | with_reducible refine ev_un ?_ | with_reducible refine ev_chain ?_ | with_reducible refine ev_lst ?_ | with_reducible refine ev_cbf ?_ | with_reducible refine ev_sl ?_ | with_reducible refine ev_m1 ?_ | with_reducible refine ev_kget ?_ | with_reducible refine ev_fmt ?_ | with_reducible refine ev_join ?_ | with_reducible refine ev_ty ?_ | with_reducible refine ev_cV ?_)
local macro_rules | `(tactic| walk_at "dT") => `(tactic| first
  | with_reducible refine evt_t ?_ | with_reducible refine evt_b ?_ | with_reducible refine evt_and ?_ | with_reducible refine evt_or ?_ | with_reducible refine evt_not ?_ | with_reducible refine evt_yes ?_)
local macro_rules | `(tactic| walk_at "dX") => `(tactic| first
  | ((with_reducible refine' evx_name ?ev ?kk); (case ev => first | exact rfl | assumption)) | with_reducible refine evx_tup ?_ | with_reducible refine evx_lst ?_ | with_reducible refine evxs_cons ?_ | with_reducible refine evxs_nil ?_
  | ((with_reducible refine' evg_name ?ev ?mm ?kk); (case ev => first | exact rfl | assumption); (case mm => decide)) | with_reducible refine evg_tup ?_ | with_reducible refine evg_lst ?_ | with_reducible refine evgs_cons ?_ | with_reducible refine evgs_nil ?_
  | with_reducible refine evi_list ?_ | with_reducible refine evi_tup ?_ | with_reducible refine evi_rng1 ?_ | with_reducible refine evi_rng2 ?_ | with_reducible refine evi_enum ?_ | with_reducible refine evi_zip ?_
  | with_reducible refine evo_none ?_ | with_reducible refine evo_some ?_ | with_reducible refine evj_cons ?_ | with_reducible refine evj_nil ?_)
local macro_rules | `(tactic| walk_at "d1") => `(tactic| first
  | ((with_reducible change Ev _ _ _ _ _); walk_at "dE")
  | ((with_reducible change Run _ _ _ _ _); walk_at "dR")
  | with_reducible refine eva_cons ?_ | with_reducible refine eva_nil ?_
  | ((with_reducible change EvT _ _ _ _ _); walk_at "dT")
  | with_reducible refine eva_star ?_
  | with_reducible refine iteT ?_ | with_reducible refine iteF ?_
  | ((with_reducible change if (_ : Bool) = true then _ else _); first | refine iteT ?_ | refine iteF ?_)
  | ((with_reducible refine And.intro ?cc ?_); (case cc => walk_at "side"))
  | ((with_reducible refine' Exists.intro _ (And.intro ?cc ?kk)); (case cc => first | exact rfl | exact at_zero))
  | ((with_reducible refine' Exists.intro _ (Exists.intro _ (And.intro ?cc ?kk))); (case cc => exact rfl))
  | ((with_reducible refine' Exists.intro _ (Exists.intro _ (Exists.intro _ (And.intro ?cc (And.intro ?cd ?kk))))); (case cc => exact rfl); (case cd => exact rfl))
  | ((with_reducible refine' Exists.intro _ (Exists.intro _ (Exists.intro _ (And.intro ?cc ?kk)))); (case cc => exact rfl))
  | ((with_reducible refine' Exists.intro _ (Exists.intro _ (Exists.intro _ (Exists.intro _ (And.intro ?cc ?kk))))); (case cc => exact rfl))
  | walk_at "dX")
local macro_rules | `(tactic| walk_at "d2") => `(tactic| walk_at "d1")
local macro_rules | `(tactic| walk_at "dgo") => `(tactic| repeat walk_at "d1")
local macro_rules | `(tactic| walk_at "wk") => `(tactic| repeat first | exact True.intro | refine And.intro (Or.inl rfl) ?_ | refine And.intro (Or.inr (And.intro rfl rfl)) ?_)
/-! ### steps by data -/
local macro_rules | `(tactic| walk_at "side") => `(tactic| first
  | exact rfl | with_reducible assumption | exact Nat.le_of_ble_eq_true rfl | decide | exact True.intro | exact le_line (Nat.le_of_ble_eq_true rfl) | exact lt_line (Nat.le_of_ble_eq_true rfl) | omega | (show (_ : Int) ≠ 0; omega) | exact cut1_ok | (unfold CPow; decide) | exact mul_ok (small_abs (by omega)) (small_abs (by omega)) | exact div_small (by omega) (by omega) | assumption)
local macro_rules | `(tactic| walk_at "dR") => `(tactic| first
  | with_reducible refine run_ownNil ?_ | with_reducible refine run_ownL ?_ | ((with_reducible refine' run_extend ?ev ?kk); (case ev => exact rfl))
  | ((with_reducible refine' run_fld ?c ?n ?e ?kk); (case c => assumption); (case n => assumption); (case e => exact rfl))
  | ((with_reducible refine' run_retO ?ev ?kk); (case ev => exact rfl)) | ((with_reducible refine' run_setix ?ev ?kk); (case ev => exact rfl)) | ((with_reducible refine' run_popAt ?ev ?kk); (case ev => exact rfl)) | ((with_reducible refine' run_insert ?ev ?kk); (case ev => exact rfl)) | with_reducible refine run_parL ?_ | with_reducible refine run_ownRep ?_
  | with_reducible refine run_seq ?_ | with_reducible refine run_if ?_ | with_reducible refine run_set ?_ | with_reducible refine run_ret ?_ | with_reducible refine run_next ?_
  | with_reducible refine run_asg ?_ | with_reducible refine run_for ?_ | ((with_reducible refine' run_append ?ev ?kk); (case ev => exact rfl)) | ((with_reducible refine' run_aug ?ev ?kk); (case ev => exact rfl))
  | with_reducible refine run_par ?_ | with_reducible refine run_drop ?_ | with_reducible refine run_retN ?_ | with_reducible refine run_break ?_ | with_reducible refine run_cont ?_)
local macro_rules | `(tactic| walk_at "dE") => `(tactic| first
  | ((with_reducible refine' ev_var ?ev ?kk); (case ev => exact rfl))
  | with_reducible refine ev_lenOwn ?_
  | ((with_reducible refine' ev_fldO ?ev ?dd ?kk); (case ev => exact rfl); (case dd => exact rfl)) | with_reducible refine ev_fld ?_ | with_reducible refine ev_methX (by assumption) ?_ | with_reducible refine ev_meth ?_ | with_reducible refine ev_prop ?_ | with_reducible refine ev_makeX (by assumption) ?_ | with_reducible refine ev_make ?_ | with_reducible refine ev_ownX (by assumption) ?_ | with_reducible refine ev_own ?_ | ((with_reducible refine' ev_isiOwn ?o ?kk); (case o => assumption))
  | ((with_reducible refine' ev_ixO ?ev ?kk); (case ev => exact rfl)) | with_reducible refine ev_rev ?_ | with_reducible refine ev_op ?_ | with_reducible refine ev_int ?_ | with_reducible refine ev_str ?_ | with_reducible refine ev_callKX (by assumption) ?_ | with_reducible refine ev_callK ?_ | with_reducible refine ev_callC (by assumption) ?_ | with_reducible refine ev_callX (by assumption) ?_ | with_reducible refine ev_call ?_ | with_reducible refine ev_cb ?_ | with_reducible refine ev_tup ?_
  | with_reducible refine ev_if ?_ | with_reducible refine ev_and ?_ | with_reducible refine ev_or ?_ | with_reducible refine ev_not ?_ | with_reducible refine ev_bl ?_ | with_reducible refine ev_non ?_ | with_reducible refine ev_isi ?_
  | with_reducible refine ev_un ?_ | with_reducible refine ev_chain ?_ | with_reducible refine ev_lst ?_ | with_reducible refine ev_cbf ?_ | with_reducible refine ev_sl ?_ | with_reducible refine ev_m1 ?_ | with_reducible refine ev_kget ?_ | with_reducible refine ev_fmt ?_ | with_reducible refine ev_join ?_ | with_reducible refine ev_ty ?_ | with_reducible refine ev_cV ?_)
local macro_rules | `(tactic| walk_at "dT") => `(tactic| first
  | with_reducible refine evt_t ?_ | with_reducible refine evt_b ?_ | with_reducible refine evt_and ?_ | with_reducible refine evt_or ?_ | with_reducible refine evt_not ?_ | with_reducible refine evt_yes ?_)
local macro_rules | `(tactic| walk_at "dX") => `(tactic| first
  | ((with_reducible refine' evx_name ?ev ?kk); (case ev => first | exact rfl | assumption)) | with_reducible refine evx_tup ?_ | with_reducible refine evx_lst ?_ | with_reducible refine evxs_cons ?_ | with_reducible refine evxs_nil ?_
  | ((with_reducible refine' evg_name ?ev ?mm ?kk); (case ev => first | exact rfl | assumption); (case mm => decide)) | with_reducible refine evg_tup ?_ | with_reducible refine evg_lst ?_ | with_reducible refine evgs_cons ?_ | with_reducible refine evgs_nil ?_
  | with_reducible refine evi_list ?_ | with_reducible refine evi_tup ?_ | with_reducible refine evi_rng1 ?_ | with_reducible refine evi_rng2 ?_ | with_reducible refine evi_enum ?_ | with_reducible refine evi_zip ?_
  | with_reducible refine eva_items ?_ | with_reducible refine evi_revA ?_ | with_reducible refine evi_enumT ?_ | with_reducible refine evf_cb ?_ | with_reducible refine evo_none ?_ | with_reducible refine evo_some ?_ | with_reducible refine evj_cons ?_ | with_reducible refine evj_nil ?_)
local macro_rules | `(tactic| walk_at "d1") => `(tactic| first
  | ((with_reducible change Ev _ _ _ _ _); walk_at "dE")
  | ((with_reducible change Run _ _ _ _ _); walk_at "dR")
  | with_reducible refine eva_cons ?_ | with_reducible refine eva_nil ?_
  | ((with_reducible change EvT _ _ _ _ _); walk_at "dT")
  | with_reducible refine eva_star ?_
  | with_reducible refine iteT ?_ | with_reducible refine iteF ?_
  | ((with_reducible change if (_ : Bool) = true then _ else _); first | refine iteT ?_ | refine iteF ?_)
  | ((with_reducible refine And.intro ?cc ?_); (case cc => walk_at "side"))
  | ((with_reducible refine' Exists.intro _ (And.intro ?cc ?kk)); (case cc => first | exact rfl | exact at_zero))
  | ((with_reducible refine' Exists.intro _ (Exists.intro _ (And.intro ?cc ?kk))); (case cc => exact rfl))
  | ((with_reducible refine' Exists.intro _ (Exists.intro _ (Exists.intro _ (And.intro ?cc (And.intro ?cd ?kk))))); (case cc => exact rfl); (case cd => exact rfl))
  | ((with_reducible refine' Exists.intro _ (Exists.intro _ (Exists.intro _ (And.intro ?cc ?kk)))); (case cc => exact rfl))
  | ((with_reducible refine' Exists.intro _ (Exists.intro _ (Exists.intro _ (Exists.intro _ (And.intro ?cc ?kk))))); (case cc => exact rfl))
  | walk_at "dX")
local macro_rules | `(tactic| walk_at "d2") => `(tactic| walk_at "d1")
local macro_rules | `(tactic| walk_at "dgo") => `(tactic| repeat walk_at "d1")
local macro_rules | `(tactic| walk_at "wk") => `(tactic| repeat first | exact True.intro | refine And.intro (Or.inl rfl) ?_ | refine And.intro (Or.inr (And.intro rfl rfl)) ?_)
/-! ### the law's own reckoning, by data -/
theorem turn_eq {a : Bool} {k n p : Int} (h : ¬ n < k) (hk : 0 ≤ k) (p0 : 0 ≤ p) (p1 : p < n) :
    (Mv.turn a k).image n p = if (if a = true then p else n - 1 - p) < k then (plc a (k - 1 - (if a = true then p else n - 1 - p)) n, true) else (p, false) := by
  have e : (Mv.turn a k).image n p = (Mv.turn a k).img n p := if_neg h
  rw [e]
  cases a
  · by_cases h1 : n - k ≤ p
    · rw [img_turn_in (f := n - k) rfl h1 (by omega), if_pos (by show n - 1 - p < k; omega)]
      show (_, _) = ((n - 1 - (k - 1 - (n - 1 - p)) : Int), true)
      congr 1
      omega
    · rw [img_turn_out (f := n - k) rfl (fun h => h1 h.1), if_neg (by show ¬ n - 1 - p < k; omega)]
  · by_cases h1 : p < k
    · rw [img_turn_in (f := 0) rfl p0 (by omega), if_pos (by show p < k; exact h1)]
      show (_, _) = ((k - 1 - p : Int), true)
      congr 1
      omega
    · rw [img_turn_out (f := 0) rfl (fun h => h1 (by omega)), if_neg (by show ¬ p < k; exact h1)]
section
variable {P : Program} {w : World} {K : PySem.W.Frag} {mg : Str → Option Value} {base : Heap}
abbrev S_depth : Sd := fun _ ds Pq => ∃ m : Mv, ds = [mvD m] ∧ Pq (.ok (.int m.reach))
theorem ok__law_depth (T : Txt K mg w) : FnOk P w K mg base CX0 1 T.a__law_depth T.d__law_depth P__law_depth (spD K S_depth) := by
  refine okD T.F__law_depth sc__law_depth (fun bs ds Pq h => ?_) (fun cdv A outer s H E hr => ⟨_, (pss_cons (ps_if (pt_cmpR op_eq (pe_ix (k_ixT (K := K)) (pv 0) pe_int (fun _ _ => rfl)) pe_str (nomark _))
  (pss_one (ps_ret pe_int)) pss_nil)
  (pss_cons (ps_if (pt_cmpR op_eq (pe_ix (k_ixT (K := K)) (pv 0) pe_int (fun _ _ => rfl)) pe_str (nomark _))
  (pss_one (ps_ret (pe_callB k_abs (by rfl) T.m_abs boot_abs (pa_cons (pe_ix (k_ixT (K := K)) (pv 0) pe_int (fun _ _ => rfl)) pa_nil)))) pss_nil)
  (pss_cons (ps_if (pt_cmpR op_eq (pe_ix (k_ixT (K := K)) (pv 0) pe_int (fun _ _ => rfl)) pe_str (nomark _))
  (pss_one (ps_ret (pe_ix (k_ixT (K := K)) (pv 0) pe_int (fun _ _ => rfl)))) pss_nil)
  (pss_one (ps_ret (pe_op op_add (pe_callB (k_max (K := K)) (by rfl) T.m_max boot_max (pa_cons (pe_lc (own := [("_law_spot_here", 1)]) rfl sc__law_depth.nd (k_piT (K := K) (pe_slice (k_slT (K := K)) (pv 0) (po_some pe_int) po_none)) (blkOk_by (N := N__law_depth) (sc := defScope s__law_depth) (by decide +kernel)) (fun _ _ _ _ _ => (pg_name (i := 1) sc__law_depth.nd rfl (Or.inl rfl))) (fun _ _ _ _ _ => pts_nil) (fun _ _ _ _ _ => (pe_ix (k_ixT (K := K)) (pv 1) pe_int (fun _ _ => rfl)))) pa_nil)) pe_int)))))), ?_⟩)
  · obtain ⟨d, rfl, _⟩ := h
    rfl
  · rintro C ds Pq hE hX ⟨m, rfl, q⟩
    have two : ∀ (f : D → D) (i j : Int) (C : Cz) (ρ : List Sl), True := fun _ _ _ _ _ => trivial
    cases m with
    | over => walk_at "dgo"; exact q
    | cut k => walk_at "dgo"; exact q
    | turn a k => walk_at "dgo"; exact q
    | swap a i b j =>
      walk_at "dgo"
      refine ev_lcm sndD (by rfl) ?_
      walk_at "dgo"
      rw [cutD_tail]
      walk_at "dgo"
      refine ⟨fun C' e1 e2 e3 n d hn => ?_, ?_⟩
      · match n, hn with
        | 0, hn => cases hn; walk_at "dgo"; exact rfl
        | 1, hn => cases hn; walk_at "dgo"; exact rfl
        | n + 2, hn => exact nomatch hn
      · walk_at "dgo"
        refine And.intro (show 0 < [i, j].length from Nat.le_of_ble_eq_true rfl) (fun m hm hy => ?_)
        have hm : m ∈ [i, j] := hm
        have h1 : i ≤ m := hy i (List.mem_cons_self ..)
        have h2 : j ≤ m := hy j (List.mem_cons_of_mem _ (List.mem_cons_self ..))
        walk_at "dgo"
        have e : m + 1 = max i j + 1 := by
          simp only [List.mem_cons, List.not_mem_nil, or_false] at hm
          omega
        show Pq (.ok (.int (m + 1)))
        rw [e]
        exact q
    | carry a i b j =>
      walk_at "dgo"
      refine ev_lcm sndD (by rfl) ?_
      walk_at "dgo"
      rw [cutD_tail]
      walk_at "dgo"
      refine ⟨fun C' e1 e2 e3 n d hn => ?_, ?_⟩
      · match n, hn with
        | 0, hn => cases hn; walk_at "dgo"; exact rfl
        | 1, hn => cases hn; walk_at "dgo"; exact rfl
        | n + 2, hn => exact nomatch hn
      · walk_at "dgo"
        refine And.intro (show 0 < [i, j].length from Nat.le_of_ble_eq_true rfl) (fun m hm hy => ?_)
        have hm : m ∈ [i, j] := hm
        have h1 : i ≤ m := hy i (List.mem_cons_self ..)
        have h2 : j ≤ m := hy j (List.mem_cons_of_mem _ (List.mem_cons_self ..))
        walk_at "dgo"
        have e : m + 1 = max i j + 1 := by
          simp only [List.mem_cons, List.not_mem_nil, or_false] at hm
          omega
        show Pq (.ok (.int (m + 1)))
        rw [e]
        exact q
    | face a i =>
      walk_at "dgo"
      refine ev_lcm sndD (by rfl) ?_
      walk_at "dgo"
      rw [cutD_tail]
      walk_at "dgo"
      refine ⟨fun C' e1 e2 e3 n d hn => ?_, ?_⟩
      · match n, hn with
        | 0, hn => cases hn; walk_at "dgo"; exact rfl
        | n + 1, hn => exact nomatch hn
      · walk_at "dgo"
        refine And.intro (show 0 < [i].length from Nat.le_of_ble_eq_true rfl) (fun m hm hy => ?_)
        have hm : m ∈ [i] := hm
        walk_at "dgo"
        rw [List.mem_singleton.mp hm]
        exact q
abbrev S_spot : Sd := fun _ ds Pq => ∃ (a : Bool) (i n : Int), ds = [epD a i, .int n] ∧ Pq (.ok (.int (plc a i n)))
theorem ok__law_spot (T : Txt K mg w) : FnOk P w K mg base CX0 1 T.a__law_spot T.d__law_spot P__law_spot (spD K S_spot) := by
  refine okD T.F__law_spot sc__law_spot (fun bs ds Pq h => ?_) (fun cdv A outer s H E hr => ⟨_, (pss_one (ps_ret (pe_ifExp (pt_cmpR op_eq (pe_ix (k_ixT (K := K)) (pv 0) pe_int (fun _ _ => rfl)) pe_str (nomark _)) (pe_ix (k_ixT (K := K)) (pv 0) pe_int (fun _ _ => rfl)) (pe_op op_sub (pe_op op_sub (pv 1) pe_int) (pe_ix (k_ixT (K := K)) (pv 0) pe_int (fun _ _ => rfl)))))), ?_⟩)
  · obtain ⟨a, i, n, rfl, _⟩ := h
    rfl
  · rintro C ds Pq hE hX ⟨a, i, n, rfl, q⟩
    cases a <;> (walk_at "dgo"; exact q)
end
theorem as_false {c : Bool} {x y : Prop} (h : c = false) (q : y) : if c = true then x else y := by rw [h]; exact q
theorem eqv_img (x : Int) (c : Bool) : PyData.eqv (imgD (x, c)).py (imgD (x, c)).py = true := by
  show ((x == x) && ((c == c) && true)) = true
  rw [beq_self_eq_true, beq_self_eq_true]
  rfl
theorem get3 {a b c d : D} {i : Nat} (h : [a, b, c][i]? = some d) : d = a ∨ d = b ∨ d = c := by
  have := List.mem_of_getElem? h
  simpa using this
/-! ### where the law says that a card goes -/
theorem dI {a b : Int} : decide (V.int a = V.int b) = decide (a = b) := by
  by_cases h : a = b
  · subst h
    rw [decide_eq_true rfl, decide_eq_true rfl]
  · rw [decide_eq_false h, decide_eq_false fun e => h (V.int.inj e)]
section
variable {P : Program} {w : World} {K : PySem.W.Frag} {mg : Str → Option Value} {base : Heap}
abbrev S_goes : Sd := fun _ ds Pq => ∃ (m : Mv) (n p : Int), ds = [mvD m, .int n, .int p] ∧ m.ok ∧ 0 ≤ p ∧ p < n ∧ Pq (.ok (imgD (m.image n p)))
theorem ok__law_goes (T : Txt K mg w) : FnOk P w K mg base CX0 3 T.a__law_goes T.d__law_goes P__law_goes (spD K S_goes) := by
  have G__law_depth := ok__law_depth (P := P) (w := w) (base := base) T
  have G__law_spot := ok__law_spot (P := P) (w := w) (base := base) T
  refine okD T.F__law_goes sc__law_goes (fun bs ds Pq h => ?_) (fun cdv A outer s H E hr => ⟨_, (pss_cons (ps_if (pt_cmpR op_gt (pe_call G__law_depth (hr.mono (by decide)) (by rfl) T.g__law_depth T.F__law_depth.kp T.b__law_depth .nil pass0 (pa_cons (pv 0) pa_nil)) (pv 1) (nomark _))
  (pss_one (ps_ret (pe_tup (pa_cons (pv 2) (pa_cons pe_bl pa_nil))))) pss_nil)
  (pss_cons (ps_if (pt_cmpR op_eq (pe_ix (k_ixT (K := K)) (pv 0) pe_int (fun _ _ => rfl)) pe_str (nomark _))
  (pss_one (ps_ret (pe_tup (pa_cons (pe_op op_sub (pe_op op_sub (pv 1) pe_int) (pv 2)) (pa_cons pe_bl pa_nil))))) pss_nil)
  (pss_cons (ps_if (pt_cmpR op_eq (pe_ix (k_ixT (K := K)) (pv 0) pe_int (fun _ _ => rfl)) pe_str (nomark _))
  (pss_one (ps_ret (pe_tup (pa_cons (pe_op op_modN (pe_op op_sub (pv 2) (pe_ix (k_ixT (K := K)) (pv 0) pe_int (fun _ _ => rfl))) (pv 1)) (pa_cons pe_bl pa_nil))))) pss_nil)
  (pss_cons (ps_if (pt_cmpR op_eq (pe_ix (k_ixT (K := K)) (pv 0) pe_int (fun _ _ => rfl)) pe_str (nomark _))
  (pss_cons (ps_set (i := 3) sc__law_goes.nd rfl (Or.inl rfl) (pe_ifExp (pt_cmpR op_eq (pe_ix (k_ixT (K := K)) (pv 0) pe_int (fun _ _ => rfl)) pe_str (nomark _)) (pv 2) (pe_op op_sub (pe_op op_sub (pv 1) pe_int) (pv 2))))
  (pss_one (ps_ret (pe_ifExp (pt_cmpR op_lt (pv 3) (pe_ix (k_ixT (K := K)) (pv 0) pe_int (fun _ _ => rfl)) (nomark _)) (pe_tup (pa_cons (pe_call G__law_spot (hr.mono (by decide)) (by rfl) T.g__law_spot T.F__law_spot.kp T.b__law_spot .nil pass0 (pa_cons (pe_tup (pa_cons (pe_ix (k_ixT (K := K)) (pv 0) pe_int (fun _ _ => rfl)) (pa_cons (pe_op op_sub (pe_op op_sub (pe_ix (k_ixT (K := K)) (pv 0) pe_int (fun _ _ => rfl)) pe_int) (pv 3)) pa_nil))) (pa_cons (pv 1) pa_nil))) (pa_cons pe_bl pa_nil))) (pe_tup (pa_cons (pv 2) (pa_cons pe_bl pa_nil))))))) pss_nil)
  (pss_cons (ps_set (i := 4) sc__law_goes.nd rfl (Or.inl rfl) (pe_call G__law_spot (hr.mono (by decide)) (by rfl) T.g__law_spot T.F__law_spot.kp T.b__law_spot .nil pass0 (pa_cons (pe_ix (k_ixT (K := K)) (pv 0) pe_int (fun _ _ => rfl)) (pa_cons (pv 1) pa_nil))))
  (pss_cons (ps_if (pt_cmpR op_eq (pe_ix (k_ixT (K := K)) (pv 0) pe_int (fun _ _ => rfl)) pe_str (nomark _))
  (pss_one (ps_ret (pe_tup (pa_cons (pv 2) (pa_cons (pe_cmpR op_eq (pv 2) (pv 4) (nomark _)) pa_nil))))) pss_nil)
  (pss_cons (ps_set (i := 5) sc__law_goes.nd rfl (Or.inl rfl) (pe_call G__law_spot (hr.mono (by decide)) (by rfl) T.g__law_spot T.F__law_spot.kp T.b__law_spot .nil pass0 (pa_cons (pe_ix (k_ixT (K := K)) (pv 0) pe_int (fun _ _ => rfl)) (pa_cons (pv 1) pa_nil))))
  (pss_cons (ps_if (PW.pt (pw_or (pt_cmpR op_eq (pv 2) (pv 4) (nomark _)) (pw_or1 (PW.pt (pw_and (pt_cmpR op_eq (pe_ix (k_ixT (K := K)) (pv 0) pe_int (fun _ _ => rfl)) pe_str (nomark _)) (pw_and1 (pt_cmpR op_eq (pv 2) (pv 5) (nomark _))))))))
  (pss_one (ps_ret (pe_tup (pa_cons (pe_ifExp (pt_cmpR op_eq (pv 2) (pv 4) (nomark _)) (pv 5) (pv 4)) (pa_cons pe_bl pa_nil))))) pss_nil)
  (pss_cons (ps_if (pt_cmpR op_eq (pe_ix (k_ixT (K := K)) (pv 0) pe_int (fun _ _ => rfl)) pe_str (nomark _))
  (pss_one (ps_ret (pe_tup (pa_cons (pv 2) (pa_cons pe_bl pa_nil))))) pss_nil)
  (pss_one (ps_ret (pe_tup (pa_cons (pe_op op_add (pe_op op_sub (pv 2) (pe_callTy k_int1 (by rfl) T.m_int boot_int (pa_cons (pe_chain op_lt op_le (pv 4) (pv 2) (pv 5)) pa_nil))) (pe_callTy k_int1 (by rfl) T.m_int boot_int (pa_cons (pe_chain op_le op_lt (pv 5) (pv 2) (pv 4)) pa_nil))) (pa_cons pe_bl pa_nil)))))))))))))), ?_⟩)
  · obtain ⟨m, n, p, rfl, _⟩ := h
    rfl
  · rintro C ds Pq hE hX ⟨m, n, p, rfl, hk, p0, p1, q⟩
    have n0 : n ≠ 0 := by omega
    walk_at "dgo"
    refine iteD (fun h1 => ?_) (fun h1 => ?_)
    · walk_at "dgo"
      have e : m.image n p = (p, false) := if_pos h1
      rw [e] at q
      exact q
    · have e : m.image n p = m.img n p := if_neg h1
      have q' := q
      rw [e] at q'
      cases m with
      | over => walk_at "dgo"; exact q'
      | cut k => walk_at "dgo"; exact q'
      | turn b k =>
        have hk0 : 0 ≤ k := hk.1
        have h1' : ¬ n < k := h1
        have et := turn_eq (a := b) h1' hk0 p0 p1
        rw [et] at q
        cases b
        · walk_at "dgo"
          refine iteD (fun h2 => ?_) (fun h2 => ?_)
          · rw [if_pos (show (if false = true then p else n - 1 - p) < k from h2)] at q
            walk_at "dgo"
            exact q
          · rw [if_neg (show ¬ (if false = true then p else n - 1 - p) < k from h2)] at q
            walk_at "dgo"
            exact q
        · walk_at "dgo"
          refine iteD (fun h2 => ?_) (fun h2 => ?_)
          · rw [if_pos (show (if true = true then p else n - 1 - p) < k from h2)] at q
            walk_at "dgo"
            exact q
          · rw [if_neg (show ¬ (if true = true then p else n - 1 - p) < k from h2)] at q
            walk_at "dgo"
            exact q
      | face b i =>
        walk_at "dgo"
        show Pq (.ok (.tup [.int p, .bl (decide (V.int p = V.int (plc b i n)))]))
        rw [dI]
        exact q'
      | swap b i c j =>
        walk_at "dgo"
        refine iteE (fun h2 => ?_) (fun h2 => ?_)
        · walk_at "dgo"
          refine iteE (fun _ => ?_) (fun e => absurd h2 e)
          walk_at "dgo"
          rw [img_swap, if_pos h2] at q'
          exact q'
        · walk_at "dgo"
          refine iteE (fun h3 => ?_) (fun h3 => ?_)
          · walk_at "dgo"
            refine iteE (fun e => absurd e h2) (fun _ => ?_)
            walk_at "dgo"
            rw [img_swap, if_neg h2, if_pos h3] at q'
            exact q'
          · walk_at "dgo"
            rw [img_swap, if_neg h2, if_neg h3] at q'
            exact q'
      | carry b i c j =>
        walk_at "dgo"
        refine iteE (fun h2 => ?_) (fun h2 => ?_)
        · walk_at "dgo"
          refine iteE (fun _ => ?_) (fun e => absurd h2 e)
          walk_at "dgo"
          rw [img_carry, if_pos h2] at q'
          exact q'
        · have q1 : ∀ (A B : Int), (if decide (plc b i n < p) = true then (if decide (p ≤ plc c j n) = true then 1 else 0) else 0) = A → (if decide (plc c j n ≤ p) = true then (if decide (p < plc b i n) = true then 1 else 0) else 0) = B →
              Pq (.ok (.tup [.int (p - A + B), .bl false])) := by
            intro A B hA hB
            have e : (Mv.carry b i c j).img n p = (p - A + B, false) := by
              rw [img_carry, if_neg h2, ← hA, ← hB]
              by_cases h3 : plc b i n < p <;> by_cases h4 : p ≤ plc c j n <;> by_cases h5 : plc c j n ≤ p <;> by_cases h6 : p < plc b i n <;> first | (exfalso; omega) | (simp [h3, h4, h5, h6])
            rw [e] at q'
            exact q'
          walk_at "dgo"
          refine iteD (fun h3 => ?_) (fun h3 => ?_)
          · walk_at "dgo"
            refine iteD (fun h5 => ?_) (fun h5 => ?_)
            · walk_at "dgo"
              exact q1 _ _ (if_pos (decide_eq_true h3)) (if_pos (decide_eq_true h5))
            · walk_at "dgo"
              exact q1 _ _ (if_pos (decide_eq_true h3)) (if_neg (by rw [decide_eq_false h5]; decide))
          · walk_at "dgo"
            refine iteD (fun h5 => ?_) (fun h5 => ?_)
            · walk_at "dgo"
              exact q1 _ _ (if_neg (by rw [decide_eq_false h3]; decide)) (if_pos (decide_eq_true h5))
            · walk_at "dgo"
              exact q1 _ _ (if_neg (by rw [decide_eq_false h3]; decide)) (if_neg (by rw [decide_eq_false h5]; decide))
end
/-! ### great piles -/
section
variable {P : Program} {w : World} {K : PySem.W.Frag} {mg : Str → Option Value} {base : Heap}
abbrev S_great : Sd := fun bs ds Pq => ∃ (b l : Addr), bs = [(b, l)] ∧ ds = [.oth (.ref b)] ∧ ∀ z : Int, 200 ≤ z → z ≤ 1000000000000000000000000000000 → Pq (.ok (.int z))
theorem ok__law_great (T : Txt K mg w) : FnOk P w K mg base CX0 3 T.a__law_great T.d__law_great P__law_great (spD K S_great) := by
  have G__law_pull := okd_pull (P := P) (w := w) (base := base) T
  have G__law_of := ok__law_of (P := P) (w := w) (base := base) T
  refine okD T.F__law_great sc__law_great (fun bs ds Pq h => ?_) (fun cdv A outer s H E hr => ⟨_, (pss_one (ps_ret (pe_call G__law_of (hr.mono (by decide)) (by rfl) T.g__law_of T.F__law_of.kp T.b__law_of .nil pass0 (pa_cons (pv 0) (pa_cons (pe_lst (pa_cons (pe_op op_sub (pe_op op_pow pe_int pe_int) (pe_call G__law_pull (hr.mono (by decide)) (by rfl) T.g__law_pull T.F__law_pull.kp T.b__law_pull .nil pass0 (pa_cons (pv 0) (pa_cons pe_int pa_nil)))) (pa_cons (pe_op op_add (pe_op op_pow pe_int pe_int) (pe_call G__law_pull (hr.mono (by decide)) (by rfl) T.g__law_pull T.F__law_pull.kp T.b__law_pull .nil pass0 (pa_cons (pv 0) (pa_cons (pe_op op_pow pe_int pe_int) pa_nil)))) (pa_cons (pe_op op_add pe_int (pe_call G__law_pull (hr.mono (by decide)) (by rfl) T.g__law_pull T.F__law_pull.kp T.b__law_pull .nil pass0 (pa_cons (pv 0) (pa_cons pe_int pa_nil)))) pa_nil)))) pa_nil))))), ?_⟩)
  · obtain ⟨b, l, _, rfl, _⟩ := h
    rfl
  · rintro C ds Pq hE hX ⟨b, l, hb, rfl, q⟩
    walk_at "dgo"
    intro r1 r10 r11
    walk_at "dgo"
    intro r2 r20 r21
    walk_at "dgo"
    intro r3 r30 r31
    walk_at "dgo"
    have e30 : (10 : Int) ^ Int.toNat 30 = 1000000000000000000000000000000 := by decide
    have e18 : (10 : Int) ^ Int.toNat 18 = 1000000000000000000 := by decide
    have e9 : (10 : Int) ^ Int.toNat 9 = 1000000000 := by decide
    refine pickD (all3 ?_ ?_ ?_)
    · exact q _ (by omega) (by omega)
    · exact q _ (by omega) (by omega)
    · exact q _ (by omega) (by omega)
abbrev S_placeof : Sd := fun bs ds Pq => ∃ (b l : Addr) (n : Int), bs = [(b, l)] ∧ ds = [.oth (.ref b), .int n] ∧ 0 < n ∧ n ≤ 1000000000000000000000000000000 ∧ ∀ p : Int, 0 ≤ p → p < n → Pq (.ok (.int p))
theorem ok__law_place_of (T : Txt K mg w) : FnOk P w K mg base CX0 3 T.a__law_place_of T.d__law_place_of P__law_place_of (spD K S_placeof) := by
  have G__law_pull := okd_pull (P := P) (w := w) (base := base) T
  refine okD T.F__law_place_of sc__law_place_of (fun bs ds Pq h => ?_) (fun cdv A outer s H E hr => ⟨_, (pss_cons (ps_par (by rfl) sc__law_place_of.nd (i := 2) (j := 3) rfl rfl (by decide) rfl rfl (pa_cons (pe_call G__law_pull (hr.mono (by decide)) (by rfl) T.g__law_pull T.F__law_pull.kp T.b__law_pull .nil pass0 (pa_cons (pv 0) (pa_cons pe_int pa_nil))) (pa_cons (pe_call G__law_pull (hr.mono (by decide)) (by rfl) T.g__law_pull T.F__law_pull.kp T.b__law_pull .nil pass0 (pa_cons (pv 0) (pa_cons (pe_callB k_min2 (by rfl) T.m_min boot_min (pa_cons (pv 1) (pa_cons pe_int pa_nil))) pa_nil))) pa_nil)) (by rfl))
  (pss_cons (ps_if (pt_cmpR op_lt (pv 2) pe_int (nomark _))
  (pss_one (ps_ret (pe_ifExp (pt_cmpR op_eq (pv 2) pe_int (nomark _)) (pv 3) (pe_op op_sub (pe_op op_sub (pv 1) pe_int) (pv 3))))) pss_nil)
  (pss_one (ps_ret (pe_ifExp (pt_cmpR op_eq (pv 2) pe_int (nomark _)) (pe_call G__law_pull (hr.mono (by decide)) (by rfl) T.g__law_pull T.F__law_pull.kp T.b__law_pull .nil pass0 (pa_cons (pv 0) (pa_cons (pv 1) pa_nil))) (pe_op op_sub (pe_op op_fdivW (pv 1) pe_int) (pe_callB k_min2 (by rfl) T.m_min boot_min (pa_cons (pv 3) (pa_cons (pe_op op_fdivW (pv 1) pe_int) pa_nil))))))))), ?_⟩)
  · obtain ⟨b, l, n, _, rfl, _⟩ := h
    rfl
  · rintro C ds Pq hE hX ⟨b, l, n, hb, rfl, n0, n1, q⟩
    walk_at "dgo"
    intro r1 r10 r11
    walk_at "dgo"
    intro r2 r20 r21
    walk_at "dgo"
    refine iteD (fun h1 => ?_) (fun h1 => ?_)
    · walk_at "dgo"
      refine iteE (fun h2 => ?_) (fun h2 => ?_)
      · walk_at "dgo"
        exact q _ r20 (by omega)
      · walk_at "dgo"
        exact q _ (by omega) (by omega)
    · walk_at "dgo"
      refine iteE (fun h2 => ?_) (fun h2 => ?_)
      · walk_at "dgo"
        intro r3 r30 r31
        exact q _ r30 r31
      · walk_at "dgo"
        exact q _ (by omega) (by omega)
end
/-! ### steps by data -/
local macro_rules | `(tactic| walk_at "side") => `(tactic| first
  | exact rfl | assumption | exact Nat.le_of_ble_eq_true rfl | decide | exact True.intro | exact le_line (Nat.le_of_ble_eq_true rfl) | exact lt_line (Nat.le_of_ble_eq_true rfl) | omega | (show (_ : Int) ≠ 0; omega) | exact cut1_ok | (unfold CPow; decide) | exact mul_ok (small_abs (by omega)) (small_abs (by omega)) | exact div_small (by omega) (by omega))
local macro_rules | `(tactic| walk_at "dR") => `(tactic| first
  | with_reducible refine run_seq ?_ | with_reducible refine run_if ?_ | with_reducible refine run_set ?_ | with_reducible refine run_ret ?_ | with_reducible refine run_next ?_
  | with_reducible refine run_asg ?_ | with_reducible refine run_for ?_ | ((with_reducible refine' run_append ?ev ?kk); (case ev => exact rfl)) | ((with_reducible refine' run_aug ?ev ?kk); (case ev => exact rfl))
  | with_reducible refine run_par ?_ | with_reducible refine run_drop ?_ | with_reducible refine run_retN ?_ | with_reducible refine run_break ?_ | with_reducible refine run_cont ?_)
local macro_rules | `(tactic| walk_at "dE") => `(tactic| first
  | ((with_reducible refine' ev_var ?ev ?kk); (case ev => exact rfl))
  | with_reducible refine ev_op ?_ | with_reducible refine ev_int ?_ | with_reducible refine ev_str ?_ | with_reducible refine ev_callC (by assumption) ?_ | with_reducible refine ev_callX (by assumption) ?_ | with_reducible refine ev_call ?_ | with_reducible refine ev_cb ?_ | with_reducible refine ev_tup ?_
  | with_reducible refine ev_if ?_ | with_reducible refine ev_and ?_ | with_reducible refine ev_or ?_ | with_reducible refine ev_not ?_ | with_reducible refine ev_bl ?_ | with_reducible refine ev_non ?_ | with_reducible refine ev_isi ?_
  | with_reducible refine ev_un ?_ | with_reducible refine ev_chain ?_ | with_reducible refine ev_lst ?_ | with_reducible refine ev_cbf ?_ | with_reducible refine ev_sl ?_ | with_reducible refine ev_m1 ?_ | with_reducible refine ev_kget ?_ | with_reducible refine ev_fmt ?_ | with_reducible refine ev_join ?_ | with_reducible refine ev_ty ?_ | with_reducible refine ev_cV ?_)
local macro_rules | `(tactic| walk_at "dT") => `(tactic| first
  | with_reducible refine evt_t ?_ | with_reducible refine evt_b ?_ | with_reducible refine evt_and ?_ | with_reducible refine evt_or ?_ | with_reducible refine evt_not ?_ | with_reducible refine evt_yes ?_)
local macro_rules | `(tactic| walk_at "dX") => `(tactic| first
  | ((with_reducible refine' evx_name ?ev ?kk); (case ev => first | exact rfl | assumption)) | with_reducible refine evx_tup ?_ | with_reducible refine evx_lst ?_ | with_reducible refine evxs_cons ?_ | with_reducible refine evxs_nil ?_
  | ((with_reducible refine' evg_name ?ev ?mm ?kk); (case ev => first | exact rfl | assumption); (case mm => decide)) | with_reducible refine evg_tup ?_ | with_reducible refine evg_lst ?_ | with_reducible refine evgs_cons ?_ | with_reducible refine evgs_nil ?_
  | with_reducible refine evi_list ?_ | with_reducible refine evi_tup ?_ | with_reducible refine evi_rng1 ?_ | with_reducible refine evi_rng2 ?_ | with_reducible refine evi_enum ?_ | with_reducible refine evi_zip ?_
  | with_reducible refine evo_none ?_ | with_reducible refine evo_some ?_ | with_reducible refine evj_cons ?_ | with_reducible refine evj_nil ?_)
local macro_rules | `(tactic| walk_at "d1") => `(tactic| first
  | ((with_reducible change Ev _ _ _ _ _); walk_at "dE")
  | ((with_reducible change Run _ _ _ _ _); walk_at "dR")
  | with_reducible refine eva_cons ?_ | with_reducible refine eva_nil ?_
  | ((with_reducible change EvT _ _ _ _ _); walk_at "dT")
  | with_reducible refine eva_star ?_
  | with_reducible refine iteT ?_ | with_reducible refine iteF ?_
  | ((with_reducible change if (_ : Bool) = true then _ else _); first | refine iteT ?_ | refine iteF ?_)
  | ((with_reducible refine And.intro ?cc ?_); (case cc => walk_at "side"))
  | ((with_reducible refine' Exists.intro _ (And.intro ?cc ?kk)); (case cc => first | exact rfl | exact at_zero))
  | ((with_reducible refine' Exists.intro _ (Exists.intro _ (And.intro ?cc ?kk))); (case cc => exact rfl))
  | ((with_reducible refine' Exists.intro _ (Exists.intro _ (Exists.intro _ (And.intro ?cc (And.intro ?cd ?kk))))); (case cc => exact rfl); (case cd => exact rfl))
  | ((with_reducible refine' Exists.intro _ (Exists.intro _ (Exists.intro _ (And.intro ?cc ?kk)))); (case cc => exact rfl))
  | ((with_reducible refine' Exists.intro _ (Exists.intro _ (Exists.intro _ (Exists.intro _ (And.intro ?cc ?kk))))); (case cc => exact rfl))
  | walk_at "dX")
local macro_rules | `(tactic| walk_at "d2") => `(tactic| walk_at "d1")
local macro_rules | `(tactic| walk_at "dgo") => `(tactic| repeat walk_at "d1")
local macro_rules | `(tactic| walk_at "wk") => `(tactic| repeat first | exact True.intro | refine And.intro (Or.inl rfl) ?_ | refine And.intro (Or.inr (And.intro rfl rfl)) ?_)
/-! ### steps by data -/
local macro_rules | `(tactic| walk_at "side") => `(tactic| first
  | exact rfl | assumption | exact Nat.le_of_ble_eq_true rfl | decide | exact True.intro | exact le_line (Nat.le_of_ble_eq_true rfl) | exact lt_line (Nat.le_of_ble_eq_true rfl) | omega | (show (_ : Int) ≠ 0; omega) | exact cut1_ok | (unfold CPow; decide) | exact mul_ok (small_abs (by omega)) (small_abs (by omega)) | exact div_small (by omega) (by omega))
local macro_rules | `(tactic| walk_at "dR") => `(tactic| first
  | ((with_reducible refine' run_retO ?ev ?kk); (case ev => exact rfl)) | ((with_reducible refine' run_setix ?ev ?kk); (case ev => exact rfl)) | ((with_reducible refine' run_popAt ?ev ?kk); (case ev => exact rfl)) | ((with_reducible refine' run_insert ?ev ?kk); (case ev => exact rfl)) | with_reducible refine run_parL ?_ | with_reducible refine run_ownRep ?_
  | with_reducible refine run_seq ?_ | with_reducible refine run_if ?_ | with_reducible refine run_set ?_ | with_reducible refine run_ret ?_ | with_reducible refine run_next ?_
  | with_reducible refine run_asg ?_ | with_reducible refine run_for ?_ | ((with_reducible refine' run_append ?ev ?kk); (case ev => exact rfl)) | ((with_reducible refine' run_aug ?ev ?kk); (case ev => exact rfl))
  | with_reducible refine run_par ?_ | with_reducible refine run_drop ?_ | with_reducible refine run_retN ?_ | with_reducible refine run_break ?_ | with_reducible refine run_cont ?_)
local macro_rules | `(tactic| walk_at "dE") => `(tactic| first
  | ((with_reducible refine' ev_var ?ev ?kk); (case ev => exact rfl))
  | ((with_reducible refine' ev_ixO ?ev ?kk); (case ev => exact rfl)) | with_reducible refine ev_rev ?_ | with_reducible refine ev_op ?_ | with_reducible refine ev_int ?_ | with_reducible refine ev_str ?_ | with_reducible refine ev_callKX (by assumption) ?_ | with_reducible refine ev_callK ?_ | with_reducible refine ev_callC (by assumption) ?_ | with_reducible refine ev_callX (by assumption) ?_ | with_reducible refine ev_call ?_ | with_reducible refine ev_cb ?_ | with_reducible refine ev_tup ?_
  | with_reducible refine ev_if ?_ | with_reducible refine ev_and ?_ | with_reducible refine ev_or ?_ | with_reducible refine ev_not ?_ | with_reducible refine ev_bl ?_ | with_reducible refine ev_non ?_ | with_reducible refine ev_isi ?_
  | with_reducible refine ev_un ?_ | with_reducible refine ev_chain ?_ | with_reducible refine ev_lst ?_ | with_reducible refine ev_cbf ?_ | with_reducible refine ev_sl ?_ | with_reducible refine ev_m1 ?_ | with_reducible refine ev_kget ?_ | with_reducible refine ev_fmt ?_ | with_reducible refine ev_join ?_ | with_reducible refine ev_ty ?_ | with_reducible refine ev_cV ?_)
local macro_rules | `(tactic| walk_at "dT") => `(tactic| first
  | with_reducible refine evt_t ?_ | with_reducible refine evt_b ?_ | with_reducible refine evt_and ?_ | with_reducible refine evt_or ?_ | with_reducible refine evt_not ?_ | with_reducible refine evt_yes ?_)
local macro_rules | `(tactic| walk_at "dX") => `(tactic| first
  | ((with_reducible refine' evx_name ?ev ?kk); (case ev => first | exact rfl | assumption)) | with_reducible refine evx_tup ?_ | with_reducible refine evx_lst ?_ | with_reducible refine evxs_cons ?_ | with_reducible refine evxs_nil ?_
  | ((with_reducible refine' evg_name ?ev ?mm ?kk); (case ev => first | exact rfl | assumption); (case mm => decide)) | with_reducible refine evg_tup ?_ | with_reducible refine evg_lst ?_ | with_reducible refine evgs_cons ?_ | with_reducible refine evgs_nil ?_
  | with_reducible refine evi_list ?_ | with_reducible refine evi_tup ?_ | with_reducible refine evi_rng1 ?_ | with_reducible refine evi_rng2 ?_ | with_reducible refine evi_enum ?_ | with_reducible refine evi_zip ?_
  | with_reducible refine evf_cb ?_ | with_reducible refine evo_none ?_ | with_reducible refine evo_some ?_ | with_reducible refine evj_cons ?_ | with_reducible refine evj_nil ?_)
local macro_rules | `(tactic| walk_at "d1") => `(tactic| first
  | ((with_reducible change Ev _ _ _ _ _); walk_at "dE")
  | ((with_reducible change Run _ _ _ _ _); walk_at "dR")
  | with_reducible refine eva_cons ?_ | with_reducible refine eva_nil ?_
  | ((with_reducible change EvT _ _ _ _ _); walk_at "dT")
  | with_reducible refine eva_star ?_
  | with_reducible refine iteT ?_ | with_reducible refine iteF ?_
  | ((with_reducible change if (_ : Bool) = true then _ else _); first | refine iteT ?_ | refine iteF ?_)
  | ((with_reducible refine And.intro ?cc ?_); (case cc => walk_at "side"))
  | ((with_reducible refine' Exists.intro _ (And.intro ?cc ?kk)); (case cc => first | exact rfl | exact at_zero))
  | ((with_reducible refine' Exists.intro _ (Exists.intro _ (And.intro ?cc ?kk))); (case cc => exact rfl))
  | ((with_reducible refine' Exists.intro _ (Exists.intro _ (Exists.intro _ (And.intro ?cc (And.intro ?cd ?kk))))); (case cc => exact rfl); (case cd => exact rfl))
  | ((with_reducible refine' Exists.intro _ (Exists.intro _ (Exists.intro _ (And.intro ?cc ?kk)))); (case cc => exact rfl))
  | ((with_reducible refine' Exists.intro _ (Exists.intro _ (Exists.intro _ (Exists.intro _ (And.intro ?cc ?kk))))); (case cc => exact rfl))
  | walk_at "dX")
local macro_rules | `(tactic| walk_at "d2") => `(tactic| walk_at "d1")
local macro_rules | `(tactic| walk_at "dgo") => `(tactic| repeat walk_at "d1")
local macro_rules | `(tactic| walk_at "wk") => `(tactic| repeat first | exact True.intro | refine And.intro (Or.inl rfl) ?_ | refine And.intro (Or.inr (And.intro rfl rfl)) ?_)
/-! ### cards, by data -/
section
variable {P : Program} {w : World} {K : PySem.W.Frag} {mg : Str → Option Value} {base : Heap}
abbrev S_flip : Sd := fun _ ds Pq => ∃ L : List (Int × Bool), ds = [.lst (L.map imgD)] ∧ L.length ≤ 900 ∧ Pq (.ok (.lst ((flipL L).map imgD)))
theorem ok__law_flipped (T : Txt K mg w) : FnOk P w K mg base CX0 1 T.a__law_flipped T.d__law_flipped P__law_flipped (spD K S_flip) := by
  refine okD T.F__law_flipped sc__law_flipped (fun bs ds Pq h => ?_) (fun cdv A outer s H E hr => ⟨_, (pss_one (ps_ret (pe_lc (own := [("_law_card", 1), ("_law_face", 2)]) rfl sc__law_flipped.nd (k_piL (K := K) (k_rev (K := K) (pv 0))) (blkOk_by (N := N__law_flipped) (sc := defScope s__law_flipped) (by decide +kernel)) (fun _ _ _ _ _ => (k_gT (K := K) (n := 2) (pgs_cons (pg_name (i := 1) sc__law_flipped.nd rfl (Or.inl rfl)) (pgs_cons (pg_name (i := 2) sc__law_flipped.nd rfl (Or.inl rfl)) pgs_nil)))) (fun _ _ _ _ _ => pts_nil) (fun _ _ _ _ _ => (pe_tup (pa_cons (pv 1) (pa_cons (pe_not (pv 2)) pa_nil))))))), ?_⟩)
  · obtain ⟨L, rfl, _⟩ := h
    rfl
  · rintro C ds Pq hE hX ⟨L, rfl, hL, q⟩
    walk_at "dgo"
    refine ev_lcm flipD (by rfl) ?_
    walk_at "dgo"
    refine ⟨by rw [List.length_reverse, List.length_map]; omega, fun C' e1 e2 e3 n d hn => ?_, ?_⟩
    · obtain ⟨⟨i, b⟩, _, rfl⟩ := List.mem_map.mp (List.mem_reverse.mp (List.mem_of_getElem? hn))
      walk_at "dgo"
      exact rfl
    · rw [flipD_map]
      exact q
abbrev S_deal : Sd := fun _ ds Pq => ∃ (m : Mv) (L : List (Int × Bool)), ds = [mvD m, .lst (L.map imgD)] ∧ m.ok ∧ L.length ≤ 900 ∧ Pq (.ok (.lst ((dealtL m L).map imgD)))
theorem ok__law_dealt (T : Txt K mg w) : FnOk P w K mg base CX0 2 T.a__law_dealt T.d__law_dealt P__law_dealt (spD K S_deal) := by
  have G__law_depth := ok__law_depth (P := P) (w := w) (base := base) T
  have G__law_spot := ok__law_spot (P := P) (w := w) (base := base) T
  have G__law_flipped := ok__law_flipped (P := P) (w := w) (base := base) T
  refine okD T.F__law_dealt sc__law_dealt (fun bs ds Pq h => ?_) (fun cdv A outer s H E hr => ⟨_, (pss_cons (ps_set (i := 2) sc__law_dealt.nd rfl (Or.inl rfl) (pe_callB (k_len (K := K)) (by rfl) T.m_len boot_len (pa_cons (pv 1) pa_nil)))
  (pss_cons (ps_if (PW.pt (pw_or (pt_cmpR op_gt (pe_call G__law_depth (hr.mono (by decide)) (by rfl) T.g__law_depth T.F__law_depth.kp T.b__law_depth .nil pass0 (pa_cons (pv 0) pa_nil)) (pv 2) (nomark _)) (pw_or1 (pt_cmpR op_eq (pv 2) pe_int (nomark _)))))
  (pss_one (ps_ret (pv 1))) pss_nil)
  (pss_cons (ps_if (pt_cmpR op_eq (pe_ix (k_ixT (K := K)) (pv 0) pe_int (fun _ _ => rfl)) pe_str (nomark _))
  (pss_one (ps_ret (pe_call G__law_flipped (hr.mono (by decide)) (by rfl) T.g__law_flipped T.F__law_flipped.kp T.b__law_flipped .nil pass0 (pa_cons (pv 1) pa_nil)))) pss_nil)
  (pss_cons (ps_if (pt_cmpR op_eq (pe_ix (k_ixT (K := K)) (pv 0) pe_int (fun _ _ => rfl)) pe_str (nomark _))
  (pss_cons (ps_set (i := 3) sc__law_dealt.nd rfl (Or.inl rfl) (pe_op op_modN (pe_callTy k_int1 (by rfl) T.m_int boot_int (pa_cons (pe_ix (k_ixT (K := K)) (pv 0) pe_int (fun _ _ => rfl)) pa_nil)) (pv 2)))
  (pss_one (ps_ret (pe_op op_cat (pe_slice (k_slL (K := K)) (pv 1) (po_some (pv 3)) po_none) (pe_slice (k_slL (K := K)) (pv 1) po_none (po_some (pv 3))))))) pss_nil)
  (pss_cons (ps_if (PW.pt (pw_and (pt_cmpR op_eq (pe_ix (k_ixT (K := K)) (pv 0) pe_int (fun _ _ => rfl)) pe_str (nomark _)) (pw_and1 (pt_cmpR op_eq (pe_ix (k_ixT (K := K)) (pv 0) pe_int (fun _ _ => rfl)) pe_str (nomark _)))))
  (pss_one (ps_ret (pe_op op_cat (pe_call G__law_flipped (hr.mono (by decide)) (by rfl) T.g__law_flipped T.F__law_flipped.kp T.b__law_flipped .nil pass0 (pa_cons (pe_slice (k_slL (K := K)) (pv 1) po_none (po_some (pe_ix (k_ixT (K := K)) (pv 0) pe_int (fun _ _ => rfl)))) pa_nil)) (pe_slice (k_slL (K := K)) (pv 1) (po_some (pe_ix (k_ixT (K := K)) (pv 0) pe_int (fun _ _ => rfl))) po_none)))) pss_nil)
  (pss_cons (ps_if (pt_cmpR op_eq (pe_ix (k_ixT (K := K)) (pv 0) pe_int (fun _ _ => rfl)) pe_str (nomark _))
  (pss_one (ps_ret (pe_op op_cat (pe_slice (k_slL (K := K)) (pv 1) po_none (po_some (pe_op op_sub (pv 2) (pe_ix (k_ixT (K := K)) (pv 0) pe_int (fun _ _ => rfl))))) (pe_call G__law_flipped (hr.mono (by decide)) (by rfl) T.g__law_flipped T.F__law_flipped.kp T.b__law_flipped .nil pass0 (pa_cons (pe_slice (k_slL (K := K)) (pv 1) (po_some (pe_op op_sub (pv 2) (pe_ix (k_ixT (K := K)) (pv 0) pe_int (fun _ _ => rfl)))) po_none) pa_nil))))) pss_nil)
  (pss_cons (ps_par (by rfl) sc__law_dealt.nd (i := 4) (j := 5) rfl rfl (by decide) rfl rfl (pa_cons (pe_callTy (k_list (K := K)) (by rfl) T.m_list boot_list (pa_cons (pv 1) pa_nil)) (pa_cons (pe_call G__law_spot (hr.mono (by decide)) (by rfl) T.g__law_spot T.F__law_spot.kp T.b__law_spot .nil pass0 (pa_cons (pe_ix (k_ixT (K := K)) (pv 0) pe_int (fun _ _ => rfl)) (pa_cons (pv 2) pa_nil))) pa_nil)) (by rfl))
  (pss_cons (ps_if (pt_cmpR op_eq (pe_ix (k_ixT (K := K)) (pv 0) pe_int (fun _ _ => rfl)) pe_str (nomark _))
  (pss_cons (ps_asg (pe_tup (pa_cons (pe_ix (k_ixT (K := K)) (pe_ix (k_ixL (K := K)) (pv 4) (pv 5) (fun _ _ => rfl)) pe_int (fun _ _ => rfl)) (pa_cons (pe_not (pe_ix (k_ixT (K := K)) (pe_ix (k_ixL (K := K)) (pv 4) (pv 5) (fun _ _ => rfl)) pe_int (fun _ _ => rfl))) pa_nil))) (pg_sub (pv 4) (pv 5) set_list))
  (pss_one (ps_ret (pv 4)))) pss_nil)
  (pss_cons (ps_set (i := 6) sc__law_dealt.nd rfl (Or.inl rfl) (pe_call G__law_spot (hr.mono (by decide)) (by rfl) T.g__law_spot T.F__law_spot.kp T.b__law_spot .nil pass0 (pa_cons (pe_ix (k_ixT (K := K)) (pv 0) pe_int (fun _ _ => rfl)) (pa_cons (pv 2) pa_nil))))
  (pss_cons (ps_if (pt_cmpR op_eq (pe_ix (k_ixT (K := K)) (pv 0) pe_int (fun _ _ => rfl)) pe_str (nomark _))
  (pss_cons (ps_par (by rfl) sc__law_dealt.nd (i := 7) (j := 8) rfl rfl (by decide) rfl rfl (pa_cons (pe_ix (k_ixL (K := K)) (pv 4) (pv 5) (fun _ _ => rfl)) (pa_cons (pe_ix (k_ixL (K := K)) (pv 4) (pv 6) (fun _ _ => rfl)) pa_nil)) (by rfl))
  (pss_cons (ps_asg (pv 8) (pg_sub (pv 4) (pv 5) set_list))
  (pss_cons (ps_asg (pv 7) (pg_sub (pv 4) (pv 6) set_list))
  (pss_one (ps_ret (pv 4)))))) pss_nil)
  (pss_cons (ps_set (i := 9) sc__law_dealt.nd rfl (Or.inl rfl) (k_bm (K := K) PySem.F.plainAttrs_list PySem.F.slot_list_pop PySem.F.type_list_pop mt_popAt (pv 4) (pa_cons (pv 5) pa_nil)))
  (pss_cons (ps_expr (k_bm (K := K) PySem.F.plainAttrs_list PySem.F.slot_list_insert PySem.F.type_list_insert k_insert (pv 4) (pa_cons (pv 6) (pa_cons (pv 9) pa_nil))))
  (pss_one (ps_ret (pv 4))))))))))))))), ?_⟩)
  · obtain ⟨m, L, rfl, _⟩ := h
    rfl
  · rintro C ds Pq hE hX ⟨m, L, rfl, hk, hz, q⟩
    have hl : (L.map imgD).length = L.length := List.length_map _
    walk_at "dgo"
    rw [hl]
    refine iteD (fun h1 => ?_) (fun h1 => ?_)
    · walk_at "dgo"
      rw [deal_same h1] at q
      exact q
    walk_at "dgo"
    refine iteE (fun h0 => ?_) (fun h0 => ?_)
    · walk_at "dgo"
      rw [deal_nil hk (by omega)] at q
      exact q
    have n0 : (L.length : Int) ≠ 0 := h0
    clear h0
    cases m with
    | over =>
      rw [deal_over (by omega)] at q
      walk_at "dgo"
      exact q
    | cut k =>
      have b0 := fmod_lo k (m := L.length) (by omega)
      have b1 := fmod_hi k (m := L.length) (by omega)
      rw [deal_cut h1] at q
      walk_at "dgo"
      rw [cutD_lo _ _ b0 (by omega)]
      walk_at "dgo"
      dsimp only [asI, asL, vD]
      rw [cutD_hi _ _ b0 (by omega)]
      refine And.intro (le_line (by rw [List.length_drop, List.length_take]; omega)) ?_
      walk_at "dgo"
      rw [← List.map_drop, ← List.map_take, ← List.map_append]
      exact q
    | turn b k =>
      have hk0 : 0 ≤ k := hk.1
      have hkn : ¬ (L.length : Int) < k := h1
      cases b
      · rw [deal_bot hkn] at q
        walk_at "dgo"
        rw [cutD_hi _ _ (by omega) (by omega)]
        walk_at "dgo"
        rw [cutD_lo _ _ (by omega) (by omega), ← List.map_drop]
        refine ⟨_, rfl, by rw [List.length_drop]; omega, ?_⟩
        walk_at "dgo"
        refine And.intro (le_line (by simp only [List.length_map, flipL_len, List.length_take, List.length_drop]; omega)) ?_
        walk_at "dgo"
        rw [← List.map_take, ← List.map_append]
        exact q
      · rw [deal_top hkn] at q
        walk_at "dgo"
        rw [cutD_hi _ _ (by omega) (by omega), ← List.map_take]
        refine ⟨_, rfl, by rw [List.length_take]; omega, ?_⟩
        walk_at "dgo"
        dsimp only [asI, asL, vD]
        rw [cutD_lo _ _ (by omega) (by omega)]
        refine And.intro (le_line (by simp only [List.length_map, flipL_len, List.length_take, List.length_drop]; omega)) ?_
        walk_at "dgo"
        rw [← List.map_drop, ← List.map_append]
        exact q
    | face b i =>
      obtain ⟨k1, k2⟩ : 0 ≤ i ∧ i ≤ 399 := hk
      have hn : ¬ (L.length : Int) < i + 1 := h1
      rw [deal_face hn] at q
      obtain ⟨o0, o1⟩ := plc_bd (a := b) (i := i) (n := L.length) k1 (by omega)
      have c1 := at_card (L := L) o0 o1
      walk_at "dgo"
      intro C' e1 e2 e3
      have hE' : C'.E = E := e1.trans hE
      walk_at "dgo"
      intro p
      walk_at "dgo"
      refine ⟨_, c1, ?_⟩
      walk_at "dgo"
      refine ⟨_, c1, ?_⟩
      walk_at "dgo"
      refine ⟨_, ixN_of o0 (by rw [hl]; exact o1), ?_⟩
      walk_at "dgo"
      show Pq (.ok (.lst ((L.map imgD).set (plc b i L.length).toNat (imgD ((L.getD (plc b i L.length).toNat (0, false)).1, !(L.getD (plc b i L.length).toNat (0, false)).2)))))
      rw [← List.map_set]
      exact q
    | swap b i c j =>
      obtain ⟨k1, k2, k3, k4⟩ : 0 ≤ i ∧ i ≤ 399 ∧ 0 ≤ j ∧ j ≤ 399 := hk
      have hn : ¬ (L.length : Int) < max i j + 1 := h1
      rw [deal_swap hn] at q
      obtain ⟨o0, o1⟩ := plc_bd (a := b) (i := i) (n := L.length) k1 (by omega)
      obtain ⟨u0, u1⟩ := plc_bd (a := c) (i := j) (n := L.length) k3 (by omega)
      have c1 := at_card (L := L) o0 o1
      have c2 := at_card (L := L) u0 u1
      walk_at "dgo"
      intro C' e1 e2 e3
      have hE' : C'.E = E := e1.trans hE
      walk_at "dgo"
      intro p
      walk_at "dgo"
      refine ⟨_, c1, ?_⟩
      walk_at "dgo"
      refine ⟨_, c2, ?_⟩
      walk_at "dgo"
      refine ⟨_, ixN_of o0 (by rw [hl]; exact o1), ?_⟩
      walk_at "dgo"
      refine ⟨_, ixN_of u0 (by rw [List.length_set, hl]; exact u1), ?_⟩
      walk_at "dgo"
      rw [← List.map_set, ← List.map_set]
      exact q
    | carry b i c j =>
      obtain ⟨k1, k2, k3, k4⟩ : 0 ≤ i ∧ i ≤ 399 ∧ 0 ≤ j ∧ j ≤ 399 := hk
      have hn : ¬ (L.length : Int) < max i j + 1 := h1
      rw [deal_carry hn] at q
      obtain ⟨o0, o1⟩ := plc_bd (a := b) (i := i) (n := L.length) k1 (by omega)
      obtain ⟨u0, u1⟩ := plc_bd (a := c) (i := j) (n := L.length) k3 (by omega)
      have c1 := at_card (L := L) o0 o1
      walk_at "dgo"
      intro C' e1 e2 e3
      have hE' : C'.E = E := e1.trans hE
      walk_at "dgo"
      intro p
      walk_at "dgo"
      refine ⟨_, _, seqIx_of o0 (by rw [hl]; exact o1), get_card o0 o1, ?_⟩
      walk_at "dgo"
      refine And.intro (lt_line (by rw [List.length_eraseIdx_of_lt (by omega)]; omega)) ?_
      walk_at "dgo"
      show Pq (.ok (.lst (List.take (plc c j L.length).toNat ((L.map imgD).eraseIdx (plc b i L.length).toNat) ++ [imgD (L.getD (plc b i L.length).toNat (0, false))] ++ List.drop (plc c j L.length).toNat ((L.map imgD).eraseIdx (plc b i L.length).toNat))))
      rw [erase_map, ← List.map_take, ← List.map_drop, show [imgD (L.getD (plc b i L.length).toNat (0, false))] = [L.getD (plc b i L.length).toNat (0, false)].map imgD from rfl, ← List.map_append, ← List.map_append]
      exact q
end
/-! ### the images by dealing, by data -/
theorem initL_len (n : Nat) : (initL n).length = n := by unfold initL; rw [List.length_map, List.length_range]
section
variable {P : Program} {w : World} {K : PySem.W.Frag} {mg : Str → Option Value} {base : Heap}
abbrev S_images : Sd := fun _ ds Pq => ∃ (ms : List Mv) (n : Nat), ds = [.lst (ms.map mvD), .int n] ∧ (∀ m ∈ ms, m.ok) ∧ n ≤ 900 ∧ Pq (.ok (.lst ((imagesL n ms).map imgD)))
theorem ok__law_images (T : Txt K mg w) : FnOk P w K mg base CX0 3 T.a__law_images T.d__law_images P__law_images (spD K S_images) := by
  have G__law_dealt := ok__law_dealt (P := P) (w := w) (base := base) T
  refine okD T.F__law_images sc__law_images (fun bs ds Pq h => ?_) (fun cdv A outer s H E hr => ⟨_, (pss_cons (ps_setLc (i := 2) (own := [("_law_place", 5)]) rfl sc__law_images.nd rfl rfl (sw_true rfl rfl rfl (by decide +kernel)) (pi_range1 rfl T.m_range (pa_cons (pv 1) pa_nil)) (blkOk_by (N := N__law_images) (sc := defScope s__law_images) (by decide +kernel)) (fun _ _ _ _ _ => (pg_name (i := 5) sc__law_images.nd rfl (Or.inl rfl))) (fun _ _ _ _ _ => pts_nil) (fun _ _ _ _ _ => (pe_tup (pa_cons (pv 5) (pa_cons pe_bl pa_nil)))))
  (pss_cons (ps_for PassesOwn.never rfl (k_piL (K := K) (pv 0)) (pg_name (i := 3) sc__law_images.nd rfl (Or.inl rfl))
  (pss_one (ps_set (i := 2) sc__law_images.nd rfl (Or.inl rfl) (pe_call G__law_dealt (hr.mono (by decide)) (by rfl) T.g__law_dealt T.F__law_dealt.kp T.b__law_dealt .nil pass0 (pa_cons (pv 3) (pa_cons (pv 2) pa_nil))))))
  (pss_cons (ps_set (i := 4) sc__law_images.nd rfl (Or.inl rfl) (pe_op op_rep (pe_lst (pa_cons (pe_tup (pa_cons pe_int (pa_cons pe_bl pa_nil))) pa_nil)) (pv 1)))
  (pss_cons (ps_for PassesOwn.never rfl (pi_range1 rfl T.m_range (pa_cons (pv 1) pa_nil)) (pg_name (i := 5) sc__law_images.nd rfl (Or.inl rfl))
  (pss_one (ps_asg (pe_tup (pa_cons (pv 5) (pa_cons (pe_ix (k_ixT (K := K)) (pe_ix (k_ixL (K := K)) (pv 2) (pv 5) (fun _ _ => rfl)) pe_int (fun _ _ => rfl)) pa_nil))) (pg_sub (pv 4) (pe_ix (k_ixT (K := K)) (pe_ix (k_ixL (K := K)) (pv 2) (pv 5) (fun _ _ => rfl)) pe_int (fun _ _ => rfl)) set_list))))
  (pss_one (ps_ret (pv 4))))))), ?_⟩)
  · obtain ⟨ms, n, rfl, _⟩ := h
    rfl
  · rintro C ds Pq hE hX ⟨ms, n, rfl, hk, hn, q⟩
    walk_at "dgo"
    refine ev_lcm numD (by rfl) ?_
    walk_at "dgo"
    refine ⟨by rw [rng_len]; omega, fun C' e1 e2 e3 i d hi => ?_, ?_⟩
    · obtain ⟨_, rfl⟩ := rng_get hi
      walk_at "dgo"
      exact rfl
    rw [Int.toNat_natCast, num_map]
    walk_at "dgo"
    refine ⟨fun k ρ' => ∃ (C : List (Int × Bool)) (y : Sl), ρ' = [.val (.lst (ms.map mvD)), .val (.int n), .val (.lst (C.map imgD)), y, .no, .no] ∧ y.o = [] ∧ Deal n (ms.take k) C, ⟨_, _, rfl, rfl, Deal.nil n⟩, ?_, ?_⟩
    · rintro hv hd k d ρ' hi ⟨C, y, rfl, hy, hd2⟩
      obtain ⟨m, gm, rfl⟩ := map_inv hi
      have hkk := hk m (List.mem_of_getElem? gm)
      have ny : ∀ a b c d e : Sl, nown [a, b, c, y, d, e] 3 = true := fun _ _ _ _ _ => by cases y <;> first | rfl | exact nomatch hy
      have ny := ny (.val (.lst (ms.map mvD))) (.val (.int n)) (.val (.lst (C.map imgD))) .no .no
      have hz : C.length ≤ 900 := by rw [hd2.len]; exact hn
      walk_at "dgo"
      rw [List.take_add_one, gm]
      exact hd2.snoc hkk
    · rintro ρ' ⟨C, y, rfl, hy, hd2⟩
      rw [List.length_map, List.take_length] at hd2
      walk_at "dgo"
      refine And.intro (show 1 * (n : Int).toNat ≤ sizeLine from le_line (by omega)) ?_
      walk_at "dgo"
      intro p
      walk_at "dgo"
      rw [flat_repD, Int.toNat_natCast]
      have f0 : Fnd n ms 0 (List.replicate n ((0 : Int), false)) := ⟨List.length_replicate, fun i hi hlt => by
        have b := runM_bd (n := n) (ms := ms) (c := ((i : Int), false)) hk (by show (0 : Int) ≤ i; omega) (by show (i : Int) < n; omega)
        omega⟩
      refine ⟨fun k ρ' => ∃ (F : List (Int × Bool)) (y5 : Sl), ρ' = [.val (.lst (ms.map mvD)), .val (.int n), .val (.lst (C.map imgD)), y, .own p (F.map imgD), y5] ∧ y5.o = [] ∧ Fnd n ms k F, ⟨_, .no, by rw [List.map_replicate]; rfl, rfl, f0⟩, ?_, ?_⟩
      · rintro hv hd k d ρ' hi ⟨F, y5, rfl, hy5, hf⟩
        obtain ⟨hkn, rfl⟩ := rng_get hi
        obtain ⟨i, f, hin, hCi, hri⟩ := hd2.here hkn
        have hat : atI (C.map imgD) (k : Int) = some (imgD ((i : Int), f)) := atI_nat (by rw [List.getElem?_map, hCi]; rfl)
        have n5 : ∀ a b c d e : Sl, nown [a, b, c, d, e, y5] 5 = true := fun _ _ _ _ _ => by cases y5 <;> first | rfl | exact nomatch hy5
        have n5 := n5 (.val (.lst (ms.map mvD))) (.val (.int n)) (.val (.lst (C.map imgD))) y (.own p (F.map imgD))
        walk_at "dgo"
        refine ⟨_, hat, ?_⟩
        walk_at "dgo"
        refine ⟨_, hat, ?_⟩
        walk_at "dgo"
        refine ⟨_, ixN_of (by omega) (by rw [List.length_map, hf.len]; omega), ?_⟩
        walk_at "dgo"
        refine ⟨F.set i ((k : Int), f), .val (.int k), ?_, rfl, hf.step hd2 hin hCi hri⟩
        rw [List.map_set]
        rfl
      · rintro ρ' ⟨F, y5, rfl, hy5, hf⟩
        rw [rng_len] at hf
        have e := hf.all hk
        subst e
        walk_at "dgo"
        exact q
end
/-! ### steps by data -/
local macro_rules | `(tactic| walk_at "side") => `(tactic| first
  | exact rfl | with_reducible assumption | exact Nat.le_of_ble_eq_true rfl | decide | exact True.intro | exact le_line (Nat.le_of_ble_eq_true rfl) | exact lt_line (Nat.le_of_ble_eq_true rfl) | omega | (show (_ : Int) ≠ 0; omega) | exact cut1_ok | (unfold CPow; decide) | exact mul_ok (small_abs (by omega)) (small_abs (by omega)) | exact div_small (by omega) (by omega) | assumption)
local macro_rules | `(tactic| walk_at "dR") => `(tactic| first
  | with_reducible refine run_ownNil ?_ | with_reducible refine run_ownL ?_ | ((with_reducible refine' run_extend ?ev ?kk); (case ev => exact rfl))
  | ((with_reducible refine' run_fld ?c ?n ?e ?kk); (case c => assumption); (case n => assumption); (case e => exact rfl))
  | ((with_reducible refine' run_retO ?ev ?kk); (case ev => exact rfl)) | ((with_reducible refine' run_setix ?ev ?kk); (case ev => exact rfl)) | ((with_reducible refine' run_popAt ?ev ?kk); (case ev => exact rfl)) | ((with_reducible refine' run_insert ?ev ?kk); (case ev => exact rfl)) | with_reducible refine run_parL ?_ | with_reducible refine run_ownRep ?_
  | with_reducible refine run_seq ?_ | with_reducible refine run_if ?_ | with_reducible refine run_set ?_ | with_reducible refine run_ret ?_ | with_reducible refine run_next ?_
  | with_reducible refine run_asg ?_ | with_reducible refine run_for ?_ | ((with_reducible refine' run_append ?ev ?kk); (case ev => exact rfl)) | ((with_reducible refine' run_aug ?ev ?kk); (case ev => exact rfl))
  | with_reducible refine run_par ?_ | with_reducible refine run_drop ?_ | with_reducible refine run_retN ?_ | with_reducible refine run_break ?_ | with_reducible refine run_cont ?_)
local macro_rules | `(tactic| walk_at "dE") => `(tactic| first
  | ((with_reducible refine' ev_var ?ev ?kk); (case ev => exact rfl))
  | with_reducible refine ev_lenOwn ?_
  | ((with_reducible refine' ev_fldO ?ev ?dd ?kk); (case ev => exact rfl); (case dd => exact rfl)) | with_reducible refine ev_fld ?_ | with_reducible refine ev_methX (by assumption) ?_ | with_reducible refine ev_meth ?_ | with_reducible refine ev_prop ?_ | with_reducible refine ev_makeX (by assumption) ?_ | with_reducible refine ev_make ?_ | with_reducible refine ev_ownX (by assumption) ?_ | with_reducible refine ev_own ?_ | ((with_reducible refine' ev_isiOwn ?o ?kk); (case o => assumption))
  | ((with_reducible refine' ev_ixO ?ev ?kk); (case ev => exact rfl)) | with_reducible refine ev_rev ?_ | with_reducible refine ev_op ?_ | with_reducible refine ev_int ?_ | with_reducible refine ev_str ?_ | with_reducible refine ev_callKX (by assumption) ?_ | with_reducible refine ev_callK ?_ | with_reducible refine ev_callC (by assumption) ?_ | with_reducible refine ev_callX (by assumption) ?_ | with_reducible refine ev_call ?_ | with_reducible refine ev_cb ?_ | with_reducible refine ev_tup ?_
  | with_reducible refine ev_if ?_ | with_reducible refine ev_and ?_ | with_reducible refine ev_or ?_ | with_reducible refine ev_not ?_ | with_reducible refine ev_bl ?_ | with_reducible refine ev_non ?_ | with_reducible refine ev_isi ?_
  | with_reducible refine ev_un ?_ | with_reducible refine ev_chain ?_ | with_reducible refine ev_lst ?_ | with_reducible refine ev_cbf ?_ | with_reducible refine ev_sl ?_ | with_reducible refine ev_m1 ?_ | with_reducible refine ev_kget ?_ | with_reducible refine ev_fmt ?_ | with_reducible refine ev_join ?_ | with_reducible refine ev_ty ?_ | with_reducible refine ev_cV ?_)
local macro_rules | `(tactic| walk_at "dT") => `(tactic| first
  | with_reducible refine evt_t ?_ | with_reducible refine evt_b ?_ | with_reducible refine evt_and ?_ | with_reducible refine evt_or ?_ | with_reducible refine evt_not ?_ | with_reducible refine evt_yes ?_)
local macro_rules | `(tactic| walk_at "dX") => `(tactic| first
  | ((with_reducible refine' evx_name ?ev ?kk); (case ev => first | exact rfl | assumption)) | with_reducible refine evx_tup ?_ | with_reducible refine evx_lst ?_ | with_reducible refine evxs_cons ?_ | with_reducible refine evxs_nil ?_
  | ((with_reducible refine' evg_name ?ev ?mm ?kk); (case ev => first | exact rfl | assumption); (case mm => decide)) | with_reducible refine evg_tup ?_ | with_reducible refine evg_lst ?_ | with_reducible refine evgs_cons ?_ | with_reducible refine evgs_nil ?_
  | with_reducible refine evi_list ?_ | with_reducible refine evi_tup ?_ | with_reducible refine evi_rng1 ?_ | with_reducible refine evi_rng2 ?_ | with_reducible refine evi_enum ?_ | with_reducible refine evi_zip ?_
  | with_reducible refine eva_items ?_ | with_reducible refine evi_revA ?_ | with_reducible refine evi_enumT ?_ | with_reducible refine evf_cb ?_ | with_reducible refine evo_none ?_ | with_reducible refine evo_some ?_ | with_reducible refine evj_cons ?_ | with_reducible refine evj_nil ?_)
local macro_rules | `(tactic| walk_at "d1") => `(tactic| first
  | ((with_reducible change Ev _ _ _ _ _); walk_at "dE")
  | ((with_reducible change Run _ _ _ _ _); walk_at "dR")
  | with_reducible refine eva_cons ?_ | with_reducible refine eva_nil ?_
  | ((with_reducible change EvT _ _ _ _ _); walk_at "dT")
  | with_reducible refine eva_star ?_
  | with_reducible refine iteT ?_ | with_reducible refine iteF ?_
  | ((with_reducible change if (_ : Bool) = true then _ else _); first | refine iteT ?_ | refine iteF ?_)
  | ((with_reducible refine And.intro ?cc ?_); (case cc => walk_at "side"))
  | ((with_reducible refine' Exists.intro _ (And.intro ?cc ?kk)); (case cc => first | exact rfl | exact at_zero))
  | ((with_reducible refine' Exists.intro _ (Exists.intro _ (And.intro ?cc ?kk))); (case cc => exact rfl))
  | ((with_reducible refine' Exists.intro _ (Exists.intro _ (Exists.intro _ (And.intro ?cc (And.intro ?cd ?kk))))); (case cc => exact rfl); (case cd => exact rfl))
  | ((with_reducible refine' Exists.intro _ (Exists.intro _ (Exists.intro _ (And.intro ?cc ?kk)))); (case cc => exact rfl))
  | ((with_reducible refine' Exists.intro _ (Exists.intro _ (Exists.intro _ (Exists.intro _ (And.intro ?cc ?kk))))); (case cc => exact rfl))
  | walk_at "dX")
local macro_rules | `(tactic| walk_at "d2") => `(tactic| walk_at "d1")
local macro_rules | `(tactic| walk_at "dgo") => `(tactic| repeat walk_at "d1")
local macro_rules | `(tactic| walk_at "wk") => `(tactic| repeat first | exact True.intro | refine And.intro (Or.inl rfl) ?_ | refine And.intro (Or.inr (And.intro rfl rfl)) ?_)
local macro_rules | `(tactic| walk_at "d3") => `(tactic| first
  | ((with_reducible refine' ev_lenO ?ev ?kk); (case ev => exact rfl))
  | ((with_reducible refine' run_dputT ?ev ?kk); (case ev => exact rfl)) | ((with_reducible refine' run_dputK ?ev ?kk); (case ev => exact rfl)) | with_reducible refine run_dnewK ?_ | with_reducible refine run_dnewT ?_
  | ((with_reducible refine' ev_dgetK ?ev ?kk); (case ev => exact rfl)) | ((with_reducible refine' ev_dinK ?ev ?kk); (case ev => exact rfl)) | ((with_reducible refine' ev_dinT ?ev ?kk); (case ev => exact rfl)) | ((with_reducible refine' ev_dnotinK ?ev ?kk); (case ev => exact rfl))
  | ((with_reducible refine' run_append ?ev ?kk); (case ev => exact rfl)) | with_reducible refine run_appC ?_ | with_reducible refine run_par3 ?_ | ((with_reducible refine' eva_self ?ev ?kk); (case ev => exact rfl)) | with_reducible refine evf_methN ?_ | with_reducible refine ev_methN ?_ | with_reducible refine ev_listRg1 ?_
  | with_reducible refine evi_zipM ?_)
local macro_rules | `(tactic| walk_at "dgo") => `(tactic| repeat first | walk_at "d3" | walk_at "d1")
theorem cutD_takeN (l : List D) (n : Nat) : cutD l none (some (n : Int)) = l.take n := by
  unfold cutD
  rw [HT.sIx_none, HT.sIx_nat, List.drop_zero, Nat.sub_zero, List.take_eq_take_iff]
  omega
/-! ### the law's forms, by data -/
@[reducible] def ptL (t : Bool) (s : Int) (l m : List Fm.En) : D := .tup [.bl t, .int s, .lst (enL l), .lst (enL m)]
theorem cut2 (a b c : D) : cutD [a, b, c] none (some 2) = [a, b] := by
  have := cutD_takeN [a, b, c] 2
  rw [show ((2 : Nat) : Int) = 2 from rfl] at this
  exact this
section
variable {P : Program} {w : World} {K : PySem.W.Frag} {mg : Str → Option Value} {base : Heap}
abbrev S_lend : Sd := fun bs ds Pq => ∃ (b l : Addr) (d : Int), bs = [(b, l)] ∧ ds = [.oth (.ref b), .int d] ∧ 0 ≤ d ∧ d ≤ 1000000000000000000000000000000 ∧ ∀ (a : Bool) (i : Nat), (i : Int) ≤ d → Pq (.ok (.tup [.str (eS a), .int i]))
abbrev S_lspot : Sd := fun _ ds Pq => ∃ (a : Bool) (d n : Int), ds = [.tup [.str (eS a), .int d], .int n] ∧ Pq (.ok (.int (if a = true then d else n - 1 - d)))
abbrev S_lruled : Sd := fun _ ds Pq => ∃ (t : Bool) (s : Int) (a : Bool) (d : Int), ds = [.bl t, .int s, .tup [.str (eS a), .int d]] ∧ Pq (.ok (enD (Fm.ruled t s a d)))
theorem ok__law_ruled (T : Txt K mg w) : FnOk P w K mg base CX0 1 T.a__law_ruled T.d__law_ruled P__law_ruled (spD K S_lruled) := by
  refine okD T.F__law_ruled sc__law_ruled (fun bs ds Pq h => ?_) (fun cdv A outer s H E hr => ⟨_, (pss_cons (ps_asg (pv 2) (k_gT (K := K) (n := 2) (pgs_cons (pg_name (i := 3) sc__law_ruled.nd rfl (Or.inl rfl)) (pgs_cons (pg_name (i := 4) sc__law_ruled.nd rfl (Or.inl rfl)) pgs_nil))))
  (pss_cons (ps_if (pt_not (pt_val (pv 0)))
  (pss_one (ps_ret (pe_tup (pa_cons (pv 3) (pa_cons (pe_ifExp (pt_cmpR op_eq (pv 3) pe_str (nomark _)) (pe_op op_add (pv 4) (pv 1)) (pe_op op_sub (pv 4) (pv 1))) (pa_cons pe_bl pa_nil)))))) pss_nil)
  (pss_one (ps_ret (pe_ifExp (pt_cmpR op_eq (pv 3) pe_str (nomark _)) (pe_tup (pa_cons pe_str (pa_cons (pe_op op_sub (pv 4) (pv 1)) (pa_cons pe_bl pa_nil)))) (pe_tup (pa_cons pe_str (pa_cons (pe_op op_add (pv 4) (pv 1)) (pa_cons pe_bl pa_nil))))))))), ?_⟩)
  · obtain ⟨t, s, a, d, rfl, _⟩ := h
    rfl
  · rintro C ds Pq hE hX ⟨t, s, a, d, rfl, q⟩
    cases t <;> cases a <;> (walk_at "dgo"; exact q)
theorem trim_take {t : Bool} {s : Int} {a : Bool} {l : List Fm.En} {k : Nat} {e : Fm.En} (he : l[k]? = some e) (h : e = Fm.ruled t s a k) : Fm.trim t s a (l.take (k + 1)) = Fm.trim t s a (l.take k) := by
  rw [List.take_add_one, he]
  have hl : (l.take k).length = k := by
    rw [List.length_take]
    have := (List.getElem?_eq_some_iff.mp he).1
    omega
  exact Fm.trim_snoc (by rw [hl]; exact h)
theorem trim_take_stop {t : Bool} {s : Int} {a : Bool} {l : List Fm.En} {k : Nat} {e : Fm.En} (he : l[k]? = some e) (h : e ≠ Fm.ruled t s a k) : Fm.trim t s a (l.take (k + 1)) = l.take (k + 1) := by
  rw [List.take_add_one, he]
  have hl : (l.take k).length = k := by
    rw [List.length_take]
    have := (List.getElem?_eq_some_iff.mp he).1
    omega
  exact Fm.trim_stop (by rw [hl]; exact h)
def cntL (ρ : List Sl) : Nat := match ρ[8]? with
  | some (Sl.val (D.int z)) => z.toNat
  | _ => 0
theorem norm_while {C : Cz} {t : Bool} {s : Int} {a : Bool} {x : List Fm.En} {s0 s3 s4 s5 : Sl} {P : Out → Prop} (hx : x.length ≤ 900)
    (k : ∀ j : Nat, j ≤ x.length → x.take j = Fm.trim t s a x → P (.nx [s0, .val (.bl t), .val (.int s), s3, s4, s5, .val (.str (eS a)), .val (.lst (enL x)), .val (.int j)])) :
    Run K C (tWhile (tAnd (tTest (tOp (rI0 fun i j => V.bl (decide (j < i))) (tVar 8) (tC (V.int 0))))
        (tTest (tOp (rEqD K) (tOp (rIxL K) (tVar 7) (tOp (rI0 fun i j => V.int (i - j)) (tVar 8) (tC (V.int 1)))) (tCall (spD K S_lruled) [] E0 (tCons (tVar 1) (tCons (tVar 2) (tCons (tTup (tCons (tVar 6) (tCons (tOp (rI0 fun i j => V.int (i - j)) (tVar 8) (tC (V.int 1))) tNil))) tNil)))))))
      (tAsg (tOp (rI0 fun i j => V.int (i - j)) (tVar 8) (tC (V.int 1))) (gName 8)))
      [s0, .val (.bl t), .val (.int s), s3, s4, s5, .val (.str (eS a)), .val (.lst (enL x)), .val (.int ((enL x).length : Int))] P := by
  refine run_while (fun ρ' => ∃ j : Nat, j ≤ x.length ∧ ρ' = [s0, .val (.bl t), .val (.int s), s3, s4, s5, .val (.str (eS a)), .val (.lst (enL x)), .val (.int j)] ∧ Fm.trim t s a (x.take j) = Fm.trim t s a x) cntL ⟨x.length, Nat.le_refl _, by rw [enL_len], by rw [List.take_length]⟩ ?_
  rintro ρ' ⟨j, hj, rfl, ex⟩
  walk_at "dgo"
  refine iteD (fun h => ?_) (fun h => ?_)
  · obtain ⟨i, rfl⟩ : ∃ i : Nat, j = i + 1 := ⟨j - 1, by omega⟩
    obtain ⟨e, he⟩ : ∃ e, x[i]? = some e := ⟨_, List.getElem?_eq_getElem (by omega)⟩
    have hg : (enL x)[i]? = some (enD e) := by unfold enL; rw [List.getElem?_map, he]; rfl
    have hat : atI (enL x) (((i + 1 : Nat) : Int) - 1) = some (enD e) := by
      have h := atI_nat hg
      rwa [show (i : Int) = ((i + 1 : Nat) : Int) - 1 by omega] at h
    have hi : ((i + 1 : Nat) : Int) - 1 = (i : Int) := by omega
    walk_at "dgo"
    refine ⟨_, hat, ?_⟩
    walk_at "dgo"
    refine And.intro (fineN_en e).fine.2 (And.intro (fineN_en _).fine.2 ?_)
    rw [en_eqv, hi]
    by_cases hE : e = Fm.ruled t s a i
    · refine as_T (decide_eq_true hE) ?_
      walk_at "dgo"
      refine ⟨⟨i, by omega, by rw [hi]; rfl, ?_⟩, ?_⟩
      · rw [← ex, trim_take he hE]
      · show (((i + 1 : Nat) : Int) - 1).toNat < (((i + 1 : Nat) : Int)).toNat
        omega
    · refine as_F (decide_eq_false hE) ?_
      exact k _ hj (by rw [← ex, trim_take_stop he hE])
  · have h0 : j = 0 := by omega
    subst h0
    rw [if_neg (by decide)]
    exact k 0 hj (by rw [← ex]; rfl)
abbrev S_lnormal : Sd := fun _ ds Pq => ∃ (t : Bool) (s : Int) (l m : List Fm.En), ds = [ptL t s l m] ∧ l.length ≤ 900 ∧ m.length ≤ 900 ∧ Pq (.ok (ptL t s (Fm.trim t s true l) (Fm.trim t s false m)))
theorem ok__law_normal (T : Txt K mg w) : FnOk P w K mg base CX0 2 T.a__law_normal T.d__law_normal P__law_normal (spD K S_lnormal) := by
  have G__law_ruled := ok__law_ruled (P := P) (w := w) (base := base) T
  refine okD T.F__law_normal sc__law_normal (fun bs ds Pq h => ?_) (fun cdv A outer s H E hr => ⟨_, (pss_cons (ps_asg (pv 0) (k_gT (K := K) (n := 4) (pgs_cons (pg_name (i := 1) sc__law_normal.nd rfl (Or.inl rfl)) (pgs_cons (pg_name (i := 2) sc__law_normal.nd rfl (Or.inl rfl)) (pgs_cons (pg_name (i := 3) sc__law_normal.nd rfl (Or.inl rfl)) (pgs_cons (pg_name (i := 4) sc__law_normal.nd rfl (Or.inl rfl)) pgs_nil))))))
  (pss_cons (ps_set (i := 5) sc__law_normal.nd rfl (Or.inl rfl) (pe_lst pa_nil))
  (pss_cons (ps_for PassesOwn.never rfl (k_piL (K := K) (pe_lst (pa_cons (pe_tup (pa_cons pe_str (pa_cons (pv 3) pa_nil))) (pa_cons (pe_tup (pa_cons pe_str (pa_cons (pv 4) pa_nil))) pa_nil)))) (k_gT (K := K) (n := 2) (pgs_cons (pg_name (i := 6) sc__law_normal.nd rfl (Or.inl rfl)) (pgs_cons (pg_name (i := 7) sc__law_normal.nd rfl (Or.inl rfl)) pgs_nil)))
  (pss_cons (ps_set (i := 8) sc__law_normal.nd rfl (Or.inl rfl) (pe_callB (k_len (K := K)) (by rfl) T.m_len boot_len (pa_cons (pv 7) pa_nil)))
  (pss_cons (ps_while PassesOwn.never (PW.pt (pw_and (pt_cmpR op_gt (pv 8) pe_int (nomark _)) (pw_and1 (pt_cmpR (k_eqD (K := K) hr.units) (pe_ix (k_ixL (K := K)) (pv 7) (pe_op op_sub (pv 8) pe_int) (fun _ _ => rfl)) (pe_call G__law_ruled (hr.mono (by decide)) (by rfl) T.g__law_ruled T.F__law_ruled.kp T.b__law_ruled .nil pass0 (pa_cons (pv 1) (pa_cons (pv 2) (pa_cons (pe_tup (pa_cons (pv 6) (pa_cons (pe_op op_sub (pv 8) pe_int) pa_nil))) pa_nil)))) (nomark _)))))
  (pss_one (ps_set (i := 8) sc__law_normal.nd rfl (Or.inl rfl) (pe_op op_sub (pv 8) pe_int))))
  (pss_one (ps_expr (k_bm (K := K) PySem.F.plainAttrs_list PySem.F.slot_list_append PySem.F.type_list_append mt_append (pv 5) (pa_cons (pe_slice (k_slL (K := K)) (pv 7) po_none (po_some (pv 8))) pa_nil)))))))
  (pss_one (ps_ret (pe_tup (pa_cons (pv 1) (pa_cons (pv 2) (pa_cons (pe_ix (k_ixL (K := K)) (pv 5) pe_int (fun _ _ => rfl)) (pa_cons (pe_ix (k_ixL (K := K)) (pv 5) pe_int (fun _ _ => rfl)) pa_nil)))))))))), ?_⟩)
  · obtain ⟨t, s, l, m, rfl, _⟩ := h
    rfl
  · rintro C ds Pq hE hX ⟨t, s, l, m, rfl, hl, hm, q⟩
    walk_at "dgo"
    intro p5
    walk_at "dgo"
    refine forU ?_
    intro hv hd
    walk_at "dgo"
    refine run_wk (ρ0 := [.no, .val (.bl t), .val (.int s), .no, .val (.lst (enL m)), .own p5 [], .val (.str (eS true)), .val (.lst (enL l)), .val (.int ((enL l).length : Int))]) (by walk_at "wk") (norm_while hl fun j hj hjt => ?_)
    have hj1 : cutD (enL l) none (some (j : Int)) = enL (Fm.trim t s true l) := by
      rw [cutD_takeN, ← hjt]
      exact (List.map_take ..).symm
    walk_at "dgo"
    rw [hj1]
    refine unr_wk (ρ0 := [.no, .val (.bl t), .val (.int s), .no, .val (.lst (enL m)), .own p5 [.lst (enL (Fm.trim t s true l))], .no, .no, .no]) (by walk_at "wk") ?_
    intro hv2 hd2
    walk_at "dgo"
    refine run_wk (ρ0 := [.no, .val (.bl t), .val (.int s), .no, .no, .own p5 [.lst (enL (Fm.trim t s true l))], .val (.str (eS false)), .val (.lst (enL m)), .val (.int ((enL m).length : Int))]) (by walk_at "wk") (norm_while hm fun j2 hj2 hjt2 => ?_)
    have hj3 : cutD (enL m) none (some (j2 : Int)) = enL (Fm.trim t s false m) := by
      rw [cutD_takeN, ← hjt2]
      exact (List.map_take ..).symm
    walk_at "dgo"
    rw [hj3]
    refine seq_wk (ρ0 := [.no, .val (.bl t), .val (.int s), .no, .no, .own p5 [.lst (enL (Fm.trim t s true l)), .lst (enL (Fm.trim t s false m))], .no, .no, .no]) ?_ _ (by walk_at "wk")
    refine run_freeze 5 rfl ?_
    walk_at "dgo"
    exact q
abbrev S_lread (T : Txt K mg w) : Sd := fun _ ds Pq => ∃ p, ds = [formD T.a_Form p] ∧ Pq (.ok (ptL p.t p.s p.top p.bot))
theorem ok__law_read_parts (T : Txt K mg w) : FnOk P w K mg base CX0 3 T.a__law_read_parts T.d__law_read_parts P__law_read_parts (spD K (S_lread T)) := by
  have G_Form_turned := ok_Form_turned (P := P) (w := w) (base := base) T
  have G_Form_shift := ok_Form_shift (P := P) (w := w) (base := base) T
  have G_Form_top := ok_Form_top (P := P) (w := w) (base := base) T
  have G_Form_bottom := ok_Form_bottom (P := P) (w := w) (base := base) T
  refine okD T.F__law_read_parts sc__law_read_parts (fun bs ds Pq h => ?_) (fun cdv A outer s H E hr => ⟨_, (pss_one (ps_ret (pe_tup (pa_cons (pe_prop (pv 0) T.cls_Form T.P_Form_turned G_Form_turned (hr.mono (by decide)) T.b_Form_turned .nil pass0 rfl) (pa_cons (pe_prop (pv 0) T.cls_Form T.P_Form_shift G_Form_shift (hr.mono (by decide)) T.b_Form_shift .nil pass0 rfl) (pa_cons (pe_meth0 (pv 0) T.cls_Form T.M_Form_top G_Form_top (hr.mono (by decide)) T.b_Form_top .nil pass0) (pa_cons (pe_meth0 (pv 0) T.cls_Form T.M_Form_bottom G_Form_bottom (hr.mono (by decide)) T.b_Form_bottom .nil pass0) pa_nil))))))), ?_⟩)
  · obtain ⟨p, rfl, _⟩ := h
    rfl
  · rintro C ds Pq hE hX ⟨p, rfl, q⟩
    walk_at "dgo"
    exact q
end
theorem smD_bl (n : Nat) (z : Bool) : smD n (.bl z) := by cases n <;> exact True.intro
theorem sm_en (n : Nat) (e : Fm.En) : smD (n + 1) (enD e) := sm_tup (Nat.le_of_ble_eq_true rfl) (all3 (smD_str _ _) (smD_int _ _) (smD_bl _ _))
theorem sm_enL (n : Nat) {l : List Fm.En} (h : l.length < 1000) : smD (n + 2) (.lst (enL l)) := sm_lst (by unfold enL; rw [List.length_map]; exact h) fun d hd => by
  obtain ⟨e, _, rfl⟩ := List.mem_map.mp hd
  exact sm_en n e
theorem sm_ptL (n : Nat) (t : Bool) (s : Int) {l m : List Fm.En} (h1 : l.length < 1000) (h2 : m.length < 1000) : smD (n + 3) (ptL t s l m) := sm_tup (Nat.le_of_ble_eq_true rfl) fun d hd => by
  rcases List.mem_cons.mp hd with rfl | hd
  · exact smD_bl _ _
  · exact all3 (smD_int _ _) (sm_enL n h1) (sm_enL n h2) d hd
end Z
namespace Z
open PySem PySem.Spec PyProof.Rows L2
-- what stands at an address
local macro_rules | `(tactic| walk_at "hp") => `(tactic| first | assumption | exact upd_same | exact BagAt.at_ (by assumption) | exact BagAt.cells (by assumption) | fail "hp")
local macro_rules | `(tactic| walk_at "sq") => `(tactic| first | assumption | (refine Or.inl (Or.inl ?_); walk_at "hp") | (apply Same.seq <;> assumption))
-- bounds
local macro_rules | `(tactic| walk_at "num") => `(tactic| first
  | exact rfl | decide | exact le_line (Nat.le_of_ble_eq_true rfl) | exact lt_line (Nat.le_of_ble_eq_true rfl)
  | (exact mul_ok (small_abs (by omega)) (small_abs (by omega)))
  | (exact div_small (by omega) (by omega))
  | (exact div_ok (by omega) (by assumption))
  | (refine ⟨?_, ?_⟩ <;> omega) | omega
  | (show (_ : Int) ≠ 0; omega) | (show CPow _ _; unfold CPow; decide))
-- one step
local macro_rules | `(tactic| walk_at "rd") => `(tactic| first
  | (refine Exists.intro _ (And.intro rfl ?_))
  | (refine Exists.intro _ (Exists.intro _ (And.intro rfl (And.intro rfl ?_))))
  | (refine Or.inl (Exists.intro _ (And.intro rfl ?_)))
  | (refine Or.inr (Exists.intro _ (And.intro rfl ?_)))
  | (with_reducible refine iteF ?_) | (with_reducible refine iteT ?_)
  | (refine And.intro ?cc ?_; (case cc => walk_at "num"))
  | (refine' Exists.intro _ (Exists.intro _ (Exists.intro _ (Exists.intro _ (And.intro rfl (And.intro rfl (And.intro ?sq (And.intro ?ha ?k))))))); (case sq => walk_at "sq"); (case ha => first | exact rfl | assumption | exact at_zero))
  | (refine' Exists.intro _ (Exists.intro _ (And.intro rfl (And.intro (Or.inl ?sq) ?k))); (case sq => walk_at "sq")))
local macro_rules | `(tactic| walk_at "sqt") => `(tactic| first | assumption | (refine Or.inl (Or.inl ?_); walk_at "hp") | (apply Same.tup <;> assumption))
local macro_rules | `(tactic| walk_at "rdt") => `(tactic| first
  | walk_at "rd"
  | (refine' Exists.intro _ (Exists.intro _ (And.intro rfl (And.intro (Or.inr ?sq) ?k))); (case sq => walk_at "sqt"))
  | (refine' Exists.intro _ (Exists.intro _ (Exists.intro _ (Exists.intro _ (And.intro rfl (And.intro rfl (And.intro ?sq (And.intro ?ha ?k))))))); (case sq => walk_at "sqt"); (case ha => first | exact rfl | assumption | exact at_zero))
  | (refine iteF ?_) | (refine iteT ?_))
local macro_rules | `(tactic| walk_at "rds") => `(tactic| repeat walk_at "rdt")
local macro_rules | `(tactic| walk_at "pull") => `(tactic| (refine' Exists.intro _ (Exists.intro _ (Exists.intro _ (And.intro rfl (And.intro ?bag (And.intro ?pos (And.intro ?fit ?kk)))))); (case bag => assumption); (case pos => first | decide | omega); (case fit => exact Fit.of (by first | decide | omega) (by first | decide | omega))))
local macro_rules | `(tactic| walk_at "two") => `(tactic| refine Exists.intro _ (Exists.intro _ (And.intro rfl ?_)))
/-! ### steps by data -/
local macro_rules | `(tactic| walk_at "side") => `(tactic| first
  | exact rfl | assumption | exact Nat.le_of_ble_eq_true rfl | decide | exact True.intro | exact le_line (Nat.le_of_ble_eq_true rfl) | exact lt_line (Nat.le_of_ble_eq_true rfl) | omega | (show (_ : Int) ≠ 0; omega) | exact cut1_ok | (unfold CPow; decide) | exact mul_ok (small_abs (by omega)) (small_abs (by omega)) | exact div_small (by omega) (by omega))
local macro_rules | `(tactic| walk_at "dR") => `(tactic| first
  | with_reducible refine run_seq ?_ | with_reducible refine run_if ?_ | with_reducible refine run_set ?_ | with_reducible refine run_ret ?_ | with_reducible refine run_next ?_
  | with_reducible refine run_asg ?_ | with_reducible refine run_for ?_ | ((with_reducible refine' run_append ?ev ?kk); (case ev => exact rfl)) | ((with_reducible refine' run_aug ?ev ?kk); (case ev => exact rfl))
  | with_reducible refine run_par ?_ | with_reducible refine run_drop ?_ | with_reducible refine run_retN ?_ | with_reducible refine run_break ?_ | with_reducible refine run_cont ?_)
local macro_rules | `(tactic| walk_at "dE") => `(tactic| first
  | ((with_reducible refine' ev_var ?ev ?kk); (case ev => exact rfl))
  | with_reducible refine ev_op ?_ | with_reducible refine ev_int ?_ | with_reducible refine ev_str ?_ | with_reducible refine ev_callC (by assumption) ?_ | with_reducible refine ev_callX (by assumption) ?_ | with_reducible refine ev_call ?_ | with_reducible refine ev_cb ?_ | with_reducible refine ev_tup ?_
  | with_reducible refine ev_if ?_ | with_reducible refine ev_and ?_ | with_reducible refine ev_or ?_ | with_reducible refine ev_not ?_ | with_reducible refine ev_bl ?_ | with_reducible refine ev_non ?_ | with_reducible refine ev_isi ?_
  | with_reducible refine ev_un ?_ | with_reducible refine ev_chain ?_ | with_reducible refine ev_lst ?_ | with_reducible refine ev_cbf ?_ | with_reducible refine ev_sl ?_ | with_reducible refine ev_m1 ?_ | with_reducible refine ev_kget ?_ | with_reducible refine ev_fmt ?_ | with_reducible refine ev_join ?_ | with_reducible refine ev_ty ?_ | with_reducible refine ev_cV ?_)
local macro_rules | `(tactic| walk_at "dT") => `(tactic| first
  | with_reducible refine evt_t ?_ | with_reducible refine evt_b ?_ | with_reducible refine evt_and ?_ | with_reducible refine evt_or ?_ | with_reducible refine evt_not ?_ | with_reducible refine evt_yes ?_)
local macro_rules | `(tactic| walk_at "dX") => `(tactic| first
  | ((with_reducible refine' evx_name ?ev ?kk); (case ev => first | exact rfl | assumption)) | with_reducible refine evx_tup ?_ | with_reducible refine evx_lst ?_ | with_reducible refine evxs_cons ?_ | with_reducible refine evxs_nil ?_
  | ((with_reducible refine' evg_name ?ev ?mm ?kk); (case ev => first | exact rfl | assumption); (case mm => decide)) | with_reducible refine evg_tup ?_ | with_reducible refine evg_lst ?_ | with_reducible refine evgs_cons ?_ | with_reducible refine evgs_nil ?_
  | with_reducible refine evi_list ?_ | with_reducible refine evi_tup ?_ | with_reducible refine evi_rng1 ?_ | with_reducible refine evi_rng2 ?_ | with_reducible refine evi_enum ?_ | with_reducible refine evi_zip ?_
  | with_reducible refine evo_none ?_ | with_reducible refine evo_some ?_ | with_reducible refine evj_cons ?_ | with_reducible refine evj_nil ?_)
local macro_rules | `(tactic| walk_at "d1") => `(tactic| first
  | ((with_reducible change Ev _ _ _ _ _); walk_at "dE")
  | ((with_reducible change Run _ _ _ _ _); walk_at "dR")
  | with_reducible refine eva_cons ?_ | with_reducible refine eva_nil ?_
  | ((with_reducible change EvT _ _ _ _ _); walk_at "dT")
  | with_reducible refine eva_star ?_
  | with_reducible refine iteT ?_ | with_reducible refine iteF ?_
  | ((with_reducible change if (_ : Bool) = true then _ else _); first | refine iteT ?_ | refine iteF ?_)
  | ((with_reducible refine And.intro ?cc ?_); (case cc => walk_at "side"))
  | ((with_reducible refine' Exists.intro _ (And.intro ?cc ?kk)); (case cc => first | exact rfl | exact at_zero))
  | ((with_reducible refine' Exists.intro _ (Exists.intro _ (And.intro ?cc ?kk))); (case cc => exact rfl))
  | ((with_reducible refine' Exists.intro _ (Exists.intro _ (Exists.intro _ (And.intro ?cc (And.intro ?cd ?kk))))); (case cc => exact rfl); (case cd => exact rfl))
  | ((with_reducible refine' Exists.intro _ (Exists.intro _ (Exists.intro _ (And.intro ?cc ?kk)))); (case cc => exact rfl))
  | ((with_reducible refine' Exists.intro _ (Exists.intro _ (Exists.intro _ (Exists.intro _ (And.intro ?cc ?kk))))); (case cc => exact rfl))
  | walk_at "dX")
local macro_rules | `(tactic| walk_at "d2") => `(tactic| walk_at "d1")
local macro_rules | `(tactic| walk_at "dgo") => `(tactic| repeat walk_at "d1")
local macro_rules | `(tactic| walk_at "wk") => `(tactic| repeat first | exact True.intro | refine And.intro (Or.inl rfl) ?_ | refine And.intro (Or.inr (And.intro rfl rfl)) ?_)
local macro_rules | `(tactic| walk_at "isi") => `(tactic| (refine' Exists.intro _ (Exists.intro _ (Exists.intro _ (Exists.intro _ (Exists.intro _ (And.intro rfl (And.intro (ClsV.ty _) (And.intro ?tt (And.intro (kit_ty ?ee) ?kk)))))))); (case tt => assumption); (case ee => first | exact kb_int_list | exact kb_int_tuple | exact kb_int_dict | exact kb_int_bool | exact kb_int_int | exact kb_int_str | exact kb_str_list | exact kb_str_tuple | exact kb_str_dict | exact kb_str_bool | exact kb_str_int | exact kb_str_str | exact kb_bool_list | exact kb_bool_tuple | exact kb_bool_dict | exact kb_bool_bool | exact kb_bool_int | exact kb_bool_str | exact kb_NoneType_list | exact kb_NoneType_tuple | exact kb_NoneType_dict | exact kb_NoneType_bool | exact kb_NoneType_int | exact kb_NoneType_str | exact kb_list_list | exact kb_list_tuple | exact kb_list_dict | exact kb_list_bool | exact kb_list_int | exact kb_list_str | exact kb_tuple_list | exact kb_tuple_tuple | exact kb_tuple_dict | exact kb_tuple_bool | exact kb_tuple_int | exact kb_tuple_str)))
-- one step
local macro_rules | `(tactic| walk_at "same") => `(tactic| repeat first | walk_at "rdt" | walk_at "isi")
/-! ### steps by data -/
local macro_rules | `(tactic| walk_at "side") => `(tactic| first
  | exact rfl | with_reducible assumption | exact Nat.le_of_ble_eq_true rfl | decide | exact True.intro | exact le_line (Nat.le_of_ble_eq_true rfl) | exact lt_line (Nat.le_of_ble_eq_true rfl) | omega | (show (_ : Int) ≠ 0; omega) | exact cut1_ok | (unfold CPow; decide) | exact mul_ok (small_abs (by omega)) (small_abs (by omega)) | exact div_small (by omega) (by omega) | assumption)
local macro_rules | `(tactic| walk_at "dR") => `(tactic| first
  | with_reducible refine run_ownNil ?_ | with_reducible refine run_ownL ?_ | ((with_reducible refine' run_extend ?ev ?kk); (case ev => exact rfl))
  | ((with_reducible refine' run_fld ?c ?n ?e ?kk); (case c => assumption); (case n => assumption); (case e => exact rfl))
  | ((with_reducible refine' run_retO ?ev ?kk); (case ev => exact rfl)) | ((with_reducible refine' run_setix ?ev ?kk); (case ev => exact rfl)) | ((with_reducible refine' run_popAt ?ev ?kk); (case ev => exact rfl)) | ((with_reducible refine' run_insert ?ev ?kk); (case ev => exact rfl)) | with_reducible refine run_parL ?_ | with_reducible refine run_ownRep ?_
  | with_reducible refine run_seq ?_ | with_reducible refine run_if ?_ | with_reducible refine run_set ?_ | with_reducible refine run_ret ?_ | with_reducible refine run_next ?_
  | with_reducible refine run_asg ?_ | with_reducible refine run_for ?_ | ((with_reducible refine' run_append ?ev ?kk); (case ev => exact rfl)) | ((with_reducible refine' run_aug ?ev ?kk); (case ev => exact rfl))
  | with_reducible refine run_par ?_ | with_reducible refine run_drop ?_ | with_reducible refine run_retN ?_ | with_reducible refine run_break ?_ | with_reducible refine run_cont ?_)
local macro_rules | `(tactic| walk_at "dE") => `(tactic| first
  | ((with_reducible refine' ev_var ?ev ?kk); (case ev => exact rfl))
  | with_reducible refine ev_lenOwn ?_
  | ((with_reducible refine' ev_fldO ?ev ?dd ?kk); (case ev => exact rfl); (case dd => exact rfl)) | with_reducible refine ev_fld ?_ | with_reducible refine ev_methX (by assumption) ?_ | with_reducible refine ev_meth ?_ | with_reducible refine ev_prop ?_ | with_reducible refine ev_makeX (by assumption) ?_ | with_reducible refine ev_make ?_ | with_reducible refine ev_ownX (by assumption) ?_ | with_reducible refine ev_own ?_ | ((with_reducible refine' ev_isiOwn ?o ?kk); (case o => assumption))
  | ((with_reducible refine' ev_ixO ?ev ?kk); (case ev => exact rfl)) | with_reducible refine ev_rev ?_ | with_reducible refine ev_op ?_ | with_reducible refine ev_int ?_ | with_reducible refine ev_str ?_ | with_reducible refine ev_callKX (by assumption) ?_ | with_reducible refine ev_callK ?_ | with_reducible refine ev_callC (by assumption) ?_ | with_reducible refine ev_callX (by assumption) ?_ | with_reducible refine ev_call ?_ | with_reducible refine ev_cb ?_ | with_reducible refine ev_tup ?_
  | with_reducible refine ev_if ?_ | with_reducible refine ev_and ?_ | with_reducible refine ev_or ?_ | with_reducible refine ev_not ?_ | with_reducible refine ev_bl ?_ | with_reducible refine ev_non ?_ | with_reducible refine ev_isi ?_
  | with_reducible refine ev_un ?_ | with_reducible refine ev_chain ?_ | with_reducible refine ev_lst ?_ | with_reducible refine ev_cbf ?_ | with_reducible refine ev_sl ?_ | with_reducible refine ev_m1 ?_ | with_reducible refine ev_kget ?_ | with_reducible refine ev_fmt ?_ | with_reducible refine ev_join ?_ | with_reducible refine ev_ty ?_ | with_reducible refine ev_cV ?_)
local macro_rules | `(tactic| walk_at "dT") => `(tactic| first
  | with_reducible refine evt_t ?_ | with_reducible refine evt_b ?_ | with_reducible refine evt_and ?_ | with_reducible refine evt_or ?_ | with_reducible refine evt_not ?_ | with_reducible refine evt_yes ?_)
local macro_rules | `(tactic| walk_at "dX") => `(tactic| first
  | ((with_reducible refine' evx_name ?ev ?kk); (case ev => first | exact rfl | assumption)) | with_reducible refine evx_tup ?_ | with_reducible refine evx_lst ?_ | with_reducible refine evxs_cons ?_ | with_reducible refine evxs_nil ?_
  | ((with_reducible refine' evg_name ?ev ?mm ?kk); (case ev => first | exact rfl | assumption); (case mm => decide)) | with_reducible refine evg_tup ?_ | with_reducible refine evg_lst ?_ | with_reducible refine evgs_cons ?_ | with_reducible refine evgs_nil ?_
  | with_reducible refine evi_list ?_ | with_reducible refine evi_tup ?_ | with_reducible refine evi_rng1 ?_ | with_reducible refine evi_rng2 ?_ | with_reducible refine evi_enum ?_ | with_reducible refine evi_zip ?_
  | with_reducible refine eva_items ?_ | with_reducible refine evi_revA ?_ | with_reducible refine evi_enumT ?_ | with_reducible refine evf_cb ?_ | with_reducible refine evo_none ?_ | with_reducible refine evo_some ?_ | with_reducible refine evj_cons ?_ | with_reducible refine evj_nil ?_)
local macro_rules | `(tactic| walk_at "d1") => `(tactic| first
  | ((with_reducible change Ev _ _ _ _ _); walk_at "dE")
  | ((with_reducible change Run _ _ _ _ _); walk_at "dR")
  | with_reducible refine eva_cons ?_ | with_reducible refine eva_nil ?_
  | ((with_reducible change EvT _ _ _ _ _); walk_at "dT")
  | with_reducible refine eva_star ?_
  | with_reducible refine iteT ?_ | with_reducible refine iteF ?_
  | ((with_reducible change if (_ : Bool) = true then _ else _); first | refine iteT ?_ | refine iteF ?_)
  | ((with_reducible refine And.intro ?cc ?_); (case cc => walk_at "side"))
  | ((with_reducible refine' Exists.intro _ (And.intro ?cc ?kk)); (case cc => first | exact rfl | exact at_zero))
  | ((with_reducible refine' Exists.intro _ (Exists.intro _ (And.intro ?cc ?kk))); (case cc => exact rfl))
  | ((with_reducible refine' Exists.intro _ (Exists.intro _ (Exists.intro _ (And.intro ?cc (And.intro ?cd ?kk))))); (case cc => exact rfl); (case cd => exact rfl))
  | ((with_reducible refine' Exists.intro _ (Exists.intro _ (Exists.intro _ (And.intro ?cc ?kk)))); (case cc => exact rfl))
  | ((with_reducible refine' Exists.intro _ (Exists.intro _ (Exists.intro _ (Exists.intro _ (And.intro ?cc ?kk))))); (case cc => exact rfl))
  | walk_at "dX")
local macro_rules | `(tactic| walk_at "d2") => `(tactic| walk_at "d1")
local macro_rules | `(tactic| walk_at "dgo") => `(tactic| repeat walk_at "d1")
local macro_rules | `(tactic| walk_at "wk") => `(tactic| repeat first | exact True.intro | refine And.intro (Or.inl rfl) ?_ | refine And.intro (Or.inr (And.intro rfl rfl)) ?_)
local macro_rules | `(tactic| walk_at "d3") => `(tactic| first
  | ((with_reducible refine' ev_lenO ?ev ?kk); (case ev => exact rfl))
  | ((with_reducible refine' run_dputT ?ev ?kk); (case ev => exact rfl)) | ((with_reducible refine' run_dputK ?ev ?kk); (case ev => exact rfl)) | with_reducible refine run_dnewK ?_ | with_reducible refine run_dnewT ?_
  | ((with_reducible refine' ev_dgetK ?ev ?kk); (case ev => exact rfl)) | ((with_reducible refine' ev_dinK ?ev ?kk); (case ev => exact rfl)) | ((with_reducible refine' ev_dinT ?ev ?kk); (case ev => exact rfl)) | ((with_reducible refine' ev_dnotinK ?ev ?kk); (case ev => exact rfl))
  | ((with_reducible refine' run_append ?ev ?kk); (case ev => exact rfl)) | with_reducible refine run_appC ?_ | with_reducible refine run_par3 ?_ | ((with_reducible refine' eva_self ?ev ?kk); (case ev => exact rfl)) | with_reducible refine evf_methN ?_ | with_reducible refine ev_methN ?_ | with_reducible refine ev_listRg1 ?_
  | with_reducible refine evi_zipM ?_)
local macro_rules | `(tactic| walk_at "dgo") => `(tactic| repeat first | walk_at "d3" | walk_at "d1")
local macro_rules | `(tactic| walk_at "d3") => `(tactic| first
  | with_reducible refine evi_seq ?_ | with_reducible refine evi_orL ?_ | with_reducible refine ev_cref ?_ | ((with_reducible refine' ev_makeVX ?he ?ev ?kk); (case he => assumption); (case ev => exact rfl)))
/-! ### the law -/
def spLaw (K : PySem.W.Frag) : Sp := fun vs H Q _ => ∃ (a : Addr) (ns : List Int), vs = [.ref a] ∧ SqL K H a (ns.map V.int) ∧ ns.length ≤ 63 ∧ ∀ H', Q (.bl true) H'
theorem within_reach {d : Int} {m : Mv} (h : m.within d) (hd : 0 ≤ d) : m.reach ≤ d + 1 := by
  cases m <;> simp only [Mv.within, Mv.reach] at h ⊢
  · omega
  · omega
  · split <;> omega
  · omega
  · omega
  · omega
theorem wordP_one (m : Mv) : wordP [m] = mvP m := Fm.still_product (mvP_norm m)
theorem sumR_one (m : Mv) : sumR [m] = m.reach.toNat := by simp [sumR]
theorem sm_imgL (n : Nat) (L : List (Int × Bool)) (h : L.length < 1000) : smD (n + 2) (.lst (L.map imgD)) := sm_lst (by rw [List.length_map]; exact h) fun d hd => by
  obtain ⟨c, _, rfl⟩ := List.mem_map.mp hd
  exact sm_tup (Nat.le_of_ble_eq_true rfl) (all2 (smD_int _ _) (smD_bl _ _))
theorem listed_one {m : Mv} (hk : m.ok) {n : Nat} (hn : 2 * m.reach ≤ n) : imgL (mvP m) n = imagesL n [m] := by
  rw [images_one]
  unfold imgL
  apply List.map_congr_left
  intro i hi
  exact mvP_img hk hn (Int.natCast_nonneg i) (by have := List.mem_range.mp hi; omega)
section
variable {P : Program} {w : World} {K : PySem.W.Frag} {mg : Str → Option Value} {base : Heap}
theorem ok_law (T : Txt K mg w) : FnOk P w K mg base CX0 17 T.a_law T.d_law P_law (spLaw K) := by
  have G__law_bag := ok__law_bag (P := P) (w := w) (base := base) T
  have G__law_pull := okd_pull (P := P) (w := w) (base := base) T
  have G__law_same := okd_same (ok_same (P := P) (w := w) (base := base) T 4)
  have G__law_move := ok__law_move (P := P) (w := w) (base := base) T
  have G__law_depth := ok__law_depth (P := P) (w := w) (base := base) T
  have G__law_images := ok__law_images (P := P) (w := w) (base := base) T
  have G__law_goes := ok__law_goes (P := P) (w := w) (base := base) T
  have G__law_great := ok__law_great (P := P) (w := w) (base := base) T
  have G__law_place_of := ok__law_place_of (P := P) (w := w) (base := base) T
  have G__law_normal := ok__law_normal (P := P) (w := w) (base := base) T
  have G__law_read_parts := ok__law_read_parts (P := P) (w := w) (base := base) T
  have G_Form_of := fnR_of0 (ok_Form_of (P := P) (w := w) (base := base) T) T.b_Form_of
  have G_Form_image := ok_Form_image (P := P) (w := w) (base := base) T
  have G_Form_listed := ok_Form_listed (P := P) (w := w) (base := base) T
  have G_Form_least := ok_Form_least (P := P) (w := w) (base := base) T
  refine T.F_law.ok sc_law (fun vs H Q E h => ?_) (fun cdv A outer s H vs Q E hr h => ?_)
  · obtain ⟨a, ns, rfl, _⟩ := h
    rfl
  · obtain ⟨a, ns, rfl, hS, hlen, q⟩ := h
    refine ⟨_, (pss_cons (ps_set (i := 1) sc_law.nd rfl (Or.inl rfl) (pe_call G__law_bag (hr.mono (by decide)) (by rfl) T.g__law_bag T.F__law_bag.kp T.b__law_bag .nil pass0 (pa_cons (pv 0) pa_nil)))
  (pss_cons (ps_for PassesOwn.never rfl (pi_range1 rfl T.m_range (pa_cons pe_int pa_nil)) (pg_name (i := 2) sc_law.nd rfl (Or.inl rfl))
  (pss_cons (ps_set (i := 3) sc_law.nd rfl (Or.inl rfl) (pe_call G__law_move (hr.mono (by decide)) (by rfl) T.g__law_move T.F__law_move.kp T.b__law_move .nil pass0 (pa_cons (pv 1) (pa_cons pe_int pa_nil))))
  (pss_cons (ps_par (by rfl) sc_law.nd (i := 4) (j := 5) rfl rfl (by decide) rfl rfl (pa_cons (pe_cm (by rfl) T.g_Form T.r_Form T.K_Form_of G_Form_of (hr.mono (by decide)) passL (pa_cons (pe_lst (pa_cons (pv 3) pa_nil)) pa_nil)) (pa_cons (pe_op op_mulW pe_int (pe_call G__law_depth (hr.mono (by decide)) (by rfl) T.g__law_depth T.F__law_depth.kp T.b__law_depth .nil pass0 (pa_cons (pv 3) pa_nil))) pa_nil)) (by rfl))
  (pss_cons (ps_if (PW.pt (pw_or (pt_cmpR op_gt (pe_prop (pv 4) T.cls_Form T.P_Form_least G_Form_least (hr.mono (by decide)) T.b_Form_least .nil pass0 rfl) (pv 5) (nomark _)) (pw_or1 (pt_not (pt_val (pe_call G__law_same (hr.mono (by decide)) (by rfl) T.g__law_same T.F__law_same.kp T.b__law_same .nil pass0 (pa_cons (pe_call G__law_read_parts (hr.mono (by decide)) (by rfl) T.g__law_read_parts T.F__law_read_parts.kp T.b__law_read_parts .nil pass0 (pa_cons (pv 4) pa_nil)) (pa_cons (pe_call G__law_normal (hr.mono (by decide)) (by rfl) T.g__law_normal T.F__law_normal.kp T.b__law_normal .nil pass0 (pa_cons (pe_call G__law_read_parts (hr.mono (by decide)) (by rfl) T.g__law_read_parts T.F__law_read_parts.kp T.b__law_read_parts .nil pass0 (pa_cons (pv 4) pa_nil)) pa_nil)) pa_nil))))))))
  (pss_one (ps_ret pe_bl)) pss_nil)
  (pss_cons (ps_for PassesOwn.never rfl (k_piL (K := K) (pe_lst (pa_cons (pv 5) (pa_cons (pe_op op_add (pv 5) pe_int) (pa_cons (pe_op op_add (pe_op op_add (pv 5) pe_int) (pe_call G__law_pull (hr.mono (by decide)) (by rfl) T.g__law_pull T.F__law_pull.kp T.b__law_pull .nil pass0 (pa_cons (pv 1) (pa_cons pe_int pa_nil)))) pa_nil))))) (pg_name (i := 6) sc_law.nd rfl (Or.inl rfl))
  (pss_one (ps_if (pt_not (pt_val (pe_call G__law_same (hr.mono (by decide)) (by rfl) T.g__law_same T.F__law_same.kp T.b__law_same .nil pass0 (pa_cons (pe_meth (pv 4) T.cls_Form T.M_Form_listed G_Form_listed (hr.mono (by decide)) T.b_Form_listed .nil passL (pa_cons (pv 6) pa_nil)) (pa_cons (pe_call G__law_images (hr.mono (by decide)) (by rfl) T.g__law_images T.F__law_images.kp T.b__law_images .nil pass0 (pa_cons (pe_lst (pa_cons (pv 3) pa_nil)) (pa_cons (pv 6) pa_nil))) pa_nil)))))
  (pss_one (ps_ret pe_bl)) pss_nil)))
  (pss_cons (ps_set (i := 6) sc_law.nd rfl (Or.inl rfl) (pe_call G__law_great (hr.mono (by decide)) (by rfl) T.g__law_great T.F__law_great.kp T.b__law_great .nil pass0 (pa_cons (pv 1) pa_nil)))
  (pss_cons (ps_set (i := 7) sc_law.nd rfl (Or.inl rfl) (pe_call G__law_place_of (hr.mono (by decide)) (by rfl) T.g__law_place_of T.F__law_place_of.kp T.b__law_place_of .nil pass0 (pa_cons (pv 1) (pa_cons (pv 6) pa_nil))))
  (pss_one (ps_if (pt_not (pt_val (pe_call G__law_same (hr.mono (by decide)) (by rfl) T.g__law_same T.F__law_same.kp T.b__law_same .nil pass0 (pa_cons (pe_meth (pv 4) T.cls_Form T.M_Form_image G_Form_image (hr.mono (by decide)) T.b_Form_image .nil passL (pa_cons (pv 6) (pa_cons (pv 7) pa_nil))) (pa_cons (pe_call G__law_goes (hr.mono (by decide)) (by rfl) T.g__law_goes T.F__law_goes.kp T.b__law_goes .nil pass0 (pa_cons (pv 3) (pa_cons (pv 6) (pa_cons (pv 7) pa_nil)))) pa_nil)))))
  (pss_one (ps_ret pe_bl)) pss_nil)))))))))
  (pss_one (ps_ret (pe_cmpR (k_eqD (K := K) hr.units) (pe_meth (pe_cm (by rfl) T.g_Form T.r_Form T.K_Form_of G_Form_of (hr.mono (by decide)) passL (pa_cons (pe_lst (pa_cons (pe_tup (pa_cons pe_str pa_nil)) pa_nil)) pa_nil)) T.cls_Form T.M_Form_listed G_Form_listed (hr.mono (by decide)) T.b_Form_listed .nil passL (pa_cons pe_int pa_nil)) (pe_lst (pa_cons (pe_tup (pa_cons pe_int (pa_cons pe_bl pa_nil))) (pa_cons (pe_tup (pa_cons pe_int (pa_cons pe_bl pa_nil))) (pa_cons (pe_tup (pa_cons pe_int (pa_cons pe_bl pa_nil))) pa_nil)))) (nomark _)))))), ?_⟩
    refine ⟨.ref a, rfl, a, ns, rfl, hS, hlen, fun b l H1 nb nl s1 hB1 => ?_⟩
    dsimp only [gName]
    refine law_run (K := K) (E := E) (n := 6) hB1 q fun C hE hC => ?_
    walk_at "dgo"
    refine forW [.val (.oth (.ref a)), .val (.oth (.ref b)), .no, .no, .no, .no, .no, .no] (by walk_at "wk") (fun hv hd i d hi => ?_) (seq_wk ?_)
    · walk_at "dgo"
      intro m hm
      have hk := within_ok hm (by decide)
      have hr6 := within_reach hm (by decide)
      have hr0 := Mv.reach0 hk
      have hF := mvP_fo hk
      have hl : least (mvP m) ≤ 2 * m.reach.toNat := by
        have := hF.l true
        have := hF.l false
        unfold least
        show (Fm.tabL (mvP m) true).length + (Fm.tabL (mvP m) false).length ≤ _
        omega
      have him : ∀ n x : Int, 2 * m.reach ≤ n → 0 ≤ x → x < n → Fm.img (mvP m) n x = m.image n x := fun n x h1 h2 h3 => mvP_img hk h1 h2 h3
      have hli : ∀ n : Nat, 2 * m.reach ≤ n → imgL (mvP m) n = imagesL n [m] := fun n h => listed_one hk h
      walk_at "dgo"
      refine ⟨[m], rfl, fun x hx => by rw [List.mem_singleton.mp hx]; exact hk, Nat.le_of_ble_eq_true rfl, by rw [sumR_one]; omega, ?_⟩
      rw [wordP_one]
      generalize mvP m = F at hF hl him hli ⊢
      have x1 : F.top.length ≤ m.reach.toNat := hF.l true
      have x2 : F.bot.length ≤ m.reach.toNat := hF.l false
      have t1 : Fm.trim F.t F.s true F.top = F.top := Fm.trim_id (hF.nm true)
      have t2 : Fm.trim F.t F.s false F.bot = F.bot := Fm.trim_id (hF.nm false)
      walk_at "dgo"
      refine iteD (fun z => by omega) (fun _ => ?_)
      walk_at "dgo"
      rw [t1, t2]
      walk_at "dgo"
      refine ⟨sm_ptL 1 _ _ (by omega) (by omega), ?_⟩
      walk_at "dgo"
      intro r r0 r1
      walk_at "dgo"
      refine forW [.val (.oth (.ref a)), .val (.oth (.ref b)), .no, .val (mvD m), .val (formD T.a_Form F), .no, .no, .no] (by walk_at "wk") (fun hv2 hd2 k2 d2 hi2 => ?_) (seq_wk ?_)
      · have hd2' : ∃ n : Nat, d2 = .int (n : Int) ∧ 2 * m.reach ≤ n ∧ n ≤ 100 := by
          have h := List.mem_of_getElem? hi2
          simp only [List.mem_cons, List.not_mem_nil, or_false] at h
          rcases h with rfl | rfl | rfl
          · exact ⟨(2 * m.reach).toNat, by rw [Int.toNat_of_nonneg (by omega)], by omega, by omega⟩
          · exact ⟨(2 * m.reach + 1).toNat, by rw [Int.toNat_of_nonneg (by omega)], by omega, by omega⟩
          · exact ⟨(2 * m.reach + 2 + r).toNat, by rw [Int.toNat_of_nonneg (by omega)], by omega, by omega⟩
        obtain ⟨n, rfl, n1, n2⟩ := hd2'
        have hz := hli n n1
        have hzl : (imagesL n [m]).length < 1000 := by rw [images_len]; omega
        have c1 : ¬ badSize (n : Int) := fun z => by unfold badSize at z; omega
        walk_at "dgo"
        rw [if_neg c1, if_neg (by omega), if_neg (by omega), Int.toNat_natCast, hz]
        walk_at "dgo"
        refine ⟨[m], n, rfl, fun x hx => by rw [List.mem_singleton.mp hx]; exact hk, by omega, ?_⟩
        walk_at "dgo"
        refine ⟨sm_imgL 2 _ hzl, ?_⟩
        walk_at "dgo"
        walk_at "wk"
      walk_at "dgo"
      intro z z0 z1
      walk_at "dgo"
      intro x y0 y1
      have c1 : ¬ badSize z := fun h => by unfold badSize at h; omega
      have hz := him z x (by omega) y0 y1
      have c2 : ¬ z < (least F : Int) := by omega
      have c3 : ¬ (x < 0 ∨ z ≤ x) := by omega
      walk_at "dgo"
      rw [if_neg c1, if_neg c2, if_neg c3, hz]
      walk_at "dgo"
      refine ⟨sm_tup (Nat.le_of_ble_eq_true rfl) (all2 (smD_int _ _) (smD_bl _ _)), ?_⟩
      walk_at "dgo"
      walk_at "wk"
    · have ko : (Mv.over).ok := True.intro
      have hz : imgL (mvP .over) 3 = [(2, true), (1, true), (0, true)] := by
        rw [listed_one ko (by show 2 * (0 : Int) ≤ 3; decide)]
        decide
      have hF := mvP_fo ko
      have hl : least (mvP .over) ≤ 3 := by
        have := hF.l true
        have := hF.l false
        unfold least
        show (Fm.tabL (mvP .over) true).length + (Fm.tabL (mvP .over) false).length ≤ _
        have e : Mv.over.reach.toNat = 0 := rfl
        omega
      walk_at "dgo"
      refine ⟨[.over], rfl, fun x hx => by rw [List.mem_singleton.mp hx]; exact ko, Nat.le_of_ble_eq_true rfl, by decide, ?_⟩
      rw [wordP_one]
      walk_at "dgo"
      rw [if_neg (by decide), if_neg (by omega), if_neg (by decide)]
      rw [show Int.toNat 3 = 3 from rfl, hz]
      walk_at "dgo"
      have e : (D.lst (List.map imD [(2, true), (1, true), (0, true)])).py.eqv (D.lst [D.tup [D.int 2, D.bl true], D.tup [D.int 1, D.bl true], D.tup [D.int 0, D.bl true]]).py = true := by decide +kernel
      rw [e]
end
theorem all_mk {w : World} {K : PySem.W.Frag} {h : Heap} {mg : Str → Option Value} {fa : Addr} (X : K.In h) (G : h.Ns mainGlobals mg) (hfa : mg "law" = some (.ref fa))
    {f0 f1 f2 f3 f4 f5 f6 f7 f8 f9 f10 f11 f12 f13 f14 f15 f16 f17 f18 f19 f20 f21 f22 f23 f24 f25 f26 f27 f28 f29 f30 f31 f32 f33 f34 f35 f36 f37 f38 f39 f40 f41 f42 f43 f44 f45 f46 f47 f48 f49 f50 f51 f52 f53 f54 f55 f56 f57 f58 f59 f60 f61 : Addr} {od0 an0 od1 an1 od2 an2 od3 an3 od4 an4 od5 an5 od6 an6 od7 an7 od8 an8 od9 an9 od10 an10 od11 an11 od12 an12 od13 an13 od14 an14 od15 an15 od16 an16 od17 an17 od18 an18 od19 an19 od20 an20 od21 an21 od22 an22 od23 an23 od24 an24 od25 an25 od26 an26 od27 an27 od28 an28 od29 an29 od30 an30 od31 an31 od32 an32 od33 an33 od34 an34 od35 an35 od36 an36 od37 an37 od38 an38 od39 an39 od40 an40 od41 an41 od42 an42 od43 an43 od44 an44 od45 an45 od46 an46 od47 an47 od48 an48 od49 an49 od50 an50 od51 an51 od52 an52 od53 an53 od54 an54 od55 an55 od56 an56 od57 an57 od58 an58 od59 an59 od60 an60 od61 an61 : Option Addr} {sl0 sl1 sl2 sl3 sl4 sl5 sl6 sl7 sl8 sl9 sl10 sl11 sl12 sl13 sl14 sl15 sl16 sl17 sl18 sl19 sl20 sl21 sl22 sl23 sl24 sl25 sl26 sl27 sl28 sl29 sl30 sl31 sl32 sl33 sl34 sl35 sl36 sl37 sl38 sl39 sl40 sl41 sl42 sl43 sl44 sl45 sl46 sl47 sl48 sl49 sl50 sl51 sl52 sl53 sl54 sl55 sl56 sl57 sl58 sl59 sl60 sl61 : Array (Option Value)} {oc0 kV0 dc0 pm0 cd0 ct0 oc1 kV1 dc1 pm1 cd1 ct1 oc2 kV2 dc2 pm2 cd2 ct2 oc3 kV3 dc3 pm3 cd3 ct3 oc4 kV4 dc4 pm4 cd4 ct4 oc5 kV5 dc5 pm5 cd5 ct5 oc6 kV6 dc6 pm6 cd6 ct6 oc7 kV7 dc7 pm7 cd7 ct7 oc8 kV8 dc8 pm8 cd8 ct8 oc9 kV9 dc9 pm9 cd9 ct9 oc10 kV10 dc10 pm10 cd10 ct10 oc11 kV11 dc11 pm11 cd11 ct11 oc12 kV12 dc12 pm12 cd12 ct12 oc13 kV13 dc13 pm13 cd13 ct13 oc14 kV14 dc14 pm14 cd14 ct14 oc15 kV15 dc15 pm15 cd15 ct15 oc16 kV16 dc16 pm16 cd16 ct16 oc17 kV17 dc17 pm17 cd17 ct17 oc18 kV18 dc18 pm18 cd18 ct18 oc19 kV19 dc19 pm19 cd19 ct19 oc20 kV20 dc20 pm20 cd20 ct20 oc21 kV21 dc21 pm21 cd21 ct21 oc22 kV22 dc22 pm22 cd22 ct22 oc23 kV23 dc23 pm23 cd23 ct23 oc24 kV24 dc24 pm24 cd24 ct24 oc25 kV25 dc25 pm25 cd25 ct25 oc26 kV26 dc26 pm26 cd26 ct26 oc27 kV27 dc27 pm27 cd27 ct27 oc28 kV28 dc28 pm28 cd28 ct28 oc29 kV29 dc29 pm29 cd29 ct29 oc30 kV30 dc30 pm30 cd30 ct30 oc31 kV31 dc31 pm31 cd31 ct31 oc32 kV32 dc32 pm32 cd32 ct32 oc33 kV33 dc33 pm33 cd33 ct33 oc34 kV34 dc34 pm34 cd34 ct34 oc35 kV35 dc35 pm35 cd35 ct35 oc36 kV36 dc36 pm36 cd36 ct36 oc37 kV37 dc37 pm37 cd37 ct37 oc38 kV38 dc38 pm38 cd38 ct38 oc39 kV39 dc39 pm39 cd39 ct39 oc40 kV40 dc40 pm40 cd40 ct40 oc41 kV41 dc41 pm41 cd41 ct41 oc42 kV42 dc42 pm42 cd42 ct42 oc43 kV43 dc43 pm43 cd43 ct43 oc44 kV44 dc44 pm44 cd44 ct44 oc45 kV45 dc45 pm45 cd45 ct45 oc46 kV46 dc46 pm46 cd46 ct46 oc47 kV47 dc47 pm47 cd47 ct47 oc48 kV48 dc48 pm48 cd48 ct48 oc49 kV49 dc49 pm49 cd49 ct49 oc50 kV50 dc50 pm50 cd50 ct50 oc51 kV51 dc51 pm51 cd51 ct51 oc52 kV52 dc52 pm52 cd52 ct52 oc53 kV53 dc53 pm53 cd53 ct53 oc54 kV54 dc54 pm54 cd54 ct54 oc55 kV55 dc55 pm55 cd55 ct55 oc56 kV56 dc56 pm56 cd56 ct56 oc57 kV57 dc57 pm57 cd57 ct57 oc58 kV58 dc58 pm58 cd58 ct58 oc59 kV59 dc59 pm59 cd59 ct59 oc60 kV60 dc60 pm60 cd60 ct60 oc61 kV61 dc61 pm61 cd61 ct61 : Value} {t_MOST_DEPTH : Tok} {t_MOST_CARDS : Tok} {t_MOST_LISTED : Tok} {t_MOST_BLOCK : Tok} {a_SHAPES : Addr} {es_SHAPES : Array DictEntry} {n_SHAPES : Nat} {a_SHAPES_swap : Addr} {dd_SHAPES_swap : Option Addr} {m_SHAPES_swap : Nat} {sl_SHAPES_swap : Array (Option Value)} {u_SHAPES_swap_0 u_SHAPES_swap_1 : Tok} {a_SHAPES_carry : Addr} {dd_SHAPES_carry : Option Addr} {m_SHAPES_carry : Nat} {sl_SHAPES_carry : Array (Option Value)} {u_SHAPES_carry_0 u_SHAPES_carry_1 : Tok} {a_SHAPES_cut : Addr} {dd_SHAPES_cut : Option Addr} {m_SHAPES_cut : Nat} {sl_SHAPES_cut : Array (Option Value)} {u_SHAPES_cut_0 : Tok} {a_SHAPES_turn : Addr} {dd_SHAPES_turn : Option Addr} {m_SHAPES_turn : Nat} {sl_SHAPES_turn : Array (Option Value)} {u_SHAPES_turn_0 u_SHAPES_turn_1 : Tok} {a_SHAPES_over : Addr} {dd_SHAPES_over : Option Addr} {m_SHAPES_over : Nat} {sl_SHAPES_over : Array (Option Value)} {a_SHAPES_face : Addr} {dd_SHAPES_face : Option Addr} {m_SHAPES_face : Nat} {sl_SHAPES_face : Array (Option Value)} {u_SHAPES_face_0 : Tok} {a_BLOCKS : Addr} {es_BLOCKS : Array DictEntry} {n_BLOCKS : Nat} {aX_PileError : Addr} {fX_PileError : Addr} {odX_PileError anX_PileError ddX_PileError : Option Addr} {slX_PileError : Array (Option Value)} {ocX_PileError kVX_PileError dcX_PileError pmX_PileError cdX_PileError ctX_PileError : Value} {TX_PileError : Addr} {smX_PileError : Array (Option Value)} {uX_PileError : Tok} {mX_PileError : Nat} {aX_BadPlace : Addr} {fX_BadPlace : Addr} {odX_BadPlace anX_BadPlace ddX_BadPlace : Option Addr} {slX_BadPlace : Array (Option Value)} {ocX_BadPlace kVX_BadPlace dcX_BadPlace pmX_BadPlace cdX_BadPlace ctX_BadPlace : Value} {nmX_BadPlace qX_BadPlace : Str} {NX_BadPlace : Addr} {bsX_BadPlace bmX_BadPlace subX_BadPlace : List Value} {snX_BadPlace : List Str} {abX_BadPlace : Bool} {colX_BadPlace : Option Bool} {k0X_BadPlace k1X_BadPlace k2X_BadPlace k3X_BadPlace k5X_BadPlace : Option Value} {aX_BadMove : Addr} {fX_BadMove : Addr} {odX_BadMove anX_BadMove ddX_BadMove : Option Addr} {slX_BadMove : Array (Option Value)} {ocX_BadMove kVX_BadMove dcX_BadMove pmX_BadMove cdX_BadMove ctX_BadMove : Value} {nmX_BadMove qX_BadMove : Str} {NX_BadMove : Addr} {bsX_BadMove bmX_BadMove subX_BadMove : List Value} {snX_BadMove : List Str} {abX_BadMove : Bool} {colX_BadMove : Option Bool} {k0X_BadMove k1X_BadMove k2X_BadMove k3X_BadMove k5X_BadMove : Option Value} {aX_TooWide : Addr} {fX_TooWide : Addr} {odX_TooWide anX_TooWide ddX_TooWide : Option Addr} {slX_TooWide : Array (Option Value)} {ocX_TooWide kVX_TooWide dcX_TooWide pmX_TooWide cdX_TooWide ctX_TooWide : Value} {nmX_TooWide qX_TooWide : Str} {NX_TooWide : Addr} {bsX_TooWide bmX_TooWide subX_TooWide : List Value} {snX_TooWide : List Str} {abX_TooWide : Bool} {colX_TooWide : Option Bool} {k0X_TooWide k1X_TooWide k2X_TooWide k3X_TooWide k5X_TooWide : Option Value} {aX_BadSize : Addr} {fX_BadSize : Addr} {odX_BadSize anX_BadSize ddX_BadSize : Option Addr} {slX_BadSize : Array (Option Value)} {ocX_BadSize kVX_BadSize dcX_BadSize pmX_BadSize cdX_BadSize ctX_BadSize : Value} {nmX_BadSize qX_BadSize : Str} {NX_BadSize : Addr} {bsX_BadSize bmX_BadSize subX_BadSize : List Value} {snX_BadSize : List Str} {abX_BadSize : Bool} {colX_BadSize : Option Bool} {k0X_BadSize k1X_BadSize k2X_BadSize k3X_BadSize k5X_BadSize : Option Value} {aX_TooGreat : Addr} {fX_TooGreat : Addr} {odX_TooGreat anX_TooGreat ddX_TooGreat : Option Addr} {slX_TooGreat : Array (Option Value)} {ocX_TooGreat kVX_TooGreat dcX_TooGreat pmX_TooGreat cdX_TooGreat ctX_TooGreat : Value} {nmX_TooGreat qX_TooGreat : Str} {NX_TooGreat : Addr} {bsX_TooGreat bmX_TooGreat subX_TooGreat : List Value} {snX_TooGreat : List Str} {abX_TooGreat : Bool} {colX_TooGreat : Option Bool} {k0X_TooGreat k1X_TooGreat k2X_TooGreat k3X_TooGreat k5X_TooGreat : Option Value} {aX_TooSmall : Addr} {fX_TooSmall : Addr} {odX_TooSmall anX_TooSmall ddX_TooSmall : Option Addr} {slX_TooSmall : Array (Option Value)} {ocX_TooSmall kVX_TooSmall dcX_TooSmall pmX_TooSmall cdX_TooSmall ctX_TooSmall : Value} {nmX_TooSmall qX_TooSmall : Str} {NX_TooSmall : Addr} {bsX_TooSmall bmX_TooSmall subX_TooSmall : List Value} {snX_TooSmall : List Str} {abX_TooSmall : Bool} {colX_TooSmall : Option Bool} {k0X_TooSmall k1X_TooSmall k2X_TooSmall k3X_TooSmall k5X_TooSmall : Option Value} {aX_NoPlace : Addr} {fX_NoPlace : Addr} {odX_NoPlace anX_NoPlace ddX_NoPlace : Option Addr} {slX_NoPlace : Array (Option Value)} {ocX_NoPlace kVX_NoPlace dcX_NoPlace pmX_NoPlace cdX_NoPlace ctX_NoPlace : Value} {nmX_NoPlace qX_NoPlace : Str} {NX_NoPlace : Addr} {bsX_NoPlace bmX_NoPlace subX_NoPlace : List Value} {snX_NoPlace : List Str} {abX_NoPlace : Bool} {colX_NoPlace : Option Bool} {k0X_NoPlace k1X_NoPlace k2X_NoPlace k3X_NoPlace k5X_NoPlace : Option Value} {aY_Form : Addr} {pY_Form_turned : Addr} {rY_Form_turned : List Value} {pY_Form_shift : Addr} {rY_Form_shift : List Value} {pY_Form_least : Addr} {rY_Form_least : List Value} {pY_Form_of : Addr} {rY_Form_of : List Value} {tY_Form_WIDEST : Tok}
    (a0 : PySem.W.nsIn K mainGlobals "_wall" = some (some (.ref f0))) (l0 : K.lookup f0 = some ⟨oc0, od0, .func (PySem.W.fnOf "_wall" "_wall" (defArgs s__wall) (defBody s__wall) (defScope s__wall) .none kV0 dc0 pm0 an0 cd0 ct0), sl0⟩) (c0 : PySem.W.codeIn K cd0 "_wall" = true) (k0 : PySem.W.keepIn K (.ref f0) = true)
    (a1 : PySem.W.nsIn K mainGlobals "is_number" = some (some (.ref f1))) (l1 : K.lookup f1 = some ⟨oc1, od1, .func (PySem.W.fnOf "is_number" "is_number" (defArgs s_is_number) (defBody s_is_number) (defScope s_is_number) .none kV1 dc1 pm1 an1 cd1 ct1), sl1⟩) (c1 : PySem.W.codeIn K cd1 "is_number" = true) (k1 : PySem.W.keepIn K (.ref f1) = true)
    (a2 : PySem.W.nsIn K mainGlobals "is_end" = some (some (.ref f2))) (l2 : K.lookup f2 = some ⟨oc2, od2, .func (PySem.W.fnOf "is_end" "is_end" (defArgs s_is_end) (defBody s_is_end) (defScope s_is_end) .none kV2 dc2 pm2 an2 cd2 ct2), sl2⟩) (c2 : PySem.W.codeIn K cd2 "is_end" = true) (k2 : PySem.W.keepIn K (.ref f2) = true)
    (a3 : PySem.W.nsIn K mainGlobals "is_end_place" = some (some (.ref f3))) (l3 : K.lookup f3 = some ⟨oc3, od3, .func (PySem.W.fnOf "is_end_place" "is_end_place" (defArgs s_is_end_place) (defBody s_is_end_place) (defScope s_is_end_place) .none kV3 dc3 pm3 an3 cd3 ct3), sl3⟩) (c3 : PySem.W.codeIn K cd3 "is_end_place" = true) (k3 : PySem.W.keepIn K (.ref f3) = true)
    (a4 : PySem.W.nsIn K mainGlobals "check_end_place" = some (some (.ref f4))) (l4 : K.lookup f4 = some ⟨oc4, od4, .func (PySem.W.fnOf "check_end_place" "check_end_place" (defArgs s_check_end_place) (defBody s_check_end_place) (defScope s_check_end_place) .none kV4 dc4 pm4 an4 cd4 ct4), sl4⟩) (c4 : PySem.W.codeIn K cd4 "check_end_place" = true) (k4 : PySem.W.keepIn K (.ref f4) = true)
    (a5 : PySem.W.nsIn K mainGlobals "check_size" = some (some (.ref f5))) (l5 : K.lookup f5 = some ⟨oc5, od5, .func (PySem.W.fnOf "check_size" "check_size" (defArgs s_check_size) (defBody s_check_size) (defScope s_check_size) .none kV5 dc5 pm5 an5 cd5 ct5), sl5⟩) (c5 : PySem.W.codeIn K cd5 "check_size" = true) (k5 : PySem.W.keepIn K (.ref f5) = true)
    (a6 : PySem.W.nsIn K mainGlobals "check_listed" = some (some (.ref f6))) (l6 : K.lookup f6 = some ⟨oc6, od6, .func (PySem.W.fnOf "check_listed" "check_listed" (defArgs s_check_listed) (defBody s_check_listed) (defScope s_check_listed) .none kV6 dc6 pm6 an6 cd6 ct6), sl6⟩) (c6 : PySem.W.codeIn K cd6 "check_listed" = true) (k6 : PySem.W.keepIn K (.ref f6) = true)
    (a7 : PySem.W.nsIn K mainGlobals "check_place" = some (some (.ref f7))) (l7 : K.lookup f7 = some ⟨oc7, od7, .func (PySem.W.fnOf "check_place" "check_place" (defArgs s_check_place) (defBody s_check_place) (defScope s_check_place) .none kV7 dc7 pm7 an7 cd7 ct7), sl7⟩) (c7 : PySem.W.codeIn K cd7 "check_place" = true) (k7 : PySem.W.keepIn K (.ref f7) = true)
    (a8 : PySem.W.nsIn K mainGlobals "resolve" = some (some (.ref f8))) (l8 : K.lookup f8 = some ⟨oc8, od8, .func (PySem.W.fnOf "resolve" "resolve" (defArgs s_resolve) (defBody s_resolve) (defScope s_resolve) .none kV8 dc8 pm8 an8 cd8 ct8), sl8⟩) (c8 : PySem.W.codeIn K cd8 "resolve" = true) (k8 : PySem.W.keepIn K (.ref f8) = true)
    (a9 : PySem.W.nsIn K mainGlobals "is_move" = some (some (.ref f9))) (l9 : K.lookup f9 = some ⟨oc9, od9, .func (PySem.W.fnOf "is_move" "is_move" (defArgs s_is_move) (defBody s_is_move) (defScope s_is_move) .none kV9 dc9 pm9 an9 cd9 ct9), sl9⟩) (c9 : PySem.W.codeIn K cd9 "is_move" = true) (k9 : PySem.W.keepIn K (.ref f9) = true)
    (a10 : PySem.W.nsIn K mainGlobals "fits" = some (some (.ref f10))) (l10 : K.lookup f10 = some ⟨oc10, od10, .func (PySem.W.fnOf "fits" "fits" (defArgs s_fits) (defBody s_fits) (defScope s_fits) .none kV10 dc10 pm10 an10 cd10 ct10), sl10⟩) (c10 : PySem.W.codeIn K cd10 "fits" = true) (k10 : PySem.W.keepIn K (.ref f10) = true)
    (a11 : PySem.W.nsIn K mainGlobals "cards_needed" = some (some (.ref f11))) (l11 : K.lookup f11 = some ⟨oc11, od11, .func (PySem.W.fnOf "cards_needed" "cards_needed" (defArgs s_cards_needed) (defBody s_cards_needed) (defScope s_cards_needed) .none kV11 dc11 pm11 an11 cd11 ct11), sl11⟩) (c11 : PySem.W.codeIn K cd11 "cards_needed" = true) (k11 : PySem.W.keepIn K (.ref f11) = true)
    (a12 : PySem.W.nsIn K mainGlobals "all_images" = some (some (.ref f12))) (l12 : K.lookup f12 = some ⟨oc12, od12, .func (PySem.W.fnOf "all_images" "all_images" (defArgs s_all_images) (defBody s_all_images) (defScope s_all_images) .none kV12 dc12 pm12 an12 cd12 ct12), sl12⟩) (c12 : PySem.W.codeIn K cd12 "all_images" = true) (k12 : PySem.W.keepIn K (.ref f12) = true)
    (a13 : PySem.W.nsIn K mainGlobals "laid_anew" = some (some (.ref f13))) (l13 : K.lookup f13 = some ⟨oc13, od13, .func (PySem.W.fnOf "laid_anew" "laid_anew" (defArgs s_laid_anew) (defBody s_laid_anew) (defScope s_laid_anew) .none kV13 dc13 pm13 an13 cd13 ct13), sl13⟩) (c13 : PySem.W.codeIn K cd13 "laid_anew" = true) (k13 : PySem.W.keepIn K (.ref f13) = true)
    (a14 : PySem.W.nsIn K mainGlobals "turned_over" = some (some (.ref f14))) (l14 : K.lookup f14 = some ⟨oc14, od14, .func (PySem.W.fnOf "turned_over" "turned_over" (defArgs s_turned_over) (defBody s_turned_over) (defScope s_turned_over) .none kV14 dc14 pm14 an14 cd14 ct14), sl14⟩) (c14 : PySem.W.codeIn K cd14 "turned_over" = true) (k14 : PySem.W.keepIn K (.ref f14) = true)
    (a15 : PySem.W.nsIn K mainGlobals "blocks" = some (some (.ref f15))) (l15 : K.lookup f15 = some ⟨oc15, od15, .func (PySem.W.fnOf "blocks" "blocks" (defArgs s_blocks) (defBody s_blocks) (defScope s_blocks) .none kV15 dc15 pm15 an15 cd15 ct15), sl15⟩) (c15 : PySem.W.codeIn K cd15 "blocks" = true) (k15 : PySem.W.keepIn K (.ref f15) = true)
    (a16 : PySem.W.nsIn K mainGlobals "swap_blocks" = some (some (.ref f16))) (l16 : K.lookup f16 = some ⟨oc16, od16, .func (PySem.W.fnOf "swap_blocks" "swap_blocks" (defArgs s_swap_blocks) (defBody s_swap_blocks) (defScope s_swap_blocks) .none kV16 dc16 pm16 an16 cd16 ct16), sl16⟩) (c16 : PySem.W.codeIn K cd16 "swap_blocks" = true) (k16 : PySem.W.keepIn K (.ref f16) = true)
    (a17 : PySem.W.nsIn K mainGlobals "carry_blocks" = some (some (.ref f17))) (l17 : K.lookup f17 = some ⟨oc17, od17, .func (PySem.W.fnOf "carry_blocks" "carry_blocks" (defArgs s_carry_blocks) (defBody s_carry_blocks) (defScope s_carry_blocks) .none kV17 dc17 pm17 an17 cd17 ct17), sl17⟩) (c17 : PySem.W.codeIn K cd17 "carry_blocks" = true) (k17 : PySem.W.keepIn K (.ref f17) = true)
    (a18 : PySem.W.nsIn K mainGlobals "cut_blocks" = some (some (.ref f18))) (l18 : K.lookup f18 = some ⟨oc18, od18, .func (PySem.W.fnOf "cut_blocks" "cut_blocks" (defArgs s_cut_blocks) (defBody s_cut_blocks) (defScope s_cut_blocks) .none kV18 dc18 pm18 an18 cd18 ct18), sl18⟩) (c18 : PySem.W.codeIn K cd18 "cut_blocks" = true) (k18 : PySem.W.keepIn K (.ref f18) = true)
    (a19 : PySem.W.nsIn K mainGlobals "turn_blocks" = some (some (.ref f19))) (l19 : K.lookup f19 = some ⟨oc19, od19, .func (PySem.W.fnOf "turn_blocks" "turn_blocks" (defArgs s_turn_blocks) (defBody s_turn_blocks) (defScope s_turn_blocks) .none kV19 dc19 pm19 an19 cd19 ct19), sl19⟩) (c19 : PySem.W.codeIn K cd19 "turn_blocks" = true) (k19 : PySem.W.keepIn K (.ref f19) = true)
    (a20 : PySem.W.nsIn K mainGlobals "over_blocks" = some (some (.ref f20))) (l20 : K.lookup f20 = some ⟨oc20, od20, .func (PySem.W.fnOf "over_blocks" "over_blocks" (defArgs s_over_blocks) (defBody s_over_blocks) (defScope s_over_blocks) .none kV20 dc20 pm20 an20 cd20 ct20), sl20⟩) (c20 : PySem.W.codeIn K cd20 "over_blocks" = true) (k20 : PySem.W.keepIn K (.ref f20) = true)
    (a21 : PySem.W.nsIn K mainGlobals "face_blocks" = some (some (.ref f21))) (l21 : K.lookup f21 = some ⟨oc21, od21, .func (PySem.W.fnOf "face_blocks" "face_blocks" (defArgs s_face_blocks) (defBody s_face_blocks) (defScope s_face_blocks) .none kV21 dc21 pm21 an21 cd21 ct21), sl21⟩) (c21 : PySem.W.codeIn K cd21 "face_blocks" = true) (k21 : PySem.W.keepIn K (.ref f21) = true)
    (a22 : PySem.W.nsIn K mainGlobals "ends_of" = some (some (.ref f22))) (l22 : K.lookup f22 = some ⟨oc22, od22, .func (PySem.W.fnOf "ends_of" "ends_of" (defArgs s_ends_of) (defBody s_ends_of) (defScope s_ends_of) .none kV22 dc22 pm22 an22 cd22 ct22), sl22⟩) (c22 : PySem.W.codeIn K cd22 "ends_of" = true) (k22 : PySem.W.keepIn K (.ref f22) = true)
    (a23 : PySem.W.nsIn K mainGlobals "check_width" = some (some (.ref f23))) (l23 : K.lookup f23 = some ⟨oc23, od23, .func (PySem.W.fnOf "check_width" "check_width" (defArgs s_check_width) (defBody s_check_width) (defScope s_check_width) .none kV23 dc23 pm23 an23 cd23 ct23), sl23⟩) (c23 : PySem.W.codeIn K cd23 "check_width" = true) (k23 : PySem.W.keepIn K (.ref f23) = true)
    (a24 : PySem.W.nsIn K mainGlobals "ruled" = some (some (.ref f24))) (l24 : K.lookup f24 = some ⟨oc24, od24, .func (PySem.W.fnOf "ruled" "ruled" (defArgs s_ruled) (defBody s_ruled) (defScope s_ruled) .none kV24 dc24 pm24 an24 cd24 ct24), sl24⟩) (c24 : PySem.W.codeIn K cd24 "ruled" = true) (k24 : PySem.W.keepIn K (.ref f24) = true)
    (a25 : PySem.W.nsIn K mainGlobals "entry_at" = some (some (.ref f25))) (l25 : K.lookup f25 = some ⟨oc25, od25, .func (PySem.W.fnOf "entry_at" "entry_at" (defArgs s_entry_at) (defBody s_entry_at) (defScope s_entry_at) .none kV25 dc25 pm25 an25 cd25 ct25), sl25⟩) (c25 : PySem.W.codeIn K cd25 "entry_at" = true) (k25 : PySem.W.keepIn K (.ref f25) = true)
    (a26 : PySem.W.nsIn K mainGlobals "is_form" = some (some (.ref f26))) (l26 : K.lookup f26 = some ⟨oc26, od26, .func (PySem.W.fnOf "is_form" "is_form" (defArgs s_is_form) (defBody s_is_form) (defScope s_is_form) .none kV26 dc26 pm26 an26 cd26 ct26), sl26⟩) (c26 : PySem.W.codeIn K cd26 "is_form" = true) (k26 : PySem.W.keepIn K (.ref f26) = true)
    (a27 : PySem.W.nsIn K mainGlobals "normal" = some (some (.ref f27))) (l27 : K.lookup f27 = some ⟨oc27, od27, .func (PySem.W.fnOf "normal" "normal" (defArgs s_normal) (defBody s_normal) (defScope s_normal) .none kV27 dc27 pm27 an27 cd27 ct27), sl27⟩) (c27 : PySem.W.codeIn K cd27 "normal" = true) (k27 : PySem.W.keepIn K (.ref f27) = true)
    (a28 : PySem.W.nsIn K mainGlobals "trimmed" = some (some (.ref f28))) (l28 : K.lookup f28 = some ⟨oc28, od28, .func (PySem.W.fnOf "trimmed" "trimmed" (defArgs s_trimmed) (defBody s_trimmed) (defScope s_trimmed) .none kV28 dc28 pm28 an28 cd28 ct28), sl28⟩) (c28 : PySem.W.codeIn K cd28 "trimmed" = true) (k28 : PySem.W.keepIn K (.ref f28) = true)
    (a29 : PySem.W.nsIn K mainGlobals "place_image" = some (some (.ref f29))) (l29 : K.lookup f29 = some ⟨oc29, od29, .func (PySem.W.fnOf "place_image" "place_image" (defArgs s_place_image) (defBody s_place_image) (defScope s_place_image) .none kV29 dc29 pm29 an29 cd29 ct29), sl29⟩) (c29 : PySem.W.codeIn K cd29 "place_image" = true) (k29 : PySem.W.keepIn K (.ref f29) = true)
    (a30 : PySem.W.nsIn K mainGlobals "product" = some (some (.ref f30))) (l30 : K.lookup f30 = some ⟨oc30, od30, .func (PySem.W.fnOf "product" "product" (defArgs s_product) (defBody s_product) (defScope s_product) .none kV30 dc30 pm30 an30 cd30 ct30), sl30⟩) (c30 : PySem.W.codeIn K cd30 "product" = true) (k30 : PySem.W.keepIn K (.ref f30) = true)
    (a31 : PySem.W.nsIn K mainGlobals "sent_on" = some (some (.ref f31))) (l31 : K.lookup f31 = some ⟨oc31, od31, .func (PySem.W.fnOf "sent_on" "sent_on" (defArgs s_sent_on) (defBody s_sent_on) (defScope s_sent_on) .none kV31 dc31 pm31 an31 cd31 ct31), sl31⟩) (c31 : PySem.W.codeIn K cd31 "sent_on" = true) (k31 : PySem.W.keepIn K (.ref f31) = true)
    (a32 : PySem.W.nsIn K mainGlobals "move_parts" = some (some (.ref f32))) (l32 : K.lookup f32 = some ⟨oc32, od32, .func (PySem.W.fnOf "move_parts" "move_parts" (defArgs s_move_parts) (defBody s_move_parts) (defScope s_move_parts) .none kV32 dc32 pm32 an32 cd32 ct32), sl32⟩) (c32 : PySem.W.codeIn K cd32 "move_parts" = true) (k32 : PySem.W.keepIn K (.ref f32) = true)
    (a33 : PySem.W.nsIn K mainGlobals "end_entry" = some (some (.ref f33))) (l33 : K.lookup f33 = some ⟨oc33, od33, .func (PySem.W.fnOf "end_entry" "end_entry" (defArgs s_end_entry) (defBody s_end_entry) (defScope s_end_entry) .none kV33 dc33 pm33 an33 cd33 ct33), sl33⟩) (c33 : PySem.W.codeIn K cd33 "end_entry" = true) (k33 : PySem.W.keepIn K (.ref f33) = true)
    (a34 : PySem.W.nsIn K mainGlobals "_law_bag" = some (some (.ref f34))) (l34 : K.lookup f34 = some ⟨oc34, od34, .func (PySem.W.fnOf "_law_bag" "_law_bag" (defArgs s__law_bag) (defBody s__law_bag) (defScope s__law_bag) .none kV34 dc34 pm34 an34 cd34 ct34), sl34⟩) (c34 : PySem.W.codeIn K cd34 "_law_bag" = true) (k34 : PySem.W.keepIn K (.ref f34) = true)
    (a35 : PySem.W.nsIn K mainGlobals "_law_pull" = some (some (.ref f35))) (l35 : K.lookup f35 = some ⟨oc35, od35, .func (PySem.W.fnOf "_law_pull" "_law_pull" (defArgs s__law_pull) (defBody s__law_pull) (defScope s__law_pull) .none kV35 dc35 pm35 an35 cd35 ct35), sl35⟩) (c35 : PySem.W.codeIn K cd35 "_law_pull" = true) (k35 : PySem.W.keepIn K (.ref f35) = true)
    (a36 : PySem.W.nsIn K mainGlobals "_law_of" = some (some (.ref f36))) (l36 : K.lookup f36 = some ⟨oc36, od36, .func (PySem.W.fnOf "_law_of" "_law_of" (defArgs s__law_of) (defBody s__law_of) (defScope s__law_of) .none kV36 dc36 pm36 an36 cd36 ct36), sl36⟩) (c36 : PySem.W.codeIn K cd36 "_law_of" = true) (k36 : PySem.W.keepIn K (.ref f36) = true)
    (a37 : PySem.W.nsIn K mainGlobals "_law_same" = some (some (.ref f37))) (l37 : K.lookup f37 = some ⟨oc37, od37, .func (PySem.W.fnOf "_law_same" "_law_same" (defArgs s__law_same) (defBody s__law_same) (defScope s__law_same) .none kV37 dc37 pm37 an37 cd37 ct37), sl37⟩) (c37 : PySem.W.codeIn K cd37 "_law_same" = true) (k37 : PySem.W.keepIn K (.ref f37) = true)
    (a38 : PySem.W.nsIn K mainGlobals "_law_end" = some (some (.ref f38))) (l38 : K.lookup f38 = some ⟨oc38, od38, .func (PySem.W.fnOf "_law_end" "_law_end" (defArgs s__law_end) (defBody s__law_end) (defScope s__law_end) .none kV38 dc38 pm38 an38 cd38 ct38), sl38⟩) (c38 : PySem.W.codeIn K cd38 "_law_end" = true) (k38 : PySem.W.keepIn K (.ref f38) = true)
    (a39 : PySem.W.nsIn K mainGlobals "_law_move" = some (some (.ref f39))) (l39 : K.lookup f39 = some ⟨oc39, od39, .func (PySem.W.fnOf "_law_move" "_law_move" (defArgs s__law_move) (defBody s__law_move) (defScope s__law_move) .none kV39 dc39 pm39 an39 cd39 ct39), sl39⟩) (c39 : PySem.W.codeIn K cd39 "_law_move" = true) (k39 : PySem.W.keepIn K (.ref f39) = true)
    (a40 : PySem.W.nsIn K mainGlobals "_law_depth" = some (some (.ref f40))) (l40 : K.lookup f40 = some ⟨oc40, od40, .func (PySem.W.fnOf "_law_depth" "_law_depth" (defArgs s__law_depth) (defBody s__law_depth) (defScope s__law_depth) .none kV40 dc40 pm40 an40 cd40 ct40), sl40⟩) (c40 : PySem.W.codeIn K cd40 "_law_depth" = true) (k40 : PySem.W.keepIn K (.ref f40) = true)
    (a41 : PySem.W.nsIn K mainGlobals "_law_spot" = some (some (.ref f41))) (l41 : K.lookup f41 = some ⟨oc41, od41, .func (PySem.W.fnOf "_law_spot" "_law_spot" (defArgs s__law_spot) (defBody s__law_spot) (defScope s__law_spot) .none kV41 dc41 pm41 an41 cd41 ct41), sl41⟩) (c41 : PySem.W.codeIn K cd41 "_law_spot" = true) (k41 : PySem.W.keepIn K (.ref f41) = true)
    (a42 : PySem.W.nsIn K mainGlobals "_law_flipped" = some (some (.ref f42))) (l42 : K.lookup f42 = some ⟨oc42, od42, .func (PySem.W.fnOf "_law_flipped" "_law_flipped" (defArgs s__law_flipped) (defBody s__law_flipped) (defScope s__law_flipped) .none kV42 dc42 pm42 an42 cd42 ct42), sl42⟩) (c42 : PySem.W.codeIn K cd42 "_law_flipped" = true) (k42 : PySem.W.keepIn K (.ref f42) = true)
    (a43 : PySem.W.nsIn K mainGlobals "_law_dealt" = some (some (.ref f43))) (l43 : K.lookup f43 = some ⟨oc43, od43, .func (PySem.W.fnOf "_law_dealt" "_law_dealt" (defArgs s__law_dealt) (defBody s__law_dealt) (defScope s__law_dealt) .none kV43 dc43 pm43 an43 cd43 ct43), sl43⟩) (c43 : PySem.W.codeIn K cd43 "_law_dealt" = true) (k43 : PySem.W.keepIn K (.ref f43) = true)
    (a44 : PySem.W.nsIn K mainGlobals "_law_images" = some (some (.ref f44))) (l44 : K.lookup f44 = some ⟨oc44, od44, .func (PySem.W.fnOf "_law_images" "_law_images" (defArgs s__law_images) (defBody s__law_images) (defScope s__law_images) .none kV44 dc44 pm44 an44 cd44 ct44), sl44⟩) (c44 : PySem.W.codeIn K cd44 "_law_images" = true) (k44 : PySem.W.keepIn K (.ref f44) = true)
    (a45 : PySem.W.nsIn K mainGlobals "_law_goes" = some (some (.ref f45))) (l45 : K.lookup f45 = some ⟨oc45, od45, .func (PySem.W.fnOf "_law_goes" "_law_goes" (defArgs s__law_goes) (defBody s__law_goes) (defScope s__law_goes) .none kV45 dc45 pm45 an45 cd45 ct45), sl45⟩) (c45 : PySem.W.codeIn K cd45 "_law_goes" = true) (k45 : PySem.W.keepIn K (.ref f45) = true)
    (a46 : PySem.W.nsIn K mainGlobals "_law_great" = some (some (.ref f46))) (l46 : K.lookup f46 = some ⟨oc46, od46, .func (PySem.W.fnOf "_law_great" "_law_great" (defArgs s__law_great) (defBody s__law_great) (defScope s__law_great) .none kV46 dc46 pm46 an46 cd46 ct46), sl46⟩) (c46 : PySem.W.codeIn K cd46 "_law_great" = true) (k46 : PySem.W.keepIn K (.ref f46) = true)
    (a47 : PySem.W.nsIn K mainGlobals "_law_place_of" = some (some (.ref f47))) (l47 : K.lookup f47 = some ⟨oc47, od47, .func (PySem.W.fnOf "_law_place_of" "_law_place_of" (defArgs s__law_place_of) (defBody s__law_place_of) (defScope s__law_place_of) .none kV47 dc47 pm47 an47 cd47 ct47), sl47⟩) (c47 : PySem.W.codeIn K cd47 "_law_place_of" = true) (k47 : PySem.W.keepIn K (.ref f47) = true)
    (a48 : PySem.W.nsIn K mainGlobals "_law_ruled" = some (some (.ref f48))) (l48 : K.lookup f48 = some ⟨oc48, od48, .func (PySem.W.fnOf "_law_ruled" "_law_ruled" (defArgs s__law_ruled) (defBody s__law_ruled) (defScope s__law_ruled) .none kV48 dc48 pm48 an48 cd48 ct48), sl48⟩) (c48 : PySem.W.codeIn K cd48 "_law_ruled" = true) (k48 : PySem.W.keepIn K (.ref f48) = true)
    (a49 : PySem.W.nsIn K mainGlobals "_law_normal" = some (some (.ref f49))) (l49 : K.lookup f49 = some ⟨oc49, od49, .func (PySem.W.fnOf "_law_normal" "_law_normal" (defArgs s__law_normal) (defBody s__law_normal) (defScope s__law_normal) .none kV49 dc49 pm49 an49 cd49 ct49), sl49⟩) (c49 : PySem.W.codeIn K cd49 "_law_normal" = true) (k49 : PySem.W.keepIn K (.ref f49) = true)
    (a50 : PySem.W.nsIn K mainGlobals "_law_read_parts" = some (some (.ref f50))) (l50 : K.lookup f50 = some ⟨oc50, od50, .func (PySem.W.fnOf "_law_read_parts" "_law_read_parts" (defArgs s__law_read_parts) (defBody s__law_read_parts) (defScope s__law_read_parts) .none kV50 dc50 pm50 an50 cd50 ct50), sl50⟩) (c50 : PySem.W.codeIn K cd50 "_law_read_parts" = true) (k50 : PySem.W.keepIn K (.ref f50) = true)
    (a51 : PySem.W.nsIn K mainGlobals "law" = some (some (.ref f51))) (l51 : K.lookup f51 = some ⟨oc51, od51, .func (PySem.W.fnOf "law" "law" (defArgs s_law) (defBody s_law) (defScope s_law) .none kV51 dc51 pm51 an51 cd51 ct51), sl51⟩) (c51 : PySem.W.codeIn K cd51 "law" = true) (k51 : PySem.W.keepIn K (.ref f51) = true)
    (z_abs : PySem.W.nsIn K mainGlobals "abs" = some none)
    (z_action : PySem.W.nsIn K mainGlobals "action" = some none)
    (z_all : PySem.W.nsIn K mainGlobals "all" = some none)
    (z_bool : PySem.W.nsIn K mainGlobals "bool" = some none)
    (z_dict : PySem.W.nsIn K mainGlobals "dict" = some none)
    (z_enumerate : PySem.W.nsIn K mainGlobals "enumerate" = some none)
    (z_int : PySem.W.nsIn K mainGlobals "int" = some none)
    (z_isinstance : PySem.W.nsIn K mainGlobals "isinstance" = some none)
    (z_len : PySem.W.nsIn K mainGlobals "len" = some none)
    (z_list : PySem.W.nsIn K mainGlobals "list" = some none)
    (z_max : PySem.W.nsIn K mainGlobals "max" = some none)
    (z_min : PySem.W.nsIn K mainGlobals "min" = some none)
    (z_range : PySem.W.nsIn K mainGlobals "range" = some none)
    (z_reversed : PySem.W.nsIn K mainGlobals "reversed" = some none)
    (z_sorted : PySem.W.nsIn K mainGlobals "sorted" = some none)
    (z_str : PySem.W.nsIn K mainGlobals "str" = some none)
    (z_tuple : PySem.W.nsIn K mainGlobals "tuple" = some none)
    (z_zip : PySem.W.nsIn K mainGlobals "zip" = some none)
    (y_MOST_DEPTH : PySem.W.nsIn K mainGlobals "MOST_DEPTH" = some (some (.int 399 t_MOST_DEPTH)))
    (y_MOST_CARDS : PySem.W.nsIn K mainGlobals "MOST_CARDS" = some (some (.int 1000000000000000000000000000000 t_MOST_CARDS)))
    (y_MOST_LISTED : PySem.W.nsIn K mainGlobals "MOST_LISTED" = some (some (.int 1000 t_MOST_LISTED)))
    (y_MOST_BLOCK : PySem.W.nsIn K mainGlobals "MOST_BLOCK" = some (some (.int 400 t_MOST_BLOCK)))
    (y_SHAPES : PySem.W.nsIn K mainGlobals "SHAPES" = some (some (.ref a_SHAPES))) (l_SHAPES : K.lookup a_SHAPES = some ⟨.type "dict", none, .dict es_SHAPES n_SHAPES, #[]⟩) (k_SHAPES : PySem.W.KeysLit w.params es_SHAPES.toList) (s_SHAPES : (a_SHAPES == sysModules) = false)
    (km_SHAPES : keysIn ["swap", "carry", "cut", "turn", "over", "face"] es_SHAPES.toList = true)
    (e_SHAPES_swap : PySem.W.nsIn K a_SHAPES "swap" = some (some (.ref a_SHAPES_swap))) (l_SHAPES_swap : K.lookup a_SHAPES_swap = some ⟨.type "tuple", dd_SHAPES_swap, .seq #[.str "place" u_SHAPES_swap_0, .str "place" u_SHAPES_swap_1] m_SHAPES_swap, sl_SHAPES_swap⟩)
    (e_SHAPES_carry : PySem.W.nsIn K a_SHAPES "carry" = some (some (.ref a_SHAPES_carry))) (l_SHAPES_carry : K.lookup a_SHAPES_carry = some ⟨.type "tuple", dd_SHAPES_carry, .seq #[.str "place" u_SHAPES_carry_0, .str "place" u_SHAPES_carry_1] m_SHAPES_carry, sl_SHAPES_carry⟩)
    (e_SHAPES_cut : PySem.W.nsIn K a_SHAPES "cut" = some (some (.ref a_SHAPES_cut))) (l_SHAPES_cut : K.lookup a_SHAPES_cut = some ⟨.type "tuple", dd_SHAPES_cut, .seq #[.str "signed" u_SHAPES_cut_0] m_SHAPES_cut, sl_SHAPES_cut⟩)
    (e_SHAPES_turn : PySem.W.nsIn K a_SHAPES "turn" = some (some (.ref a_SHAPES_turn))) (l_SHAPES_turn : K.lookup a_SHAPES_turn = some ⟨.type "tuple", dd_SHAPES_turn, .seq #[.str "end" u_SHAPES_turn_0, .str "block" u_SHAPES_turn_1] m_SHAPES_turn, sl_SHAPES_turn⟩)
    (e_SHAPES_over : PySem.W.nsIn K a_SHAPES "over" = some (some (.ref a_SHAPES_over))) (l_SHAPES_over : K.lookup a_SHAPES_over = some ⟨.type "tuple", dd_SHAPES_over, .seq #[] m_SHAPES_over, sl_SHAPES_over⟩)
    (e_SHAPES_face : PySem.W.nsIn K a_SHAPES "face" = some (some (.ref a_SHAPES_face))) (l_SHAPES_face : K.lookup a_SHAPES_face = some ⟨.type "tuple", dd_SHAPES_face, .seq #[.str "place" u_SHAPES_face_0] m_SHAPES_face, sl_SHAPES_face⟩)
    (y_BLOCKS : PySem.W.nsIn K mainGlobals "BLOCKS" = some (some (.ref a_BLOCKS))) (l_BLOCKS : K.lookup a_BLOCKS = some ⟨.type "dict", none, .dict es_BLOCKS n_BLOCKS, #[]⟩) (k_BLOCKS : PySem.W.KeysLit w.params es_BLOCKS.toList) (s_BLOCKS : (a_BLOCKS == sysModules) = false)
    (km_BLOCKS : keysIn ["swap", "carry", "cut", "turn", "over", "face"] es_BLOCKS.toList = true)
    (e_BLOCKS_swap : PySem.W.nsIn K a_BLOCKS "swap" = some (some (.ref f16)))
    (e_BLOCKS_carry : PySem.W.nsIn K a_BLOCKS "carry" = some (some (.ref f17)))
    (e_BLOCKS_cut : PySem.W.nsIn K a_BLOCKS "cut" = some (some (.ref f18)))
    (e_BLOCKS_turn : PySem.W.nsIn K a_BLOCKS "turn" = some (some (.ref f19)))
    (e_BLOCKS_over : PySem.W.nsIn K a_BLOCKS "over" = some (some (.ref f20)))
    (e_BLOCKS_face : PySem.W.nsIn K a_BLOCKS "face" = some (some (.ref f21)))
    (gX_PileError : PySem.W.nsIn K mainGlobals "PileError" = some (some (.ref aX_PileError)))
    (iX_PileError : PySem.W.findCls K (.ref aX_PileError) (.type "type") "__init__" = some (.val (.ref fX_PileError)))
    (rX_PileError : PySem.W.readsIn K aX_PileError (.type "type") = true)
    (sX_PileError : PySem.W.specialIn K (.ref aX_PileError) "__getattribute__" = some (some (.builtin "type.__getattribute__")))
    (lX_PileError : K.lookup fX_PileError = some ⟨ocX_PileError, odX_PileError, .func (PySem.W.fnOf "__init__" "PileError.__init__" (defArgs s_PileError) (defBody s_PileError) (defScope s_PileError) (.ref TX_PileError) kVX_PileError dcX_PileError pmX_PileError anX_PileError cdX_PileError ctX_PileError), slX_PileError⟩)
    (tX_PileError : K.lookup TX_PileError = some ⟨.type "tuple", ddX_PileError, .seq #[.str "PileError" uX_PileError] mX_PileError, smX_PileError⟩)
    (cX_PileError : PySem.W.codeIn K cdX_PileError "PileError.__init__" = true)
    (wX_PileError : PySem.W.keepIn K (.ref fX_PileError) = true)
    (gX_BadPlace : PySem.W.nsIn K mainGlobals "BadPlace" = some (some (.ref aX_BadPlace)))
    (oX_BadPlace : K.lookup aX_BadPlace = some (excClassObj nmX_BadPlace qX_BadPlace aX_BadPlace NX_BadPlace bsX_BadPlace bmX_BadPlace true snX_BadPlace subX_BadPlace abX_BadPlace colX_BadPlace ddX_BadPlace k0X_BadPlace k1X_BadPlace k2X_BadPlace k3X_BadPlace k5X_BadPlace "ValueError.__new__"))
    (vX_BadPlace : PySem.HandSPX.refsVE bmX_BadPlace = true)
    (sX_BadPlace : PySem.W.findIn K (.ref aX_BadPlace) "__setattr__" = some (some (.builtin "object.__setattr__")))
    (xX_BadPlace : PySem.W.subIn K (.ref aX_BadPlace) (.type "BaseException") = some true)
    (yX_BadPlace : PySem.W.typeIn K (.ref aX_BadPlace) = some (.type "type"))
    (kX_BadPlace : PySem.W.keepIn K (.ref aX_BadPlace) = true)
    (bX_BadPlace : xfB K aX_BadPlace = true)
    (nX_code_BadPlace : PySem.W.findIn K (.ref aX_BadPlace) "code" = some none)
    (nX_place_BadPlace : PySem.W.findIn K (.ref aX_BadPlace) "place" = some none)
    (iX_BadPlace : PySem.W.findIn K (.ref aX_BadPlace) "__init__" = some (some (.ref fX_BadPlace)))
    (tX_BadPlace : PySem.W.typeIn K (.ref fX_BadPlace) = some (.type "function"))
    (lX_BadPlace : K.lookup fX_BadPlace = some ⟨ocX_BadPlace, odX_BadPlace, .func (PySem.W.fnOf "__init__" "BadPlace.__init__" (defArgs s_BadPlace) (defBody s_BadPlace) (defScope s_BadPlace) .none kVX_BadPlace dcX_BadPlace pmX_BadPlace anX_BadPlace cdX_BadPlace ctX_BadPlace), slX_BadPlace⟩)
    (eX_BadPlace : PySem.W.exmOne K (.ref aX_BadPlace) (.ref aX_PileError) = some true)
    (cX_BadPlace : PySem.W.codeIn K cdX_BadPlace "BadPlace.__init__" = true)
    (wX_BadPlace : PySem.W.keepIn K (.ref fX_BadPlace) = true)
    (gX_BadMove : PySem.W.nsIn K mainGlobals "BadMove" = some (some (.ref aX_BadMove)))
    (oX_BadMove : K.lookup aX_BadMove = some (excClassObj nmX_BadMove qX_BadMove aX_BadMove NX_BadMove bsX_BadMove bmX_BadMove true snX_BadMove subX_BadMove abX_BadMove colX_BadMove ddX_BadMove k0X_BadMove k1X_BadMove k2X_BadMove k3X_BadMove k5X_BadMove "ValueError.__new__"))
    (vX_BadMove : PySem.HandSPX.refsVE bmX_BadMove = true)
    (sX_BadMove : PySem.W.findIn K (.ref aX_BadMove) "__setattr__" = some (some (.builtin "object.__setattr__")))
    (xX_BadMove : PySem.W.subIn K (.ref aX_BadMove) (.type "BaseException") = some true)
    (yX_BadMove : PySem.W.typeIn K (.ref aX_BadMove) = some (.type "type"))
    (kX_BadMove : PySem.W.keepIn K (.ref aX_BadMove) = true)
    (bX_BadMove : xfB K aX_BadMove = true)
    (nX_code_BadMove : PySem.W.findIn K (.ref aX_BadMove) "code" = some none)
    (nX_at_BadMove : PySem.W.findIn K (.ref aX_BadMove) "at" = some none)
    (iX_BadMove : PySem.W.findIn K (.ref aX_BadMove) "__init__" = some (some (.ref fX_BadMove)))
    (tX_BadMove : PySem.W.typeIn K (.ref fX_BadMove) = some (.type "function"))
    (lX_BadMove : K.lookup fX_BadMove = some ⟨ocX_BadMove, odX_BadMove, .func (PySem.W.fnOf "__init__" "BadMove.__init__" (defArgs s_BadMove) (defBody s_BadMove) (defScope s_BadMove) .none kVX_BadMove dcX_BadMove pmX_BadMove anX_BadMove cdX_BadMove ctX_BadMove), slX_BadMove⟩)
    (eX_BadMove : PySem.W.exmOne K (.ref aX_BadMove) (.ref aX_PileError) = some true)
    (cX_BadMove : PySem.W.codeIn K cdX_BadMove "BadMove.__init__" = true)
    (wX_BadMove : PySem.W.keepIn K (.ref fX_BadMove) = true)
    (gX_TooWide : PySem.W.nsIn K mainGlobals "TooWide" = some (some (.ref aX_TooWide)))
    (oX_TooWide : K.lookup aX_TooWide = some (excClassObj nmX_TooWide qX_TooWide aX_TooWide NX_TooWide bsX_TooWide bmX_TooWide true snX_TooWide subX_TooWide abX_TooWide colX_TooWide ddX_TooWide k0X_TooWide k1X_TooWide k2X_TooWide k3X_TooWide k5X_TooWide "ValueError.__new__"))
    (vX_TooWide : PySem.HandSPX.refsVE bmX_TooWide = true)
    (sX_TooWide : PySem.W.findIn K (.ref aX_TooWide) "__setattr__" = some (some (.builtin "object.__setattr__")))
    (xX_TooWide : PySem.W.subIn K (.ref aX_TooWide) (.type "BaseException") = some true)
    (yX_TooWide : PySem.W.typeIn K (.ref aX_TooWide) = some (.type "type"))
    (kX_TooWide : PySem.W.keepIn K (.ref aX_TooWide) = true)
    (bX_TooWide : xfB K aX_TooWide = true)
    (nX_code_TooWide : PySem.W.findIn K (.ref aX_TooWide) "code" = some none)
    (nX_limit_TooWide : PySem.W.findIn K (.ref aX_TooWide) "limit" = some none)
    (iX_TooWide : PySem.W.findIn K (.ref aX_TooWide) "__init__" = some (some (.ref fX_TooWide)))
    (tX_TooWide : PySem.W.typeIn K (.ref fX_TooWide) = some (.type "function"))
    (lX_TooWide : K.lookup fX_TooWide = some ⟨ocX_TooWide, odX_TooWide, .func (PySem.W.fnOf "__init__" "TooWide.__init__" (defArgs s_TooWide) (defBody s_TooWide) (defScope s_TooWide) .none kVX_TooWide dcX_TooWide pmX_TooWide anX_TooWide cdX_TooWide ctX_TooWide), slX_TooWide⟩)
    (eX_TooWide : PySem.W.exmOne K (.ref aX_TooWide) (.ref aX_PileError) = some true)
    (cX_TooWide : PySem.W.codeIn K cdX_TooWide "TooWide.__init__" = true)
    (wX_TooWide : PySem.W.keepIn K (.ref fX_TooWide) = true)
    (gX_BadSize : PySem.W.nsIn K mainGlobals "BadSize" = some (some (.ref aX_BadSize)))
    (oX_BadSize : K.lookup aX_BadSize = some (excClassObj nmX_BadSize qX_BadSize aX_BadSize NX_BadSize bsX_BadSize bmX_BadSize true snX_BadSize subX_BadSize abX_BadSize colX_BadSize ddX_BadSize k0X_BadSize k1X_BadSize k2X_BadSize k3X_BadSize k5X_BadSize "ValueError.__new__"))
    (vX_BadSize : PySem.HandSPX.refsVE bmX_BadSize = true)
    (sX_BadSize : PySem.W.findIn K (.ref aX_BadSize) "__setattr__" = some (some (.builtin "object.__setattr__")))
    (xX_BadSize : PySem.W.subIn K (.ref aX_BadSize) (.type "BaseException") = some true)
    (yX_BadSize : PySem.W.typeIn K (.ref aX_BadSize) = some (.type "type"))
    (kX_BadSize : PySem.W.keepIn K (.ref aX_BadSize) = true)
    (bX_BadSize : xfB K aX_BadSize = true)
    (nX_code_BadSize : PySem.W.findIn K (.ref aX_BadSize) "code" = some none)
    (nX_size_BadSize : PySem.W.findIn K (.ref aX_BadSize) "size" = some none)
    (iX_BadSize : PySem.W.findIn K (.ref aX_BadSize) "__init__" = some (some (.ref fX_BadSize)))
    (tX_BadSize : PySem.W.typeIn K (.ref fX_BadSize) = some (.type "function"))
    (lX_BadSize : K.lookup fX_BadSize = some ⟨ocX_BadSize, odX_BadSize, .func (PySem.W.fnOf "__init__" "BadSize.__init__" (defArgs s_BadSize) (defBody s_BadSize) (defScope s_BadSize) .none kVX_BadSize dcX_BadSize pmX_BadSize anX_BadSize cdX_BadSize ctX_BadSize), slX_BadSize⟩)
    (eX_BadSize : PySem.W.exmOne K (.ref aX_BadSize) (.ref aX_PileError) = some true)
    (cX_BadSize : PySem.W.codeIn K cdX_BadSize "BadSize.__init__" = true)
    (wX_BadSize : PySem.W.keepIn K (.ref fX_BadSize) = true)
    (gX_TooGreat : PySem.W.nsIn K mainGlobals "TooGreat" = some (some (.ref aX_TooGreat)))
    (oX_TooGreat : K.lookup aX_TooGreat = some (excClassObj nmX_TooGreat qX_TooGreat aX_TooGreat NX_TooGreat bsX_TooGreat bmX_TooGreat true snX_TooGreat subX_TooGreat abX_TooGreat colX_TooGreat ddX_TooGreat k0X_TooGreat k1X_TooGreat k2X_TooGreat k3X_TooGreat k5X_TooGreat "ValueError.__new__"))
    (vX_TooGreat : PySem.HandSPX.refsVE bmX_TooGreat = true)
    (sX_TooGreat : PySem.W.findIn K (.ref aX_TooGreat) "__setattr__" = some (some (.builtin "object.__setattr__")))
    (xX_TooGreat : PySem.W.subIn K (.ref aX_TooGreat) (.type "BaseException") = some true)
    (yX_TooGreat : PySem.W.typeIn K (.ref aX_TooGreat) = some (.type "type"))
    (kX_TooGreat : PySem.W.keepIn K (.ref aX_TooGreat) = true)
    (bX_TooGreat : xfB K aX_TooGreat = true)
    (nX_code_TooGreat : PySem.W.findIn K (.ref aX_TooGreat) "code" = some none)
    (nX_limit_TooGreat : PySem.W.findIn K (.ref aX_TooGreat) "limit" = some none)
    (iX_TooGreat : PySem.W.findIn K (.ref aX_TooGreat) "__init__" = some (some (.ref fX_TooGreat)))
    (tX_TooGreat : PySem.W.typeIn K (.ref fX_TooGreat) = some (.type "function"))
    (lX_TooGreat : K.lookup fX_TooGreat = some ⟨ocX_TooGreat, odX_TooGreat, .func (PySem.W.fnOf "__init__" "TooGreat.__init__" (defArgs s_TooGreat) (defBody s_TooGreat) (defScope s_TooGreat) .none kVX_TooGreat dcX_TooGreat pmX_TooGreat anX_TooGreat cdX_TooGreat ctX_TooGreat), slX_TooGreat⟩)
    (eX_TooGreat : PySem.W.exmOne K (.ref aX_TooGreat) (.ref aX_PileError) = some true)
    (cX_TooGreat : PySem.W.codeIn K cdX_TooGreat "TooGreat.__init__" = true)
    (wX_TooGreat : PySem.W.keepIn K (.ref fX_TooGreat) = true)
    (gX_TooSmall : PySem.W.nsIn K mainGlobals "TooSmall" = some (some (.ref aX_TooSmall)))
    (oX_TooSmall : K.lookup aX_TooSmall = some (excClassObj nmX_TooSmall qX_TooSmall aX_TooSmall NX_TooSmall bsX_TooSmall bmX_TooSmall true snX_TooSmall subX_TooSmall abX_TooSmall colX_TooSmall ddX_TooSmall k0X_TooSmall k1X_TooSmall k2X_TooSmall k3X_TooSmall k5X_TooSmall "ValueError.__new__"))
    (vX_TooSmall : PySem.HandSPX.refsVE bmX_TooSmall = true)
    (sX_TooSmall : PySem.W.findIn K (.ref aX_TooSmall) "__setattr__" = some (some (.builtin "object.__setattr__")))
    (xX_TooSmall : PySem.W.subIn K (.ref aX_TooSmall) (.type "BaseException") = some true)
    (yX_TooSmall : PySem.W.typeIn K (.ref aX_TooSmall) = some (.type "type"))
    (kX_TooSmall : PySem.W.keepIn K (.ref aX_TooSmall) = true)
    (bX_TooSmall : xfB K aX_TooSmall = true)
    (nX_code_TooSmall : PySem.W.findIn K (.ref aX_TooSmall) "code" = some none)
    (nX_limit_TooSmall : PySem.W.findIn K (.ref aX_TooSmall) "limit" = some none)
    (iX_TooSmall : PySem.W.findIn K (.ref aX_TooSmall) "__init__" = some (some (.ref fX_TooSmall)))
    (tX_TooSmall : PySem.W.typeIn K (.ref fX_TooSmall) = some (.type "function"))
    (lX_TooSmall : K.lookup fX_TooSmall = some ⟨ocX_TooSmall, odX_TooSmall, .func (PySem.W.fnOf "__init__" "TooSmall.__init__" (defArgs s_TooSmall) (defBody s_TooSmall) (defScope s_TooSmall) .none kVX_TooSmall dcX_TooSmall pmX_TooSmall anX_TooSmall cdX_TooSmall ctX_TooSmall), slX_TooSmall⟩)
    (eX_TooSmall : PySem.W.exmOne K (.ref aX_TooSmall) (.ref aX_PileError) = some true)
    (cX_TooSmall : PySem.W.codeIn K cdX_TooSmall "TooSmall.__init__" = true)
    (wX_TooSmall : PySem.W.keepIn K (.ref fX_TooSmall) = true)
    (gX_NoPlace : PySem.W.nsIn K mainGlobals "NoPlace" = some (some (.ref aX_NoPlace)))
    (oX_NoPlace : K.lookup aX_NoPlace = some (excClassObj nmX_NoPlace qX_NoPlace aX_NoPlace NX_NoPlace bsX_NoPlace bmX_NoPlace true snX_NoPlace subX_NoPlace abX_NoPlace colX_NoPlace ddX_NoPlace k0X_NoPlace k1X_NoPlace k2X_NoPlace k3X_NoPlace k5X_NoPlace "ValueError.__new__"))
    (vX_NoPlace : PySem.HandSPX.refsVE bmX_NoPlace = true)
    (sX_NoPlace : PySem.W.findIn K (.ref aX_NoPlace) "__setattr__" = some (some (.builtin "object.__setattr__")))
    (xX_NoPlace : PySem.W.subIn K (.ref aX_NoPlace) (.type "BaseException") = some true)
    (yX_NoPlace : PySem.W.typeIn K (.ref aX_NoPlace) = some (.type "type"))
    (kX_NoPlace : PySem.W.keepIn K (.ref aX_NoPlace) = true)
    (bX_NoPlace : xfB K aX_NoPlace = true)
    (nX_code_NoPlace : PySem.W.findIn K (.ref aX_NoPlace) "code" = some none)
    (nX_place_NoPlace : PySem.W.findIn K (.ref aX_NoPlace) "place" = some none)
    (iX_NoPlace : PySem.W.findIn K (.ref aX_NoPlace) "__init__" = some (some (.ref fX_NoPlace)))
    (tX_NoPlace : PySem.W.typeIn K (.ref fX_NoPlace) = some (.type "function"))
    (lX_NoPlace : K.lookup fX_NoPlace = some ⟨ocX_NoPlace, odX_NoPlace, .func (PySem.W.fnOf "__init__" "NoPlace.__init__" (defArgs s_NoPlace) (defBody s_NoPlace) (defScope s_NoPlace) .none kVX_NoPlace dcX_NoPlace pmX_NoPlace anX_NoPlace cdX_NoPlace ctX_NoPlace), slX_NoPlace⟩)
    (eX_NoPlace : PySem.W.exmOne K (.ref aX_NoPlace) (.ref aX_PileError) = some true)
    (cX_NoPlace : PySem.W.codeIn K cdX_NoPlace "NoPlace.__init__" = true)
    (wX_NoPlace : PySem.W.keepIn K (.ref fX_NoPlace) = true)
    (gX_Form : PySem.W.nsIn K mainGlobals "Form" = some (some (.ref aY_Form)))
    (at___init__X_Form : PySem.W.findIn K (.ref aY_Form) "__init__" = some (some (.ref f52)))
    (at_imageX_Form : PySem.W.findIn K (.ref aY_Form) "image" = some (some (.ref f59)))
    (at_listedX_Form : PySem.W.findIn K (.ref aY_Form) "listed" = some (some (.ref f60)))
    (at_check_leastX_Form : PySem.W.findIn K (.ref aY_Form) "check_least" = some (some (.ref f61)))
    (at_topX_Form : PySem.W.findIn K (.ref aY_Form) "top" = some (some (.ref f57)))
    (at_bottomX_Form : PySem.W.findIn K (.ref aY_Form) "bottom" = some (some (.ref f58)))
    (at_turnedX_Form : PySem.W.findIn K (.ref aY_Form) "turned" = some (some (.ref pY_Form_turned)))
    (rc_turnedX_Form : PySem.W.recIn K pY_Form_turned "property" = some (.ref f54 :: rY_Form_turned))
    (pg_turnedX_Form : PySem.W.specialIn K (.ref pY_Form_turned) "__get__" = some (some (.builtin "property.__get__")))
    (pt_turnedX_Form : PySem.W.takesIn K (.ref pY_Form_turned) = some true)
    (at_shiftX_Form : PySem.W.findIn K (.ref aY_Form) "shift" = some (some (.ref pY_Form_shift)))
    (rc_shiftX_Form : PySem.W.recIn K pY_Form_shift "property" = some (.ref f55 :: rY_Form_shift))
    (pg_shiftX_Form : PySem.W.specialIn K (.ref pY_Form_shift) "__get__" = some (some (.builtin "property.__get__")))
    (pt_shiftX_Form : PySem.W.takesIn K (.ref pY_Form_shift) = some true)
    (at_leastX_Form : PySem.W.findIn K (.ref aY_Form) "least" = some (some (.ref pY_Form_least)))
    (rc_leastX_Form : PySem.W.recIn K pY_Form_least "property" = some (.ref f56 :: rY_Form_least))
    (pg_leastX_Form : PySem.W.specialIn K (.ref pY_Form_least) "__get__" = some (some (.builtin "property.__get__")))
    (pt_leastX_Form : PySem.W.takesIn K (.ref pY_Form_least) = some true)
    (at_ofX_Form : PySem.W.findCls K (.ref aY_Form) (.type "type") "of" = some (.get (.builtin "classmethod.__get__") (.ref pY_Form_of) .none (.ref aY_Form)))
    (rc_ofX_Form : PySem.W.recIn K pY_Form_of "classmethod" = some (.ref f53 :: rY_Form_of))
    (fi_ofX_Form : PySem.W.fnIn K f53 = true)
    (pgX_Form : PySem.W.plainGet K aY_Form Str.empty = true)
    (hdX_Form : PySem.W.hasDictIn K aY_Form = true)
    (poX_Form : PySem.W.plainOver K aY_Form = true)
    (saX_Form : PySem.W.findIn K (.ref aY_Form) "__setattr__" = some (some (.builtin "object.__setattr__")))
    (hcX_Form : PySem.W.findIn K (.ref aY_Form) "__class__" = some (some (.builtin "object.__class__")))
    (hgX_Form : PySem.W.specialIn K (.builtin "object.__class__") "__get__" = some (some (.builtin "getset_descriptor.__get__")))
    (tkX_Form : PySem.W.takesIn K (.builtin "object.__class__") = some true)
    (moX_Form : PySem.W.mroIn K aY_Form (.type "object") = some true)
    (kiX_Form : PySem.W.kitOne K (.ref aY_Form) (.ref aY_Form) = some true)
    (miX_Form : PySem.W.makesIn K aY_Form = true)
    (kpX_Form : PySem.W.keepIn K (.ref aY_Form) = true)
    (sfX_Form : PySem.W.selfFirst K aY_Form = true)
    (no_partsX_Form : PySem.W.findIn K (.ref aY_Form) "parts" = some none)
    (rdX_Form : PySem.W.readsIn K aY_Form (.type "type") = true)
    (gaX_Form : PySem.W.specialIn K (.ref aY_Form) "__getattribute__" = some (some (.builtin "type.__getattribute__")))
    (cv_WIDESTX_Form : PySem.W.findCls K (.ref aY_Form) (.type "type") "WIDEST" = some (.val (.int 400 tY_Form_WIDEST)))
    (fn___init__X_Form : PySem.W.isFn K (.ref f52) = true)
    (fn_imageX_Form : PySem.W.isFn K (.ref f59) = true)
    (fn_listedX_Form : PySem.W.isFn K (.ref f60) = true)
    (fn_check_leastX_Form : PySem.W.isFn K (.ref f61) = true)
    (fn_topX_Form : PySem.W.isFn K (.ref f57) = true)
    (fn_bottomX_Form : PySem.W.isFn K (.ref f58) = true)
    (l52 : K.lookup f52 = some ⟨oc52, od52, .func (PySem.W.fnOf "__init__" "Form.__init__" (defArgs s_Form___init__) (defBody s_Form___init__) (defScope s_Form___init__) .none kV52 dc52 pm52 an52 cd52 ct52), sl52⟩) (c52 : PySem.W.codeIn K cd52 "Form.__init__" = true) (k52 : PySem.W.keepIn K (.ref f52) = true)
    (l53 : K.lookup f53 = some ⟨oc53, od53, .func (PySem.W.fnOf "of" "Form.of" (defArgs s_Form_of) (defBody s_Form_of) (defScope s_Form_of) .none kV53 dc53 pm53 an53 cd53 ct53), sl53⟩) (c53 : PySem.W.codeIn K cd53 "Form.of" = true) (k53 : PySem.W.keepIn K (.ref f53) = true)
    (l54 : K.lookup f54 = some ⟨oc54, od54, .func (PySem.W.fnOf "turned" "Form.turned" (defArgs s_Form_turned) (defBody s_Form_turned) (defScope s_Form_turned) .none kV54 dc54 pm54 an54 cd54 ct54), sl54⟩) (c54 : PySem.W.codeIn K cd54 "Form.turned" = true) (k54 : PySem.W.keepIn K (.ref f54) = true)
    (l55 : K.lookup f55 = some ⟨oc55, od55, .func (PySem.W.fnOf "shift" "Form.shift" (defArgs s_Form_shift) (defBody s_Form_shift) (defScope s_Form_shift) .none kV55 dc55 pm55 an55 cd55 ct55), sl55⟩) (c55 : PySem.W.codeIn K cd55 "Form.shift" = true) (k55 : PySem.W.keepIn K (.ref f55) = true)
    (l56 : K.lookup f56 = some ⟨oc56, od56, .func (PySem.W.fnOf "least" "Form.least" (defArgs s_Form_least) (defBody s_Form_least) (defScope s_Form_least) .none kV56 dc56 pm56 an56 cd56 ct56), sl56⟩) (c56 : PySem.W.codeIn K cd56 "Form.least" = true) (k56 : PySem.W.keepIn K (.ref f56) = true)
    (l57 : K.lookup f57 = some ⟨oc57, od57, .func (PySem.W.fnOf "top" "Form.top" (defArgs s_Form_top) (defBody s_Form_top) (defScope s_Form_top) .none kV57 dc57 pm57 an57 cd57 ct57), sl57⟩) (c57 : PySem.W.codeIn K cd57 "Form.top" = true) (k57 : PySem.W.keepIn K (.ref f57) = true)
    (l58 : K.lookup f58 = some ⟨oc58, od58, .func (PySem.W.fnOf "bottom" "Form.bottom" (defArgs s_Form_bottom) (defBody s_Form_bottom) (defScope s_Form_bottom) .none kV58 dc58 pm58 an58 cd58 ct58), sl58⟩) (c58 : PySem.W.codeIn K cd58 "Form.bottom" = true) (k58 : PySem.W.keepIn K (.ref f58) = true)
    (l59 : K.lookup f59 = some ⟨oc59, od59, .func (PySem.W.fnOf "image" "Form.image" (defArgs s_Form_image) (defBody s_Form_image) (defScope s_Form_image) .none kV59 dc59 pm59 an59 cd59 ct59), sl59⟩) (c59 : PySem.W.codeIn K cd59 "Form.image" = true) (k59 : PySem.W.keepIn K (.ref f59) = true)
    (l60 : K.lookup f60 = some ⟨oc60, od60, .func (PySem.W.fnOf "listed" "Form.listed" (defArgs s_Form_listed) (defBody s_Form_listed) (defScope s_Form_listed) .none kV60 dc60 pm60 an60 cd60 ct60), sl60⟩) (c60 : PySem.W.codeIn K cd60 "Form.listed" = true) (k60 : PySem.W.keepIn K (.ref f60) = true)
    (l61 : K.lookup f61 = some ⟨oc61, od61, .func (PySem.W.fnOf "check_least" "Form.check_least" (defArgs s_Form_check_least) (defBody s_Form_check_least) (defScope s_Form_check_least) .none kV61 dc61 pm61 an61 cd61 ct61), sl61⟩) (c61 : PySem.W.codeIn K cd61 "Form.check_least" = true) (k61 : PySem.W.keepIn K (.ref f61) = true)
    : ∃ fd : FuncData, (∀ (s : Shared) (v : Value), BindsTo s fd ⟨[v], []⟩ [("_law_script", v)]) ∧ ∀ base : Heap, K.In base → base.Ns mainGlobals mg → FnOk (PySem.Challenge.rw_pileports_k15_forms_of_single_moves).prog w K mg base CX0 17 fa fd ["_law_script"] (spLaw K) := by
  have e := hfa.symm.trans (PySem.W.mg_of X G a51)
  cases e
  have F0 := fun_mk (st := s__wall) l0 c0 k0
  have F1 := fun_mk (st := s_is_number) l1 c1 k1
  have F2 := fun_mk (st := s_is_end) l2 c2 k2
  have F3 := fun_mk (st := s_is_end_place) l3 c3 k3
  have F4 := fun_mk (st := s_check_end_place) l4 c4 k4
  have F5 := fun_mk (st := s_check_size) l5 c5 k5
  have F6 := fun_mk (st := s_check_listed) l6 c6 k6
  have F7 := fun_mk (st := s_check_place) l7 c7 k7
  have F8 := fun_mk (st := s_resolve) l8 c8 k8
  have F9 := fun_mk (st := s_is_move) l9 c9 k9
  have F10 := fun_mk (st := s_fits) l10 c10 k10
  have F11 := fun_mk (st := s_cards_needed) l11 c11 k11
  have F12 := fun_mk (st := s_all_images) l12 c12 k12
  have F13 := fun_mk (st := s_laid_anew) l13 c13 k13
  have F14 := fun_mk (st := s_turned_over) l14 c14 k14
  have F15 := fun_mk (st := s_blocks) l15 c15 k15
  have F16 := fun_mk (st := s_swap_blocks) l16 c16 k16
  have F17 := fun_mk (st := s_carry_blocks) l17 c17 k17
  have F18 := fun_mk (st := s_cut_blocks) l18 c18 k18
  have F19 := fun_mk (st := s_turn_blocks) l19 c19 k19
  have F20 := fun_mk (st := s_over_blocks) l20 c20 k20
  have F21 := fun_mk (st := s_face_blocks) l21 c21 k21
  have F22 := fun_mk (st := s_ends_of) l22 c22 k22
  have F23 := fun_mk (st := s_check_width) l23 c23 k23
  have F24 := fun_mk (st := s_ruled) l24 c24 k24
  have F25 := fun_mk (st := s_entry_at) l25 c25 k25
  have F26 := fun_mk (st := s_is_form) l26 c26 k26
  have F27 := fun_mk (st := s_normal) l27 c27 k27
  have F28 := fun_mk (st := s_trimmed) l28 c28 k28
  have F29 := fun_mk (st := s_place_image) l29 c29 k29
  have F30 := fun_mk (st := s_product) l30 c30 k30
  have F31 := fun_mk (st := s_sent_on) l31 c31 k31
  have F32 := fun_mk (st := s_move_parts) l32 c32 k32
  have F33 := fun_mk (st := s_end_entry) l33 c33 k33
  have F34 := fun_mk (st := s__law_bag) l34 c34 k34
  have F35 := fun_mk (st := s__law_pull) l35 c35 k35
  have F36 := fun_mk (st := s__law_of) l36 c36 k36
  have F37 := fun_mk (st := s__law_same) l37 c37 k37
  have F38 := fun_mk (st := s__law_end) l38 c38 k38
  have F39 := fun_mk (st := s__law_move) l39 c39 k39
  have F40 := fun_mk (st := s__law_depth) l40 c40 k40
  have F41 := fun_mk (st := s__law_spot) l41 c41 k41
  have F42 := fun_mk (st := s__law_flipped) l42 c42 k42
  have F43 := fun_mk (st := s__law_dealt) l43 c43 k43
  have F44 := fun_mk (st := s__law_images) l44 c44 k44
  have F45 := fun_mk (st := s__law_goes) l45 c45 k45
  have F46 := fun_mk (st := s__law_great) l46 c46 k46
  have F47 := fun_mk (st := s__law_place_of) l47 c47 k47
  have F48 := fun_mk (st := s__law_ruled) l48 c48 k48
  have F49 := fun_mk (st := s__law_normal) l49 c49 k49
  have F50 := fun_mk (st := s__law_read_parts) l50 c50 k50
  have F51 := fun_mk (st := s_law) l51 c51 k51
  have F52 := fun_mk (st := s_Form___init__) l52 c52 k52
  have F53 := fun_mk (st := s_Form_of) l53 c53 k53
  have F54 := fun_mk (st := s_Form_turned) l54 c54 k54
  have F55 := fun_mk (st := s_Form_shift) l55 c55 k55
  have F56 := fun_mk (st := s_Form_least) l56 c56 k56
  have F57 := fun_mk (st := s_Form_top) l57 c57 k57
  have F58 := fun_mk (st := s_Form_bottom) l58 c58 k58
  have F59 := fun_mk (st := s_Form_image) l59 c59 k59
  have F60 := fun_mk (st := s_Form_listed) l60 c60 k60
  have F61 := fun_mk (st := s_Form_check_least) l61 c61 k61
  have FX_PileError : FunD K "__init__" "PileError.__init__" (defArgs s_PileError) (defBody s_PileError) (defScope s_PileError) [.str "PileError"] [] fX_PileError _ := ⟨⟨_, _, _, _, _, _, _, _, _, _, rfl, lX_PileError, cX_PileError, .inr ⟨List.cons_ne_nil _ _, _, _, _, _, rfl, tX_PileError, rfl, .cons ⟨_, rfl⟩ .nil⟩, .inl rfl⟩, wX_PileError⟩
  have FX_BadPlace := fun_mk (st := s_BadPlace) lX_BadPlace cX_BadPlace wX_BadPlace
  have FX_BadMove := fun_mk (st := s_BadMove) lX_BadMove cX_BadMove wX_BadMove
  have FX_TooWide := fun_mk (st := s_TooWide) lX_TooWide cX_TooWide wX_TooWide
  have FX_BadSize := fun_mk (st := s_BadSize) lX_BadSize cX_BadSize wX_BadSize
  have FX_TooGreat := fun_mk (st := s_TooGreat) lX_TooGreat cX_TooGreat wX_TooGreat
  have FX_TooSmall := fun_mk (st := s_TooSmall) lX_TooSmall cX_TooSmall wX_TooSmall
  have FX_NoPlace := fun_mk (st := s_NoPlace) lX_NoPlace cX_NoPlace wX_NoPlace
  let T : Txt K mg w := {
    a__wall := _,
    d__wall := _,
    F__wall := F0,
    g__wall := PySem.W.mg_of X G a0,
    b__wall := F0.binds (ps := P__wall) fun _ _ _ _ _ _ us hl => match us, hl with | [_], _ => rfl,
    a_is_number := _,
    d_is_number := _,
    F_is_number := F1,
    g_is_number := PySem.W.mg_of X G a1,
    b_is_number := F1.binds (ps := P_is_number) fun _ _ _ _ _ _ us hl => match us, hl with | [_], _ => rfl,
    a_is_end := _,
    d_is_end := _,
    F_is_end := F2,
    g_is_end := PySem.W.mg_of X G a2,
    b_is_end := F2.binds (ps := P_is_end) fun _ _ _ _ _ _ us hl => match us, hl with | [_], _ => rfl,
    a_is_end_place := _,
    d_is_end_place := _,
    F_is_end_place := F3,
    g_is_end_place := PySem.W.mg_of X G a3,
    b_is_end_place := F3.binds (ps := P_is_end_place) fun _ _ _ _ _ _ us hl => match us, hl with | [_], _ => rfl,
    a_check_end_place := _,
    d_check_end_place := _,
    F_check_end_place := F4,
    g_check_end_place := PySem.W.mg_of X G a4,
    b_check_end_place := F4.binds (ps := P_check_end_place) fun _ _ _ _ _ _ us hl => match us, hl with | [_], _ => rfl,
    a_check_size := _,
    d_check_size := _,
    F_check_size := F5,
    g_check_size := PySem.W.mg_of X G a5,
    b_check_size := F5.binds (ps := P_check_size) fun _ _ _ _ _ _ us hl => match us, hl with | [_], _ => rfl,
    a_check_listed := _,
    d_check_listed := _,
    F_check_listed := F6,
    g_check_listed := PySem.W.mg_of X G a6,
    b_check_listed := F6.binds (ps := P_check_listed) fun _ _ _ _ _ _ us hl => match us, hl with | [_], _ => rfl,
    a_check_place := _,
    d_check_place := _,
    F_check_place := F7,
    g_check_place := PySem.W.mg_of X G a7,
    b_check_place := F7.binds (ps := P_check_place) fun _ _ _ _ _ _ us hl => match us, hl with | [_, _], _ => rfl,
    a_resolve := _,
    d_resolve := _,
    F_resolve := F8,
    g_resolve := PySem.W.mg_of X G a8,
    b_resolve := F8.binds (ps := P_resolve) fun _ _ _ _ _ _ us hl => match us, hl with | [_, _], _ => rfl,
    a_is_move := _,
    d_is_move := _,
    F_is_move := F9,
    g_is_move := PySem.W.mg_of X G a9,
    b_is_move := F9.binds (ps := P_is_move) fun _ _ _ _ _ _ us hl => match us, hl with | [_], _ => rfl,
    a_fits := _,
    d_fits := _,
    F_fits := F10,
    g_fits := PySem.W.mg_of X G a10,
    b_fits := F10.binds (ps := P_fits) fun _ _ _ _ _ _ us hl => match us, hl with | [_, _], _ => rfl,
    a_cards_needed := _,
    d_cards_needed := _,
    F_cards_needed := F11,
    g_cards_needed := PySem.W.mg_of X G a11,
    b_cards_needed := F11.binds (ps := P_cards_needed) fun _ _ _ _ _ _ us hl => match us, hl with | [_], _ => rfl,
    a_all_images := _,
    d_all_images := _,
    F_all_images := F12,
    g_all_images := PySem.W.mg_of X G a12,
    b_all_images := F12.binds (ps := P_all_images) fun _ _ _ _ _ _ us hl => match us, hl with | [_, _], _ => rfl,
    a_laid_anew := _,
    d_laid_anew := _,
    F_laid_anew := F13,
    g_laid_anew := PySem.W.mg_of X G a13,
    b_laid_anew := F13.binds (ps := P_laid_anew) fun _ _ _ _ _ _ us hl => match us, hl with | [_, _], _ => rfl,
    a_turned_over := _,
    d_turned_over := _,
    F_turned_over := F14,
    g_turned_over := PySem.W.mg_of X G a14,
    b_turned_over := F14.binds (ps := P_turned_over) fun _ _ _ _ _ _ us hl => match us, hl with | [_], _ => rfl,
    a_blocks := _,
    d_blocks := _,
    F_blocks := F15,
    g_blocks := PySem.W.mg_of X G a15,
    b_blocks := F15.binds (ps := P_blocks) fun _ _ _ _ _ _ us hl => match us, hl with | [_, _], _ => rfl,
    a_swap_blocks := _,
    d_swap_blocks := _,
    F_swap_blocks := F16,
    g_swap_blocks := PySem.W.mg_of X G a16,
    b_swap_blocks := F16.binds (ps := P_swap_blocks) fun _ _ _ _ _ _ us hl => match us, hl with | [_, _], _ => rfl,
    a_carry_blocks := _,
    d_carry_blocks := _,
    F_carry_blocks := F17,
    g_carry_blocks := PySem.W.mg_of X G a17,
    b_carry_blocks := F17.binds (ps := P_carry_blocks) fun _ _ _ _ _ _ us hl => match us, hl with | [_, _], _ => rfl,
    a_cut_blocks := _,
    d_cut_blocks := _,
    F_cut_blocks := F18,
    g_cut_blocks := PySem.W.mg_of X G a18,
    b_cut_blocks := F18.binds (ps := P_cut_blocks) fun _ _ _ _ _ _ us hl => match us, hl with | [_, _], _ => rfl,
    a_turn_blocks := _,
    d_turn_blocks := _,
    F_turn_blocks := F19,
    g_turn_blocks := PySem.W.mg_of X G a19,
    b_turn_blocks := F19.binds (ps := P_turn_blocks) fun _ _ _ _ _ _ us hl => match us, hl with | [_, _], _ => rfl,
    a_over_blocks := _,
    d_over_blocks := _,
    F_over_blocks := F20,
    g_over_blocks := PySem.W.mg_of X G a20,
    b_over_blocks := F20.binds (ps := P_over_blocks) fun _ _ _ _ _ _ us hl => match us, hl with | [_, _], _ => rfl,
    a_face_blocks := _,
    d_face_blocks := _,
    F_face_blocks := F21,
    g_face_blocks := PySem.W.mg_of X G a21,
    b_face_blocks := F21.binds (ps := P_face_blocks) fun _ _ _ _ _ _ us hl => match us, hl with | [_, _], _ => rfl,
    a_ends_of := _,
    d_ends_of := _,
    F_ends_of := F22,
    g_ends_of := PySem.W.mg_of X G a22,
    b_ends_of := F22.binds (ps := P_ends_of) fun _ _ _ _ _ _ us hl => match us, hl with | [_], _ => rfl,
    a_check_width := _,
    d_check_width := _,
    F_check_width := F23,
    g_check_width := PySem.W.mg_of X G a23,
    b_check_width := F23.binds (ps := P_check_width) fun _ _ _ _ _ _ us hl => match us, hl with | [_, _], _ => rfl,
    a_ruled := _,
    d_ruled := _,
    F_ruled := F24,
    g_ruled := PySem.W.mg_of X G a24,
    b_ruled := F24.binds (ps := P_ruled) fun _ _ _ _ _ _ us hl => match us, hl with | [_, _, _, _], _ => rfl,
    a_entry_at := _,
    d_entry_at := _,
    F_entry_at := F25,
    g_entry_at := PySem.W.mg_of X G a25,
    b_entry_at := F25.binds (ps := P_entry_at) fun _ _ _ _ _ _ us hl => match us, hl with | [_, _, _], _ => rfl,
    a_is_form := _,
    d_is_form := _,
    F_is_form := F26,
    g_is_form := PySem.W.mg_of X G a26,
    b_is_form := F26.binds (ps := P_is_form) fun _ _ _ _ _ _ us hl => match us, hl with | [_], _ => rfl,
    a_normal := _,
    d_normal := _,
    F_normal := F27,
    g_normal := PySem.W.mg_of X G a27,
    b_normal := F27.binds (ps := P_normal) fun _ _ _ _ _ _ us hl => match us, hl with | [_, _, _, _], _ => rfl,
    a_trimmed := _,
    d_trimmed := _,
    F_trimmed := F28,
    g_trimmed := PySem.W.mg_of X G a28,
    b_trimmed := F28.binds (ps := P_trimmed) fun _ _ _ _ _ _ us hl => match us, hl with | [_, _, _, _], _ => rfl,
    a_place_image := _,
    d_place_image := _,
    F_place_image := F29,
    g_place_image := PySem.W.mg_of X G a29,
    b_place_image := F29.binds (ps := P_place_image) fun _ _ _ _ _ _ us hl => match us, hl with | [_, _, _], _ => rfl,
    a_product := _,
    d_product := _,
    F_product := F30,
    g_product := PySem.W.mg_of X G a30,
    b_product := F30.binds (ps := P_product) fun _ _ _ _ _ _ us hl => match us, hl with | [_, _], _ => rfl,
    a_sent_on := _,
    d_sent_on := _,
    F_sent_on := F31,
    g_sent_on := PySem.W.mg_of X G a31,
    b_sent_on := F31.binds (ps := P_sent_on) fun _ _ _ _ _ _ us hl => match us, hl with | [_, _, _], _ => rfl,
    a_move_parts := _,
    d_move_parts := _,
    F_move_parts := F32,
    g_move_parts := PySem.W.mg_of X G a32,
    b_move_parts := F32.binds (ps := P_move_parts) fun _ _ _ _ _ _ us hl => match us, hl with | [_], _ => rfl,
    a_end_entry := _,
    d_end_entry := _,
    F_end_entry := F33,
    g_end_entry := PySem.W.mg_of X G a33,
    b_end_entry := F33.binds (ps := P_end_entry) fun _ _ _ _ _ _ us hl => match us, hl with | [_, _], _ => rfl,
    a__law_bag := _,
    d__law_bag := _,
    F__law_bag := F34,
    g__law_bag := PySem.W.mg_of X G a34,
    b__law_bag := F34.binds (ps := P__law_bag) fun _ _ _ _ _ _ us hl => match us, hl with | [_], _ => rfl,
    a__law_pull := _,
    d__law_pull := _,
    F__law_pull := F35,
    g__law_pull := PySem.W.mg_of X G a35,
    b__law_pull := F35.binds (ps := P__law_pull) fun _ _ _ _ _ _ us hl => match us, hl with | [_, _], _ => rfl,
    a__law_of := _,
    d__law_of := _,
    F__law_of := F36,
    g__law_of := PySem.W.mg_of X G a36,
    b__law_of := F36.binds (ps := P__law_of) fun _ _ _ _ _ _ us hl => match us, hl with | [_, _], _ => rfl,
    a__law_same := _,
    d__law_same := _,
    F__law_same := F37,
    g__law_same := PySem.W.mg_of X G a37,
    b__law_same := F37.binds (ps := P__law_same) fun _ _ _ _ _ _ us hl => match us, hl with | [_, _], _ => rfl,
    a__law_end := _,
    d__law_end := _,
    F__law_end := F38,
    g__law_end := PySem.W.mg_of X G a38,
    b__law_end := F38.binds (ps := P__law_end) fun _ _ _ _ _ _ us hl => match us, hl with | [_, _], _ => rfl,
    a__law_move := _,
    d__law_move := _,
    F__law_move := F39,
    g__law_move := PySem.W.mg_of X G a39,
    b__law_move := F39.binds (ps := P__law_move) fun _ _ _ _ _ _ us hl => match us, hl with | [_, _], _ => rfl,
    a__law_depth := _,
    d__law_depth := _,
    F__law_depth := F40,
    g__law_depth := PySem.W.mg_of X G a40,
    b__law_depth := F40.binds (ps := P__law_depth) fun _ _ _ _ _ _ us hl => match us, hl with | [_], _ => rfl,
    a__law_spot := _,
    d__law_spot := _,
    F__law_spot := F41,
    g__law_spot := PySem.W.mg_of X G a41,
    b__law_spot := F41.binds (ps := P__law_spot) fun _ _ _ _ _ _ us hl => match us, hl with | [_, _], _ => rfl,
    a__law_flipped := _,
    d__law_flipped := _,
    F__law_flipped := F42,
    g__law_flipped := PySem.W.mg_of X G a42,
    b__law_flipped := F42.binds (ps := P__law_flipped) fun _ _ _ _ _ _ us hl => match us, hl with | [_], _ => rfl,
    a__law_dealt := _,
    d__law_dealt := _,
    F__law_dealt := F43,
    g__law_dealt := PySem.W.mg_of X G a43,
    b__law_dealt := F43.binds (ps := P__law_dealt) fun _ _ _ _ _ _ us hl => match us, hl with | [_, _], _ => rfl,
    a__law_images := _,
    d__law_images := _,
    F__law_images := F44,
    g__law_images := PySem.W.mg_of X G a44,
    b__law_images := F44.binds (ps := P__law_images) fun _ _ _ _ _ _ us hl => match us, hl with | [_, _], _ => rfl,
    a__law_goes := _,
    d__law_goes := _,
    F__law_goes := F45,
    g__law_goes := PySem.W.mg_of X G a45,
    b__law_goes := F45.binds (ps := P__law_goes) fun _ _ _ _ _ _ us hl => match us, hl with | [_, _, _], _ => rfl,
    a__law_great := _,
    d__law_great := _,
    F__law_great := F46,
    g__law_great := PySem.W.mg_of X G a46,
    b__law_great := F46.binds (ps := P__law_great) fun _ _ _ _ _ _ us hl => match us, hl with | [_], _ => rfl,
    a__law_place_of := _,
    d__law_place_of := _,
    F__law_place_of := F47,
    g__law_place_of := PySem.W.mg_of X G a47,
    b__law_place_of := F47.binds (ps := P__law_place_of) fun _ _ _ _ _ _ us hl => match us, hl with | [_, _], _ => rfl,
    a__law_ruled := _,
    d__law_ruled := _,
    F__law_ruled := F48,
    g__law_ruled := PySem.W.mg_of X G a48,
    b__law_ruled := F48.binds (ps := P__law_ruled) fun _ _ _ _ _ _ us hl => match us, hl with | [_, _, _], _ => rfl,
    a__law_normal := _,
    d__law_normal := _,
    F__law_normal := F49,
    g__law_normal := PySem.W.mg_of X G a49,
    b__law_normal := F49.binds (ps := P__law_normal) fun _ _ _ _ _ _ us hl => match us, hl with | [_], _ => rfl,
    a__law_read_parts := _,
    d__law_read_parts := _,
    F__law_read_parts := F50,
    g__law_read_parts := PySem.W.mg_of X G a50,
    b__law_read_parts := F50.binds (ps := P__law_read_parts) fun _ _ _ _ _ _ us hl => match us, hl with | [_], _ => rfl,
    a_law := _,
    d_law := _,
    F_law := F51,
    g_law := PySem.W.mg_of X G a51,
    a_Form___init__ := _,
    d_Form___init__ := _,
    F_Form___init__ := F52,
    b_Form___init__ := F52.binds (ps := P_Form___init__) fun _ _ _ _ _ _ us hl => match us, hl with | [_, _, _, _, _], _ => rfl,
    a_Form_of := _,
    d_Form_of := _,
    F_Form_of := F53,
    b_Form_of := F53.binds (ps := P_Form_of) fun _ _ _ _ _ _ us hl => match us, hl with | [_, _], _ => rfl,
    a_Form_turned := _,
    d_Form_turned := _,
    F_Form_turned := F54,
    b_Form_turned := F54.binds (ps := P_Form_turned) fun _ _ _ _ _ _ us hl => match us, hl with | [_], _ => rfl,
    a_Form_shift := _,
    d_Form_shift := _,
    F_Form_shift := F55,
    b_Form_shift := F55.binds (ps := P_Form_shift) fun _ _ _ _ _ _ us hl => match us, hl with | [_], _ => rfl,
    a_Form_least := _,
    d_Form_least := _,
    F_Form_least := F56,
    b_Form_least := F56.binds (ps := P_Form_least) fun _ _ _ _ _ _ us hl => match us, hl with | [_], _ => rfl,
    a_Form_top := _,
    d_Form_top := _,
    F_Form_top := F57,
    b_Form_top := F57.binds (ps := P_Form_top) fun _ _ _ _ _ _ us hl => match us, hl with | [_], _ => rfl,
    a_Form_bottom := _,
    d_Form_bottom := _,
    F_Form_bottom := F58,
    b_Form_bottom := F58.binds (ps := P_Form_bottom) fun _ _ _ _ _ _ us hl => match us, hl with | [_], _ => rfl,
    a_Form_image := _,
    d_Form_image := _,
    F_Form_image := F59,
    b_Form_image := F59.binds (ps := P_Form_image) fun _ _ _ _ _ _ us hl => match us, hl with | [_, _, _], _ => rfl,
    a_Form_listed := _,
    d_Form_listed := _,
    F_Form_listed := F60,
    b_Form_listed := F60.binds (ps := P_Form_listed) fun _ _ _ _ _ _ us hl => match us, hl with | [_, _], _ => rfl,
    a_Form_check_least := _,
    d_Form_check_least := _,
    F_Form_check_least := F61,
    b_Form_check_least := F61.binds (ps := P_Form_check_least) fun _ _ _ _ _ _ us hl => match us, hl with | [_, _], _ => rfl,
    a_PileError := _,
    g_PileError := PySem.W.mg_of X G gX_PileError,
    f_PileError := _,
    d_PileError := _,
    F_PileError := FX_PileError,
    b_PileError := binds_pe FX_PileError,
    r_PileError := ⟨rX_PileError, sX_PileError⟩,
    v_PileError := ⟨iX_PileError, rfl⟩,
    a_BadPlace := _,
    g_BadPlace := PySem.W.mg_of X G gX_BadPlace,
    x_BadPlace := ⟨⟨⟨_, _, _, _, _, _, _, _, _, _, _, _, _, _, _, oX_BadPlace, vX_BadPlace⟩, sX_BadPlace, xX_BadPlace, yX_BadPlace, kX_BadPlace⟩, xfB_ok bX_BadPlace, (List.forall_mem_cons.mpr ⟨nX_code_BadPlace, (List.forall_mem_cons.mpr ⟨nX_place_BadPlace, (fun _ h => nomatch h)⟩)⟩), eX_BadPlace⟩,
    f_BadPlace := _,
    d_BadPlace := _,
    F_BadPlace := FX_BadPlace,
    b_BadPlace := FX_BadPlace.binds (ps := P_BadPlace) fun _ _ _ _ _ _ us hl => match us, hl with | [_, _], _ => rfl,
    i_BadPlace := iX_BadPlace,
    ti_BadPlace := tX_BadPlace,
    a_BadMove := _,
    g_BadMove := PySem.W.mg_of X G gX_BadMove,
    x_BadMove := ⟨⟨⟨_, _, _, _, _, _, _, _, _, _, _, _, _, _, _, oX_BadMove, vX_BadMove⟩, sX_BadMove, xX_BadMove, yX_BadMove, kX_BadMove⟩, xfB_ok bX_BadMove, (List.forall_mem_cons.mpr ⟨nX_code_BadMove, (List.forall_mem_cons.mpr ⟨nX_at_BadMove, (fun _ h => nomatch h)⟩)⟩), eX_BadMove⟩,
    f_BadMove := _,
    d_BadMove := _,
    F_BadMove := FX_BadMove,
    b_BadMove := FX_BadMove.binds (ps := P_BadMove) fun _ _ _ _ _ _ us hl => match us, hl with | [_, _], _ => rfl,
    i_BadMove := iX_BadMove,
    ti_BadMove := tX_BadMove,
    a_TooWide := _,
    g_TooWide := PySem.W.mg_of X G gX_TooWide,
    x_TooWide := ⟨⟨⟨_, _, _, _, _, _, _, _, _, _, _, _, _, _, _, oX_TooWide, vX_TooWide⟩, sX_TooWide, xX_TooWide, yX_TooWide, kX_TooWide⟩, xfB_ok bX_TooWide, (List.forall_mem_cons.mpr ⟨nX_code_TooWide, (List.forall_mem_cons.mpr ⟨nX_limit_TooWide, (fun _ h => nomatch h)⟩)⟩), eX_TooWide⟩,
    f_TooWide := _,
    d_TooWide := _,
    F_TooWide := FX_TooWide,
    b_TooWide := FX_TooWide.binds (ps := P_TooWide) fun _ _ _ _ _ _ us hl => match us, hl with | [_, _], _ => rfl,
    i_TooWide := iX_TooWide,
    ti_TooWide := tX_TooWide,
    a_BadSize := _,
    g_BadSize := PySem.W.mg_of X G gX_BadSize,
    x_BadSize := ⟨⟨⟨_, _, _, _, _, _, _, _, _, _, _, _, _, _, _, oX_BadSize, vX_BadSize⟩, sX_BadSize, xX_BadSize, yX_BadSize, kX_BadSize⟩, xfB_ok bX_BadSize, (List.forall_mem_cons.mpr ⟨nX_code_BadSize, (List.forall_mem_cons.mpr ⟨nX_size_BadSize, (fun _ h => nomatch h)⟩)⟩), eX_BadSize⟩,
    f_BadSize := _,
    d_BadSize := _,
    F_BadSize := FX_BadSize,
    b_BadSize := FX_BadSize.binds (ps := P_BadSize) fun _ _ _ _ _ _ us hl => match us, hl with | [_, _], _ => rfl,
    i_BadSize := iX_BadSize,
    ti_BadSize := tX_BadSize,
    a_TooGreat := _,
    g_TooGreat := PySem.W.mg_of X G gX_TooGreat,
    x_TooGreat := ⟨⟨⟨_, _, _, _, _, _, _, _, _, _, _, _, _, _, _, oX_TooGreat, vX_TooGreat⟩, sX_TooGreat, xX_TooGreat, yX_TooGreat, kX_TooGreat⟩, xfB_ok bX_TooGreat, (List.forall_mem_cons.mpr ⟨nX_code_TooGreat, (List.forall_mem_cons.mpr ⟨nX_limit_TooGreat, (fun _ h => nomatch h)⟩)⟩), eX_TooGreat⟩,
    f_TooGreat := _,
    d_TooGreat := _,
    F_TooGreat := FX_TooGreat,
    b_TooGreat := FX_TooGreat.binds (ps := P_TooGreat) fun _ _ _ _ _ _ us hl => match us, hl with | [_, _], _ => rfl,
    i_TooGreat := iX_TooGreat,
    ti_TooGreat := tX_TooGreat,
    a_TooSmall := _,
    g_TooSmall := PySem.W.mg_of X G gX_TooSmall,
    x_TooSmall := ⟨⟨⟨_, _, _, _, _, _, _, _, _, _, _, _, _, _, _, oX_TooSmall, vX_TooSmall⟩, sX_TooSmall, xX_TooSmall, yX_TooSmall, kX_TooSmall⟩, xfB_ok bX_TooSmall, (List.forall_mem_cons.mpr ⟨nX_code_TooSmall, (List.forall_mem_cons.mpr ⟨nX_limit_TooSmall, (fun _ h => nomatch h)⟩)⟩), eX_TooSmall⟩,
    f_TooSmall := _,
    d_TooSmall := _,
    F_TooSmall := FX_TooSmall,
    b_TooSmall := FX_TooSmall.binds (ps := P_TooSmall) fun _ _ _ _ _ _ us hl => match us, hl with | [_, _], _ => rfl,
    i_TooSmall := iX_TooSmall,
    ti_TooSmall := tX_TooSmall,
    a_NoPlace := _,
    g_NoPlace := PySem.W.mg_of X G gX_NoPlace,
    x_NoPlace := ⟨⟨⟨_, _, _, _, _, _, _, _, _, _, _, _, _, _, _, oX_NoPlace, vX_NoPlace⟩, sX_NoPlace, xX_NoPlace, yX_NoPlace, kX_NoPlace⟩, xfB_ok bX_NoPlace, (List.forall_mem_cons.mpr ⟨nX_code_NoPlace, (List.forall_mem_cons.mpr ⟨nX_place_NoPlace, (fun _ h => nomatch h)⟩)⟩), eX_NoPlace⟩,
    f_NoPlace := _,
    d_NoPlace := _,
    F_NoPlace := FX_NoPlace,
    b_NoPlace := FX_NoPlace.binds (ps := P_NoPlace) fun _ _ _ _ _ _ us hl => match us, hl with | [_, _], _ => rfl,
    i_NoPlace := iX_NoPlace,
    ti_NoPlace := tX_NoPlace,
    a_Form := _,
    g_Form := PySem.W.mg_of X G gX_Form,
    cls_Form := ⟨pgX_Form, hdX_Form, poX_Form, saX_Form⟩,
    is_Form := ⟨⟨pgX_Form, hdX_Form, poX_Form, saX_Form⟩, hcX_Form, hgX_Form, tkX_Form, moX_Form, kiX_Form⟩,
    mk_Form := ⟨miX_Form, at___init__X_Form, fn___init__X_Form, kpX_Form⟩,
    no_Form_parts := no_partsX_Form,
    r_Form := ⟨rdX_Form, gaX_Form⟩,
    t_Form_WIDEST := _,
    v_Form_WIDEST := ⟨cv_WIDESTX_Form, ⟨_, rfl⟩⟩,
    M_Form_image := ⟨at_imageX_Form, fn_imageX_Form, k59⟩,
    M_Form_listed := ⟨at_listedX_Form, fn_listedX_Form, k60⟩,
    M_Form_check_least := ⟨at_check_leastX_Form, fn_check_leastX_Form, k61⟩,
    M_Form_top := ⟨at_topX_Form, fn_topX_Form, k57⟩,
    M_Form_bottom := ⟨at_bottomX_Form, fn_bottomX_Form, k58⟩,
    p_Form_of := _,
    K_Form_of := ⟨at_ofX_Form, ⟨_, rc_ofX_Form⟩, fi_ofX_Form⟩,
    p_Form_turned := _,
    P_Form_turned := ⟨at_turnedX_Form, pg_turnedX_Form, pt_turnedX_Form, ⟨_, rc_turnedX_Form⟩⟩,
    p_Form_shift := _,
    P_Form_shift := ⟨at_shiftX_Form, pg_shiftX_Form, pt_shiftX_Form, ⟨_, rc_shiftX_Form⟩⟩,
    p_Form_least := _,
    P_Form_least := ⟨at_leastX_Form, pg_leastX_Form, pt_leastX_Form, ⟨_, rc_leastX_Form⟩⟩,
    m_abs := PySem.W.mg_none_of X G z_abs,
    m_action := PySem.W.mg_none_of X G z_action,
    m_all := PySem.W.mg_none_of X G z_all,
    m_bool := PySem.W.mg_none_of X G z_bool,
    m_dict := PySem.W.mg_none_of X G z_dict,
    m_enumerate := PySem.W.mg_none_of X G z_enumerate,
    m_int := PySem.W.mg_none_of X G z_int,
    m_isinstance := PySem.W.mg_none_of X G z_isinstance,
    m_len := PySem.W.mg_none_of X G z_len,
    m_list := PySem.W.mg_none_of X G z_list,
    m_max := PySem.W.mg_none_of X G z_max,
    m_min := PySem.W.mg_none_of X G z_min,
    m_range := PySem.W.mg_none_of X G z_range,
    m_reversed := PySem.W.mg_none_of X G z_reversed,
    m_sorted := PySem.W.mg_none_of X G z_sorted,
    m_str := PySem.W.mg_none_of X G z_str,
    m_tuple := PySem.W.mg_none_of X G z_tuple,
    m_zip := PySem.W.mg_none_of X G z_zip,
    t_MOST_DEPTH := _,
    c_MOST_DEPTH := PySem.W.mg_of X G y_MOST_DEPTH,
    t_MOST_CARDS := _,
    c_MOST_CARDS := PySem.W.mg_of X G y_MOST_CARDS,
    t_MOST_LISTED := _,
    c_MOST_LISTED := PySem.W.mg_of X G y_MOST_LISTED,
    t_MOST_BLOCK := _,
    c_MOST_BLOCK := PySem.W.mg_of X G y_MOST_BLOCK,
    a_SHAPES := _,
    c_SHAPES := PySem.W.mg_of X G y_SHAPES,
    d_SHAPES := ⟨_, _, l_SHAPES, k_SHAPES, s_SHAPES⟩,
    x_SHAPES := fun z hz => miss_of l_SHAPES k_SHAPES s_SHAPES km_SHAPES z hz,
    a_SHAPES_swap := _,
    e_SHAPES_swap := ⟨_, _, _, l_SHAPES, k_SHAPES, e_SHAPES_swap, rfl⟩,
    q_SHAPES_swap := fun _ => .inr ⟨_, _, _, l_SHAPES_swap, rfl, rfl, le_line (Nat.le_of_ble_eq_true rfl), (.cons ⟨_, rfl⟩ (.cons ⟨_, rfl⟩ .nil))⟩,
    a_SHAPES_carry := _,
    e_SHAPES_carry := ⟨_, _, _, l_SHAPES, k_SHAPES, e_SHAPES_carry, rfl⟩,
    q_SHAPES_carry := fun _ => .inr ⟨_, _, _, l_SHAPES_carry, rfl, rfl, le_line (Nat.le_of_ble_eq_true rfl), (.cons ⟨_, rfl⟩ (.cons ⟨_, rfl⟩ .nil))⟩,
    a_SHAPES_cut := _,
    e_SHAPES_cut := ⟨_, _, _, l_SHAPES, k_SHAPES, e_SHAPES_cut, rfl⟩,
    q_SHAPES_cut := fun _ => .inr ⟨_, _, _, l_SHAPES_cut, rfl, rfl, le_line (Nat.le_of_ble_eq_true rfl), (.cons ⟨_, rfl⟩ .nil)⟩,
    a_SHAPES_turn := _,
    e_SHAPES_turn := ⟨_, _, _, l_SHAPES, k_SHAPES, e_SHAPES_turn, rfl⟩,
    q_SHAPES_turn := fun _ => .inr ⟨_, _, _, l_SHAPES_turn, rfl, rfl, le_line (Nat.le_of_ble_eq_true rfl), (.cons ⟨_, rfl⟩ (.cons ⟨_, rfl⟩ .nil))⟩,
    a_SHAPES_over := _,
    e_SHAPES_over := ⟨_, _, _, l_SHAPES, k_SHAPES, e_SHAPES_over, rfl⟩,
    q_SHAPES_over := fun _ => .inr ⟨_, _, _, l_SHAPES_over, rfl, rfl, le_line (Nat.le_of_ble_eq_true rfl), .nil⟩,
    a_SHAPES_face := _,
    e_SHAPES_face := ⟨_, _, _, l_SHAPES, k_SHAPES, e_SHAPES_face, rfl⟩,
    q_SHAPES_face := fun _ => .inr ⟨_, _, _, l_SHAPES_face, rfl, rfl, le_line (Nat.le_of_ble_eq_true rfl), (.cons ⟨_, rfl⟩ .nil)⟩,
    a_BLOCKS := _,
    c_BLOCKS := PySem.W.mg_of X G y_BLOCKS,
    d_BLOCKS := ⟨_, _, l_BLOCKS, k_BLOCKS, s_BLOCKS⟩,
    x_BLOCKS := fun z hz => miss_of l_BLOCKS k_BLOCKS s_BLOCKS km_BLOCKS z hz,
    e_BLOCKS_swap := ⟨_, _, _, l_BLOCKS, k_BLOCKS, e_BLOCKS_swap, rfl⟩,
    e_BLOCKS_carry := ⟨_, _, _, l_BLOCKS, k_BLOCKS, e_BLOCKS_carry, rfl⟩,
    e_BLOCKS_cut := ⟨_, _, _, l_BLOCKS, k_BLOCKS, e_BLOCKS_cut, rfl⟩,
    e_BLOCKS_turn := ⟨_, _, _, l_BLOCKS, k_BLOCKS, e_BLOCKS_turn, rfl⟩,
    e_BLOCKS_over := ⟨_, _, _, l_BLOCKS, k_BLOCKS, e_BLOCKS_over, rfl⟩,
    e_BLOCKS_face := ⟨_, _, _, l_BLOCKS, k_BLOCKS, e_BLOCKS_face, rfl⟩ }
  exact ⟨_, fun s v => .of_eq rfl, fun base _ _ => ok_law T⟩
end Z
open PySem PySem.W PyProof.Rows
set_option maxHeartbeats 0 in
theorem PySem.Challenge.cw_pileports_k15_forms_of_single_moves_holds : PySem.Challenge.rw_pileports_k15_forms_of_single_moves.Holds := by
  w_on; o_law; k_head; (case hw => w_witness2)
  k_fill
  refine L2.walk_of (l := PySem.Challenge.rw_pileports_k15_forms_of_single_moves) (n := 63) (k := 17) (x := "_law_script") (CX := fun _ => L2.CX0) (sp := fun w => Z.spLaw _) rfl (by decide) rfl ⟨rfl, by decide, by decide⟩ (fun w h Y => PySem.W.kIn_of Y) ?F (fun _ _ a ns hl _ hS => ⟨a, ns, rfl, hS, hl, fun _ => rfl⟩) (fun _ _ _ _ _ h => h)
  case F =>
    intro w mg fa h KX G hmg
    refine' Z.all_mk KX G hmg ?a0 ?l0 ?c0 ?k0 ?a1 ?l1 ?c1 ?k1 ?a2 ?l2 ?c2 ?k2 ?a3 ?l3 ?c3 ?k3 ?a4 ?l4 ?c4 ?k4 ?a5 ?l5 ?c5 ?k5 ?a6 ?l6 ?c6 ?k6 ?a7 ?l7 ?c7 ?k7 ?a8 ?l8 ?c8 ?k8 ?a9 ?l9 ?c9 ?k9 ?a10 ?l10 ?c10 ?k10 ?a11 ?l11 ?c11 ?k11 ?a12 ?l12 ?c12 ?k12 ?a13 ?l13 ?c13 ?k13 ?a14 ?l14 ?c14 ?k14 ?a15 ?l15 ?c15 ?k15 ?a16 ?l16 ?c16 ?k16 ?a17 ?l17 ?c17 ?k17 ?a18 ?l18 ?c18 ?k18 ?a19 ?l19 ?c19 ?k19 ?a20 ?l20 ?c20 ?k20 ?a21 ?l21 ?c21 ?k21 ?a22 ?l22 ?c22 ?k22 ?a23 ?l23 ?c23 ?k23 ?a24 ?l24 ?c24 ?k24 ?a25 ?l25 ?c25 ?k25 ?a26 ?l26 ?c26 ?k26 ?a27 ?l27 ?c27 ?k27 ?a28 ?l28 ?c28 ?k28 ?a29 ?l29 ?c29 ?k29 ?a30 ?l30 ?c30 ?k30 ?a31 ?l31 ?c31 ?k31 ?a32 ?l32 ?c32 ?k32 ?a33 ?l33 ?c33 ?k33 ?a34 ?l34 ?c34 ?k34 ?a35 ?l35 ?c35 ?k35 ?a36 ?l36 ?c36 ?k36 ?a37 ?l37 ?c37 ?k37 ?a38 ?l38 ?c38 ?k38 ?a39 ?l39 ?c39 ?k39 ?a40 ?l40 ?c40 ?k40 ?a41 ?l41 ?c41 ?k41 ?a42 ?l42 ?c42 ?k42 ?a43 ?l43 ?c43 ?k43 ?a44 ?l44 ?c44 ?k44 ?a45 ?l45 ?c45 ?k45 ?a46 ?l46 ?c46 ?k46 ?a47 ?l47 ?c47 ?k47 ?a48 ?l48 ?c48 ?k48 ?a49 ?l49 ?c49 ?k49 ?a50 ?l50 ?c50 ?k50 ?a51 ?l51 ?c51 ?k51 ?z_abs ?z_action ?z_all ?z_bool ?z_dict ?z_enumerate ?z_int ?z_isinstance ?z_len ?z_list ?z_max ?z_min ?z_range ?z_reversed ?z_sorted ?z_str ?z_tuple ?z_zip ?y_MOST_DEPTH ?y_MOST_CARDS ?y_MOST_LISTED ?y_MOST_BLOCK ?y_SHAPES ?l_SHAPES ?k_SHAPES ?s_SHAPES ?km_SHAPES ?e_SHAPES_swap ?l_SHAPES_swap ?e_SHAPES_carry ?l_SHAPES_carry ?e_SHAPES_cut ?l_SHAPES_cut ?e_SHAPES_turn ?l_SHAPES_turn ?e_SHAPES_over ?l_SHAPES_over ?e_SHAPES_face ?l_SHAPES_face ?y_BLOCKS ?l_BLOCKS ?k_BLOCKS ?s_BLOCKS ?km_BLOCKS ?e_BLOCKS_swap ?e_BLOCKS_carry ?e_BLOCKS_cut ?e_BLOCKS_turn ?e_BLOCKS_over ?e_BLOCKS_face ?gX_PileError ?iX_PileError ?rX_PileError ?sX_PileError ?lX_PileError ?tX_PileError ?cX_PileError ?wX_PileError ?gX_BadPlace ?oX_BadPlace ?vX_BadPlace ?sX_BadPlace ?xX_BadPlace ?yX_BadPlace ?kX_BadPlace ?bX_BadPlace ?nX_code_BadPlace ?nX_place_BadPlace ?iX_BadPlace ?tX_BadPlace ?lX_BadPlace ?eX_BadPlace ?cX_BadPlace ?wX_BadPlace ?gX_BadMove ?oX_BadMove ?vX_BadMove ?sX_BadMove ?xX_BadMove ?yX_BadMove ?kX_BadMove ?bX_BadMove ?nX_code_BadMove ?nX_at_BadMove ?iX_BadMove ?tX_BadMove ?lX_BadMove ?eX_BadMove ?cX_BadMove ?wX_BadMove ?gX_TooWide ?oX_TooWide ?vX_TooWide ?sX_TooWide ?xX_TooWide ?yX_TooWide ?kX_TooWide ?bX_TooWide ?nX_code_TooWide ?nX_limit_TooWide ?iX_TooWide ?tX_TooWide ?lX_TooWide ?eX_TooWide ?cX_TooWide ?wX_TooWide ?gX_BadSize ?oX_BadSize ?vX_BadSize ?sX_BadSize ?xX_BadSize ?yX_BadSize ?kX_BadSize ?bX_BadSize ?nX_code_BadSize ?nX_size_BadSize ?iX_BadSize ?tX_BadSize ?lX_BadSize ?eX_BadSize ?cX_BadSize ?wX_BadSize ?gX_TooGreat ?oX_TooGreat ?vX_TooGreat ?sX_TooGreat ?xX_TooGreat ?yX_TooGreat ?kX_TooGreat ?bX_TooGreat ?nX_code_TooGreat ?nX_limit_TooGreat ?iX_TooGreat ?tX_TooGreat ?lX_TooGreat ?eX_TooGreat ?cX_TooGreat ?wX_TooGreat ?gX_TooSmall ?oX_TooSmall ?vX_TooSmall ?sX_TooSmall ?xX_TooSmall ?yX_TooSmall ?kX_TooSmall ?bX_TooSmall ?nX_code_TooSmall ?nX_limit_TooSmall ?iX_TooSmall ?tX_TooSmall ?lX_TooSmall ?eX_TooSmall ?cX_TooSmall ?wX_TooSmall ?gX_NoPlace ?oX_NoPlace ?vX_NoPlace ?sX_NoPlace ?xX_NoPlace ?yX_NoPlace ?kX_NoPlace ?bX_NoPlace ?nX_code_NoPlace ?nX_place_NoPlace ?iX_NoPlace ?tX_NoPlace ?lX_NoPlace ?eX_NoPlace ?cX_NoPlace ?wX_NoPlace ?gX_Form ?at___init__X_Form ?at_imageX_Form ?at_listedX_Form ?at_check_leastX_Form ?at_topX_Form ?at_bottomX_Form ?at_turnedX_Form ?rc_turnedX_Form ?pg_turnedX_Form ?pt_turnedX_Form ?at_shiftX_Form ?rc_shiftX_Form ?pg_shiftX_Form ?pt_shiftX_Form ?at_leastX_Form ?rc_leastX_Form ?pg_leastX_Form ?pt_leastX_Form ?at_ofX_Form ?rc_ofX_Form ?fi_ofX_Form ?pgX_Form ?hdX_Form ?poX_Form ?saX_Form ?hcX_Form ?hgX_Form ?tkX_Form ?moX_Form ?kiX_Form ?miX_Form ?kpX_Form ?sfX_Form ?no_partsX_Form ?rdX_Form ?gaX_Form ?cv_WIDESTX_Form ?fn___init__X_Form ?fn_imageX_Form ?fn_listedX_Form ?fn_check_leastX_Form ?fn_topX_Form ?fn_bottomX_Form ?l52 ?c52 ?k52 ?l53 ?c53 ?k53 ?l54 ?c54 ?k54 ?l55 ?c55 ?k55 ?l56 ?c56 ?k56 ?l57 ?c57 ?k57 ?l58 ?c58 ?k58 ?l59 ?c59 ?k59 ?l60 ?c60 ?k60 ?l61 ?c61 ?k61
    (case a0 => k_is); (case l0 => k_is); (case c0 => k_is); (case k0 => k_is); (case a1 => k_is); (case l1 => k_is); (case c1 => k_is); (case k1 => k_is); (case a2 => k_is); (case l2 => k_is); (case c2 => k_is); (case k2 => k_is); (case a3 => k_is); (case l3 => k_is); (case c3 => k_is); (case k3 => k_is); (case a4 => k_is); (case l4 => k_is); (case c4 => k_is); (case k4 => k_is); (case a5 => k_is); (case l5 => k_is); (case c5 => k_is); (case k5 => k_is); (case a6 => k_is); (case l6 => k_is); (case c6 => k_is); (case k6 => k_is); (case a7 => k_is); (case l7 => k_is); (case c7 => k_is); (case k7 => k_is); (case a8 => k_is); (case l8 => k_is); (case c8 => k_is); (case k8 => k_is); (case a9 => k_is); (case l9 => k_is); (case c9 => k_is); (case k9 => k_is); (case a10 => k_is); (case l10 => k_is); (case c10 => k_is); (case k10 => k_is); (case a11 => k_is); (case l11 => k_is); (case c11 => k_is); (case k11 => k_is); (case a12 => k_is); (case l12 => k_is); (case c12 => k_is); (case k12 => k_is); (case a13 => k_is); (case l13 => k_is); (case c13 => k_is); (case k13 => k_is); (case a14 => k_is); (case l14 => k_is); (case c14 => k_is); (case k14 => k_is); (case a15 => k_is); (case l15 => k_is); (case c15 => k_is); (case k15 => k_is); (case a16 => k_is); (case l16 => k_is); (case c16 => k_is); (case k16 => k_is); (case a17 => k_is); (case l17 => k_is); (case c17 => k_is); (case k17 => k_is); (case a18 => k_is); (case l18 => k_is); (case c18 => k_is); (case k18 => k_is); (case a19 => k_is); (case l19 => k_is); (case c19 => k_is); (case k19 => k_is); (case a20 => k_is); (case l20 => k_is); (case c20 => k_is); (case k20 => k_is); (case a21 => k_is); (case l21 => k_is); (case c21 => k_is); (case k21 => k_is); (case a22 => k_is); (case l22 => k_is); (case c22 => k_is); (case k22 => k_is); (case a23 => k_is); (case l23 => k_is); (case c23 => k_is); (case k23 => k_is); (case a24 => k_is); (case l24 => k_is); (case c24 => k_is); (case k24 => k_is); (case a25 => k_is); (case l25 => k_is); (case c25 => k_is); (case k25 => k_is); (case a26 => k_is); (case l26 => k_is); (case c26 => k_is); (case k26 => k_is); (case a27 => k_is); (case l27 => k_is); (case c27 => k_is); (case k27 => k_is); (case a28 => k_is); (case l28 => k_is); (case c28 => k_is); (case k28 => k_is); (case a29 => k_is); (case l29 => k_is); (case c29 => k_is); (case k29 => k_is); (case a30 => k_is); (case l30 => k_is); (case c30 => k_is); (case k30 => k_is); (case a31 => k_is); (case l31 => k_is); (case c31 => k_is); (case k31 => k_is); (case a32 => k_is); (case l32 => k_is); (case c32 => k_is); (case k32 => k_is); (case a33 => k_is); (case l33 => k_is); (case c33 => k_is); (case k33 => k_is); (case a34 => k_is); (case l34 => k_is); (case c34 => k_is); (case k34 => k_is); (case a35 => k_is); (case l35 => k_is); (case c35 => k_is); (case k35 => k_is); (case a36 => k_is); (case l36 => k_is); (case c36 => k_is); (case k36 => k_is); (case a37 => k_is); (case l37 => k_is); (case c37 => k_is); (case k37 => k_is); (case a38 => k_is); (case l38 => k_is); (case c38 => k_is); (case k38 => k_is); (case a39 => k_is); (case l39 => k_is); (case c39 => k_is); (case k39 => k_is); (case a40 => k_is); (case l40 => k_is); (case c40 => k_is); (case k40 => k_is); (case a41 => k_is); (case l41 => k_is); (case c41 => k_is); (case k41 => k_is); (case a42 => k_is); (case l42 => k_is); (case c42 => k_is); (case k42 => k_is); (case a43 => k_is); (case l43 => k_is); (case c43 => k_is); (case k43 => k_is); (case a44 => k_is); (case l44 => k_is); (case c44 => k_is); (case k44 => k_is); (case a45 => k_is); (case l45 => k_is); (case c45 => k_is); (case k45 => k_is); (case a46 => k_is); (case l46 => k_is); (case c46 => k_is); (case k46 => k_is); (case a47 => k_is); (case l47 => k_is); (case c47 => k_is); (case k47 => k_is); (case a48 => k_is); (case l48 => k_is); (case c48 => k_is); (case k48 => k_is); (case a49 => k_is); (case l49 => k_is); (case c49 => k_is); (case k49 => k_is); (case a50 => k_is); (case l50 => k_is); (case c50 => k_is); (case k50 => k_is); (case a51 => k_is); (case l51 => k_is); (case c51 => k_is); (case k51 => k_is); (case z_abs => k_is); (case z_action => k_is); (case z_all => k_is); (case z_bool => k_is); (case z_dict => k_is); (case z_enumerate => k_is); (case z_int => k_is); (case z_isinstance => k_is); (case z_len => k_is); (case z_list => k_is); (case z_max => k_is); (case z_min => k_is); (case z_range => k_is); (case z_reversed => k_is); (case z_sorted => k_is); (case z_str => k_is); (case z_tuple => k_is); (case z_zip => k_is); (case y_MOST_DEPTH => k_is); (case y_MOST_CARDS => k_is); (case y_MOST_LISTED => k_is); (case y_MOST_BLOCK => k_is); (case y_SHAPES => k_is); (case l_SHAPES => k_is); (case k_SHAPES => k_keys); (case s_SHAPES => (first | rfl | decide)); (case km_SHAPES => (first | rfl | decide +kernel | k_is)); (case e_SHAPES_swap => k_is); (case l_SHAPES_swap => k_is); (case e_SHAPES_carry => k_is); (case l_SHAPES_carry => k_is); (case e_SHAPES_cut => k_is); (case l_SHAPES_cut => k_is); (case e_SHAPES_turn => k_is); (case l_SHAPES_turn => k_is); (case e_SHAPES_over => k_is); (case l_SHAPES_over => k_is); (case e_SHAPES_face => k_is); (case l_SHAPES_face => k_is); (case y_BLOCKS => k_is); (case l_BLOCKS => k_is); (case k_BLOCKS => k_keys); (case s_BLOCKS => (first | rfl | decide)); (case km_BLOCKS => (first | rfl | decide +kernel | k_is)); (case e_BLOCKS_swap => k_is); (case e_BLOCKS_carry => k_is); (case e_BLOCKS_cut => k_is); (case e_BLOCKS_turn => k_is); (case e_BLOCKS_over => k_is); (case e_BLOCKS_face => k_is); (case gX_PileError => (first | k_is | decide +kernel | rfl)); (case iX_PileError => (first | k_is | decide +kernel | rfl)); (case rX_PileError => (first | k_is | decide +kernel | rfl)); (case sX_PileError => (first | k_is | decide +kernel | rfl)); (case lX_PileError => (first | k_is | decide +kernel | rfl)); (case tX_PileError => (first | k_is | decide +kernel | rfl)); (case cX_PileError => (first | k_is | decide +kernel | rfl)); (case wX_PileError => (first | k_is | decide +kernel | rfl)); (case gX_BadPlace => (first | k_is | decide +kernel | rfl)); (case oX_BadPlace => (first | k_is | decide +kernel | rfl)); (case vX_BadPlace => (first | k_is | decide +kernel | rfl)); (case sX_BadPlace => (first | k_is | decide +kernel | rfl)); (case xX_BadPlace => (first | k_is | decide +kernel | rfl)); (case yX_BadPlace => (first | k_is | decide +kernel | rfl)); (case kX_BadPlace => (first | k_is | decide +kernel | rfl)); (case bX_BadPlace => (first | k_is | decide +kernel | rfl)); (case nX_code_BadPlace => (first | k_is | decide +kernel | rfl)); (case nX_place_BadPlace => (first | k_is | decide +kernel | rfl)); (case iX_BadPlace => (first | k_is | decide +kernel | rfl)); (case tX_BadPlace => (first | k_is | decide +kernel | rfl)); (case lX_BadPlace => (first | k_is | decide +kernel | rfl)); (case eX_BadPlace => (first | k_is | decide +kernel | rfl)); (case cX_BadPlace => (first | k_is | decide +kernel | rfl)); (case wX_BadPlace => (first | k_is | decide +kernel | rfl)); (case gX_BadMove => (first | k_is | decide +kernel | rfl)); (case oX_BadMove => (first | k_is | decide +kernel | rfl)); (case vX_BadMove => (first | k_is | decide +kernel | rfl)); (case sX_BadMove => (first | k_is | decide +kernel | rfl)); (case xX_BadMove => (first | k_is | decide +kernel | rfl)); (case yX_BadMove => (first | k_is | decide +kernel | rfl)); (case kX_BadMove => (first | k_is | decide +kernel | rfl)); (case bX_BadMove => (first | k_is | decide +kernel | rfl)); (case nX_code_BadMove => (first | k_is | decide +kernel | rfl)); (case nX_at_BadMove => (first | k_is | decide +kernel | rfl)); (case iX_BadMove => (first | k_is | decide +kernel | rfl)); (case tX_BadMove => (first | k_is | decide +kernel | rfl)); (case lX_BadMove => (first | k_is | decide +kernel | rfl)); (case eX_BadMove => (first | k_is | decide +kernel | rfl)); (case cX_BadMove => (first | k_is | decide +kernel | rfl)); (case wX_BadMove => (first | k_is | decide +kernel | rfl)); (case gX_TooWide => (first | k_is | decide +kernel | rfl)); (case oX_TooWide => (first | k_is | decide +kernel | rfl)); (case vX_TooWide => (first | k_is | decide +kernel | rfl)); (case sX_TooWide => (first | k_is | decide +kernel | rfl)); (case xX_TooWide => (first | k_is | decide +kernel | rfl)); (case yX_TooWide => (first | k_is | decide +kernel | rfl)); (case kX_TooWide => (first | k_is | decide +kernel | rfl)); (case bX_TooWide => (first | k_is | decide +kernel | rfl)); (case nX_code_TooWide => (first | k_is | decide +kernel | rfl)); (case nX_limit_TooWide => (first | k_is | decide +kernel | rfl)); (case iX_TooWide => (first | k_is | decide +kernel | rfl)); (case tX_TooWide => (first | k_is | decide +kernel | rfl)); (case lX_TooWide => (first | k_is | decide +kernel | rfl)); (case eX_TooWide => (first | k_is | decide +kernel | rfl)); (case cX_TooWide => (first | k_is | decide +kernel | rfl)); (case wX_TooWide => (first | k_is | decide +kernel | rfl)); (case gX_BadSize => (first | k_is | decide +kernel | rfl)); (case oX_BadSize => (first | k_is | decide +kernel | rfl)); (case vX_BadSize => (first | k_is | decide +kernel | rfl)); (case sX_BadSize => (first | k_is | decide +kernel | rfl)); (case xX_BadSize => (first | k_is | decide +kernel | rfl)); (case yX_BadSize => (first | k_is | decide +kernel | rfl)); (case kX_BadSize => (first | k_is | decide +kernel | rfl)); (case bX_BadSize => (first | k_is | decide +kernel | rfl)); (case nX_code_BadSize => (first | k_is | decide +kernel | rfl)); (case nX_size_BadSize => (first | k_is | decide +kernel | rfl)); (case iX_BadSize => (first | k_is | decide +kernel | rfl)); (case tX_BadSize => (first | k_is | decide +kernel | rfl)); (case lX_BadSize => (first | k_is | decide +kernel | rfl)); (case eX_BadSize => (first | k_is | decide +kernel | rfl)); (case cX_BadSize => (first | k_is | decide +kernel | rfl)); (case wX_BadSize => (first | k_is | decide +kernel | rfl)); (case gX_TooGreat => (first | k_is | decide +kernel | rfl)); (case oX_TooGreat => (first | k_is | decide +kernel | rfl)); (case vX_TooGreat => (first | k_is | decide +kernel | rfl)); (case sX_TooGreat => (first | k_is | decide +kernel | rfl)); (case xX_TooGreat => (first | k_is | decide +kernel | rfl)); (case yX_TooGreat => (first | k_is | decide +kernel | rfl)); (case kX_TooGreat => (first | k_is | decide +kernel | rfl)); (case bX_TooGreat => (first | k_is | decide +kernel | rfl)); (case nX_code_TooGreat => (first | k_is | decide +kernel | rfl)); (case nX_limit_TooGreat => (first | k_is | decide +kernel | rfl)); (case iX_TooGreat => (first | k_is | decide +kernel | rfl)); (case tX_TooGreat => (first | k_is | decide +kernel | rfl)); (case lX_TooGreat => (first | k_is | decide +kernel | rfl)); (case eX_TooGreat => (first | k_is | decide +kernel | rfl)); (case cX_TooGreat => (first | k_is | decide +kernel | rfl)); (case wX_TooGreat => (first | k_is | decide +kernel | rfl)); (case gX_TooSmall => (first | k_is | decide +kernel | rfl)); (case oX_TooSmall => (first | k_is | decide +kernel | rfl)); (case vX_TooSmall => (first | k_is | decide +kernel | rfl)); (case sX_TooSmall => (first | k_is | decide +kernel | rfl)); (case xX_TooSmall => (first | k_is | decide +kernel | rfl)); (case yX_TooSmall => (first | k_is | decide +kernel | rfl)); (case kX_TooSmall => (first | k_is | decide +kernel | rfl)); (case bX_TooSmall => (first | k_is | decide +kernel | rfl)); (case nX_code_TooSmall => (first | k_is | decide +kernel | rfl)); (case nX_limit_TooSmall => (first | k_is | decide +kernel | rfl)); (case iX_TooSmall => (first | k_is | decide +kernel | rfl)); (case tX_TooSmall => (first | k_is | decide +kernel | rfl)); (case lX_TooSmall => (first | k_is | decide +kernel | rfl)); (case eX_TooSmall => (first | k_is | decide +kernel | rfl)); (case cX_TooSmall => (first | k_is | decide +kernel | rfl)); (case wX_TooSmall => (first | k_is | decide +kernel | rfl)); (case gX_NoPlace => (first | k_is | decide +kernel | rfl)); (case oX_NoPlace => (first | k_is | decide +kernel | rfl)); (case vX_NoPlace => (first | k_is | decide +kernel | rfl)); (case sX_NoPlace => (first | k_is | decide +kernel | rfl)); (case xX_NoPlace => (first | k_is | decide +kernel | rfl)); (case yX_NoPlace => (first | k_is | decide +kernel | rfl)); (case kX_NoPlace => (first | k_is | decide +kernel | rfl)); (case bX_NoPlace => (first | k_is | decide +kernel | rfl)); (case nX_code_NoPlace => (first | k_is | decide +kernel | rfl)); (case nX_place_NoPlace => (first | k_is | decide +kernel | rfl)); (case iX_NoPlace => (first | k_is | decide +kernel | rfl)); (case tX_NoPlace => (first | k_is | decide +kernel | rfl)); (case lX_NoPlace => (first | k_is | decide +kernel | rfl)); (case eX_NoPlace => (first | k_is | decide +kernel | rfl)); (case cX_NoPlace => (first | k_is | decide +kernel | rfl)); (case wX_NoPlace => (first | k_is | decide +kernel | rfl)); (case gX_Form => (first | k_is | decide +kernel | rfl)); (case at___init__X_Form => (first | k_is | decide +kernel | rfl)); (case at_imageX_Form => (first | k_is | decide +kernel | rfl)); (case at_listedX_Form => (first | k_is | decide +kernel | rfl)); (case at_check_leastX_Form => (first | k_is | decide +kernel | rfl)); (case at_topX_Form => (first | k_is | decide +kernel | rfl)); (case at_bottomX_Form => (first | k_is | decide +kernel | rfl)); (case at_turnedX_Form => (first | k_is | decide +kernel | rfl)); (case rc_turnedX_Form => (first | k_is | decide +kernel | rfl)); (case pg_turnedX_Form => (first | k_is | decide +kernel | rfl)); (case pt_turnedX_Form => (first | k_is | decide +kernel | rfl)); (case at_shiftX_Form => (first | k_is | decide +kernel | rfl)); (case rc_shiftX_Form => (first | k_is | decide +kernel | rfl)); (case pg_shiftX_Form => (first | k_is | decide +kernel | rfl)); (case pt_shiftX_Form => (first | k_is | decide +kernel | rfl)); (case at_leastX_Form => (first | k_is | decide +kernel | rfl)); (case rc_leastX_Form => (first | k_is | decide +kernel | rfl)); (case pg_leastX_Form => (first | k_is | decide +kernel | rfl)); (case pt_leastX_Form => (first | k_is | decide +kernel | rfl)); (case at_ofX_Form => (first | k_is | decide +kernel | rfl)); (case rc_ofX_Form => (first | k_is | decide +kernel | rfl)); (case fi_ofX_Form => (first | k_is | decide +kernel | rfl)); (case pgX_Form => (first | k_is | decide +kernel | rfl)); (case hdX_Form => (first | k_is | decide +kernel | rfl)); (case poX_Form => (first | k_is | decide +kernel | rfl)); (case saX_Form => (first | k_is | decide +kernel | rfl)); (case hcX_Form => (first | k_is | decide +kernel | rfl)); (case hgX_Form => (first | k_is | decide +kernel | rfl)); (case tkX_Form => (first | k_is | decide +kernel | rfl)); (case moX_Form => (first | k_is | decide +kernel | rfl)); (case kiX_Form => (first | k_is | decide +kernel | rfl)); (case miX_Form => (first | k_is | decide +kernel | rfl)); (case kpX_Form => (first | k_is | decide +kernel | rfl)); (case sfX_Form => (first | k_is | decide +kernel | rfl)); (case no_partsX_Form => (first | k_is | decide +kernel | rfl)); (case rdX_Form => (first | k_is | decide +kernel | rfl)); (case gaX_Form => (first | k_is | decide +kernel | rfl)); (case cv_WIDESTX_Form => (first | k_is | decide +kernel | rfl)); (case fn___init__X_Form => (first | k_is | decide +kernel | rfl)); (case fn_imageX_Form => (first | k_is | decide +kernel | rfl)); (case fn_listedX_Form => (first | k_is | decide +kernel | rfl)); (case fn_check_leastX_Form => (first | k_is | decide +kernel | rfl)); (case fn_topX_Form => (first | k_is | decide +kernel | rfl)); (case fn_bottomX_Form => (first | k_is | decide +kernel | rfl)); (case l52 => k_is); (case c52 => k_is); (case k52 => k_is); (case l53 => k_is); (case c53 => k_is); (case k53 => k_is); (case l54 => k_is); (case c54 => k_is); (case k54 => k_is); (case l55 => k_is); (case c55 => k_is); (case k55 => k_is); (case l56 => k_is); (case c56 => k_is); (case k56 => k_is); (case l57 => k_is); (case c57 => k_is); (case k57 => k_is); (case l58 => k_is); (case c58 => k_is); (case k58 => k_is); (case l59 => k_is); (case c59 => k_is); (case k59 => k_is); (case l60 => k_is); (case c60 => k_is); (case k60 => k_is); (case l61 => k_is); (case c61 => k_is); (case k61 => k_is)
