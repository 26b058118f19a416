import PyProof.Rows.All
import Wide.All
import OpenK.AllK
import Wide.FinOn
import HandS.Base
import HandS.Call
import HandS.List
import HandS.Comp
import HandS.Dict
import HandS.Iter
import HandS.Ends
import HandS.Words
import HandS.WordsList
import HandS.WordsDict
import HandS.Wide
import HandS.IsInst
import HandS.Defaults
import HandS.MakeKw
import HandS.MakeKwOnly
import HandS.Head0
import HandS.Head1
import HandS.Head2
import HandS.HeadEnd
import HandS.HeadHook1
import HandS.HeadHook2
import HandS.Style
import HandS.Conv
import PyProof.Rows.SeqMore
import HandS.TryOnly
import KE.KDictList
import HandS.Text
import HandS.DictComp
import HandS.Codes
import HandS.ExcInit
import HandS.TryMany
import HandS.ExcIs
import HandS.ExcField
import KE.KExcInit
import HandS.ExcOwn
import HandS.Lambda
import HandS.EndTab
import HandS.HeadHook4
import KE.KNestM
import HandS.HeadWalk
import HandS.Gcd
import HandS.WideMore
import HandS.SetFor
import HandS.SortInts
import HandS.Strs
import HandS.TupLen
import HandS.DictTup
import HandS.SortRule
import HandS.ListItems
import HandS.ExcValue
import KE.KDictSum
import HandS.WordsExc
import HandS.Codes
import HandS.Codes
import HandS.SetFor
import PySem.Challenge.RW_keeprows_k32_whole_one_role_for_each_pag
set_option Elab.async false
set_option linter.all false
set_option maxRecDepth 100000
set_option maxHeartbeats 8000000

namespace Kr
open L2 PySem PySem.Spec PyProof.Rows

/-! ### a def of the text, called by its name -/
section
variable (P : Program) (w : World) (K : PySem.W.Frag) (mg : Str → Option Value) (base : Heap) (CX : CXT) (k : Nat)
def FnH (x : Str) (ps : List Str) (sp : Sp) : Prop := ∃ (f : Addr) (fd : FuncData), mg x = some (.ref f) ∧ PySem.W.keepIn K (.ref f) = true ∧ Binds K fd ps [] ∧ FnOk P w K mg base CX k f fd ps sp
def MtH (C : Addr) (m : Str) (ps : List Str) (sp : Sp) : Prop := ∃ (f : Addr) (fd : FuncData), Meth K C m f ∧ Binds K fd ps [] ∧ FnOk P w K mg base CX k f fd ps sp
/-- the class of the module's name x is made by positional values -/
def MkH (x : Str) (C : Addr) (ps : List Str) (sp : Sp) : Prop := ∃ (f : Addr) (fd : FuncData), mg x = some (.ref C) ∧ Mk K C f ∧ Binds K fd ps [] ∧ FnOk P w K mg base CX k f fd ps sp
/-- the class is made by n positional values (self counted) and keywords ks -/
def MkK (x : Str) (C : Addr) (ps : List Str) (n : Nat) (ks : List Str) (sp : Sp) : Prop := ∃ (f : Addr) (fd : FuncData), mg x = some (.ref C) ∧ Mk K C f ∧ KBn K fd ps n ks (fun us ws => us ++ ws) (fun vs zs => vs ++ zs) ∧ FnOk P w K mg base CX k f fd ps sp
end
section
variable {X : Cx} {CX : CXT} {k n : Nat} {C : Addr} {ps ks : List Str} {sp : Sp} {E : XK} {x m : Str} {p pos apos : Pos} {e o : Expr} {es : List Expr} {kws : List Keyword} {t tk : TA} {ta : TE}
theorem pe_clE (h : FnH X.prog X.w X.K X.mg X.base CX k x ps sp) (hr : Room k X.A) (hx : Passes CX X E) (ha : PA X (e :: es) t) (hg : Gl X x := by rfl) (hdb : (x == ("__debug__" : Str)) = false := by decide)
    (he : starEach (e :: es) X.env = (false, eval e X.env) :: starEach es X.env := by rfl) (hpl : (backTo pos (starEach es X.env)).any (·.1) = false := by rfl) : PE X (.Call (.Name x p) (e :: es) [] pos) (tCall sp [] E t) := by
  obtain ⟨f, fd, hm, hk, hb, F⟩ := h
  exact pe_call F hr hg hm hk hb .nil hx ha hdb he hpl
theorem pe_cl (h : FnH X.prog X.w X.K X.mg X.base CX0 k x ps sp) (hr : Room k X.A) (ha : PA X (e :: es) t) (hg : Gl X x := by rfl) (hdb : (x == ("__debug__" : Str)) = false := by decide)
    (he : starEach (e :: es) X.env = (false, eval e X.env) :: starEach es X.env := by rfl) (hpl : (backTo pos (starEach es X.env)).any (·.1) = false := by rfl) : PE X (.Call (.Name x p) (e :: es) [] pos) (tCall sp [] E0 t) :=
  pe_clE h hr pass0 ha hg hdb he hpl
theorem pe_mt (h : MtH X.prog X.w X.K X.mg X.base CX0 k C m ps sp) (c : Cls X.K C) (hr : Room k X.A) (he : PE X o ta) (ha : PA X (e :: es) t) {pl : Sem Bool}
    (hst : starEach (e :: es) X.env = (false, eval e X.env) :: starEach es X.env := by rfl) (hpl : (backTo pos (starEach es X.env)).any (·.1) = false := by rfl)
    (ht : eval (.Call (.Attribute o m apos) (e :: es) [] pos) X.env = (do
      let ov ← eval o X.env
      standAt apos.atName
      let (f, first) ← holding [ov] (getMethod ov m pl)
      callWith pos f first (backTo pos (starEach (e :: es) X.env)) (backToKw pos (keywordEach [] X.env))) := by rfl) :
    PE X (.Call (.Attribute o m apos) (e :: es) [] pos) (tMeth C m sp [] E0 ta t) := by
  obtain ⟨f, fd, hm, hb, F⟩ := h
  exact pe_meth he c hm F hr hb .nil pass0 ha hst hpl ht
theorem pe_mt0 (h : MtH X.prog X.w X.K X.mg X.base CX0 k C m ps sp) (c : Cls X.K C) (hr : Room k X.A) (he : PE X o ta) {pl : Sem Bool}
    (ht : eval (.Call (.Attribute o m apos) [] [] pos) X.env = (do
      let ov ← eval o X.env
      standAt apos.atName
      let (f, first) ← holding [ov] (getMethod ov m pl)
      callWith pos f first (backTo pos (starEach [] X.env)) (backToKw pos (keywordEach [] X.env))) := by rfl) :
    PE X (.Call (.Attribute o m apos) [] [] pos) (tMeth C m sp [] E0 ta tNil) := by
  obtain ⟨f, fd, hm, hb, F⟩ := h
  exact pe_meth0 he c hm F hr hb .nil pass0 ht
theorem pe_mk (h : MkH X.prog X.w X.K X.mg X.base CX0 k x C ps sp) (hr : Room (k + 1) X.A) (ha : PA X (e :: es) t) (hg : Gl X x := by rfl) (hdb : (x == ("__debug__" : Str)) = false := by decide)
    (he : starEach (e :: es) X.env = (false, eval e X.env) :: starEach es X.env := by rfl) (hpl : (backTo pos (starEach es X.env)).any (·.1) = false := by rfl) : PE X (.Call (.Name x p) (e :: es) [] pos) (tMake C sp [] E0 t) := by
  obtain ⟨f, fd, hm, M, hb, F⟩ := h
  exact pe_make M F hr hg hm hb .nil pass0 ha hdb he hpl
theorem pe_mkE (h : MkK X.prog X.w X.K X.mg X.base CX k x C ps (n + 1) ks sp) (hr : Room (k + 1) X.A) (hx : Passes CX X E) (ha : PA X (e :: es) t) (hkw : PK X kws tk) (hg : Gl X x := by rfl)
    (hall : (backToKw pos (keywordEach kws X.env)).all (·.1.isSome) = true := by rfl) (hks : (backToKw pos (keywordEach kws X.env)).filterMap (·.1) = ks := by rfl) (hdb : (x == ("__debug__" : Str)) = false := by decide)
    (he : starEach (e :: es) X.env = (false, eval e X.env) :: starEach es X.env := by rfl) (hpl : ((backTo pos (starEach (e :: es) X.env)).any (·.1) || (backToKw pos (keywordEach kws X.env)).any (·.1.isNone)) = false := by rfl) :
    PE X (.Call (.Name x p) (e :: es) kws pos) (tMakeK C n ks.length sp (fun vs zs => vs ++ zs) E t tk) := by
  obtain ⟨f, fd, hm, M, hb, F⟩ := h
  exact pe_makeK M F hr hg hm hb hx ha hkw hall hks hdb he hpl
theorem pe_gint {i : Int} (h : ∃ t, X.mg x = some (.int i t)) (hg : Gl X x := by rfl) (hd : (x == ("__debug__" : Str)) = false := by decide) : PE X (.Name x pos) (tC (.int i)) := by
  obtain ⟨t, ht⟩ := h
  exact pe_glob hg ht ⟨t, rfl⟩ hd
theorem pe_gcls (h : X.mg x = some (.ref C)) (hg : Gl X x := by rfl) (hd : (x == ("__debug__" : Str)) = false := by decide) : PE X (.Name x pos) (tC (.ref C)) := pe_glob hg h rfl hd
theorem pe_bty {T : String} (hm : X.mg x = none) (hv : bootBuiltins x = some (.type T) := by decide +kernel) (hg : Gl X x := by rfl) (hn : x ≠ "__name__" := by decide) (hd : (x == ("__debug__" : Str)) = false := by decide) : PE X (.Name x pos) (tC (.ty T)) := pe_bltn hg hm hv rfl hn hd
end

/-! ### from the head's facts -/
section
variable {P : Program} {w : World} {K : PySem.W.Frag} {mg : Str → Option Value} {base : Heap} {CX : CXT} {k : Nat} {x : Str} {fd : FuncData} {params : Arguments} {body : List Stmt} {scope : Scope} {ps : List Str} {sp : Sp} {qual : Str}
theorem FnH.of (F : FunD K x qual params body scope [] [] (He.ga K x) fd) (g : mg x = some (.ref (He.ga K x))) (b : Binds K fd ps []) (ok : FnOk P w K mg base CX k (He.ga K x) fd ps sp) : FnH P w K mg base CX k x ps sp := ⟨_, _, g, F.kp, b, ok⟩
theorem MtH.of {C f : Addr} {m : Str} (M : Meth K C m f) (b : Binds K fd ps []) (ok : FnOk P w K mg base CX k f fd ps sp) : MtH P w K mg base CX k C m ps sp := ⟨_, _, M, b, ok⟩
theorem MkH.of {C f : Addr} (g : mg x = some (.ref C)) (M : Mk K C f) (b : Binds K fd ps []) (ok : FnOk P w K mg base CX k f fd ps sp) : MkH P w K mg base CX k x C ps sp := ⟨_, _, g, M, b, ok⟩
theorem MkK.of {C f : Addr} {n : Nat} {ks : List Str} (g : mg x = some (.ref C)) (M : Mk K C f) (b : KBn K fd ps n ks (fun us ws => us ++ ws) (fun vs zs => vs ++ zs)) (ok : FnOk P w K mg base CX k f fd ps sp) : MkK P w K mg base CX k x C ps n ks sp := ⟨_, _, g, M, b, ok⟩
/-- n positional values and keywords, every parameter given, in the parameters' order -/
theorem kbn_all {f : Addr} {m : Str} (F : FunD K m qual params body scope [] [] f fd) (n : Nat) (ks : List Str)
    (h : ∀ (kV doc pm : Value) (an : Option Addr) (cdv ct : Value) (us ws : List Value), us.length = n → ws.length = ks.length → bindArgs (PySem.W.fnOf m qual params body scope .none kV doc pm an cdv ct) ⟨us, ks.zip ws⟩ = pure (ps.zip (us ++ ws))) :
    KBn K fd ps n ks (fun us ws => us ++ ws) (fun vs zs => vs ++ zs) := by
  obtain ⟨oc, od, dV, kV, doc, pm, an, cdv, ct, osl, rfl, lk, hcd, hD, hK⟩ := F.ex
  rcases hD with ⟨_, rfl⟩ | ⟨e, _⟩
  · exact ⟨fun s us ws _ h1 h2 => .of_eq (h kV doc pm an cdv ct us ws h1 h2), fun a b => a.append b⟩
  · exact absurd rfl e
end

/-! ### the head with one more Bool -/
abbrev AlM : Type := He.AlD × Bool
def obsM (n : Nat) (fa : List He.Fa) (fn : List He.DefD) (ex : PySem.W.Frag → Bool) (g : Addr → Option Obj) : AlM := (He.obsDG n fa fn g, ex (He.frG g (He.asD g n)))
def hookM (n : Nat) (fa : List He.Fa) (fn : List He.DefD) (ex : PySem.W.Frag → Bool) : PySem.W.Hook where
  α := AlM
  obs := fun s => obsM n fa fn ex s.heap.get?
  val := fun _ => (He.valD fn, true)
  says := fun _ h => ∃ K : PySem.W.Frag, K.In h ∧ He.SaysD fa fn K ∧ ex K = true
  of := fun _ _ e => ⟨_, He.frG_in, congrArg (fun z : AlM => z.1) e, congrArg (fun z : AlM => z.2) e⟩
  keeps := fun _ _ _ ⟨K, hK, c, d⟩ k => ⟨K, PySem.W.Frag.In.keeps hK k, c, d⟩
theorem obsM_eq {n : Nat} {fa : List He.Fa} {fn : List He.DefD} {ex : PySem.W.Frag → Bool} {g : Addr → Option Obj} {s : Shared} (h : ∀ a, g a = s.heap.get? a) : obsM n fa fn ex g = (hookM n fa fn ex).obs s := by
  have e : g = s.heap.get? := funext h
  rw [e] <;> rfl
theorem ex_all {es : List (PySem.W.Frag → Bool)} {K : PySem.W.Frag} (h : (es.all fun e => e K) = true) (i : Nat) {e : PySem.W.Frag → Bool} (hi : es[i]? = some e := by rfl) : e K = true := List.all_eq_true.mp h e (List.mem_of_getElem? hi)

/-! ### heaps -/
theorem upd_free {H : Hp} {a p : Addr} {o u : HO} (h : H a = some u) (hp : H p = none) : upd H p o a = some u := by
  rw [upd_ne (ne_of_none h hp)]
  exact h
theorem same_new {H : Hp} {p : Addr} {o : HO} (h : H p = none) : Same H (upd H p o) := fun b x e => upd_free e h
/-- all but a stands as it was -/
def But (a : Addr) (H H' : Hp) : Prop := ∀ b o, b ≠ a → H b = some o → H' b = some o
theorem But.refl (a : Addr) (H : Hp) : But a H H := fun _ _ _ h => h
theorem But.trans {a : Addr} {H H1 H2 : Hp} (x : But a H H1) (y : But a H1 H2) : But a H H2 := fun b o n h => y b o n (x b o n h)
theorem But.of_same {a : Addr} {H H' : Hp} (x : Same H H') : But a H H' := fun b o _ h => x b o h
theorem But.upd {a : Addr} {H H' : Hp} {o : HO} (x : But a H H') : But a H (upd H' a o) := fun b u n h => by
  rw [upd_ne n]
  exact x b u n h
theorem But.new {a p : Addr} {H H' : Hp} {o : HO} (x : But a H H') (hp : H' p = none) : But a H (L2.upd H' p o) := fun b u n h => upd_free (x b u n h) hp
/-- where a list of three ints stands that draws change -/
def Src (H : Hp) (a : Addr) : Prop := ∃ c0 c1 c2 : Int, H a = some (.lst [.int c0, .int c1, .int c2])
/-- draws from a: all else stands -/
structure Dr (a : Addr) (H H' : Hp) : Prop where
  src : Src H' a
  old : But a H H'
theorem Src.set {H : Hp} {a : Addr} (c0 c1 c2 : Int) : Src (L2.upd H a (.lst [.int c0, .int c1, .int c2])) a := ⟨c0, c1, c2, upd_same⟩
theorem Src.new {H : Hp} {a p : Addr} {o : HO} (x : Src H a) (hp : H p = none) : Src (L2.upd H p o) a := by
  obtain ⟨c0, c1, c2, h⟩ := x
  exact ⟨c0, c1, c2, upd_free h hp⟩
theorem Src.ne {H : Hp} {a p : Addr} (x : Src H a) (hp : H p = none) : p ≠ a := by
  obtain ⟨c0, c1, c2, h⟩ := x
  intro e
  rw [e, h] at hp
  cases hp
theorem Dr.refl {a : Addr} {H : Hp} (x : Src H a) : Dr a H H := ⟨x, But.refl a H⟩
theorem Dr.trans {a : Addr} {H H1 H2 : Hp} (x : Dr a H H1) (y : Dr a H1 H2) : Dr a H H2 := ⟨y.src, x.old.trans y.old⟩
theorem Dr.new {a p : Addr} {H H' : Hp} {o : HO} (x : Dr a H H') (hp : H' p = none) : Dr a H (L2.upd H' p o) := ⟨x.src.new hp, x.old.new hp⟩
theorem Dr.free {a p : Addr} {H H' : Hp} (x : Dr a H H') (hp : H' p = none) : H p = none := by
  cases q : H p with
  | none => rfl
  | some o =>
    have ne := x.src.ne hp
    rw [x.old p o ne q] at hp
    cases hp
theorem But.seq {K : PySem.W.Frag} {H H' : Hp} {a b : Addr} {xs : List V} (e : But a H H') (n : b ≠ a) (h : SqL K H b xs) : SqL K H' b xs := by
  rcases h with (h | ⟨o, h⟩) | h
  · exact .inl (.inl (e _ _ n h))
  · exact .inl (.inr ⟨o, e _ _ n h⟩)
  · exact .inr h
theorem sz {n : Nat} (h : n ≤ 100000) : n ≤ sizeLine := Nat.le_trans h (by decide)
theorem szl {n : Nat} (h : n < 100000) : n < sizeLine := Nat.lt_of_lt_of_le h (by decide)

/-! ### list + list, where both are readable -/
def rCatS (K : PySem.W.Frag) : R2 := fun x y H Q => ∃ l b xs zs, x = .ref l ∧ y = .ref b ∧ SqL K H l xs ∧ SqL K H b zs ∧ xs.length + zs.length ≤ sizeLine ∧ ∀ p, H p = none → Q (.ref p) (upd H p (.lst (xs ++ zs)))
theorem op_catS {X : Cx} : OpR X (binaryOp .Add) (rCatS X.K) := by
  intro pins s σ H x y v u Q I rx ry h
  obtain ⟨l, b, xs, zs, rfl, rfl, hL, hB, hz, q⟩ := h
  cases rx
  cases ry
  obtain ⟨i1, r1, ⟨o1, n1, e1, c1, d1, t1⟩, z1⟩ := I.list hL
  obtain ⟨i2, r2, ⟨o2, n2, e2, c2, d2, t2⟩, z2⟩ := I.list hB
  obtain ⟨oc1, od1, dt1, sl1⟩ := o1
  obtain ⟨oc2, od2, dt2, sl2⟩ := o2
  simp only at c1 d1 t1 c2 d2 t2
  subst c1 d1 t1 c2 d2 t2
  have l1 := r1.length
  have l2 := r2.length
  refine concat_meets ⟨_, e1, rfl⟩ ⟨_, e2, rfl⟩ noFill_list_add seq_list_add PySem.F.slot_list_add
    PySem.F.entry_list_add (PySem.F.args_list_add_2 _ _)
    (list_addW l b i1.toArray i2.toArray n1 n2 none none sl1 sl2 (by rw [List.size_toArray, List.size_toArray]; omega)) ⟨e1, e2, ?_⟩
  have ea : i1.toArray ++ i2.toArray = (i1 ++ i2).toArray := by simp
  rw [ea]
  exact ⟨.ref _, _, I.lnew (t' := s.toks) (r1.append r2) (by rw [List.length_append]; omega), rfl, q _ I.fresh⟩

/-! ### readings by names, for rules whose reading is a lambda -/
section
variable {X : Cx}
def rInt1 : List V → Hp → VK → Prop := fun xs H Q => (∃ i, xs = [.int i] ∧ Q (.int i) H) ∨ ∃ k, xs = [.bl k] ∧ Q (.int (if k then 1 else 0)) H
theorem c_int1 : CallR X (.type "int") rInt1 := call_int1
def rMax2 : List V → Hp → VK → Prop := fun xs H Q => ∃ i j, xs = [.int i, .int j] ∧ Q (.int (if j > i then j else i)) H
def rMin2 : List V → Hp → VK → Prop := fun xs H Q => ∃ i j, xs = [.int i, .int j] ∧ Q (.int (if j < i then j else i)) H
theorem c_max2 (hc : X.calm = true) : CallR X (.builtin "max") rMax2 := call_max2 hc
theorem c_min2 (hc : X.calm = true) : CallR X (.builtin "min") rMin2 := call_min2 hc
def rLenL (K : PySem.W.Frag) : List V → Hp → VK → Prop := fun xs H Q => ∃ p ys, xs = [.ref p] ∧ (SqL K H p ys ∨ SqT K H p ys) ∧ Q (.int ys.length) H
theorem c_len : CallR X (.builtin "len") (rLenL X.K) := call_len_seq
def rTupOf (K : PySem.W.Frag) : List V → Hp → VK → Prop := fun xs H Q => ∃ p ys, xs = [.ref p] ∧ ((SqL K H p ys ∧ ∀ l, H l = none → Q (.ref l) (upd H l (.tup ys))) ∨ (SqT K H p ys ∧ Q (.ref p) H))
theorem c_tuple : CallR X (.type "tuple") (rTupOf X.K) := call_tuple_of
def rListOf (K : PySem.W.Frag) : List V → Hp → VK → Prop := fun xs H Q => ∃ p ys, xs = [.ref p] ∧ (SqL K H p ys ∨ SqT K H p ys) ∧ ∀ l, H l = none → Q (.ref l) (upd H l (.lst ys))
theorem c_list : CallR X (.type "list") (rListOf X.K) := call_list_of
def rAddS : R2 := fun x y H Q => ∃ i j, x = .str i ∧ y = .str j ∧ i.length + j.length ≤ sizeLine ∧ Q (.str (i ++ j)) H
theorem o_adds : OpR X (binaryOp .Add) rAddS := op_add_str
def rIsN : R2 := fun x y H Q => y = .non ∧ Q (.bl (decide (x = .non))) H
def rNotN : R2 := fun x y H Q => y = .non ∧ Q (.bl (!decide (x = .non))) H
theorem o_isN : OpR X (compareOp .Is) rIsN := op_isN
theorem o_notN : OpR X (compareOp .IsNot) rNotN := op_notN
def tTru (K : PySem.W.Frag) (ta : TE) : TT := fun σ H Q => ta σ H fun x H' => ∃ k, TruV K x H' k ∧ Q k H'
theorem p_truth {a : Expr} {ta : TE} (ha : PE X a ta) (he : ∀ whole, isTrue a X.env whole = (do let v ← whole; standAt a.pos; holding [v] (truthy v))) : PT X a (tTru X.K ta) := pt_truth ha he
end

/-! ### the readings, step by step -/
section
variable {K : PySem.W.Frag} {σ : L2.St} {H : Hp} {Q : VK} {QT : Bool → Hp → Prop} {QA : List V → Hp → Prop} {QG : L2.St → Hp → Prop} {D : Ends} {ta tb tc te : TE} {t u c : TT} {tr : TA} {ts us : TS} {g : TG} {gs : TGs} {v x y : V} {r r' : R2} {tl th : TO} {ti to : TE}
def rNew (o : HO) (H : Hp) (Q : VK) : Prop := ∀ p, H p = none → Q (.ref p) (upd H p o)
def rSz (n : Nat) (R : Prop) : Prop := n ≤ sizeLine ∧ R
theorem r_sz {n : Nat} {R : Prop} (h : n ≤ 100000) (q : R) : rSz n R := ⟨sz h, q⟩
theorem r_new {o : HO} (q : ∀ p, H p = none → Q (.ref p) (upd H p o)) : rNew o H Q := q
theorem r_tup (q : tr σ H fun xs H1 => rSz xs.length (rNew (.tup xs) H1 Q)) : tTup tr σ H Q := q
theorem r_lst (q : tr σ H fun xs H1 => rSz xs.length (rNew (.lst xs) H1 Q)) : tLst tr σ H Q := q
theorem r_catS {l b : Addr} {xs zs : List V} (h : SqL K H l xs) (h' : SqL K H b zs) (hz : xs.length + zs.length ≤ 100000) (q : rNew (.lst (xs ++ zs)) H Q) : rCatS K (.ref l) (.ref b) H Q := ⟨l, b, xs, zs, rfl, rfl, h, h', sz hz, q⟩
theorem r_tupOf {p : Addr} {ys : List V} (h : SqL K H p ys) (q : rNew (.tup ys) H Q) : rTupOf K [.ref p] H Q := ⟨p, ys, rfl, .inl ⟨h, q⟩⟩
theorem r_listOf {p : Addr} {ys : List V} (h : SqL K H p ys) (q : rNew (.lst ys) H Q) : rListOf K [.ref p] H Q := ⟨p, ys, rfl, .inl h, q⟩
theorem r_slL {a : Addr} {xs : List V} {lo hi : Option Int} (h : SqL K H a xs) (q : rNew (.lst (cutV xs lo hi)) H Q) : rSlL K (.ref a) lo hi H Q := ⟨a, xs, rfl, h, q⟩
def rOb (C : Addr) (m : Str) (x : V) (H : Hp) (R : Prop) : Prop := ∃ a dx fs, x = .ref a ∧ H a = some (.ins C dx fs) ∧ fs.lookup m = none ∧ R
theorem r_meth {C : Addr} {m : Str} {sp : Sp} {E : XK} (q : ta σ H fun x H1 => rOb C m x H1 (tr σ H1 fun vs H2 => sp (x :: vs) H2 Q E)) : tMeth C m sp [] E ta tr σ H Q := by
  have e : (fun (x : V) (H1 : Hp) => rOb C m x H1 (tr σ H1 fun vs H2 => sp (x :: vs) H2 Q E)) = fun x H1 => rOb C m x H1 (tr σ H1 fun vs H2 => sp (x :: (vs ++ [])) H2 Q E) := by
    simp only [List.append_nil]
  show ta σ H fun x H1 => rOb C m x H1 (tr σ H1 fun vs H2 => sp (x :: (vs ++ [])) H2 Q E)
  rw [← e]
  exact q
theorem r_obj {C a dx : Addr} {m : Str} {fs : List (Str × V)} {R : Prop} (h : H a = some (.ins C dx fs)) (l : fs.lookup m = none) (q : R) : rOb C m (.ref a) H R := ⟨a, dx, fs, rfl, h, l, q⟩
def rFd (K : PySem.W.Frag) (f : Str) (x : V) (H : Hp) (Q : VK) : Prop := ∃ a C dx fs v, x = .ref a ∧ H a = some (.ins C dx fs) ∧ Cls K C ∧ NoAttr K C f ∧ fs.lookup f = some v ∧ Q v H
theorem r_fld {f : Str} (q : ta σ H fun x H1 => rFd K f x H1 Q) : tFld K ta f σ H Q := q
theorem r_fd {a C dx : Addr} {f : Str} {fs : List (Str × V)} (h : H a = some (.ins C dx fs)) (c : Cls K C) (n : NoAttr K C f) (l : fs.lookup f = some v) (q : Q v H) : rFd K f (.ref a) H Q := ⟨a, C, dx, fs, v, rfl, h, c, n, l, q⟩
def rSt (K : PySem.W.Frag) (f : Str) (y x : V) (H : Hp) (Qn : Hp → Prop) : Prop := ∃ a C dx fs, x = .ref a ∧ H a = some (.ins C dx fs) ∧ Cls K C ∧ NoAttr K C f ∧ fs.length < 1000 ∧ Qn (upd H a (.ins C dx (putF f y fs)))
theorem r_sFld {f : Str} (q : tb σ H fun y H1 => ta σ H1 fun x H2 => rSt K f y x H2 fun H3 => D.nx σ H3) : sFld K ta tb f D σ H := q
theorem r_st {a C dx : Addr} {f : Str} {fs gs : List (Str × V)} {Qn : Hp → Prop} (h : H a = some (.ins C dx fs)) (c : Cls K C) (n : NoAttr K C f) (l : fs.length < 1000) (e : putF f y fs = gs) (q : Qn (upd H a (.ins C dx gs))) : rSt K f y (.ref a) H Qn := by
  subst e
  exact ⟨a, C, dx, fs, rfl, h, c, n, l, q⟩
def rPo (x : V) (R : Option Int → Prop) : Prop := ∃ i, x = .int i ∧ R (some i)
theorem r_part {QO : Option Int → Hp → Prop} (q : ta σ H fun x H1 => rPo x fun o => QO o H1) : tPart ta σ H QO := q
theorem r_po {i : Int} {R : Option Int → Prop} (q : R (some i)) : rPo (.int i) R := ⟨i, rfl, q⟩
def rTy (K : PySem.W.Frag) (T : String) (x : V) (H : Hp) (R : Prop) : Prop := tyV K T x H ∧ R
theorem r_BM {T : String} {rm : V → List V → Hp → VK → Prop} (q : to σ H fun x H1 => rTy K T x H1 (tr σ H1 fun xs H2 => rm x xs H2 Q)) : tBM K T rm to tr σ H Q := q
theorem r_tyL {p : Addr} {xs : List V} {R : Prop} (h : SqL K H p xs) (q : R) : rTy K "list" (.ref p) H R := ⟨.inl ⟨rfl, xs, h⟩, q⟩
def rBl (x : V) (R : Bool → Prop) : Prop := ∃ k, x = .bl k ∧ R k
theorem r_bl {k : Bool} {R : Bool → Prop} (q : R k) : rBl (.bl k) R := ⟨k, rfl, q⟩
theorem r_test (q : te σ H fun x H' => rBl x fun k => QT k H') : tTest te σ H QT := q
theorem r_tB (q : te σ H fun x H' => rBl x fun k => QT k H') : tB te σ H QT := q
theorem r_andV (q : ta σ H fun x H1 => rBl x fun c => if c = true then tb σ H1 Q else Q (.bl false) H1) : tAndV ta tb σ H Q := q
theorem r_orV (q : ta σ H fun x H1 => rBl x fun c => if c = true then Q (.bl true) H1 else tb σ H1 Q) : tOrV ta tb σ H Q := q
theorem r_notV (q : ta σ H fun x H1 => rBl x fun c => Q (.bl (!c)) H1) : tNotV ta σ H Q := q
theorem r_chain (q : ta σ H fun x H1 => tb σ H1 fun y H2 => r x y H2 fun z H3 => rBl z fun k => if k = true then tc σ H3 fun w' H4 => r' y w' H4 Q else Q (.bl false) H3) : tChain r r' ta tb tc σ H Q := q
def rTr (K : PySem.W.Frag) (x : V) (H : Hp) (R : Bool → Prop) : Prop := ∃ k, TruV K x H k ∧ R k
theorem r_tru (q : ta σ H fun x H' => rTr K x H' fun k => QT k H') : tTru K ta σ H QT := q
def rSq (K : PySem.W.Frag) (x : V) (H : Hp) (R : Addr → Prop) : Prop := ∃ a, x = .ref a ∧ (∃ xs, SqL K H a xs) ∧ R a
theorem r_list {R : It → Hp → Prop} (q : te σ H fun x H1 => rSq K x H1 fun a => R (Itl K a) H1) : iList K te σ H R := q
theorem r_sq {a : Addr} {xs : List V} {R : Addr → Prop} (h : SqL K H a xs) (q : R a) : rSq K (.ref a) H R := ⟨a, rfl, ⟨xs, h⟩, q⟩
def rSqT (K : PySem.W.Frag) (x : V) (H : Hp) (R : Addr → Prop) : Prop := ∃ a, x = .ref a ∧ (∃ xs, SqT K H a xs) ∧ R a
theorem r_tupI {R : It → Hp → Prop} (q : te σ H fun x H1 => rSqT K x H1 fun a => R (Itt K a) H1) : iTup K te σ H R := q
theorem r_sqT {a : Addr} {xs : List V} {R : Addr → Prop} (h : SqT K H a xs) (q : R a) : rSqT K (.ref a) H R := ⟨a, rfl, ⟨xs, h⟩, q⟩
def rRg1 (vs : List V) (R : Int → Prop) : Prop := ∃ j : Int, vs = [.int j] ∧ -(2 ^ 62) ≤ j ∧ j < 2 ^ 62 ∧ R j
def rRg2 (vs : List V) (R : Int → Int → Prop) : Prop := ∃ i j : Int, vs = [.int i, .int j] ∧ (-(2 ^ 62) ≤ i ∧ i < 2 ^ 62 ∧ -(2 ^ 62) ≤ j ∧ j < 2 ^ 62) ∧ R i j
theorem r_rng1 {R : It → Hp → Prop} (q : tr σ H fun vs H1 => rRg1 vs fun j => R (Itr 0 j.toNat) H1) : iRng1 tr σ H R := q
theorem r_rng2 {R : It → Hp → Prop} (q : tr σ H fun vs H1 => rRg2 vs fun i j => R (Itr i (j - i).toNat) H1) : iRng2 tr σ H R := q
theorem r_rg1 {j : Int} {R : Int → Prop} (h : -(2 ^ 62) ≤ j ∧ j < 2 ^ 62) (q : R j) : rRg1 [.int j] R := ⟨j, rfl, h.1, h.2, q⟩
theorem r_rg2 {i j : Int} {R : Int → Int → Prop} (h : -(2 ^ 62) ≤ i ∧ i < 2 ^ 62 ∧ -(2 ^ 62) ≤ j ∧ j < 2 ^ 62) (q : R i j) : rRg2 [.int i, .int j] R := ⟨i, j, rfl, h, q⟩
def rTwo (vs : List V) (R : V → V → Prop) : Prop := ∃ v w, vs = [v, w] ∧ R v w
theorem r_par {i j : Nat} (q : tr σ H fun vs H1 => rTwo vs fun v w => gName i v σ H1 fun σ' H' => gName j w σ' H' D.nx) : tPar i j tr D σ H := q
theorem r_two {v w : V} {R : V → V → Prop} (q : R v w) : rTwo [v, w] R := ⟨v, w, rfl, q⟩
def rMk (C : Addr) (sp : Sp) (E : XK) (f : V → List V) (H : Hp) (Q : VK) : Prop := ∀ x dx, H x = none → H dx = none → dx ≠ x → sp (f (.ref x)) (upd (upd H dx (.own x)) x (.ins C dx [])) (fun v H3 => v = .non ∧ Q (.ref x) H3) E
theorem r_mkK {C : Addr} {n m : Nat} {sp : Sp} {E : XK} {tk : TA} (q : tr σ H fun vs H1 => tk σ H1 fun zs H2 => vs.length = n ∧ zs.length = m ∧ rMk C sp E (fun s => s :: vs ++ zs) H2 Q) : tMakeK C n m sp (fun vs zs => vs ++ zs) E tr tk σ H Q := q
theorem r_mk {C : Addr} {sp : Sp} {E : XK} (q : tr σ H fun vs H1 => rMk C sp E (fun s => s :: vs) H1 Q) : tMake C sp [] E tr σ H Q := by
  have e : (fun (vs : List V) (H1 : Hp) => rMk C sp E (fun s => s :: vs) H1 Q) = fun vs H1 => rMk C sp E (fun s => s :: (vs ++ [])) H1 Q := by
    simp only [List.append_nil]
  show tr σ H fun vs H1 => rMk C sp E (fun s => s :: (vs ++ [])) H1 Q
  rw [← e]
  exact q
theorem r_tC (q : Q v H) : tC v σ H Q := q
theorem r_op (q : ta σ H fun x H1 => tb σ H1 fun y H2 => r x y H2 Q) : tOp r ta tb σ H Q := q
theorem r_un {r1 : V → Hp → VK → Prop} (q : ta σ H fun x H1 => r1 x H1 Q) : tUn r1 ta σ H Q := q
theorem r_I0 {f : Int → Int → V} {i j : Int} (q : Q (f i j) H) : rI0 f (.int i) (.int j) H Q := ⟨i, j, rfl, rfl, q⟩
theorem r_I {C : Int → Int → Prop} {f : Int → Int → V} {i j : Int} (c : C i j) (q : Q (f i j) H) : rI C f (.int i) (.int j) H Q := ⟨i, j, rfl, rfl, c, q⟩
theorem r_U {f : Int → V} {i : Int} (q : Q (f i) H) : rU f (.int i) H Q := ⟨i, rfl, q⟩
theorem r_eq (h : scal x y = true) (q : Q (.bl (decide (x = y))) H) : rEq x y H Q := ⟨h, q⟩
theorem r_ne (h : scal x y = true) (q : Q (.bl (!decide (x = y))) H) : rNe x y H Q := ⟨h, q⟩
theorem r_eqI {i j : Int} (q : Q (.bl (decide (i = j))) H) : rEq (.int i) (.int j) H Q := ⟨rfl, by simpa using q⟩
theorem r_neI {i j : Int} (q : Q (.bl (!decide (i = j))) H) : rNe (.int i) (.int j) H Q := ⟨rfl, by simpa using q⟩
theorem r_eqS {i j : Str} (q : Q (.bl (decide (i = j))) H) : rEq (.str i) (.str j) H Q := ⟨rfl, by simpa using q⟩
theorem r_neS {i j : Str} (q : Q (.bl (!decide (i = j))) H) : rNe (.str i) (.str j) H Q := ⟨rfl, by simpa using q⟩
theorem r_ixL {p : Addr} {xs : List V} {i : Int} (h : SqL K H p xs) (a : atI xs i = some v) (q : Q v H) : rIxL K (.ref p) (.int i) H Q := ⟨p, xs, i, v, rfl, rfl, h, a, q⟩
theorem r_ixT {p : Addr} {xs : List V} {i : Int} (h : SqT K H p xs) (a : atI xs i = some v) (q : Q v H) : rIxT K (.ref p) (.int i) H Q := ⟨p, xs, i, v, rfl, rfl, h, a, q⟩
theorem r_setL {p : Addr} {xs : List V} {k : Int} {j : Nat} {QH : Hp → Prop} (h : H p = some (.lst xs)) (e : ixN xs.length k = some j) (q : QH (upd H p (.lst (xs.set j v)))) : rSetL (.ref p) (.int k) v H QH := ⟨p, xs, k, j, rfl, rfl, h, e, q⟩
theorem r_CB {rc : List V → Hp → VK → Prop} (q : tr σ H fun vs H1 => rc vs H1 Q) : tCB rc tr σ H Q := q
theorem r_cons (q : ta σ H fun x H1 => tr σ H1 fun xs H2 => QA (x :: xs) H2) : tCons ta tr σ H QA := q
theorem r_nil (q : QA [] H) : tNil σ H QA := q
theorem r_int1 {i : Int} (q : Q (.int i) H) : rInt1 [.int i] H Q := .inl ⟨i, rfl, q⟩
theorem r_max2 {i j : Int} (q : Q (.int (if j > i then j else i)) H) : rMax2 [.int i, .int j] H Q := ⟨i, j, rfl, q⟩
theorem r_min2 {i j : Int} (q : Q (.int (if j < i then j else i)) H) : rMin2 [.int i, .int j] H Q := ⟨i, j, rfl, q⟩
theorem r_lenL {p : Addr} {ys : List V} (h : SqL K H p ys) (q : Q (.int ys.length) H) : rLenL K [.ref p] H Q := ⟨p, ys, rfl, .inl h, q⟩
theorem r_lenT {p : Addr} {ys : List V} (h : SqT K H p ys) (q : Q (.int ys.length) H) : rLenL K [.ref p] H Q := ⟨p, ys, rfl, .inr h, q⟩
theorem r_sum {a : Addr} {ns : List Int} (h : SqL K H a (ns.map V.int)) (q : Q (.int ns.sum) H) : rSum K [.ref a] H Q := ⟨a, ns, rfl, h, q⟩
theorem r_max {a : Addr} {ns : List Int} (h : SqL K H a (ns.map V.int)) (h0 : 0 < ns.length) (q : ∀ m, m ∈ ns → (∀ y, y ∈ ns → y ≤ m) → Q (.int m) H) : rMax K [.ref a] H Q := ⟨a, ns, rfl, h, h0, q⟩
theorem r_all {a : Addr} {bs : List Bool} (h : SqL K H a (bs.map V.bl)) (q : Q (.bl (bs.all id)) H) : rAll K [.ref a] H Q := ⟨a, bs, rfl, h, q⟩
theorem r_call {sp : Sp} {E : XK} (q : tr σ H fun vs H1 => sp vs H1 Q E) : tCall sp [] E tr σ H Q := by
  have e : (fun (vs : List V) (H1 : Hp) => sp vs H1 Q E) = fun vs H1 => sp (vs ++ []) H1 Q E := by
    funext vs H1
    rw [List.append_nil]
  show tr σ H fun vs H1 => sp (vs ++ []) H1 Q E
  rw [← e]
  exact q
theorem r_sl {rs : V → Option Int → Option Int → Hp → VK → Prop} (q : ta σ H fun x H1 => tl σ H1 fun l H2 => th σ H2 fun u H3 => rs x l u H3 Q) : L2.tSl rs ta tl th σ H Q := q
theorem r_nopart {QO : Option Int → Hp → Prop} (q : QO none H) : tNoPart σ H QO := q
theorem r_append {l : Addr} {xs : List V} (h : H l = some (.lst xs)) (hz : xs.length < 100000) (q : Q .non (upd H l (.lst (xs ++ [y])))) : rAppend (.ref l) [y] H Q := ⟨l, xs, y, rfl, rfl, h, szl hz, q⟩
-- tests
theorem r_and (q : t σ H fun c H1 => if c = true then u σ H1 QT else QT false H1) : tAnd t u σ H QT := q
theorem r_or (q : t σ H fun c H1 => if c = true then QT true H1 else u σ H1 QT) : tOr t u σ H QT := q
theorem r_not (q : t σ H fun c H1 => QT (!c) H1) : tNot t σ H QT := q
theorem r_if (q : t σ H fun c H1 => if c = true then ta σ H1 Q else tb σ H1 Q) : tIf t ta tb σ H Q := q
-- statements
theorem r_seq (q : ts { D with nx := us D } σ H) : tSeq ts us D σ H := q
theorem r_asg (q : te σ H fun x H1 => g x σ H1 D.nx) : tAsg te g D σ H := q
theorem r_ret (q : te σ H D.rt) : tRet te D σ H := q
theorem r_drop (q : te σ H fun _ H1 => D.nx σ H1) : tDrop te D σ H := q
theorem r_next (q : D.nx σ H) : tNext D σ H := q
theorem r_ifS (q : t σ H fun b H1 => if b = true then ts D σ H1 else us D σ H1) : tIfS t ts us D σ H := q
theorem r_gSub {ts : TSet} (q : to σ H fun o H1 => ti σ H1 fun i H2 => ts o i v H2 fun H3 => QG σ H3) : gSub to ti ts v σ H QG := q
theorem r_gTup {a : Addr} {xs : List V} {n : Nat} (h : SqT K H a xs) (e : xs.length = n) (q : gs xs σ H QG) : gTup K n gs (.ref a) σ H QG := ⟨a, xs, rfl, h, e, q⟩
theorem r_gCons {w : V} {ws : List V} (q : g w σ H fun σ' H' => gs ws σ' H' QG) : gCons g gs (w :: ws) σ H QG := ⟨w, ws, rfl, q⟩
theorem r_gNil (q : QG σ H) : gNil [] σ H QG := ⟨rfl, q⟩
theorem r_dec {p : Prop} [Decidable p] {A B : Prop} (h1 : p → A) (h2 : ¬ p → B) : if decide p = true then A else B := by
  by_cases h : p
  · rw [decide_eq_true h]
    exact h1 h
  · rw [decide_eq_false h]
    exact iteF (h2 h)
theorem r_decN {p : Prop} [Decidable p] {A B : Prop} (h1 : ¬ p → A) (h2 : p → B) : if (!decide p) = true then A else B := by
  by_cases h : p
  · rw [decide_eq_true h]
    exact iteF (h2 h)
  · rw [decide_eq_false h]
    exact h1 h
theorem r_isi {x c : V} {t u : Value} {b : Bool} (k : ClsV c u) (ty : TyX K H x t) (e : PySem.W.kitOne K t u = some b) (q : Q (.bl b) H) : rIsi K [x, c] H Q := ⟨x, c, t, u, b, rfl, k, ty, e, q⟩
theorem r_lc {wi : TI} {n : List Nat} (q : wi σ H fun J H1 => ∀ D, H1 D = none → ∃ W : Nat → Nat → Hp → Prop, (∃ m, W 0 m (upd H1 D (.lst []))) ∧ ∀ i m H, W i m H →
  (J.stop i H ∧ Q (.ref D) H) ∨ (J.go i H ∧ ∃ Nx : Hp → Prop, (∀ H', Nx H' → ∃ m', m' < m ∧ W (i + 1) m' H') ∧ ∀ x H', J.yld i H x H' → g x (wipe σ n) H' fun σ2 H2 => wipe σ2 n = wipe σ n ∧ t σ2 H2 fun b H3 =>
    if b = true then te σ2 H3 fun y H4 => ∃ acc, H4 D = some (.lst acc) ∧ acc.length < sizeLine ∧ Nx (upd H4 D (.lst (acc ++ [y]))) else Nx H3)) : tLc wi g t te n σ H Q := q
theorem r_yes (q : QT true H) : tYes σ H QT := q
theorem r_v0 {z : L2.St} (q : Q v H) : tVar 0 (some v :: z) H Q := ⟨v, rfl, q⟩
theorem r_v1 {a0 : Option V} {z : L2.St} (q : Q v H) : tVar 1 (a0 :: some v :: z) H Q := ⟨v, rfl, q⟩
theorem r_v2 {a0 a1 : Option V} {z : L2.St} (q : Q v H) : tVar 2 (a0 :: a1 :: some v :: z) H Q := ⟨v, rfl, q⟩
theorem r_v3 {a0 a1 a2 : Option V} {z : L2.St} (q : Q v H) : tVar 3 (a0 :: a1 :: a2 :: some v :: z) H Q := ⟨v, rfl, q⟩
theorem r_v4 {a0 a1 a2 a3 : Option V} {z : L2.St} (q : Q v H) : tVar 4 (a0 :: a1 :: a2 :: a3 :: some v :: z) H Q := ⟨v, rfl, q⟩
theorem r_v5 {a0 a1 a2 a3 a4 : Option V} {z : L2.St} (q : Q v H) : tVar 5 (a0 :: a1 :: a2 :: a3 :: a4 :: some v :: z) H Q := ⟨v, rfl, q⟩
theorem r_v6 {a0 a1 a2 a3 a4 a5 : Option V} {z : L2.St} (q : Q v H) : tVar 6 (a0 :: a1 :: a2 :: a3 :: a4 :: a5 :: some v :: z) H Q := ⟨v, rfl, q⟩
theorem r_v7 {a0 a1 a2 a3 a4 a5 a6 : Option V} {z : L2.St} (q : Q v H) : tVar 7 (a0 :: a1 :: a2 :: a3 :: a4 :: a5 :: a6 :: some v :: z) H Q := ⟨v, rfl, q⟩
theorem r_v8 {a0 a1 a2 a3 a4 a5 a6 a7 : Option V} {z : L2.St} (q : Q v H) : tVar 8 (a0 :: a1 :: a2 :: a3 :: a4 :: a5 :: a6 :: a7 :: some v :: z) H Q := ⟨v, rfl, q⟩
theorem r_v9 {a0 a1 a2 a3 a4 a5 a6 a7 a8 : Option V} {z : L2.St} (q : Q v H) : tVar 9 (a0 :: a1 :: a2 :: a3 :: a4 :: a5 :: a6 :: a7 :: a8 :: some v :: z) H Q := ⟨v, rfl, q⟩
theorem r_v10 {a0 a1 a2 a3 a4 a5 a6 a7 a8 a9 : Option V} {z : L2.St} (q : Q v H) : tVar 10 (a0 :: a1 :: a2 :: a3 :: a4 :: a5 :: a6 :: a7 :: a8 :: a9 :: some v :: z) H Q := ⟨v, rfl, q⟩
theorem r_v11 {a0 a1 a2 a3 a4 a5 a6 a7 a8 a9 a10 : Option V} {z : L2.St} (q : Q v H) : tVar 11 (a0 :: a1 :: a2 :: a3 :: a4 :: a5 :: a6 :: a7 :: a8 :: a9 :: a10 :: some v :: z) H Q := ⟨v, rfl, q⟩
theorem r_v12 {a0 a1 a2 a3 a4 a5 a6 a7 a8 a9 a10 a11 : Option V} {z : L2.St} (q : Q v H) : tVar 12 (a0 :: a1 :: a2 :: a3 :: a4 :: a5 :: a6 :: a7 :: a8 :: a9 :: a10 :: a11 :: some v :: z) H Q := ⟨v, rfl, q⟩
theorem r_v13 {a0 a1 a2 a3 a4 a5 a6 a7 a8 a9 a10 a11 a12 : Option V} {z : L2.St} (q : Q v H) : tVar 13 (a0 :: a1 :: a2 :: a3 :: a4 :: a5 :: a6 :: a7 :: a8 :: a9 :: a10 :: a11 :: a12 :: some v :: z) H Q := ⟨v, rfl, q⟩
theorem r_v14 {a0 a1 a2 a3 a4 a5 a6 a7 a8 a9 a10 a11 a12 a13 : Option V} {z : L2.St} (q : Q v H) : tVar 14 (a0 :: a1 :: a2 :: a3 :: a4 :: a5 :: a6 :: a7 :: a8 :: a9 :: a10 :: a11 :: a12 :: a13 :: some v :: z) H Q := ⟨v, rfl, q⟩
theorem r_v15 {a0 a1 a2 a3 a4 a5 a6 a7 a8 a9 a10 a11 a12 a13 a14 : Option V} {z : L2.St} (q : Q v H) : tVar 15 (a0 :: a1 :: a2 :: a3 :: a4 :: a5 :: a6 :: a7 :: a8 :: a9 :: a10 :: a11 :: a12 :: a13 :: a14 :: some v :: z) H Q := ⟨v, rfl, q⟩
theorem r_v16 {a0 a1 a2 a3 a4 a5 a6 a7 a8 a9 a10 a11 a12 a13 a14 a15 : Option V} {z : L2.St} (q : Q v H) : tVar 16 (a0 :: a1 :: a2 :: a3 :: a4 :: a5 :: a6 :: a7 :: a8 :: a9 :: a10 :: a11 :: a12 :: a13 :: a14 :: a15 :: some v :: z) H Q := ⟨v, rfl, q⟩
theorem r_v17 {a0 a1 a2 a3 a4 a5 a6 a7 a8 a9 a10 a11 a12 a13 a14 a15 a16 : Option V} {z : L2.St} (q : Q v H) : tVar 17 (a0 :: a1 :: a2 :: a3 :: a4 :: a5 :: a6 :: a7 :: a8 :: a9 :: a10 :: a11 :: a12 :: a13 :: a14 :: a15 :: a16 :: some v :: z) H Q := ⟨v, rfl, q⟩
theorem r_v18 {a0 a1 a2 a3 a4 a5 a6 a7 a8 a9 a10 a11 a12 a13 a14 a15 a16 a17 : Option V} {z : L2.St} (q : Q v H) : tVar 18 (a0 :: a1 :: a2 :: a3 :: a4 :: a5 :: a6 :: a7 :: a8 :: a9 :: a10 :: a11 :: a12 :: a13 :: a14 :: a15 :: a16 :: a17 :: some v :: z) H Q := ⟨v, rfl, q⟩
theorem r_v19 {a0 a1 a2 a3 a4 a5 a6 a7 a8 a9 a10 a11 a12 a13 a14 a15 a16 a17 a18 : Option V} {z : L2.St} (q : Q v H) : tVar 19 (a0 :: a1 :: a2 :: a3 :: a4 :: a5 :: a6 :: a7 :: a8 :: a9 :: a10 :: a11 :: a12 :: a13 :: a14 :: a15 :: a16 :: a17 :: a18 :: some v :: z) H Q := ⟨v, rfl, q⟩
theorem r_v20 {a0 a1 a2 a3 a4 a5 a6 a7 a8 a9 a10 a11 a12 a13 a14 a15 a16 a17 a18 a19 : Option V} {z : L2.St} (q : Q v H) : tVar 20 (a0 :: a1 :: a2 :: a3 :: a4 :: a5 :: a6 :: a7 :: a8 :: a9 :: a10 :: a11 :: a12 :: a13 :: a14 :: a15 :: a16 :: a17 :: a18 :: a19 :: some v :: z) H Q := ⟨v, rfl, q⟩
theorem r_v21 {a0 a1 a2 a3 a4 a5 a6 a7 a8 a9 a10 a11 a12 a13 a14 a15 a16 a17 a18 a19 a20 : Option V} {z : L2.St} (q : Q v H) : tVar 21 (a0 :: a1 :: a2 :: a3 :: a4 :: a5 :: a6 :: a7 :: a8 :: a9 :: a10 :: a11 :: a12 :: a13 :: a14 :: a15 :: a16 :: a17 :: a18 :: a19 :: a20 :: some v :: z) H Q := ⟨v, rfl, q⟩
theorem r_g0 {b : Option V} {z : L2.St} (q : QG (some v :: z) H) : gName 0 v (b :: z) H QG := q
theorem r_g1 {a0 b : Option V} {z : L2.St} (q : QG (a0 :: some v :: z) H) : gName 1 v (a0 :: b :: z) H QG := q
theorem r_g2 {a0 a1 b : Option V} {z : L2.St} (q : QG (a0 :: a1 :: some v :: z) H) : gName 2 v (a0 :: a1 :: b :: z) H QG := q
theorem r_g3 {a0 a1 a2 b : Option V} {z : L2.St} (q : QG (a0 :: a1 :: a2 :: some v :: z) H) : gName 3 v (a0 :: a1 :: a2 :: b :: z) H QG := q
theorem r_g4 {a0 a1 a2 a3 b : Option V} {z : L2.St} (q : QG (a0 :: a1 :: a2 :: a3 :: some v :: z) H) : gName 4 v (a0 :: a1 :: a2 :: a3 :: b :: z) H QG := q
theorem r_g5 {a0 a1 a2 a3 a4 b : Option V} {z : L2.St} (q : QG (a0 :: a1 :: a2 :: a3 :: a4 :: some v :: z) H) : gName 5 v (a0 :: a1 :: a2 :: a3 :: a4 :: b :: z) H QG := q
theorem r_g6 {a0 a1 a2 a3 a4 a5 b : Option V} {z : L2.St} (q : QG (a0 :: a1 :: a2 :: a3 :: a4 :: a5 :: some v :: z) H) : gName 6 v (a0 :: a1 :: a2 :: a3 :: a4 :: a5 :: b :: z) H QG := q
theorem r_g7 {a0 a1 a2 a3 a4 a5 a6 b : Option V} {z : L2.St} (q : QG (a0 :: a1 :: a2 :: a3 :: a4 :: a5 :: a6 :: some v :: z) H) : gName 7 v (a0 :: a1 :: a2 :: a3 :: a4 :: a5 :: a6 :: b :: z) H QG := q
theorem r_g8 {a0 a1 a2 a3 a4 a5 a6 a7 b : Option V} {z : L2.St} (q : QG (a0 :: a1 :: a2 :: a3 :: a4 :: a5 :: a6 :: a7 :: some v :: z) H) : gName 8 v (a0 :: a1 :: a2 :: a3 :: a4 :: a5 :: a6 :: a7 :: b :: z) H QG := q
theorem r_g9 {a0 a1 a2 a3 a4 a5 a6 a7 a8 b : Option V} {z : L2.St} (q : QG (a0 :: a1 :: a2 :: a3 :: a4 :: a5 :: a6 :: a7 :: a8 :: some v :: z) H) : gName 9 v (a0 :: a1 :: a2 :: a3 :: a4 :: a5 :: a6 :: a7 :: a8 :: b :: z) H QG := q
theorem r_g10 {a0 a1 a2 a3 a4 a5 a6 a7 a8 a9 b : Option V} {z : L2.St} (q : QG (a0 :: a1 :: a2 :: a3 :: a4 :: a5 :: a6 :: a7 :: a8 :: a9 :: some v :: z) H) : gName 10 v (a0 :: a1 :: a2 :: a3 :: a4 :: a5 :: a6 :: a7 :: a8 :: a9 :: b :: z) H QG := q
theorem r_g11 {a0 a1 a2 a3 a4 a5 a6 a7 a8 a9 a10 b : Option V} {z : L2.St} (q : QG (a0 :: a1 :: a2 :: a3 :: a4 :: a5 :: a6 :: a7 :: a8 :: a9 :: a10 :: some v :: z) H) : gName 11 v (a0 :: a1 :: a2 :: a3 :: a4 :: a5 :: a6 :: a7 :: a8 :: a9 :: a10 :: b :: z) H QG := q
theorem r_g12 {a0 a1 a2 a3 a4 a5 a6 a7 a8 a9 a10 a11 b : Option V} {z : L2.St} (q : QG (a0 :: a1 :: a2 :: a3 :: a4 :: a5 :: a6 :: a7 :: a8 :: a9 :: a10 :: a11 :: some v :: z) H) : gName 12 v (a0 :: a1 :: a2 :: a3 :: a4 :: a5 :: a6 :: a7 :: a8 :: a9 :: a10 :: a11 :: b :: z) H QG := q
theorem r_g13 {a0 a1 a2 a3 a4 a5 a6 a7 a8 a9 a10 a11 a12 b : Option V} {z : L2.St} (q : QG (a0 :: a1 :: a2 :: a3 :: a4 :: a5 :: a6 :: a7 :: a8 :: a9 :: a10 :: a11 :: a12 :: some v :: z) H) : gName 13 v (a0 :: a1 :: a2 :: a3 :: a4 :: a5 :: a6 :: a7 :: a8 :: a9 :: a10 :: a11 :: a12 :: b :: z) H QG := q
theorem r_g14 {a0 a1 a2 a3 a4 a5 a6 a7 a8 a9 a10 a11 a12 a13 b : Option V} {z : L2.St} (q : QG (a0 :: a1 :: a2 :: a3 :: a4 :: a5 :: a6 :: a7 :: a8 :: a9 :: a10 :: a11 :: a12 :: a13 :: some v :: z) H) : gName 14 v (a0 :: a1 :: a2 :: a3 :: a4 :: a5 :: a6 :: a7 :: a8 :: a9 :: a10 :: a11 :: a12 :: a13 :: b :: z) H QG := q
theorem r_g15 {a0 a1 a2 a3 a4 a5 a6 a7 a8 a9 a10 a11 a12 a13 a14 b : Option V} {z : L2.St} (q : QG (a0 :: a1 :: a2 :: a3 :: a4 :: a5 :: a6 :: a7 :: a8 :: a9 :: a10 :: a11 :: a12 :: a13 :: a14 :: some v :: z) H) : gName 15 v (a0 :: a1 :: a2 :: a3 :: a4 :: a5 :: a6 :: a7 :: a8 :: a9 :: a10 :: a11 :: a12 :: a13 :: a14 :: b :: z) H QG := q
theorem r_g16 {a0 a1 a2 a3 a4 a5 a6 a7 a8 a9 a10 a11 a12 a13 a14 a15 b : Option V} {z : L2.St} (q : QG (a0 :: a1 :: a2 :: a3 :: a4 :: a5 :: a6 :: a7 :: a8 :: a9 :: a10 :: a11 :: a12 :: a13 :: a14 :: a15 :: some v :: z) H) : gName 16 v (a0 :: a1 :: a2 :: a3 :: a4 :: a5 :: a6 :: a7 :: a8 :: a9 :: a10 :: a11 :: a12 :: a13 :: a14 :: a15 :: b :: z) H QG := q
theorem r_g17 {a0 a1 a2 a3 a4 a5 a6 a7 a8 a9 a10 a11 a12 a13 a14 a15 a16 b : Option V} {z : L2.St} (q : QG (a0 :: a1 :: a2 :: a3 :: a4 :: a5 :: a6 :: a7 :: a8 :: a9 :: a10 :: a11 :: a12 :: a13 :: a14 :: a15 :: a16 :: some v :: z) H) : gName 17 v (a0 :: a1 :: a2 :: a3 :: a4 :: a5 :: a6 :: a7 :: a8 :: a9 :: a10 :: a11 :: a12 :: a13 :: a14 :: a15 :: a16 :: b :: z) H QG := q
theorem r_g18 {a0 a1 a2 a3 a4 a5 a6 a7 a8 a9 a10 a11 a12 a13 a14 a15 a16 a17 b : Option V} {z : L2.St} (q : QG (a0 :: a1 :: a2 :: a3 :: a4 :: a5 :: a6 :: a7 :: a8 :: a9 :: a10 :: a11 :: a12 :: a13 :: a14 :: a15 :: a16 :: a17 :: some v :: z) H) : gName 18 v (a0 :: a1 :: a2 :: a3 :: a4 :: a5 :: a6 :: a7 :: a8 :: a9 :: a10 :: a11 :: a12 :: a13 :: a14 :: a15 :: a16 :: a17 :: b :: z) H QG := q
theorem r_g19 {a0 a1 a2 a3 a4 a5 a6 a7 a8 a9 a10 a11 a12 a13 a14 a15 a16 a17 a18 b : Option V} {z : L2.St} (q : QG (a0 :: a1 :: a2 :: a3 :: a4 :: a5 :: a6 :: a7 :: a8 :: a9 :: a10 :: a11 :: a12 :: a13 :: a14 :: a15 :: a16 :: a17 :: a18 :: some v :: z) H) : gName 19 v (a0 :: a1 :: a2 :: a3 :: a4 :: a5 :: a6 :: a7 :: a8 :: a9 :: a10 :: a11 :: a12 :: a13 :: a14 :: a15 :: a16 :: a17 :: a18 :: b :: z) H QG := q
theorem r_g20 {a0 a1 a2 a3 a4 a5 a6 a7 a8 a9 a10 a11 a12 a13 a14 a15 a16 a17 a18 a19 b : Option V} {z : L2.St} (q : QG (a0 :: a1 :: a2 :: a3 :: a4 :: a5 :: a6 :: a7 :: a8 :: a9 :: a10 :: a11 :: a12 :: a13 :: a14 :: a15 :: a16 :: a17 :: a18 :: a19 :: some v :: z) H) : gName 20 v (a0 :: a1 :: a2 :: a3 :: a4 :: a5 :: a6 :: a7 :: a8 :: a9 :: a10 :: a11 :: a12 :: a13 :: a14 :: a15 :: a16 :: a17 :: a18 :: a19 :: b :: z) H QG := q
theorem r_g21 {a0 a1 a2 a3 a4 a5 a6 a7 a8 a9 a10 a11 a12 a13 a14 a15 a16 a17 a18 a19 a20 b : Option V} {z : L2.St} (q : QG (a0 :: a1 :: a2 :: a3 :: a4 :: a5 :: a6 :: a7 :: a8 :: a9 :: a10 :: a11 :: a12 :: a13 :: a14 :: a15 :: a16 :: a17 :: a18 :: a19 :: a20 :: some v :: z) H) : gName 21 v (a0 :: a1 :: a2 :: a3 :: a4 :: a5 :: a6 :: a7 :: a8 :: a9 :: a10 :: a11 :: a12 :: a13 :: a14 :: a15 :: a16 :: a17 :: a18 :: a19 :: a20 :: b :: z) H QG := q
theorem r_aug0 {z : L2.St} {tp : TIp} (q : te (some v :: z) H fun y H1 => tp v y H1 fun w H2 => D.nx (some w :: z) H2) : tAug 0 te tp D (some v :: z) H := ⟨v, rfl, q⟩
theorem r_aug1 {a0 : Option V} {z : L2.St} {tp : TIp} (q : te (a0 :: some v :: z) H fun y H1 => tp v y H1 fun w H2 => D.nx (a0 :: some w :: z) H2) : tAug 1 te tp D (a0 :: some v :: z) H := ⟨v, rfl, q⟩
theorem r_aug2 {a0 a1 : Option V} {z : L2.St} {tp : TIp} (q : te (a0 :: a1 :: some v :: z) H fun y H1 => tp v y H1 fun w H2 => D.nx (a0 :: a1 :: some w :: z) H2) : tAug 2 te tp D (a0 :: a1 :: some v :: z) H := ⟨v, rfl, q⟩
theorem r_aug3 {a0 a1 a2 : Option V} {z : L2.St} {tp : TIp} (q : te (a0 :: a1 :: a2 :: some v :: z) H fun y H1 => tp v y H1 fun w H2 => D.nx (a0 :: a1 :: a2 :: some w :: z) H2) : tAug 3 te tp D (a0 :: a1 :: a2 :: some v :: z) H := ⟨v, rfl, q⟩
theorem r_aug4 {a0 a1 a2 a3 : Option V} {z : L2.St} {tp : TIp} (q : te (a0 :: a1 :: a2 :: a3 :: some v :: z) H fun y H1 => tp v y H1 fun w H2 => D.nx (a0 :: a1 :: a2 :: a3 :: some w :: z) H2) : tAug 4 te tp D (a0 :: a1 :: a2 :: a3 :: some v :: z) H := ⟨v, rfl, q⟩
theorem r_aug5 {a0 a1 a2 a3 a4 : Option V} {z : L2.St} {tp : TIp} (q : te (a0 :: a1 :: a2 :: a3 :: a4 :: some v :: z) H fun y H1 => tp v y H1 fun w H2 => D.nx (a0 :: a1 :: a2 :: a3 :: a4 :: some w :: z) H2) : tAug 5 te tp D (a0 :: a1 :: a2 :: a3 :: a4 :: some v :: z) H := ⟨v, rfl, q⟩
theorem r_aug6 {a0 a1 a2 a3 a4 a5 : Option V} {z : L2.St} {tp : TIp} (q : te (a0 :: a1 :: a2 :: a3 :: a4 :: a5 :: some v :: z) H fun y H1 => tp v y H1 fun w H2 => D.nx (a0 :: a1 :: a2 :: a3 :: a4 :: a5 :: some w :: z) H2) : tAug 6 te tp D (a0 :: a1 :: a2 :: a3 :: a4 :: a5 :: some v :: z) H := ⟨v, rfl, q⟩
theorem r_aug7 {a0 a1 a2 a3 a4 a5 a6 : Option V} {z : L2.St} {tp : TIp} (q : te (a0 :: a1 :: a2 :: a3 :: a4 :: a5 :: a6 :: some v :: z) H fun y H1 => tp v y H1 fun w H2 => D.nx (a0 :: a1 :: a2 :: a3 :: a4 :: a5 :: a6 :: some w :: z) H2) : tAug 7 te tp D (a0 :: a1 :: a2 :: a3 :: a4 :: a5 :: a6 :: some v :: z) H := ⟨v, rfl, q⟩
theorem r_aug8 {a0 a1 a2 a3 a4 a5 a6 a7 : Option V} {z : L2.St} {tp : TIp} (q : te (a0 :: a1 :: a2 :: a3 :: a4 :: a5 :: a6 :: a7 :: some v :: z) H fun y H1 => tp v y H1 fun w H2 => D.nx (a0 :: a1 :: a2 :: a3 :: a4 :: a5 :: a6 :: a7 :: some w :: z) H2) : tAug 8 te tp D (a0 :: a1 :: a2 :: a3 :: a4 :: a5 :: a6 :: a7 :: some v :: z) H := ⟨v, rfl, q⟩
theorem r_aug9 {a0 a1 a2 a3 a4 a5 a6 a7 a8 : Option V} {z : L2.St} {tp : TIp} (q : te (a0 :: a1 :: a2 :: a3 :: a4 :: a5 :: a6 :: a7 :: a8 :: some v :: z) H fun y H1 => tp v y H1 fun w H2 => D.nx (a0 :: a1 :: a2 :: a3 :: a4 :: a5 :: a6 :: a7 :: a8 :: some w :: z) H2) : tAug 9 te tp D (a0 :: a1 :: a2 :: a3 :: a4 :: a5 :: a6 :: a7 :: a8 :: some v :: z) H := ⟨v, rfl, q⟩
theorem r_aug10 {a0 a1 a2 a3 a4 a5 a6 a7 a8 a9 : Option V} {z : L2.St} {tp : TIp} (q : te (a0 :: a1 :: a2 :: a3 :: a4 :: a5 :: a6 :: a7 :: a8 :: a9 :: some v :: z) H fun y H1 => tp v y H1 fun w H2 => D.nx (a0 :: a1 :: a2 :: a3 :: a4 :: a5 :: a6 :: a7 :: a8 :: a9 :: some w :: z) H2) : tAug 10 te tp D (a0 :: a1 :: a2 :: a3 :: a4 :: a5 :: a6 :: a7 :: a8 :: a9 :: some v :: z) H := ⟨v, rfl, q⟩
theorem r_aug11 {a0 a1 a2 a3 a4 a5 a6 a7 a8 a9 a10 : Option V} {z : L2.St} {tp : TIp} (q : te (a0 :: a1 :: a2 :: a3 :: a4 :: a5 :: a6 :: a7 :: a8 :: a9 :: a10 :: some v :: z) H fun y H1 => tp v y H1 fun w H2 => D.nx (a0 :: a1 :: a2 :: a3 :: a4 :: a5 :: a6 :: a7 :: a8 :: a9 :: a10 :: some w :: z) H2) : tAug 11 te tp D (a0 :: a1 :: a2 :: a3 :: a4 :: a5 :: a6 :: a7 :: a8 :: a9 :: a10 :: some v :: z) H := ⟨v, rfl, q⟩
theorem r_aug12 {a0 a1 a2 a3 a4 a5 a6 a7 a8 a9 a10 a11 : Option V} {z : L2.St} {tp : TIp} (q : te (a0 :: a1 :: a2 :: a3 :: a4 :: a5 :: a6 :: a7 :: a8 :: a9 :: a10 :: a11 :: some v :: z) H fun y H1 => tp v y H1 fun w H2 => D.nx (a0 :: a1 :: a2 :: a3 :: a4 :: a5 :: a6 :: a7 :: a8 :: a9 :: a10 :: a11 :: some w :: z) H2) : tAug 12 te tp D (a0 :: a1 :: a2 :: a3 :: a4 :: a5 :: a6 :: a7 :: a8 :: a9 :: a10 :: a11 :: some v :: z) H := ⟨v, rfl, q⟩
theorem r_aug13 {a0 a1 a2 a3 a4 a5 a6 a7 a8 a9 a10 a11 a12 : Option V} {z : L2.St} {tp : TIp} (q : te (a0 :: a1 :: a2 :: a3 :: a4 :: a5 :: a6 :: a7 :: a8 :: a9 :: a10 :: a11 :: a12 :: some v :: z) H fun y H1 => tp v y H1 fun w H2 => D.nx (a0 :: a1 :: a2 :: a3 :: a4 :: a5 :: a6 :: a7 :: a8 :: a9 :: a10 :: a11 :: a12 :: some w :: z) H2) : tAug 13 te tp D (a0 :: a1 :: a2 :: a3 :: a4 :: a5 :: a6 :: a7 :: a8 :: a9 :: a10 :: a11 :: a12 :: some v :: z) H := ⟨v, rfl, q⟩
theorem r_aug14 {a0 a1 a2 a3 a4 a5 a6 a7 a8 a9 a10 a11 a12 a13 : Option V} {z : L2.St} {tp : TIp} (q : te (a0 :: a1 :: a2 :: a3 :: a4 :: a5 :: a6 :: a7 :: a8 :: a9 :: a10 :: a11 :: a12 :: a13 :: some v :: z) H fun y H1 => tp v y H1 fun w H2 => D.nx (a0 :: a1 :: a2 :: a3 :: a4 :: a5 :: a6 :: a7 :: a8 :: a9 :: a10 :: a11 :: a12 :: a13 :: some w :: z) H2) : tAug 14 te tp D (a0 :: a1 :: a2 :: a3 :: a4 :: a5 :: a6 :: a7 :: a8 :: a9 :: a10 :: a11 :: a12 :: a13 :: some v :: z) H := ⟨v, rfl, q⟩
theorem r_aug15 {a0 a1 a2 a3 a4 a5 a6 a7 a8 a9 a10 a11 a12 a13 a14 : Option V} {z : L2.St} {tp : TIp} (q : te (a0 :: a1 :: a2 :: a3 :: a4 :: a5 :: a6 :: a7 :: a8 :: a9 :: a10 :: a11 :: a12 :: a13 :: a14 :: some v :: z) H fun y H1 => tp v y H1 fun w H2 => D.nx (a0 :: a1 :: a2 :: a3 :: a4 :: a5 :: a6 :: a7 :: a8 :: a9 :: a10 :: a11 :: a12 :: a13 :: a14 :: some w :: z) H2) : tAug 15 te tp D (a0 :: a1 :: a2 :: a3 :: a4 :: a5 :: a6 :: a7 :: a8 :: a9 :: a10 :: a11 :: a12 :: a13 :: a14 :: some v :: z) H := ⟨v, rfl, q⟩
theorem r_aug16 {a0 a1 a2 a3 a4 a5 a6 a7 a8 a9 a10 a11 a12 a13 a14 a15 : Option V} {z : L2.St} {tp : TIp} (q : te (a0 :: a1 :: a2 :: a3 :: a4 :: a5 :: a6 :: a7 :: a8 :: a9 :: a10 :: a11 :: a12 :: a13 :: a14 :: a15 :: some v :: z) H fun y H1 => tp v y H1 fun w H2 => D.nx (a0 :: a1 :: a2 :: a3 :: a4 :: a5 :: a6 :: a7 :: a8 :: a9 :: a10 :: a11 :: a12 :: a13 :: a14 :: a15 :: some w :: z) H2) : tAug 16 te tp D (a0 :: a1 :: a2 :: a3 :: a4 :: a5 :: a6 :: a7 :: a8 :: a9 :: a10 :: a11 :: a12 :: a13 :: a14 :: a15 :: some v :: z) H := ⟨v, rfl, q⟩
theorem r_aug17 {a0 a1 a2 a3 a4 a5 a6 a7 a8 a9 a10 a11 a12 a13 a14 a15 a16 : Option V} {z : L2.St} {tp : TIp} (q : te (a0 :: a1 :: a2 :: a3 :: a4 :: a5 :: a6 :: a7 :: a8 :: a9 :: a10 :: a11 :: a12 :: a13 :: a14 :: a15 :: a16 :: some v :: z) H fun y H1 => tp v y H1 fun w H2 => D.nx (a0 :: a1 :: a2 :: a3 :: a4 :: a5 :: a6 :: a7 :: a8 :: a9 :: a10 :: a11 :: a12 :: a13 :: a14 :: a15 :: a16 :: some w :: z) H2) : tAug 17 te tp D (a0 :: a1 :: a2 :: a3 :: a4 :: a5 :: a6 :: a7 :: a8 :: a9 :: a10 :: a11 :: a12 :: a13 :: a14 :: a15 :: a16 :: some v :: z) H := ⟨v, rfl, q⟩
theorem r_aug18 {a0 a1 a2 a3 a4 a5 a6 a7 a8 a9 a10 a11 a12 a13 a14 a15 a16 a17 : Option V} {z : L2.St} {tp : TIp} (q : te (a0 :: a1 :: a2 :: a3 :: a4 :: a5 :: a6 :: a7 :: a8 :: a9 :: a10 :: a11 :: a12 :: a13 :: a14 :: a15 :: a16 :: a17 :: some v :: z) H fun y H1 => tp v y H1 fun w H2 => D.nx (a0 :: a1 :: a2 :: a3 :: a4 :: a5 :: a6 :: a7 :: a8 :: a9 :: a10 :: a11 :: a12 :: a13 :: a14 :: a15 :: a16 :: a17 :: some w :: z) H2) : tAug 18 te tp D (a0 :: a1 :: a2 :: a3 :: a4 :: a5 :: a6 :: a7 :: a8 :: a9 :: a10 :: a11 :: a12 :: a13 :: a14 :: a15 :: a16 :: a17 :: some v :: z) H := ⟨v, rfl, q⟩
theorem r_aug19 {a0 a1 a2 a3 a4 a5 a6 a7 a8 a9 a10 a11 a12 a13 a14 a15 a16 a17 a18 : Option V} {z : L2.St} {tp : TIp} (q : te (a0 :: a1 :: a2 :: a3 :: a4 :: a5 :: a6 :: a7 :: a8 :: a9 :: a10 :: a11 :: a12 :: a13 :: a14 :: a15 :: a16 :: a17 :: a18 :: some v :: z) H fun y H1 => tp v y H1 fun w H2 => D.nx (a0 :: a1 :: a2 :: a3 :: a4 :: a5 :: a6 :: a7 :: a8 :: a9 :: a10 :: a11 :: a12 :: a13 :: a14 :: a15 :: a16 :: a17 :: a18 :: some w :: z) H2) : tAug 19 te tp D (a0 :: a1 :: a2 :: a3 :: a4 :: a5 :: a6 :: a7 :: a8 :: a9 :: a10 :: a11 :: a12 :: a13 :: a14 :: a15 :: a16 :: a17 :: a18 :: some v :: z) H := ⟨v, rfl, q⟩
theorem r_aug20 {a0 a1 a2 a3 a4 a5 a6 a7 a8 a9 a10 a11 a12 a13 a14 a15 a16 a17 a18 a19 : Option V} {z : L2.St} {tp : TIp} (q : te (a0 :: a1 :: a2 :: a3 :: a4 :: a5 :: a6 :: a7 :: a8 :: a9 :: a10 :: a11 :: a12 :: a13 :: a14 :: a15 :: a16 :: a17 :: a18 :: a19 :: some v :: z) H fun y H1 => tp v y H1 fun w H2 => D.nx (a0 :: a1 :: a2 :: a3 :: a4 :: a5 :: a6 :: a7 :: a8 :: a9 :: a10 :: a11 :: a12 :: a13 :: a14 :: a15 :: a16 :: a17 :: a18 :: a19 :: some w :: z) H2) : tAug 20 te tp D (a0 :: a1 :: a2 :: a3 :: a4 :: a5 :: a6 :: a7 :: a8 :: a9 :: a10 :: a11 :: a12 :: a13 :: a14 :: a15 :: a16 :: a17 :: a18 :: a19 :: some v :: z) H := ⟨v, rfl, q⟩
theorem r_aug21 {a0 a1 a2 a3 a4 a5 a6 a7 a8 a9 a10 a11 a12 a13 a14 a15 a16 a17 a18 a19 a20 : Option V} {z : L2.St} {tp : TIp} (q : te (a0 :: a1 :: a2 :: a3 :: a4 :: a5 :: a6 :: a7 :: a8 :: a9 :: a10 :: a11 :: a12 :: a13 :: a14 :: a15 :: a16 :: a17 :: a18 :: a19 :: a20 :: some v :: z) H fun y H1 => tp v y H1 fun w H2 => D.nx (a0 :: a1 :: a2 :: a3 :: a4 :: a5 :: a6 :: a7 :: a8 :: a9 :: a10 :: a11 :: a12 :: a13 :: a14 :: a15 :: a16 :: a17 :: a18 :: a19 :: a20 :: some w :: z) H2) : tAug 21 te tp D (a0 :: a1 :: a2 :: a3 :: a4 :: a5 :: a6 :: a7 :: a8 :: a9 :: a10 :: a11 :: a12 :: a13 :: a14 :: a15 :: a16 :: a17 :: a18 :: a19 :: a20 :: some v :: z) H := ⟨v, rfl, q⟩
theorem r_ip {f : Int → Int → Int} {i j : Int} (q : Q (.int (f i j)) H) : ipI f (.int i) (.int j) H Q := ⟨i, j, rfl, rfl, q⟩
end

/-! ### instances in isinstance -/
structure InsI (K : PySem.W.Frag) (C : Addr) : Prop where
  cl : Cls K C
  ha : PySem.W.findIn K (.ref C) "__class__" = some (some (.builtin "object.__class__"))
  hn : PySem.W.specialIn K (.builtin "object.__class__") "__get__" = some (some (.builtin "getset_descriptor.__get__"))
  htk : PySem.W.takesIn K (.builtin "object.__class__") = some true
  hm : PySem.W.mroIn K C (.type "object") = some true
  own : PySem.W.kitOne K (.ref C) (.ref C) = some true
def insB (K : PySem.W.Frag) (C : Addr) : Bool := decide (PySem.W.findIn K (.ref C) "__class__" = some (some (.builtin "object.__class__"))) && (decide (PySem.W.specialIn K (.builtin "object.__class__") "__get__" = some (some (.builtin "getset_descriptor.__get__"))) &&
  (decide (PySem.W.takesIn K (.builtin "object.__class__") = some true) && (decide (PySem.W.mroIn K C (.type "object") = some true) && decide (PySem.W.kitOne K (.ref C) (.ref C) = some true))))
theorem insB_ok {K : PySem.W.Frag} {C : Addr} (cl : Cls K C) (h : insB K C = true) : InsI K C := by
  obtain ⟨h1, h⟩ := Bool.and_eq_true_iff.mp h
  obtain ⟨h2, h⟩ := Bool.and_eq_true_iff.mp h
  obtain ⟨h3, h⟩ := Bool.and_eq_true_iff.mp h
  obtain ⟨h4, h5⟩ := Bool.and_eq_true_iff.mp h
  exact ⟨cl, of_decide_eq_true h1, of_decide_eq_true h2, of_decide_eq_true h3, of_decide_eq_true h4, of_decide_eq_true h5⟩
theorem InsI.ty {K : PySem.W.Frag} {C a dx : Addr} {H : Hp} {fs : List (Str × V)} (I : InsI K C) (e : H a = some (.ins C dx fs)) : TyX K H (.ref a) (.ref C) := .base (.ins e I.cl I.ha I.hn I.htk I.hm)
/-! ### comprehensions and loops with the slots written out -/
section
variable {K : PySem.W.Frag} {g : TG} {tt : TT} {te : TE} {vs : List Nat} {σ : L2.St} {H1 : Hp} {D : Addr} {Qd : Hp → Prop}
theorem lc_rangeS {lo : Int} {n : Nat} (σ' : L2.St) (hσ : wipe σ vs = σ') (Pv : Nat → Hp → Prop) (h0 : Pv 0 (upd H1 D (.lst [])))
    (hs : ∀ i H, i < n → Pv i H → g (.int (lo + i)) σ' H fun σ2 H2 => wipe σ2 vs = σ' ∧ tt σ2 H2 fun b H3 =>
      if b = true then te σ2 H3 fun y H4 => ∃ acc, H4 D = some (.lst acc) ∧ acc.length < sizeLine ∧ Pv (i + 1) (upd H4 D (.lst (acc ++ [y]))) else Pv (i + 1) H3) (hd : ∀ H, Pv n H → Qd H) :
    ∃ W : Nat → Nat → Hp → Prop, (∃ m, W 0 m (upd H1 D (.lst []))) ∧ ∀ i m H, W i m H →
      ((Itr lo n).stop i H ∧ Qd H) ∨ ((Itr lo n).go i H ∧ ∃ Nx : Hp → Prop, (∀ H', Nx H' → ∃ m', m' < m ∧ W (i + 1) m' H') ∧ ∀ x H', (Itr lo n).yld i H x H' → g x (wipe σ vs) H' fun σ2 H2 => wipe σ2 vs = wipe σ vs ∧ tt σ2 H2 fun b H3 =>
        if b = true then te σ2 H3 fun y H4 => ∃ acc, H4 D = some (.lst acc) ∧ acc.length < sizeLine ∧ Nx (upd H4 D (.lst (acc ++ [y]))) else Nx H3) := by
  subst hσ
  exact lc_range Pv h0 hs hd
theorem lc_listS {a : Addr} {xs : List V} (σ' : L2.St) (hσ : wipe σ vs = σ') (Pv : Nat → Hp → Prop) (h0 : Pv 0 (upd H1 D (.lst []))) (hl : ∀ i H, i ≤ xs.length → Pv i H → SqL K H a xs)
    (hs : ∀ i x H, xs[i]? = some x → Pv i H → g x σ' H fun σ2 H2 => wipe σ2 vs = σ' ∧ tt σ2 H2 fun b H3 =>
      if b = true then te σ2 H3 fun y H4 => ∃ acc, H4 D = some (.lst acc) ∧ acc.length < sizeLine ∧ Pv (i + 1) (upd H4 D (.lst (acc ++ [y]))) else Pv (i + 1) H3) (hd : ∀ H, Pv xs.length H → Qd H) :
    ∃ W : Nat → Nat → Hp → Prop, (∃ m, W 0 m (upd H1 D (.lst []))) ∧ ∀ i m H, W i m H →
      ((Itl K a).stop i H ∧ Qd H) ∨ ((Itl K a).go i H ∧ ∃ Nx : Hp → Prop, (∀ H', Nx H' → ∃ m', m' < m ∧ W (i + 1) m' H') ∧ ∀ x H', (Itl K a).yld i H x H' → g x (wipe σ vs) H' fun σ2 H2 => wipe σ2 vs = wipe σ vs ∧ tt σ2 H2 fun b H3 =>
        if b = true then te σ2 H3 fun y H4 => ∃ acc, H4 D = some (.lst acc) ∧ acc.length < sizeLine ∧ Nx (upd H4 D (.lst (acc ++ [y]))) else Nx H3) := by
  subst hσ
  exact lc_list Pv h0 hl hs hd
end
/-- the reading of a for loop, its iterator told by its end -/
def rFor (g : TG) (tb : TS) (D : Ends) (σ : L2.St) (J : It) (H1 : Hp) : Prop := ∃ W : Nat → Nat → L2.St → Hp → Prop, (∃ m, W 0 m σ H1) ∧ ∀ i m σ H, W i m σ H →
  (J.stop i H ∧ D.nx σ H) ∨ (J.go i H ∧ ∃ N : L2.St → Hp → Prop, (∀ σ' H', N σ' H' → ∃ m', m' < m ∧ W (i + 1) m' σ' H') ∧ ∀ x H', J.yld i H x H' → g x σ H' fun σ2 H2 => tb { D with nx := N, ct := N, bk := D.nx } σ2 H2)
theorem r_for {wi : TI} {g : TG} {tb : TS} {D : Ends} {σ : L2.St} {H : Hp} (q : wi σ H fun J H1 => rFor g tb D σ J H1) : tFor wi g tb D σ H := q
theorem r_forR {lo : Int} {n : Nat} {g : TG} {tb : TS} {D : Ends} {σ : L2.St} {H : Hp} (Pv : Nat → L2.St → Hp → Prop) (h0 : Pv 0 σ H)
    (hs : ∀ i σ H, i < n → Pv i σ H → g (.int (lo + i)) σ H fun σ2 H2 => tb { D with nx := Pv (i + 1), ct := Pv (i + 1), bk := D.nx } σ2 H2) (hd : ∀ σ H, Pv n σ H → D.nx σ H) : rFor g tb D σ (Itr lo n) H := for_range Pv h0 hs hd
theorem r_forL {K : PySem.W.Frag} {a : Addr} {xs : List V} {g : TG} {tb : TS} {D : Ends} {σ : L2.St} {H : Hp} (Pv : Nat → L2.St → Hp → Prop) (h0 : Pv 0 σ H) (hl : ∀ i σ H, i ≤ xs.length → Pv i σ H → SqL K H a xs)
    (hs : ∀ i x σ H, xs[i]? = some x → Pv i σ H → g x σ H fun σ2 H2 => tb { D with nx := Pv (i + 1), ct := Pv (i + 1), bk := D.nx } σ2 H2) (hd : ∀ σ H, Pv xs.length σ H → D.nx σ H) : rFor g tb D σ (Itl K a) H := for_list Pv h0 hl hs hd
theorem Dr.mut {a p : Addr} {H H' : Hp} {o : HO} (x : Dr a H H') (hp : H p = none) (n : p ≠ a) : Dr a H (L2.upd H' p o) := by
  obtain ⟨c0, c1, c2, h⟩ := x.src
  refine ⟨⟨c0, c1, c2, by rw [upd_ne (Ne.symm n)]; exact h⟩, fun b u nb e => ?_⟩
  rw [upd_ne (ne_of_none e hp)]
  exact x.old b u nb e
/-- all that stands of a list stands, a draw's source apart -/
theorem Dr.keep {a b : Addr} {H H' : Hp} {o : HO} (x : Dr a H H') (n : b ≠ a) (h : H b = some o) : H' b = some o := x.old b o n h
theorem Src.ne_ins {H : Hp} {a b C dx : Addr} {fs : List (Str × V)} (x : Src H a) (h : H b = some (.ins C dx fs)) : b ≠ a := by
  obtain ⟨c0, c1, c2, e⟩ := x
  exact ne_of h e (by intro z; cases z)
theorem Src.ne_tup {H : Hp} {a b : Addr} {xs : List V} (x : Src H a) (h : H b = some (.tup xs)) : b ≠ a := by
  obtain ⟨c0, c1, c2, e⟩ := x
  exact ne_of h e (by intro z; cases z)
theorem Src.ne_lst4 {H : Hp} {a b : Addr} {xs : List V} (x : Src H a) (h : H b = some (.lst xs)) (n : xs.length ≠ 3 := by simp) : b ≠ a := by
  obtain ⟨c0, c1, c2, e⟩ := x
  refine ne_of h e fun z => n ?_
  cases z
  rfl
theorem r_isiT {K : PySem.W.Frag} {H : Hp} {Q : VK} {x : V} {T T' : String} {b : Bool} (ty : TyX K H x (.type T)) (e : kitB T T' = some b) (q : Q (.bl b) H) : rIsi K [x, .ty T'] H Q := r_isi (.ty T') ty (kit_ty e) q
theorem r_isiC {K : PySem.W.Frag} {H : Hp} {Q : VK} {a C dx : Addr} {fs : List (Str × V)} (I : InsI K C) (e : H a = some (.ins C dx fs)) (q : Q (.bl true) H) : rIsi K [.ref a, .ref C] H Q := r_isi (.own C) (I.ty e) I.own q
theorem max_le {ns : List Int} {m b : Int} (hm : m ∈ ns) (h : ∀ n ∈ ns, n ≤ b) : m ≤ b := h m hm
theorem take_map_bl {bs : List Bool} (h : ∀ b ∈ bs, b = true) : bs.all id = true := by
  rw [List.all_eq_true]
  intro b hb
  rw [h b hb]
  rfl
theorem iteNt {A B : Prop} (h : B) : if (!true) = true then A else B := iteF h
theorem iteNf {A B : Prop} (h : A) : if (!false) = true then A else B := iteT h
theorem r_newS {o : HO} {H : Hp} {Q : VK} (q : ∀ (p : Addr) (H' : Hp), H p = none → Same H H' → H' p = some o → Q (.ref p) H') : rNew o H Q := fun p hp => q p _ hp (same_new hp) upd_same
theorem Src.same {H H' : Hp} {a : Addr} (x : Src H a) (s : Same H H') : Src H' a := by
  obtain ⟨c0, c1, c2, h⟩ := x
  exact ⟨c0, c1, c2, s _ _ h⟩
theorem Dr.same {a : Addr} {H H1 H2 : Hp} (x : Dr a H H1) (s : Same H1 H2) : Dr a H H2 := ⟨x.src.same s, fun b o n h => s b o (x.old b o n h)⟩
theorem Dr.ofSame {a : Addr} {H H1 : Hp} (x : Src H a) (s : Same H H1) : Dr a H H1 := ⟨x.same s, fun b o _ h => s b o h⟩
/-! ### sum of a tuple of ints -/
def rSumT (K : PySem.W.Frag) : List V → Hp → VK → Prop := fun vs H Q => ∃ (a : Addr) (ns : List Int), vs = [V.ref a] ∧ SqT K H a (ns.map V.int) ∧ Q (.int ns.sum) H
theorem preSum_list (ns : List Int) : ∀ j, PySem.preSum (fun i => ns.getD i 0) j = (ns.take j).sum
  | 0 => rfl
  | j + 1 => by
    show PySem.preSum (fun i => ns.getD i 0) j + ns.getD j 0 = _
    rw [preSum_list ns j, List.getD_eq_getElem?_getD, List.take_add_one, List.sum_append]
    cases ns[j]? with
    | none => rfl
    | some z =>
      show (ns.take j).sum + z = (ns.take j).sum + ([z] : List Int).sum
      rw [List.sum_cons]
      show _ = _ + (z + 0)
      rw [Int.add_zero]
theorem c_sumT {X : Cx} (hc : X.calm = true) : CallR X (.builtin "sum") (rSumT X.K) := by
  intro pins s σ H vs us Q I r h
  obtain ⟨a, ns, rfl, hs, q⟩ := h
  obtain ⟨its, rv, hl, _⟩ := I.tuple hs
  rw [Vals.ref1 r]
  have hh : X.A.in1.handled = none := by
    have := I.ok.hd hc
    simpa using this
  obtain ⟨o, ho, hrest⟩ := id hl
  have hlt : a < s.heap.objs.size := Heap.lt_size ho
  have hlen : its.length = ns.length := by rw [← rv.length, List.length_map]
  refine PySem.call_sum_walkG (wpAny_pyIter_tuple (show s.heap.IsTuple a its.toArray from hl) ?_)
  refine ⟨s.heap.objs.size, _, [s.heap.objs.size], _, _, _, fun i => ns.getD i 0, rfl, Walks.tuple (A := X.A.in1) hh s.heap.objs.size a (Nat.ne_of_lt hlt) its.toArray, ⟨⟨_, Heap.get?_push_size _ rfl, rfl, rfl⟩, IsTup.push hl _⟩, fun b hb => ?_, fun i v hv => ?_, fun h' tk t' hk => ?_⟩
  · rw [Heap.size_push]
    simp only [List.mem_cons, List.not_mem_nil, or_false] at hb
    rcases hb with rfl | rfl
    · exact Nat.lt_succ_self _
    · exact Nat.lt_succ_of_lt hlt
  · have hv2 : its[i]? = some v := by simpa using hv
    have hi : i < its.length := (List.getElem?_eq_some_iff.mp hv2).1
    obtain ⟨u, hu, ru⟩ := rv.get (i := i) (x := V.int (ns.getD i 0)) (by
      rw [List.getElem?_map, List.getD_eq_getElem?_getD, List.getElem?_eq_getElem (by omega : i < ns.length)]
      rfl)
    rw [hv2] at hu
    obtain ⟨t, e⟩ := ru
    exact ⟨t, by rw [Option.some.inj hu, e]⟩
  · have e : PySem.preSum (fun i => ns.getD i 0) its.toArray.size = ns.sum := by
      rw [preSum_list, List.size_toArray, List.take_of_length_le (by omega)]
    rw [e]
    exact ⟨.int ns.sum, H, I.kept (t' := tk) (fun b o e => hk b o (fun z => by
      rw [List.mem_singleton] at z
      rw [z] at e
      exact absurd (Heap.lt_size e) (Nat.lt_irrefl _)) (Heap.get?_push_of_some _ e)), ⟨_, rfl⟩, q⟩
theorem r_sumT {K : PySem.W.Frag} {H : Hp} {Q : VK} {a : Addr} {ns : List Int} (h : SqT K H a (ns.map V.int)) (q : Q (.int ns.sum) H) : rSumT K [.ref a] H Q := ⟨a, ns, rfl, h, q⟩
/-! ### while -/
def rWh (tb : TS) (D : Ends) (Pv : Nat → L2.St → Hp → Prop) (m : Nat) (σ : L2.St) (b : Bool) (H1 : Hp) : Prop :=
  if b = true then ∃ N : L2.St → Hp → Prop, (∀ σ' H', N σ' H' → ∃ m', m' < m ∧ Pv m' σ' H') ∧ tb { D with nx := N, ct := N, bk := D.nx } σ H1 else D.nx σ H1
theorem r_while {c : TT} {tb : TS} {D : Ends} {σ : L2.St} {H : Hp} (Pv : Nat → L2.St → Hp → Prop) (m0 : Nat) (h0 : Pv m0 σ H) (hs : ∀ m σ H, Pv m σ H → c σ H fun b H1 => rWh tb D Pv m σ b H1) : tWhile c tb D σ H := ⟨Pv, ⟨m0, h0⟩, hs⟩
theorem r_whT {tb : TS} {D : Ends} {Pv : Nat → L2.St → Hp → Prop} {m : Nat} {σ : L2.St} {H1 : Hp} (q : tb { D with nx := fun σ' H' => ∃ m', m' < m ∧ Pv m' σ' H', ct := fun σ' H' => ∃ m', m' < m ∧ Pv m' σ' H', bk := D.nx } σ H1) : rWh tb D Pv m σ true H1 := by
  unfold rWh
  rw [if_pos rfl]
  exact ⟨_, fun _ _ h => h, q⟩
theorem r_whF {tb : TS} {D : Ends} {Pv : Nat → L2.St → Hp → Prop} {m : Nat} {σ : L2.St} {H1 : Hp} (q : D.nx σ H1) : rWh tb D Pv m σ false H1 := by
  unfold rWh
  rw [if_neg Bool.false_ne_true]
  exact q
theorem r_whD {tb : TS} {D : Ends} {Pv : Nat → L2.St → Hp → Prop} {m : Nat} {σ : L2.St} {H1 : Hp} {p : Prop} [Decidable p] (h1 : p → tb { D with nx := fun σ' H' => ∃ m', m' < m ∧ Pv m' σ' H', ct := fun σ' H' => ∃ m', m' < m ∧ Pv m' σ' H', bk := D.nx } σ H1) (h2 : ¬ p → D.nx σ H1) : rWh tb D Pv m σ (decide p) H1 := by
  by_cases h : p
  · rw [decide_eq_true h]
    exact r_whT (h1 h)
  · rw [decide_eq_false h]
    exact r_whF (h2 h)
theorem ix_mod {xs : List V} {z : Int} {r n : Nat} {v : V} (e : z = ((r % n : Nat) : Int)) (h : xs[r % n]? = some v) : atI xs z = some v := at_of e h
/-! ### dicts with int keys -/
section
variable {σ : L2.St} {H : Hp} {Q : VK} {D : Ends} {ty td tv : TE} {v : V}
def rDk (x y : V) (H : Hp) (R : Option V → Prop) : Prop := ∃ a o, x = .ref a ∧ DGet H a y o ∧ R o
theorem r_dnotin (q : ty σ H fun y H1 => td σ H1 fun x H2 => rDk x y H2 fun o => Q (.bl (!o.isSome)) H2) : tDNotIn ty td σ H Q := q
theorem r_din (q : ty σ H fun y H1 => td σ H1 fun x H2 => rDk x y H2 fun o => Q (.bl o.isSome) H2) : tDIn ty td σ H Q := q
theorem r_dk {a : Addr} {kvs : List (Key × V)} {k : Int} {R : Option V → Prop} (h : H a = some (.dK kvs)) (q : R (valV kvs (Sum.inl k))) : rDk (.ref a) (.int k) H R := ⟨a, _, rfl, DGet.k (k := Sum.inl k) h, q⟩
def rDg (x y : V) (H : Hp) (Q : VK) : Prop := ∃ a v, x = .ref a ∧ DGet H a y (some v) ∧ Q v H
theorem r_dget (q : td σ H fun x H1 => ty σ H1 fun y H2 => rDg x y H2 Q) : tDGet td ty σ H Q := q
theorem r_dg {a : Addr} {kvs : List (Key × V)} {k : Int} (h : H a = some (.dK kvs)) (e : valV kvs (Sum.inl k) = some v) (q : Q v H) : rDg (.ref a) (.int k) H Q := ⟨a, v, rfl, by rw [← e]; exact DGet.k (k := Sum.inl k) h, q⟩
def rDp (x y v : V) (H : Hp) (Qn : Hp → Prop) : Prop := ∃ a H4, x = .ref a ∧ DPut H a y v H4 ∧ Qn H4
theorem r_dput (q : tv σ H fun v H1 => td σ H1 fun x H2 => ty σ H2 fun y H3 => rDp x y v H3 fun H4 => D.nx σ H4) : sDPut td ty tv D σ H := q
theorem r_dp {a : Addr} {kvs : List (Key × V)} {k : Int} {Qn : Hp → Prop} (h : H a = some (.dK kvs)) (hl : kvs.length < 100000) (q : Qn (upd H a (.dK (putK kvs (Sum.inl k) v)))) : rDp (.ref a) (.int k) v H Qn := ⟨a, _, rfl, DPut.k (k := Sum.inl k) h (szl hl), q⟩
theorem r_dnew (q : rNew (.dK []) H Q) : tDNewK σ H Q := q
end
/-- the list of f 0 .. f (n - 1) -/
def tabL (f : Nat → V) (n : Nat) : List V := (List.range n).map f
theorem tabL_len (f : Nat → V) (n : Nat) : (tabL f n).length = n := by simp [tabL]
theorem tabL_get (f : Nat → V) {n i : Nat} (h : i < n) : (tabL f n)[i]? = some (f i) := by
  unfold tabL
  rw [List.getElem?_map, List.getElem?_range h]
  rfl
theorem tabL_succ (f : Nat → V) (n : Nat) : tabL f (n + 1) = tabL f n ++ [f n] := by
  unfold tabL
  rw [List.range_succ, List.map_append]
  rfl
theorem tabL_last (f : Nat → V) (n : Nat) : atI (tabL f (n + 1)) (-1) = some (f n) := by
  rw [tabL_succ]
  exact atI_last _ _
theorem tabL_at (f : Nat → V) {n i : Nat} {z : Int} (e : z = (i : Int)) (h : i < n) : atI (tabL f n) z = some (f i) := at_of e (tabL_get f h)
/-! == and != of rows of ints -/
theorem dpInts {K : PySem.W.Frag} {H : Hp} : ∀ is : List Int, DpAll K H (is.map V.int) (is.map PyData.int)
  | [] => .nil
  | i :: is => .cons (.int i) (dpInts is)
theorem eqvInts : ∀ is js : List Int, PyData.eqvAll (is.map PyData.int) (js.map PyData.int) = decide (is = js)
  | [], [] => by simp [PyData.eqvAll]
  | [], _ :: _ => by simp [PyData.eqvAll]
  | _ :: _, [] => by simp [PyData.eqvAll]
  | a :: is, b :: js => by
    show (PyData.eqv (.int a) (.int b) && PyData.eqvAll (is.map PyData.int) (js.map PyData.int)) = _
    rw [eqvInts is js]
    show ((a == b) && decide (is = js)) = decide (a :: is = b :: js)
    by_cases h : a = b <;> by_cases h2 : is = js <;> simp [h, h2]
theorem layInts : ∀ is : List Int, PyData.canLayAll0 (is.map PyData.int) = true ∧ PyData.depthAll (is.map PyData.int) = 0
  | [] => ⟨rfl, rfl⟩
  | _ :: is => by simp [PyData.canLayAll0, PyData.canLay0, PyData.depthAll, PyData.depth, layInts is]
theorem shL (is : List Int) : SeqAt.shaped (.list (is.map PyData.int)) = true := by simp [SeqAt.shaped, PyData.canLay0, PyData.depth, layInts is]
theorem shT (is : List Int) : SeqAt.shaped (.tuple (is.map PyData.int)) = true := by simp [SeqAt.shaped, PyData.canLay0, PyData.depth, layInts is]
section
variable {K : PySem.W.Frag} {H : Hp} {Q : VK} {a b : Addr} {is js : List Int}
theorem r_eqTT (h : SqT K H a (is.map V.int)) (g : SqT K H b (js.map V.int)) (q : Q (.bl (decide (is = js))) H) : rEqD K (.ref a) (.ref b) H Q :=
  ⟨_, _, .tup h (dpInts is), .tup g (dpInts js), shT is, shT js, by rw [show PyData.eqv (.tuple (is.map PyData.int)) (.tuple (js.map PyData.int)) = decide (is = js) from eqvInts is js]; exact q⟩
theorem r_neTT (h : SqT K H a (is.map V.int)) (g : SqT K H b (js.map V.int)) (q : Q (.bl (!decide (is = js))) H) : rNeD K (.ref a) (.ref b) H Q :=
  ⟨_, _, .tup h (dpInts is), .tup g (dpInts js), shT is, shT js, by rw [show PyData.eqv (.tuple (is.map PyData.int)) (.tuple (js.map PyData.int)) = decide (is = js) from eqvInts is js]; exact q⟩
theorem r_eqLL (h : SqL K H a (is.map V.int)) (g : SqL K H b (js.map V.int)) (q : Q (.bl (decide (is = js))) H) : rEqD K (.ref a) (.ref b) H Q :=
  ⟨_, _, .lst h (dpInts is), .lst g (dpInts js), shL is, shL js, by rw [show PyData.eqv (.list (is.map PyData.int)) (.list (js.map PyData.int)) = decide (is = js) from eqvInts is js]; exact q⟩
theorem r_neLL (h : SqL K H a (is.map V.int)) (g : SqL K H b (js.map V.int)) (q : Q (.bl (!decide (is = js))) H) : rNeD K (.ref a) (.ref b) H Q :=
  ⟨_, _, .lst h (dpInts is), .lst g (dpInts js), shL is, shL js, by rw [show PyData.eqv (.list (is.map PyData.int)) (.list (js.map PyData.int)) = decide (is = js) from eqvInts is js]; exact q⟩
end
/-- another cell than one that was free -/
theorem Same.ne_free {H H' : Hp} {a b : Addr} {o : HO} (h : H a = some o) (f : H b = none) : a ≠ b := ne_of_none h f
def rTri (vs : List V) (R : V → V → V → Prop) : Prop := ∃ u v w, vs = [u, v, w] ∧ R u v w
theorem r_par3 {tr : TA} {D : Ends} {σ : L2.St} {H : Hp} {i j l : Nat} (q : tr σ H fun vs H1 => rTri vs fun u v w => gName i u σ H1 fun σ' H' => gName j v σ' H' fun σ2 H2 => gName l w σ2 H2 D.nx) : tPar3 i j l tr D σ H := q
theorem r_tri {u v w : V} {R : V → V → V → Prop} (q : R u v w) : rTri [u, v, w] R := ⟨u, v, w, rfl, q⟩
theorem ix_listK {X : Cx} {K : PySem.W.Frag} (h : X.K = K) : IxR X (rIxL K) := h ▸ ix_list
theorem ix_tupK {X : Cx} {K : PySem.W.Frag} (h : X.K = K) : IxR X (rIxT K) := h ▸ ix_tup
theorem c_lenK {X : Cx} {K : PySem.W.Frag} (h : X.K = K) : CallR X (.builtin "len") (rLenL K) := h ▸ c_len
theorem r_slT {K : PySem.W.Frag} {H : Hp} {Q : VK} {a : Addr} {xs : List V} {k : Nat} (h : SqT K H a xs) (hk : k < xs.length) (q : rNew (.tup (xs.take k)) H Q) : rSlT K (.ref a) none (some (k : Int)) H Q := by
  have e : HT.sIx xs.length xs.length (some (k : Int)) = k := by
    rw [HT.sIx_nat]
    exact Nat.min_eq_left (Nat.le_of_lt hk)
  have e0 : cutV xs none (some (k : Int)) = xs.take k := by
    show (xs.drop 0).take (HT.sIx xs.length xs.length (some (k : Int)) - 0) = _
    rw [e]
    rfl
  refine ⟨a, xs, rfl, h, fun z => ?_, ?_⟩
  · have := z.2
    rw [e] at this
    omega
  · rw [e0]
    exact q
theorem But.mut {a p : Addr} {H H' : Hp} {o : HO} (x : But a H H') (hp : H p = none) : But a H (L2.upd H' p o) := fun b u n e => by
  rw [upd_ne (ne_of_none e hp)]
  exact x b u n e
theorem But.same {a : Addr} {H H1 H2 : Hp} (x : But a H H1) (s : Same H1 H2) : But a H H2 := fun b o n h => s b o (x b o n h)
theorem Src.upd_ne {H : Hp} {a p : Addr} {o : HO} (x : Src H a) (n : p ≠ a) : Src (L2.upd H p o) a := by
  obtain ⟨c0, c1, c2, h⟩ := x
  exact ⟨c0, c1, c2, by rw [L2.upd_ne (Ne.symm n)]; exact h⟩
theorem tabL_atA (f : Nat → V) {n i : Nat} {z : Int} {zs : List V} (e : z = (i : Int)) (h : i < n) : atI (tabL f n ++ zs) z = some (f i) := by
  refine at_of e ?_
  rw [List.getElem?_append_left (by rw [tabL_len]; exact h)]
  exact tabL_get f h
/-! for i, x in enumerate(xs) -/
def rEn (K : PySem.W.Frag) (vs : List V) (H : Hp) (R : Addr → Prop) : Prop := ∃ a xs, vs = [V.ref a] ∧ SqL K H a xs ∧ R a
theorem r_enum {K : PySem.W.Frag} {tr : TA} {σ : L2.St} {H : Hp} {R : It → Hp → Prop} (q : tr σ H fun vs H1 => rEn K vs H1 fun a => R (Ite K a) H1) : iEnum K tr σ H R := q
theorem r_en {K : PySem.W.Frag} {H : Hp} {a : Addr} {xs : List V} {R : Addr → Prop} (h : SqL K H a xs) (q : R a) : rEn K [.ref a] H R := ⟨a, xs, rfl, h, q⟩
theorem r_forE {K : PySem.W.Frag} {a : Addr} {xs : List V} {g : TG} {tb : TS} {D : Ends} {σ : L2.St} {H : Hp} (Pv : Nat → L2.St → Hp → Prop) (h0 : Pv 0 σ H) (hl : ∀ i σ H, i ≤ xs.length → Pv i σ H → SqL K H a xs)
    (hs : ∀ i x σ H T H', xs[i]? = some x → Pv i σ H → H T = none → Same H H' → H' T = some (.tup [.int (i : Nat), x]) → g (.ref T) σ H' fun σ2 H2 => tb { D with nx := Pv (i + 1), ct := Pv (i + 1), bk := D.nx } σ2 H2) (hd : ∀ σ H, Pv xs.length σ H → D.nx σ H) : rFor g tb D σ (Ite K a) H := by
  refine ⟨fun i m σ H => m = xs.length - i ∧ i ≤ xs.length ∧ Pv i σ H, ⟨_, rfl, Nat.zero_le _, h0⟩, ?_⟩
  rintro i m σ H ⟨rfl, hi, h⟩
  rcases Nat.lt_or_ge i xs.length with z | z
  · refine .inr ⟨⟨xs, xs[i], hl i σ H hi h, List.getElem?_eq_getElem z⟩, Pv (i + 1), fun σ' H' p => ⟨_, ?_, rfl, z, p⟩, ?_⟩
    · omega
    · rintro v H' ⟨T, x, rfl, hT, rfl, hx⟩
      exact hs i x σ H T _ (hx xs (hl i σ H hi h)) h hT (same_new hT) upd_same
  · have e : i = xs.length := by omega
    subst e
    exact .inl ⟨⟨xs, hl _ σ H hi h, Nat.le_refl _⟩, hd σ H h⟩
/-- the way past a test that may be left out: first what follows, then the test's own way to it -/
theorem r_decK {p : Prop} [Decidable p] {A B : Prop} (q : B) (h1 : B → p → A) : if decide p = true then A else B := by
  by_cases h : p
  · rw [decide_eq_true h]
    exact h1 q h
  · rw [decide_eq_false h]
    exact q
theorem r_neB {i j : Bool} {H : Hp} {Q : VK} (q : Q (.bl (!decide (i = j))) H) : rNe (.bl i) (.bl j) H Q := ⟨rfl, by simpa using q⟩
theorem r_eqB {i j : Bool} {H : Hp} {Q : VK} (q : Q (.bl (decide (i = j))) H) : rEq (.bl i) (.bl j) H Q := ⟨rfl, by simpa using q⟩
theorem r_BM0 {K : PySem.W.Frag} {to : TE} {σ : L2.St} {H : Hp} {Q : VK} {T : String} {rm : V → List V → Hp → VK → Prop} (q : to σ H fun x H1 => rTy K T x H1 (rm x [] H1 Q)) : tBM0 K T rm to σ H Q := q
theorem r_reverse {l : Addr} {xs : List V} {H : Hp} {Q : VK} (h : H l = some (.lst xs)) (q : Q .non (upd H l (.lst xs.reverse))) : rReverse (.ref l) [] H Q := ⟨l, xs, rfl, rfl, h, q⟩
def rRgA (x : V) (R : Int → Int → Prop) : Prop := ∃ n, x = .int n ∧ R 0 n
def rRgL (a b : Int) (H : Hp) (Q : VK) : Prop := RgOk a b ∧ ∀ q, H q = none → Q (.ref q) (upd H q (.lst (rgV a b)))
theorem r_lstRg {ta : TE} {σ : L2.St} {H : Hp} {Q : VK} (q : ta σ H fun x H1 => rRgA x fun a b => rRgL a b H1 Q) : tLstRg (tRg1 ta) σ H Q := q
theorem r_rgA {n : Int} {R : Int → Int → Prop} (q : R 0 n) : rRgA (.int n) R := ⟨n, rfl, q⟩
theorem r_rgL {b : Int} {H : Hp} {Q : VK} (h0 : 0 ≤ b) (h1 : b ≤ 16777216) (q : rNew (.lst (rgV 0 b)) H Q) : rRgL 0 b H Q := ⟨RgOk.of_le (Int.le_refl 0) h1 (by decide) h0, q⟩
/-! == of a list of a row of ints and ints -/
theorem eqvHT (A B I J : List Int) : PyData.eqv (.list (.tuple (A.map PyData.int) :: I.map PyData.int)) (.list (.tuple (B.map PyData.int) :: J.map PyData.int)) = (decide (A = B) && decide (I = J)) := by
  show (PyData.eqvAll (A.map PyData.int) (B.map PyData.int) && PyData.eqvAll (I.map PyData.int) (J.map PyData.int)) = _
  rw [eqvInts, eqvInts]
theorem eqvHL (A B I J : List Int) : PyData.eqv (.list (.list (A.map PyData.int) :: I.map PyData.int)) (.list (.list (B.map PyData.int) :: J.map PyData.int)) = (decide (A = B) && decide (I = J)) := by
  show (PyData.eqvAll (A.map PyData.int) (B.map PyData.int) && PyData.eqvAll (I.map PyData.int) (J.map PyData.int)) = _
  rw [eqvInts, eqvInts]
theorem shHT (A I : List Int) : SeqAt.shaped (.list (.tuple (A.map PyData.int) :: I.map PyData.int)) = true := by simp [SeqAt.shaped, PyData.canLay0, PyData.depth, PyData.canLayAll0, PyData.depthAll, layInts]
theorem shHL (A I : List Int) : SeqAt.shaped (.list (.list (A.map PyData.int) :: I.map PyData.int)) = true := by simp [SeqAt.shaped, PyData.canLay0, PyData.depth, PyData.canLayAll0, PyData.depthAll, layInts]
theorem r_neHT {K : PySem.W.Frag} {H : Hp} {Q : VK} {a b t u : Addr} {A B I J : List Int} (h : SqL K H a (.ref t :: I.map V.int)) (ht : SqT K H t (A.map V.int)) (g : SqL K H b (.ref u :: J.map V.int)) (gu : SqT K H u (B.map V.int))
    (q : Q (.bl (!(decide (A = B) && decide (I = J)))) H) : rNeD K (.ref a) (.ref b) H Q :=
  ⟨_, _, .lst h (.cons (.tup ht (dpInts A)) (dpInts I)), .lst g (.cons (.tup gu (dpInts B)) (dpInts J)), shHT A I, shHT B J, by rw [eqvHT]; exact q⟩
theorem r_eqHL {K : PySem.W.Frag} {H : Hp} {Q : VK} {a b t u : Addr} {A B I J : List Int} (h : SqL K H a (.ref t :: I.map V.int)) (ht : SqL K H t (A.map V.int)) (g : SqL K H b (.ref u :: J.map V.int)) (gu : SqL K H u (B.map V.int))
    (q : Q (.bl (decide (A = B) && decide (I = J))) H) : rEqD K (.ref a) (.ref b) H Q :=
  ⟨_, _, .lst h (.cons (.lst ht (dpInts A)) (dpInts I)), .lst g (.cons (.lst gu (dpInts B)) (dpInts J)), shHL A I, shHL B J, by rw [eqvHL]; exact q⟩
theorem mem_rgV {a b : Int} {v : V} (h : v ∈ rgV a b) : ∃ i : Int, v = .int i ∧ a ≤ i ∧ i < b := by
  unfold rgV at h
  obtain ⟨n, hn, rfl⟩ := List.mem_map.mp h
  have := List.mem_range.mp hn
  exact ⟨_, rfl, by omega, by omega⟩
end Kr

/-! Packing rows into heap pages: the plain mathematics (no Python here). -/
namespace Pk
/-- the length of a row -/
def lenAt (ls : List Int) (r : Nat) : Int := ls.getD (r % ls.length) 0
/-- how many units k rows from row r on have -/
def pre (ls : List Int) (r : Nat) : Nat → Int
  | 0 => 0
  | k + 1 => pre ls r k + lenAt ls (r + k)
/-- lengths that may be packed -/
structure Ok (ls : List Int) (sz : Int) : Prop where
  l1 : 1 ≤ ls.length
  l6 : ls.length ≤ 12
  all : ∀ l ∈ ls, 1 ≤ l ∧ l ≤ sz
  s64 : sz ≤ 1000
section
variable {ls : List Int} {sz : Int}
theorem len_pos (o : Ok ls sz) (r : Nat) : 1 ≤ lenAt ls r ∧ lenAt ls r ≤ sz := by
  have h : r % ls.length < ls.length := Nat.mod_lt _ o.l1
  unfold lenAt
  rw [List.getD_eq_getElem?_getD, List.getElem?_eq_getElem h]
  exact o.all _ (List.getElem_mem h)
theorem len_at (o : Ok ls sz) (r : Nat) : ls[r % ls.length]? = some (lenAt ls r) := by
  have h : r % ls.length < ls.length := Nat.mod_lt _ o.l1
  unfold lenAt
  rw [List.getD_eq_getElem?_getD, List.getElem?_eq_getElem h]
  rfl
theorem len_mod {r s : Nat} (h : r % ls.length = s % ls.length) : lenAt ls r = lenAt ls s := by
  unfold lenAt
  rw [h]
theorem add_mod_eq {n r s k : Nat} (h : r % n = s % n) : (r + k) % n = (s + k) % n := by
  rw [Nat.add_mod, h, ← Nat.add_mod]
theorem pre_mod {r s : Nat} (h : r % ls.length = s % ls.length) : ∀ k, pre ls r k = pre ls s k
  | 0 => rfl
  | k + 1 => by
    show pre ls r k + lenAt ls (r + k) = pre ls s k + lenAt ls (s + k)
    rw [pre_mod h k, len_mod (add_mod_eq h)]
theorem pre_add (r : Nat) (a : Nat) : ∀ b, pre ls r (a + b) = pre ls r a + pre ls (r + a) b
  | 0 => by
    show pre ls r a = pre ls r a + 0
    omega
  | b + 1 => by
    show pre ls r (a + b) + lenAt ls (r + (a + b)) = pre ls r a + (pre ls (r + a) b + lenAt ls (r + a + b))
    rw [pre_add r a b, Nat.add_assoc r a b]
    omega
theorem pre_mono (o : Ok ls sz) (r : Nat) {a b : Nat} (h : a ≤ b) : pre ls r a + ((b : Int) - a) ≤ pre ls r b := by
  induction b with
  | zero =>
    have : a = 0 := by omega
    subst this
    simp
  | succ b ih =>
    have l := (len_pos o (r + b)).1
    by_cases e : a = b + 1
    · subst e
      omega
    · have := ih (by omega)
      show pre ls r a + (((b + 1 : Nat) : Int) - a) ≤ pre ls r b + lenAt ls (r + b)
      omega
theorem pre_ge (o : Ok ls sz) (r k : Nat) : (k : Int) ≤ pre ls r k := by
  have := pre_mono o r (Nat.zero_le k)
  have e : pre ls r 0 = 0 := rfl
  omega
/-- k rows from r on fit, one more does not -/
def Fill (ls : List Int) (sz : Int) (r k : Nat) : Prop := pre ls r k ≤ sz ∧ sz < pre ls r (k + 1)
theorem Fill.inj (o : Ok ls sz) {r k j : Nat} (h : Fill ls sz r k) (g : Fill ls sz r j) : k = j := by
  rcases Nat.lt_trichotomy k j with z | z | z
  · have := pre_mono o r (show k + 1 ≤ j from z)
    have h2 := h.2
    have g1 := g.1
    omega
  · exact z
  · have := pre_mono o r (show j + 1 ≤ k from z)
    have h1 := h.1
    have g2 := g.2
    omega
theorem Fill.le (o : Ok ls sz) {r k : Nat} (h : Fill ls sz r k) : (k : Int) ≤ sz := by
  have := pre_ge o r k
  have := h.1
  omega
theorem Fill.pos (o : Ok ls sz) {r k : Nat} (h : Fill ls sz r k) : 1 ≤ k := by
  rcases k with _ | k
  · have h2 : sz < pre ls r 1 := h.2
    have e : pre ls r 1 = 0 + lenAt ls (r + 0) := rfl
    have := (len_pos o (r + 0)).2
    omega
  · omega
theorem Fill.mod {r s k : Nat} (h : r % ls.length = s % ls.length) (f : Fill ls sz r k) : Fill ls sz s k := by
  unfold Fill
  rw [← pre_mod h, ← pre_mod h]
  exact f
/-- the greedy count, with fuel -/
def cntF (ls : List Int) (r : Nat) (left : Int) : Nat → Nat
  | 0 => 0
  | f + 1 => if lenAt ls r ≤ left then cntF ls (r + 1) (left - lenAt ls r) f + 1 else 0
theorem pre_one (r : Nat) (k : Nat) : pre ls r (k + 1) = lenAt ls r + pre ls (r + 1) k := by
  have e := pre_add (ls := ls) r 1 k
  rw [Nat.add_comm k 1, e]
  show (0 + lenAt ls (r + 0)) + pre ls (r + 1) k = lenAt ls r + pre ls (r + 1) k
  rw [Nat.add_zero]
  omega
theorem cntF_fill (o : Ok ls sz) : ∀ (f r : Nat) (left : Int), 0 ≤ left → left < f → pre ls r (cntF ls r left f) ≤ left ∧ left < pre ls r (cntF ls r left f + 1)
  | 0, r, left, h0, h1 => by omega
  | f + 1, r, left, h0, h1 => by
    have lp := (len_pos o r).1
    unfold cntF
    split
    · rename_i h
      have ih := cntF_fill o f (r + 1) (left - lenAt ls r) (by omega) (by omega)
      rw [pre_one, pre_one]
      omega
    · rename_i h
      have e : pre ls r 1 = lenAt ls r := by
        rw [pre_one]
        show lenAt ls r + 0 = _
        omega
      exact ⟨h0, by rw [e]; omega⟩
def cnt (ls : List Int) (sz : Int) (r : Nat) : Nat := cntF ls r sz (sz.toNat + 1)
theorem cnt_fill (o : Ok ls sz) (r : Nat) : Fill ls sz r (cnt ls sz r) := by
  have := (len_pos o r).1
  have := (len_pos o r).2
  exact cntF_fill o _ r sz (by omega) (by omega)
theorem cnt_is (o : Ok ls sz) {r k : Nat} (h : Fill ls sz r k) : cnt ls sz r = k := (cnt_fill o r).inj o h
theorem cnt_mod (o : Ok ls sz) {r s : Nat} (h : r % ls.length = s % ls.length) : cnt ls sz r = cnt ls sz s := cnt_is o ((cnt_fill o s).mod h.symm)
theorem cnt_pos (o : Ok ls sz) (r : Nat) : 1 ≤ cnt ls sz r := (cnt_fill o r).pos o
theorem cnt_le (o : Ok ls sz) (r : Nat) : (cnt ls sz r : Int) ≤ sz := (cnt_fill o r).le o
/-- the first row of each heap page -/
def st (ls : List Int) (sz : Int) : Nat → Nat
  | 0 => 0
  | m + 1 => st ls sz m + cnt ls sz (st ls sz m)
theorem st_succ (m : Nat) : st ls sz (m + 1) = st ls sz m + cnt ls sz (st ls sz m) := rfl
theorem st_lt (o : Ok ls sz) (m : Nat) : st ls sz m < st ls sz (m + 1) := by
  have := cnt_pos o (st ls sz m)
  rw [st_succ]
  omega
theorem st_mono (o : Ok ls sz) {a b : Nat} (h : a < b) : st ls sz a < st ls sz b := by
  induction b with
  | zero => omega
  | succ b ih =>
    have l := st_lt o b
    rcases Nat.lt_or_ge a b with z | z
    · have := ih z
      omega
    · have : a = b := by omega
      subst this
      exact l
theorem st_le (o : Ok ls sz) {a b : Nat} (h : a ≤ b) : st ls sz a ≤ st ls sz b := by
  rcases Nat.lt_or_ge a b with z | z
  · exact Nat.le_of_lt (st_mono o z)
  · have : a = b := by omega
    subst this
    exact Nat.le_refl _
theorem st_ge (o : Ok ls sz) (m : Nat) : m ≤ st ls sz m := by
  induction m with
  | zero => exact Nat.zero_le _
  | succ m ih =>
    have := st_lt o m
    omega
theorem st_up (o : Ok ls sz) (m : Nat) : (st ls sz m : Int) ≤ m * sz := by
  induction m with
  | zero => simp [st]
  | succ m ih =>
    have := cnt_le o (st ls sz m)
    have e : ((m + 1 : Nat) : Int) * sz = m * sz + sz := by
      rw [Int.natCast_add, Int.add_mul]
      simp
    rw [st_succ, e, Int.natCast_add]
    omega
/-- places that are equal lead on alike -/
theorem st_alike (o : Ok ls sz) {a b : Nat} (h : st ls sz a % ls.length = st ls sz b % ls.length) : ∀ t, st ls sz (a + t) % ls.length = st ls sz (b + t) % ls.length ∧ st ls sz (a + t) - st ls sz a = st ls sz (b + t) - st ls sz b
  | 0 => ⟨h, by simp⟩
  | t + 1 => by
    obtain ⟨h1, h2⟩ := st_alike o h t
    have e := cnt_mod (sz := sz) o h1
    have g1 : st ls sz (a + (t + 1)) = st ls sz (a + t) + cnt ls sz (st ls sz (a + t)) := rfl
    have g2 : st ls sz (b + (t + 1)) = st ls sz (b + t) + cnt ls sz (st ls sz (b + t)) := rfl
    have k1 := st_le o (show a ≤ a + t by omega)
    have k2 := st_le o (show b ≤ b + t by omega)
    rw [g1, g2, e]
    exact ⟨add_mod_eq h1, by omega⟩
/-- a cycle: from page j on all comes again k - j pages and so many rows later -/
structure Cyc (ls : List Int) (sz : Int) (j k : Nat) : Prop where
  lt : j < k
  eq : st ls sz j % ls.length = st ls sz k % ls.length
  dis : ∀ a b, a < b → b < k → st ls sz a % ls.length ≠ st ls sz b % ls.length
/-- how many rows a cycle has -/
def rws (ls : List Int) (sz : Int) (j k : Nat) : Nat := st ls sz k - st ls sz j
theorem Cyc.rows (c : Cyc ls sz j k) (o : Ok ls sz) : 1 ≤ rws ls sz j k := by
  have := st_mono o c.lt
  unfold rws
  omega
theorem Cyc.step (c : Cyc ls sz j k) (o : Ok ls sz) {m : Nat} (h : j ≤ m) : st ls sz (m + (k - j)) = st ls sz m + rws ls sz j k := by
  obtain ⟨t, rfl⟩ := Nat.exists_eq_add_of_le h
  have := (st_alike o c.eq t).2
  have k1 := st_le o (show j ≤ j + t by omega)
  have k2 := st_le o (show k ≤ k + t by omega)
  have k3 := st_mono o c.lt
  have lt := c.lt
  have e : j + t + (k - j) = k + t := by omega
  rw [e]
  unfold rws
  omega
theorem Cyc.steps (c : Cyc ls sz j k) (o : Ok ls sz) {m : Nat} (h : j ≤ m) : ∀ t, st ls sz (m + t * (k - j)) = st ls sz m + t * rws ls sz j k
  | 0 => by simp
  | t + 1 => by
    have ih := Cyc.steps c o h t
    have e : m + (t + 1) * (k - j) = (m + t * (k - j)) + (k - j) := by
      rw [Nat.succ_mul]
      omega
    rw [e, c.step o (show j ≤ m + t * (k - j) by omega), ih, Nat.succ_mul]
    omega
theorem Cyc.place (c : Cyc ls sz j k) (o : Ok ls sz) {m : Nat} (h : j ≤ m) (t : Nat) : st ls sz (m + t * (k - j)) % ls.length = st ls sz m % ls.length := by
  induction t with
  | zero => simp
  | succ t ih =>
    have lt := c.lt
    have h1 : j ≤ m + t * (k - j) := by omega
    obtain ⟨u, hu⟩ := Nat.exists_eq_add_of_le h1
    have al := (st_alike o c.eq u).1
    have e : m + (t + 1) * (k - j) = k + u := by
      rw [Nat.succ_mul]
      omega
    rw [e, ← al, ← hu, ih]
/-- different places are no more than the lengths -/
theorem dis_le (o : Ok ls sz) {k : Nat} (dis : ∀ a b, a < b → b < k → st ls sz a % ls.length ≠ st ls sz b % ls.length) : k ≤ ls.length := by
  have key : ∀ (n k : Nat) (f : Nat → Nat), (∀ a, a < k → f a < n) → (∀ a b, a < b → b < k → f a ≠ f b) → k ≤ n := by
    intro n
    induction n with
    | zero =>
      intro k f h _
      rcases k with _ | k
      · exact Nat.le_refl _
      · exact absurd (h 0 (by omega)) (by omega)
    | succ n ih =>
      intro k f h d
      rcases k with _ | k
      · omega
      · -- move the value n out of the way
        have := ih k (fun a => if f a = n then f k else f a) (fun a ha => by
          show (if f a = n then f k else f a) < n
          have h1 := h a (by omega)
          have h2 := h k (by omega)
          have h3 := d a k ha (by omega)
          split <;> omega) (fun a b hab hb => by
          show (if f a = n then f k else f a) ≠ (if f b = n then f k else f b)
          have h3 := d a k (by omega) (by omega)
          have h4 := d b k hb (by omega)
          have h5 := d a b hab (by omega)
          split <;> split <;> omega)
        omega
  exact key ls.length k (fun a => st ls sz a % ls.length) (fun a _ => Nat.mod_lt _ o.l1) dis
theorem Cyc.le (c : Cyc ls sz j k) (o : Ok ls sz) : k ≤ ls.length := dis_le o c.dis
/-- how many whole cycles off a row is -/
theorem Cyc.turns (c : Cyc ls sz j k) (o : Ok ls sz) (r : Nat) : ∃ t : Nat, (if ((r : Int) - (st ls sz j : Nat)) / (rws ls sz j k : Nat) > 0 then ((r : Int) - (st ls sz j : Nat)) / (rws ls sz j k : Nat) else 0) = (t : Int) ∧
    t * rws ls sz j k ≤ r ∧ (t = 0 ∨ st ls sz j + t * rws ls sz j k ≤ r) ∧ r - t * rws ls sz j k < st ls sz k ∧ t ≤ r := by
  have hR := c.rows o
  have hk := st_mono o c.lt
  have hRd : st ls sz j + rws ls sz j k = st ls sz k := by unfold rws; omega
  generalize rws ls sz j k = R at *
  generalize hsj : st ls sz j = S at *
  have hdm := Int.emod_add_mul_ediv ((r : Int) - (S : Nat)) (R : Nat)
  have hm0 := Int.emod_nonneg ((r : Int) - (S : Nat)) (show ((R : Nat) : Int) ≠ 0 by omega)
  have hm1 := Int.emod_lt_of_pos ((r : Int) - (S : Nat)) (show (0 : Int) < ((R : Nat) : Int) by omega)
  generalize ((r : Int) - (S : Nat)) / ((R : Nat) : Int) = D at *
  generalize ((r : Int) - (S : Nat)) % ((R : Nat) : Int) = M at *
  by_cases h : D > 0
  · rw [if_pos h]
    obtain ⟨t, rfl⟩ := Int.eq_ofNat_of_zero_le (show 0 ≤ D by omega)
    have e : ((t * R : Nat) : Int) = (R : Int) * t := by rw [Int.natCast_mul, Int.mul_comm]
    have hle : t ≤ t * R := Nat.le_mul_of_pos_right t hR
    refine ⟨t, rfl, ?_, .inr ?_, ?_, ?_⟩ <;> omega
  · rw [if_neg h]
    refine ⟨0, rfl, by simp, .inl rfl, ?_, by omega⟩
    have : (R : Int) * D ≤ 0 := Int.mul_nonpos_of_nonneg_of_nonpos (by omega) (by omega)
    simp
    omega
/-- the page of a row, by the cycle: t whole cycles off -/
theorem Cyc.on (c : Cyc ls sz j k) (o : Ok ls sz) {r t m : Nat} (h1 : t * rws ls sz j k ≤ r) (h2 : t = 0 ∨ st ls sz j + t * rws ls sz j k ≤ r) (hm : st ls sz m ≤ r - t * rws ls sz j k ∧ r - t * rws ls sz j k < st ls sz (m + 1)) :
    st ls sz (m + t * (k - j)) ≤ r ∧ r < st ls sz (m + t * (k - j) + 1) := by
  rcases h2 with rfl | h2
  · simpa using hm
  · have hj : j ≤ m := by
      rcases Nat.lt_or_ge m j with z | z
      · have := st_le o (show m + 1 ≤ j from z)
        omega
      · exact z
    have e1 := c.steps o hj t
    have e2 := c.steps o (show j ≤ m + 1 by omega) t
    have e3 : m + 1 + t * (k - j) = m + t * (k - j) + 1 := by omega
    rw [e3] at e2
    omega
/-- the page of a row -/
def On (ls : List Int) (sz : Int) (m r : Nat) : Prop := st ls sz m ≤ r ∧ r < st ls sz (m + 1)
theorem On.inj (o : Ok ls sz) {m n r : Nat} (h : On ls sz m r) (g : On ls sz n r) : m = n := by
  rcases Nat.lt_trichotomy m n with z | z | z
  · have := st_le o (show m + 1 ≤ n from z)
    have h2 := h.2
    have g1 := g.1
    omega
  · exact z
  · have := st_le o (show n + 1 ≤ m from z)
    have h1 := h.1
    have g2 := g.2
    omega
theorem on_ex (o : Ok ls sz) (r : Nat) : ∃ m, On ls sz m r := by
  induction r with
  | zero =>
    exact ⟨0, Nat.le_refl _, by have := st_lt o 0; have e : st ls sz 0 = 0 := rfl; omega⟩
  | succ r ih =>
    obtain ⟨m, h1, h2⟩ := ih
    by_cases z : r + 1 < st ls sz (m + 1)
    · exact ⟨m, by omega, z⟩
    · exact ⟨m + 1, by omega, by have := st_lt o (m + 1); omega⟩
theorem On.mono (o : Ok ls sz) {m n r s : Nat} (h : On ls sz m r) (g : On ls sz n s) (l : r ≤ s) : m ≤ n := by
  rcases Nat.lt_or_ge n m with z | z
  · have := st_le o (show n + 1 ≤ m from z)
    have := h.1
    have := g.2
    omega
  · exact z
theorem fit_le (o : Ok ls sz) {r e : Nat} (h : pre ls r e ≤ sz) : e ≤ cnt ls sz r := by
  rcases Nat.lt_or_ge (cnt ls sz r) e with z | z
  · have := pre_mono o r (show cnt ls sz r + 1 ≤ e from z)
    have h2 := (cnt_fill o r).2
    omega
  · exact z
/-- places of a cycle come again -/
theorem Cyc.again (c : Cyc ls sz j k) (o : Ok ls sz) {m : Nat} (h : j ≤ m) : st ls sz (m + (k - j)) % ls.length = st ls sz m % ls.length := by
  have := c.place o h 1
  rwa [Nat.one_mul] at this
/-- every page's place is that of one of the first pages -/
theorem Cyc.near (c : Cyc ls sz j k) (o : Ok ls sz) : ∀ m, j ≤ m → ∃ i, j ≤ i ∧ i < k ∧ st ls sz m % ls.length = st ls sz i % ls.length := by
  intro m
  induction m using Nat.strongRecOn with
  | _ m ih =>
    intro h
    rcases Nat.lt_or_ge m k with z | z
    · exact ⟨m, h, z, rfl⟩
    · have lt := c.lt
      obtain ⟨i, h1, h2, h3⟩ := ih (m - (k - j)) (by omega) (by omega)
      refine ⟨i, h1, h2, ?_⟩
      rw [← h3]
      have := c.again o (show j ≤ m - (k - j) by omega)
      rwa [show m - (k - j) + (k - j) = m by omega] at this
/-- a search by first page, then by pages, ends at the cycle -/
theorem Cyc.only (c : Cyc ls sz j k) (o : Ok ls sz) {f p : Nat} (hf : f ≤ j) (hp : 1 ≤ p) (hs : f = j → p ≤ k - j) (e : st ls sz f % ls.length = st ls sz (f + p) % ls.length) : f = j ∧ p = k - j := by
  have lt := c.lt
  rcases Nat.lt_or_ge f j with z | z
  · exfalso
    rcases Nat.lt_or_ge (f + p) k with y | y
    · exact c.dis f (f + p) (by omega) y e
    · obtain ⟨i, h1, h2, h3⟩ := c.near o (f + p) (by omega)
      exact c.dis f i (by omega) h2 (e.trans h3)
  · have hj : f = j := by omega
    have := hs hj
    refine ⟨hj, ?_⟩
    rcases Nat.lt_or_ge (f + p) k with y | y
    · exact absurd e (c.dis f (f + p) (by omega) y)
    · omega
/-- how many whole cycles off a page is -/
theorem Cyc.pturns (c : Cyc ls sz j k) (m : Nat) : ∃ t : Nat, (if ((m : Int) - (j : Nat)) / ((k - j : Nat) : Int) > 0 then ((m : Int) - (j : Nat)) / ((k - j : Nat) : Int) else 0) = (t : Int) ∧
    t * (k - j) ≤ m ∧ (t = 0 ∨ j ≤ m - t * (k - j)) ∧ m - t * (k - j) < k ∧ t ≤ m := by
  have lt := c.lt
  have hR : 0 < k - j := by omega
  have hjk : j + (k - j) = k := by omega
  generalize k - j = R at *
  have hdm := Int.emod_add_mul_ediv ((m : Int) - (j : Nat)) (R : Nat)
  have hm0 := Int.emod_nonneg ((m : Int) - (j : Nat)) (show ((R : Nat) : Int) ≠ 0 by omega)
  have hm1 := Int.emod_lt_of_pos ((m : Int) - (j : Nat)) (show (0 : Int) < ((R : Nat) : Int) by omega)
  generalize ((m : Int) - (j : Nat)) / ((R : Nat) : Int) = D at *
  generalize ((m : Int) - (j : Nat)) % ((R : Nat) : Int) = M at *
  by_cases h : D > 0
  · rw [if_pos h]
    obtain ⟨t, rfl⟩ := Int.eq_ofNat_of_zero_le (show 0 ≤ D by omega)
    have e : ((t * R : Nat) : Int) = (R : Int) * t := by rw [Int.natCast_mul, Int.mul_comm]
    have hle : t ≤ t * R := Nat.le_mul_of_pos_right t hR
    refine ⟨t, rfl, ?_, .inr ?_, ?_, ?_⟩ <;> omega
  · rw [if_neg h]
    refine ⟨0, rfl, by simp, .inl rfl, ?_, by omega⟩
    have : (R : Int) * D ≤ 0 := Int.mul_nonpos_of_nonneg_of_nonpos (by omega) (by omega)
    simp
    omega
/-- the first row of a page, by the cycle: t whole cycles off -/
theorem Cyc.start (c : Cyc ls sz j k) (o : Ok ls sz) {m t : Nat} (h1 : t * (k - j) ≤ m) (h2 : t = 0 ∨ j ≤ m - t * (k - j)) : st ls sz m = st ls sz (m - t * (k - j)) + t * rws ls sz j k := by
  rcases h2 with rfl | h2
  · simp
  · have := c.steps o h2 t
    rwa [Nat.sub_add_cancel h1] at this
/-! settings that pack alike -/
theorem lenAt_scale (ls : List Int) (t : Int) (r : Nat) : lenAt (ls.map fun l => l * t) r = lenAt ls r * t := by
  unfold lenAt
  rw [List.length_map, List.getD_eq_getElem?_getD, List.getD_eq_getElem?_getD, List.getElem?_map]
  cases ls[r % ls.length]? with
  | none => simp
  | some v => rfl
theorem pre_scale (ls : List Int) (t : Int) (r : Nat) : ∀ k, pre (ls.map fun l => l * t) r k = pre ls r k * t
  | 0 => by simp [pre]
  | k + 1 => by
    show pre (ls.map fun l => l * t) r k + lenAt (ls.map fun l => l * t) (r + k) = (pre ls r k + lenAt ls (r + k)) * t
    rw [pre_scale ls t r k, lenAt_scale, Int.add_mul]
theorem cnt_scale {ls2 : List Int} {sz2 t d : Int} (o : Ok ls sz) (o2 : Ok ls2 sz2) (hp : ∀ r k, pre ls2 r k = pre ls r k * t) (hs : sz2 = sz * t + d) (d0 : 0 ≤ d) (d1 : d < t) (r : Nat) : cnt ls2 sz2 r = cnt ls sz r := by
  have f := cnt_fill o r
  have h1 : pre ls r (cnt ls sz r) * t ≤ sz * t := Int.mul_le_mul_of_nonneg_right f.1 (by omega)
  have h2 : (sz + 1) * t ≤ pre ls r (cnt ls sz r + 1) * t := Int.mul_le_mul_of_nonneg_right (by have := f.2; omega) (by omega)
  rw [Int.add_mul, Int.one_mul] at h2
  refine cnt_is o2 ⟨?_, ?_⟩
  · rw [hp]
    omega
  · rw [hp]
    omega
theorem st_like {ls2 : List Int} {sz2 : Int} (h : ∀ r, cnt ls2 sz2 r = cnt ls sz r) : ∀ m, st ls2 sz2 m = st ls sz m
  | 0 => rfl
  | m + 1 => by rw [st_succ, st_succ, st_like h m, h]
theorem lenAt_twice (ls : List Int) (r : Nat) : lenAt (ls ++ ls) r = lenAt ls r := by
  unfold lenAt
  rcases Nat.eq_zero_or_pos ls.length with z | z
  · have e : ls = [] := List.eq_nil_of_length_eq_zero z
    subst e
    rfl
  · have hm : r % (ls.length + ls.length) % ls.length = r % ls.length := Nat.mod_mod_of_dvd r ⟨2, by omega⟩
    have hlt : r % (ls.length + ls.length) < ls.length + ls.length := Nat.mod_lt _ (by omega)
    rw [List.length_append, List.getD_eq_getElem?_getD, List.getD_eq_getElem?_getD, ← hm]
    generalize r % (ls.length + ls.length) = i at hlt
    rcases Nat.lt_or_ge i ls.length with y | y
    · rw [List.getElem?_append_left y, Nat.mod_eq_of_lt y]
    · have e : i % ls.length = i - ls.length := by
        rw [Nat.mod_eq_sub_mod y, Nat.mod_eq_of_lt (by omega)]
      rw [List.getElem?_append_right y, e]
theorem pre_twice (ls : List Int) (r : Nat) : ∀ k, pre (ls ++ ls) r k = pre ls r k
  | 0 => rfl
  | k + 1 => by
    show pre (ls ++ ls) r k + lenAt (ls ++ ls) (r + k) = pre ls r k + lenAt ls (r + k)
    rw [pre_twice ls r k, lenAt_twice]
theorem cnt_same {ls2 : List Int} (o : Ok ls sz) (o2 : Ok ls2 sz) (hp : ∀ r k, pre ls2 r k = pre ls r k) (r : Nat) : cnt ls2 sz r = cnt ls sz r := by
  have f := cnt_fill o r
  refine cnt_is o2 ⟨?_, ?_⟩
  · rw [hp]
    exact f.1
  · rw [hp]
    exact f.2
theorem Cyc.uniq {ls2 : List Int} {sz2 : Int} {j2 k2 : Nat} (c : Cyc ls sz j k) (c2 : Cyc ls2 sz2 j2 k2) (hl : ls2.length = ls.length) (hs : ∀ m, st ls2 sz2 m = st ls sz m) : j2 = j ∧ k2 = k := by
  have e1 := c.eq
  have e2 := c2.eq
  have d2 := c2.dis
  rw [hl, hs, hs] at e2
  simp only [hl, hs] at d2
  have l1 := c.lt
  have l2 := c2.lt
  have hk : k2 = k := by
    rcases Nat.lt_trichotomy k2 k with z | z | z
    · exact absurd e2 (c.dis j2 k2 l2 z)
    · exact z
    · exact absurd e1 (d2 j k l1 z)
  subst hk
  refine ⟨?_, rfl⟩
  rcases Nat.lt_trichotomy j2 j with z | z | z
  · exact absurd (e2.trans e1.symm) (c.dis j2 j z l1)
  · exact z
  · exact absurd (e1.trans e2.symm) (c.dis j j2 z l2)
theorem Cyc.twice {ls2 : List Int} {sz2 : Int} {j2 k2 : Nat} (o : Ok ls sz) (o2 : Ok ls2 sz2) (c : Cyc ls sz j k) (c2 : Cyc ls2 sz2 j2 k2) (hl : ls2.length = ls.length + ls.length) (hs : ∀ m, st ls2 sz2 m = st ls sz m) :
    j2 = j ∧ ∃ u, k2 - j2 = u * (k - j) ∧ rws ls2 sz2 j2 k2 = u * rws ls sz j k := by
  have l1 := c.lt
  have l2 := c2.lt
  have down : ∀ {a b : Nat}, a % (ls.length + ls.length) = b % (ls.length + ls.length) → a % ls.length = b % ls.length := fun {a b} h => by
    have h1 : a % (ls.length + ls.length) % ls.length = a % ls.length := Nat.mod_mod_of_dvd a ⟨2, by omega⟩
    have h2 : b % (ls.length + ls.length) % ls.length = b % ls.length := Nat.mod_mod_of_dvd b ⟨2, by omega⟩
    rw [← h1, ← h2, h]
  have e2 := c2.eq
  rw [hl, hs, hs] at e2
  have q2 := down e2
  have d2 := c2.dis
  simp only [hl, hs] at d2
  have mono := st_mono o l1
  -- the rows of a cycle are a multiple of the lengths
  have hR : ls.length ∣ rws ls sz j k := by
    have e := c.eq
    have er : st ls sz k = st ls sz j + rws ls sz j k := by unfold rws; omega
    rw [er] at e
    have a1 := Nat.div_add_mod (st ls sz j) ls.length
    have a2 := Nat.div_add_mod (st ls sz j + rws ls sz j k) ls.length
    rw [← e] at a2
    refine ⟨(st ls sz j + rws ls sz j k) / ls.length - st ls sz j / ls.length, ?_⟩
    rw [Nat.mul_sub]
    omega
  have hj1 : j ≤ j2 := by
    rcases Nat.lt_or_ge j2 j with z | z
    · exfalso
      rcases Nat.lt_or_ge k2 k with y | y
      · exact c.dis j2 k2 l2 y q2
      · obtain ⟨i, h1, h2, h3⟩ := c.near o k2 (by omega)
        exact c.dis j2 i (by omega) h2 (q2.trans h3)
    · exact z
  have hj2 : j2 ≤ j := by
    rcases Nat.lt_or_ge j j2 with z | z
    · exfalso
      have hm : j2 ≤ j + (2 * j2) * (k - j) := by
        have : 2 * j2 * 1 ≤ 2 * j2 * (k - j) := Nat.mul_le_mul_left _ (by omega)
        omega
      obtain ⟨i, h1, h2, h3⟩ := c2.near o2 (j + (2 * j2) * (k - j)) hm
      rw [hl, hs, hs, c.steps o (Nat.le_refl j)] at h3
      obtain ⟨g, hg⟩ := hR
      have e4 : 2 * j2 * rws ls sz j k = (ls.length + ls.length) * (j2 * g) := by
        rw [hg]
        have a1 : (ls.length + ls.length) = 2 * ls.length := by omega
        rw [a1, Nat.mul_assoc, Nat.mul_assoc, Nat.mul_left_comm j2 ls.length g]
      rw [e4, Nat.add_mul_mod_self_left] at h3
      exact d2 j i (by omega) h2 h3
    · exact z
  have ej : j2 = j := by omega
  subst ej
  refine ⟨rfl, (k2 - j2) / (k - j2), ?_⟩
  have hdm := Nat.div_add_mod (k2 - j2) (k - j2)
  have hv : (k2 - j2) % (k - j2) < k - j2 := Nat.mod_lt _ (by omega)
  generalize (k2 - j2) / (k - j2) = u at *
  generalize (k2 - j2) % (k - j2) = v at *
  have v0 : v = 0 := by
    rcases Nat.eq_zero_or_pos v with z | z
    · exact z
    · exfalso
      have ek : k2 = (j2 + v) + u * (k - j2) := by
        rw [Nat.mul_comm u]
        omega
      rw [ek, c.place o (by omega) u] at q2
      exact c.dis j2 (j2 + v) (by omega) (by omega) q2
  subst v0
  have ed : k2 - j2 = u * (k - j2) := by
    rw [Nat.mul_comm u]
    omega
  refine ⟨ed, ?_⟩
  have ek : k2 = j2 + u * (k - j2) := by omega
  have es := c.steps o (Nat.le_refl j2) u
  rw [← ek] at es
  unfold rws at es ⊢
  rw [hs, hs, es]
  omega
end
end Pk

namespace Kr
open L2 PySem PySem.Spec PyProof.Rows
/-! ### x *= y -/
def ipM : TIp := fun x y H Q => ∃ i j : Int, x = .int i ∧ y = .int j ∧ CMulW i j ∧ Q (.int (i * j)) H
theorem ip_mul {X : Cx} : PIp X .Mult ipM := by
  intro pins s0 st0 H x y v u Q I r1 r2 h
  obtain ⟨i, j, rfl, rfl, hm, q⟩ := h
  obtain ⟨t, rfl⟩ := r1
  obtain ⟨t', rfl⟩ := r2
  exact imul_int ⟨.int _, H, I.tok _, ⟨_, rfl⟩, q⟩ hm.ok
theorem r_ipM {i j : Int} {H : Hp} {Q : VK} (h : CMulW i j) (q : Q (.int (i * j)) H) : ipM (.int i) (.int j) H Q := ⟨i, j, rfl, rfl, h, q⟩
/-! ### a, b = xs for a list -/
theorem r_gLst {K : PySem.W.Frag} {n : Nat} {gs : TGs} {a : Addr} {xs : List V} {st0 : L2.St} {H : Hp} {QG : L2.St → Hp → Prop} (h : SqL K H a xs) (e : xs.length = n) (q : gs xs st0 H QG) : gLst K n gs (.ref a) st0 H QG := ⟨a, xs, rfl, h, e, q⟩
theorem pg_tupK {X : Cx} {K : PySem.W.Frag} {pos : Pos} {es : List Expr} {k : Nat} {t : TGs} {n : Nat} (hK : X.K = K) (hc : X.calm = true) (h : PGs X es t)
    (hn : (assignEach es X.env).length = n := by rfl) (hst : (assignEach es X.env).findIdx? (·.1) = none := by rfl) : PG X (.Tuple es k pos) (gTup K n t) := hK ▸ pg_tup hc h hn hst
/-! ### dicts with texts as keys -/
section
variable {H : Hp} {Q : VK} {v : V} {st0 : L2.St}
theorem r_dgS {a : Addr} {kvs : List (Key × V)} {k : Str} (h : H a = some (.dK kvs)) (e : valV kvs (Sum.inr k) = some v) (q : Q v H) : rDg (.ref a) (.str k) H Q := ⟨a, v, rfl, by rw [← e]; exact DGet.k (k := Sum.inr k) h, q⟩
theorem r_dpS {a : Addr} {kvs : List (Key × V)} {k : Str} {Qn : Hp → Prop} (h : H a = some (.dK kvs)) (hl : kvs.length < 100000) (q : Qn (upd H a (.dK (putK kvs (Sum.inr k) v)))) : rDp (.ref a) (.str k) v H Qn := ⟨a, _, rfl, DPut.k (k := Sum.inr k) h (szl hl), q⟩
def rDispE (p : Addr) (ps : List (V × V)) (H2 : Hp) (Q : VK) : Prop := H2 p = some (.dK []) ∧ ∃ kvs : List (Key × V), ps = kvs.map (fun kv => (kV kv.1, kv.2)) ∧ kvs.length ≤ 15 ∧ Q (.ref p) (upd H2 p (.dK (mergeK [] kvs)))
theorem r_disp {trs : List (TE × TE)} (q : ∀ p, H p = none → tPairs trs st0 (upd H p (.dK [])) fun ps H2 => rDispE p ps H2 Q) : tDisp trs st0 H Q := q
theorem r_pairs {tk tv : TE} {r : List (TE × TE)} {QP : List (V × V) → Hp → Prop} (q : tk st0 H fun x H1 => tv st0 H1 fun y H2 => tPairs r st0 H2 fun ps H3 => QP ((x, y) :: ps) H3) : tPairs ((tk, tv) :: r) st0 H QP := q
theorem r_pairs0 {QP : List (V × V) → Hp → Prop} (q : QP [] H) : tPairs [] st0 H QP := q
theorem r_dispE {p : Addr} {ps : List (V × V)} (kvs : List (Key × V)) (h : H p = some (.dK [])) (e : ps = kvs.map (fun kv => (kV kv.1, kv.2))) (hl : kvs.length ≤ 15) (q : Q (.ref p) (upd H p (.dK (mergeK [] kvs)))) : rDispE p ps H Q := ⟨h, kvs, e, hl, q⟩
end
/-! ### list(range(a, b)), whatever its ends -/
section
variable {prog : Program} {w : World} {A : Around} {E : Value → Shared → Prop} {s : Shared}
/-- what a walk over an iterator at the heap's end makes of an empty list at S -/
theorem long_loop {R : Result → Shared → Prop} {n : Nat} {lo : Int} (hh : A.handled = none) (hz : n ≤ sizeLine) (it S : Addr) (ne : S ≠ it) (out : Value) (c0 : Nat) (s1 : Shared)
    (hit : IsLongIter s1.heap it (lo + ((0 : Nat) : Int) * 1) ((n : Int) - ((0 : Nat) : Int)) 1) (hS : s1.heap.get? S = some { cls := .type "list", data := .seq #[] c0 })
    (hR : ∀ h2 tk2 items c2, (∀ b o, b ≠ S → b ≠ it → s1.heap.get? b = some o → h2.get? b = some o) → h2.get? S = some { cls := .type "list", dict := none, data := .seq items c2, slots := #[] } →
      ItemsOf (fun i v => ∃ t, v = .int (lo + i * 1) t) items n → R (.ok (.ret out)) { s1 with heap := h2, toks := tk2 }) :
    codeAny (model prog w) A (.builtin "list.extend.loop" ⟨[.ref S, .ref it, out], []⟩) R s1 := by
  have ws := (Walks.longrange (prog := prog) (w := w) (A := A.in1) hh it lo 1 n).toS
  refine codeAny_extend_loopS ws hz S (fun m => ne (List.mem_singleton.mp m)) out n 0 s1 #[] c0 rfl (Nat.zero_le n) hit hS (ItemsOf.nil _) ?_
  intro s2 items c2 mv hS2 got
  rw [Moved.eq_with mv]
  refine hR s2.heap s2.toks items c2 (fun b o n1 n2 e => mv.heap b o (fun m => ?_) e) hS2 got
  rcases List.mem_cons.mp m with z | z
  · exact n1 z
  · exact n2 (List.mem_singleton.mp z)
theorem long_extend {R : Result → Shared → Prop} {r : Addr} {a b : Int} {t u v : Tok} {n : Nat} (hh : A.handled = none) (hr : IsRange s.heap r a b 1 t u v) (big : Builtin.Range.small a b 1 = false)
    (hn : Builtin.Range.rangeSize a b 1 = n) (hz : n ≤ 2 ^ 24) (S : Addr) (out : Value) (c0 : Nat) (hS : s.heap.get? S = some { cls := .type "list", data := .seq #[] c0 })
    (hR : ∀ h2 tk2 items c2, (∀ b o, b ≠ S → s.heap.get? b = some o → h2.get? b = some o) → h2.get? S = some { cls := .type "list", dict := none, data := .seq items c2, slots := #[] } →
      ItemsOf (fun i v => ∃ t, v = .int (a + i * 1) t) items n → R (.ok (.ret out)) { s with heap := h2, toks := tk2 }) :
    wpAny (model prog w) A.in1 (Builtin.List.listExtendWith (.ref S) (.ref r) out)
      (fun z s2 => match z with | .done f => R (.ok f) s2 | .again c2 => c2.quiet = true ∧ codeAny (model prog w) A c2 R s2) (fun x s2 => R (.error x) s2) s := by
  have nr : S ≠ r := fun z => by
    rw [z, hr] at hS
    simp at hS
  have lt : S < s.heap.objs.size := Heap.lt_size hS
  have nI : S ≠ s.heap.objs.size := Nat.ne_of_lt lt
  have loop : ∀ (h1 : Heap) (c1 tk1 : Nat), IsLongIter h1 s.heap.objs.size (a + ((0 : Nat) : Int) * 1) ((n : Int) - ((0 : Nat) : Int)) 1 → (∀ b o, b ≠ S → s.heap.get? b = some o → h1.get? b = some o) → h1.get? S = some { cls := .type "list", data := .seq #[] c1 } →
      codeAny (model prog w) A (.builtin "list.extend.loop" ⟨[.ref S, .ref s.heap.objs.size, out], []⟩) R { s with heap := h1, toks := tk1 } := fun h1 c1 tk1 x1 x2 x3 =>
    long_loop hh (by rw [sizeLine_eq]; omega) _ S nI out c1 _ x1 x3 fun h2 tk2 items c2 y1 y2 y3 => hR h2 tk2 items c2 (fun b o nb e => y1 b o nb (Nat.ne_of_lt (Heap.lt_size e)) (x2 b o nb e)) y2 y3
  unfold Builtin.List.listExtendWith
  refine wpAny_bind (wpAny_typeOf (T := "range") ⟨_, hr, rfl⟩ ?_)
  have k1 : Builtin.List.listSameRef (.ref S) (.ref r) = false := by simp [Builtin.List.listSameRef, nr]
  have k2 : (Value.type "range" == Value.type "tuple") = false := by decide
  have k3 : (Value.type "range" == Value.type "list") = false := by decide
  simp only [k1, k3, k2, Bool.or_false, Bool.false_eq_true, if_false]
  refine wpAny_bind (wpAny_pyIter_longrange hr big ?_)
  refine wpAny_bind (wpAny_holding (wpAny_hint_range (n := n) (Heap.get?_push_of_some _ hr) hn hz ?_))
  have i1 : IsLongIter (s.heap.push { cls := .type "longrange_iterator", data := .fields #[rawInt a, rawInt (Builtin.Range.rangeSize a b 1), rawInt 1] }) s.heap.objs.size (a + ((0 : Nat) : Int) * 1) ((n : Int) - ((0 : Nat) : Int)) 1 := by
    show IsLongIter _ _ _ _ _
    rw [hn]
    simpa using Heap.get?_push_size _ rfl
  have g1 := Heap.get?_push_of_some { cls := .type "longrange_iterator", data := .fields #[rawInt a, rawInt (Builtin.Range.rangeSize a b 1), rawInt 1] } hS
  refine wpAny_ite_split (fun _ => ?_) fun _ => wpAny_pure ⟨plainId_quiet F.plain_extend_loop _, loop _ c0 _ i1 (fun b o _ e => Heap.get?_push_of_some _ e) g1⟩
  refine wpAny_bind (wpAny_rule (wpAny_bind ?_))
  show wpAny _ _ (updateSeq S (·.push .none) >>= fun _ => updateSeq S (·.pop)) _ _ _
  refine wpAny_bind (wpAny_updateSeq g1 rfl ?_)
  have g2 := Heap.get?_update_self (Obj.mapSeq (·.push Value.none)) g1 rfl
  refine wpAny_updateSeq (hz := by seq_fits) g2 rfl ?_
  have g3 := Heap.get?_update_self (Obj.mapSeq (·.pop)) g2 rfl
  refine wpAny_pure ⟨plainId_quiet F.plain_extend_loop _, loop _ _ _ ?_ (fun b o nb e => ?_) g3⟩
  · exact (Heap.get?_update_other _ _ nI).trans ((Heap.get?_update_other _ _ nI).trans i1)
  · exact (Heap.get?_update_other _ _ (Ne.symm nb)).trans ((Heap.get?_update_other _ _ (Ne.symm nb)).trans (Heap.get?_push_of_some _ e))
theorem long_init {R : Result → Shared → Prop} {r : Addr} {a b : Int} {t u v : Tok} {n : Nat} (hh : A.handled = none) (hr : IsRange s.heap r a b 1 t u v) (big : Builtin.Range.small a b 1 = false)
    (hn : Builtin.Range.rangeSize a b 1 = n) (hz : n ≤ 2 ^ 24) (S : Addr) (hS : s.heap.get? S = some { cls := .type "list", data := .seq #[] })
    (hR : ∀ h2 tk2 items c2, (∀ b o, b ≠ S → s.heap.get? b = some o → h2.get? b = some o) → h2.get? S = some { cls := .type "list", dict := none, data := .seq items c2, slots := #[] } →
      ItemsOf (fun i v => ∃ t, v = .int (a + i * 1) t) items n → R (.ok (.ret .none)) { s with heap := h2, toks := tk2 }) :
    wpAny (model prog w) A.in1 (Builtin.«list.__init__» ⟨[.ref S, .ref r], []⟩)
      (fun z s2 => match z with | .done f => R (.ok f) s2 | .again c2 => c2.quiet = true ∧ codeAny (model prog w) A c2 R s2) (fun x s2 => R (.error x) s2) s := by
  have nr : S ≠ r := fun z => by
    rw [z, hr] at hS
    simp at hS
  show wpAny _ _ (do
    let old ← Builtin.List.listItems (.ref S)
    Builtin.List.listUpdate (.ref S) (fun _ => #[])
    letGo old.toList.reverse
    Builtin.List.listExtendWith (.ref S) (.ref r) .none) _ _ s
  refine wpAny_bind ?_
  unfold Builtin.List.listItems
  refine wpAny_bind (wpAny_seqItems hS rfl (wpAny_pure ?_))
  show wpAny _ _ (updateSeq S (fun _ => #[]) >>= fun _ => letGo (#[] : Array Value).toList.reverse >>= fun _ =>
    Builtin.List.listExtendWith (.ref S) (.ref r) .none) _ _ s
  refine wpAny_bind (wpAny_updateSeq hS rfl ?_)
  have g2 := Heap.get?_update_self (Obj.mapSeq (fun _ => (#[] : Array Value))) hS rfl
  have els : ∀ b o, b ≠ S → s.heap.get? b = some o → (s.heap.update S (Obj.mapSeq (fun _ => (#[] : Array Value)))).get? b = some o :=
    fun b o nb e => (Heap.get?_update_other _ _ (Ne.symm nb)).trans e
  refine wpAny_bind (wpAny_letGo ?_)
  exact long_extend hh (els r _ (Ne.symm nr) hr) big hn hz S .none _ g2 fun h2 tk2 items c2 x1 x2 x3 => hR h2 tk2 items c2 (fun b o nb e => x1 b o nb (els b o nb e)) x2 x3
theorem long_list {Q : Value → Shared → Prop} {r : Addr} {a b : Int} {t u v : Tok} {n : Nat} (hh : A.handled = none) (hr : IsRange s.heap r a b 1 t u v) (big : Builtin.Range.small a b 1 = false)
    (hn : Builtin.Range.rangeSize a b 1 = n) (hz : n ≤ 2 ^ 24)
    (hQ : ∀ h2 tk2 items c2, (∀ b o, s.heap.get? b = some o → h2.get? b = some o) → h2.get? s.heap.objs.size = some { cls := .type "list", dict := none, data := .seq items c2, slots := #[] } →
      ItemsOf (fun i v => ∃ t, v = .int (a + i * 1) t) items n → Q (.ref s.heap.objs.size) { s with heap := h2, toks := tk2 }) :
    wpAny (model prog w) A (call (.type "list") [.ref r]) Q E s := by
  refine callType_codes (Q₁ := fun x s1 => x = .ref s.heap.objs.size ∧ s1 = { s with heap := s.heap.push { cls := .type "list", data := .seq #[] } }) F.called_list (F.typeCall_list_1 _) F.entry_list_init (code_list_new _ ⟨rfl, rfl⟩) ?_
  rintro _ _ ⟨rfl, rfl⟩
  have g : (s.heap.push { cls := .type "list", data := .seq #[] }).get? s.heap.objs.size = some { cls := .type "list", data := .seq #[] } := Heap.get?_push_size _ rfl
  refine ⟨⟨_, g, rfl⟩, F.args_list_init_2 _ _, ?_⟩
  refine long_init (A := A.in1) hh (Heap.get?_push_of_some _ hr) big hn hz _ g fun h2 tk2 items c2 x1 x2 x3 => ⟨rfl, ?_⟩
  exact hQ h2 tk2 items c2 (fun b o e => x1 b o (Nat.ne_of_lt (Heap.lt_size e)) (Heap.get?_push_of_some _ e)) x2 x3
end
section
variable {X : Cx} {e : Expr} {te : L2.St → Hp → (Int → Int → Hp → Prop) → Prop}
def rRgW2 (a b : Int) (H : Hp) (Q : VK) : Prop := (b - a).toNat ≤ 2 ^ 24 ∧ ∀ q, H q = none → Q (.ref q) (upd H q (.lst (rgV a b)))
def tLstRgW (te : L2.St → Hp → (Int → Int → Hp → Prop) → Prop) : TE := fun st0 H Q => te st0 H fun a b H1 => rRgW2 a b H1 Q
theorem pe_listRgW {p pos : Pos} (hc : X.calm = true) (hg : Gl X "list") (hm : X.mg "list" = none) (he : PRg X e te) (na : starEach [e] X.env = (false, eval e X.env) :: starEach [] X.env := by rfl) : PE X (.Call (.Name "list" p) [e] [] pos) (tLstRgW te) := by
  refine ⟨fun pins s0 st0 H Q I h => ?_⟩
  refine Call_ (ld_blt I hg hm boot_list (PyProof.Rows.callWith_type1 (args_cons (thn (he pins s0 st0 H _ I h) fun x s1 ⟨r, a, b, t, u, v, H1, ex, hr, I1, hz, q⟩ => args_nil ?_) na) na))
  subst ex
  have fin : ∀ h2 tk2 items c2, (∀ b o, s1.heap.get? b = some o → h2.get? b = some o) → h2.get? s1.heap.objs.size = some { cls := .type "list", dict := none, data := .seq items c2, slots := #[] } →
      ItemsOf (fun i v => ∃ t, v = .int (a + i * 1) t) items (b - a).toNat → EP X pins st0 Q (.ref s1.heap.objs.size) { s1 with heap := h2, toks := tk2 } := fun h2 tk2 items c2 keep at2 got => by
    refine ⟨.ref s1.heap.objs.size, upd H1 s1.heap.objs.size (.lst (rgV a b)), I1.laid keep (Nat.le_refl _) (show ObjOk X.prog X.w _ _ _ (.lst (rgV a b)) from ⟨?_, items.toList, c2, vals_rg got, ?_⟩), rfl, q _ (I1.hok.fresh (Nat.le_refl _))⟩
    · rw [rgV_length, sizeLine_eq]
      omega
    · rw [Array.toArray_toList]
      exact at2
  cases hsm : Builtin.Range.small a b 1 with
  | true => exact call_list_range (n := (b - a).toNat) (I1.ok.hd hc) hr hsm (rangeSize_nat a b) hz fin
  | false => exact long_list (n := (b - a).toNat) (I1.ok.hd hc) hr hsm (rangeSize_nat a b) hz fin
end
section
variable {st0 : L2.St} {H : Hp} {Q : VK}
theorem r_lstRgW {te : L2.St → Hp → (Int → Int → Hp → Prop) → Prop} (q : te st0 H fun a b H1 => rRgW2 a b H1 Q) : tLstRgW te st0 H Q := q
def rRg2P (x y : V) (R : Int → Int → Prop) : Prop := ∃ i j, x = .int i ∧ y = .int j ∧ R i j
theorem r_tRg2 {ta tb : TE} {R : Int → Int → Hp → Prop} (q : ta st0 H fun x H1 => tb st0 H1 fun y H2 => rRg2P x y fun i j => R i j H2) : tRg2 ta tb st0 H R := q
theorem r_rg2P {i j : Int} {R : Int → Int → Prop} (q : R i j) : rRg2P (.int i) (.int j) R := ⟨i, j, rfl, rfl, q⟩
theorem r_rgW2 {a b : Int} (h : (b - a).toNat ≤ 2 ^ 24) (q : rNew (.lst (rgV a b)) H Q) : rRgW2 a b H Q := ⟨h, q⟩
end
/-! ### == of a row of ints, or None -/
section
variable {K : PySem.W.Frag} {H : Hp} {Q : VK} {a b : Addr} {is js : List Int}
theorem r_eqNN (q : Q (.bl true) H) : rEqD K .non .non H Q := ⟨_, _, .non, .non, rfl, rfl, q⟩
theorem r_neNN (q : Q (.bl false) H) : rNeD K .non .non H Q := ⟨_, _, .non, .non, rfl, rfl, q⟩
end
theorem rgV_get {a b : Int} {i : Nat} (h : i < (b - a).toNat) : (rgV a b)[i]? = some (.int (a + (i : Nat))) := by
  unfold rgV
  rw [List.getElem?_map, List.getElem?_range h]
  rfl
end Kr

/-! Texts: rules with named readings, told at K. -/
namespace KrT
open Kr L2 PySem PySem.Spec PyProof.Rows
section
variable {X : Cx} {K : PySem.W.Frag} {o e : Expr} {to te : TE} {apos pos : Pos}
/-- str(an int) -/
def rStr : List V → Hp → VK → Prop := fun xs H Q => ∃ i : Int, xs = [.int i] ∧ i.natAbs.log2 < 1920 ∧ Q (.str (toString i)) H
theorem c_str : CallR X (.type "str") rStr := call_str_int
theorem r_str {i : Int} {H : Hp} {Q : VK} (h : i.natAbs.log2 < 1920) (q : Q (.str (toString i)) H) : rStr [.int i] H Q := ⟨i, rfl, h, q⟩
def rJoin (K : PySem.W.Frag) : V → List V → Hp → VK → Prop := fun x xs H Q => ∃ a p, ∃ ys : List Str, x = .str a ∧ xs = [.ref p] ∧ (SqL K H p (ys.map V.str) ∨ SqT K H p (ys.map V.str)) ∧ (ys.map (·.length)).sum + ys.length * a.length ≤ 16777216 ∧ Q (.str (Txt.join a ys)) H
theorem pe_joinK (h : X.K = K) (ho : PE X o to) (he : PE X e te) (hs : starEach [e] X.env = [(false, eval e X.env)] := by rfl) (hbase : attributeBase o "join" X.env (eval o X.env) = eval o X.env := by rfl) (hline : (apos.endLine == pos.line) = true := by rfl) :
    PE X (.Call (.Attribute o "join" apos) [e] [] pos) (tM1 (rJoin K) to te) := by
  subst h
  exact pe_join ho he hs hbase hline
theorem r_join {a : Str} {p : Addr} {ys : List Str} {H : Hp} {Q : VK} (h : H p = some (.lst (ys.map V.str))) (hz : (ys.map (·.length)).sum + ys.length * a.length ≤ 16777216) (q : Q (.str (Txt.join a ys)) H) : rJoin K (.str a) [.ref p] H Q := ⟨a, p, ys, rfl, rfl, .inl (SqL.of h), hz, q⟩
def rSplit : V → List V → Hp → VK → Prop := fun x xs H Q => ∃ a b, x = .str a ∧ xs = [.str b] ∧ (b.length == 0) = false ∧ a.length + 2 ≤ sizeLine ∧ rNewStrs (Txt.split a b) H Q
theorem pe_splitT (ho : PE X o to) (he : PE X e te) (hs : starEach [e] X.env = [(false, eval e X.env)] := by rfl) (hbase : attributeBase o "split" X.env (eval o X.env) = eval o X.env := by rfl) (hline : (apos.endLine == pos.line) = true := by rfl) :
    PE X (.Call (.Attribute o "split" apos) [e] [] pos) (tM1 rSplit to te) := pe_split ho he hs hbase hline
theorem r_split {a b : Str} {H : Hp} {Q : VK} (hb : (b.length == 0) = false) (hz : a.length + 2 ≤ sizeLine) (q : ∀ (p : Addr) (H' : Hp), H p = none → Same H H' → H' p = some (.lst ((Txt.split a b).map V.str)) → Q (.ref p) H') : rSplit (.str a) [.str b] H Q := ⟨a, b, rfl, rfl, hb, hz, fun p hp => q p _ hp (same_new hp) upd_same⟩
def rStarts : V → List V → Hp → VK → Prop := fun x xs H Q => ∃ a b, x = .str a ∧ xs = [.str b] ∧ Q (.bl (Txt.startswith a b)) H
theorem pe_starts (ho : PE X o to) (he : PE X e te) (hs : starEach [e] X.env = [(false, eval e X.env)] := by rfl) (hbase : attributeBase o "startswith" X.env (eval o X.env) = eval o X.env := by rfl) (hline : (apos.endLine == pos.line) = true := by rfl) :
    PE X (.Call (.Attribute o "startswith" apos) [e] [] pos) (tM1 rStarts to te) := pe_m1 F.slot_str_startswith F.type_str_startswith mt_startswith ho he hs hbase hline
theorem r_starts {a b : Str} {H : Hp} {Q : VK} (q : Q (.bl (Txt.startswith a b)) H) : rStarts (.str a) [.str b] H Q := ⟨a, b, rfl, rfl, q⟩
theorem r_m1 {r : V → List V → Hp → VK → Prop} {σ : L2.St} {H : Hp} {Q : VK} (q : to σ H fun x H1 => (∃ a, x = .str a) ∧ te σ H1 fun y H2 => r x [y] H2 Q) : tM1 r to te σ H Q := q
theorem r_dget1 {td ty : TE} {σ : L2.St} {H : Hp} {Q : VK} (q : td σ H fun x H1 => ∃ a, x = .ref a ∧ IsD H1 a ∧ ty σ H1 fun y H2 => ∃ o, DGet H2 a y o ∧ Q (o.getD .non) H2) : tDGet1 td ty σ H Q := q
end
section
variable {X : Cx}
/-- name = {k: v for ..} on one line, the name a local -/
theorem ps_setDc {i : Nat} {y : Str} {py : Pos} {kx vx tg iter : Expr} {ifs : List Expr} {scope : Scope} {own : List (Str × Nat)} {pos spos : Pos} {wi : TI} {g : TG} {tt : TT} {tk tv : TE} (hc : X.calm = true) (hN : X.N.Nodup) (hy : X.N[i]? = some y) (hyl : X.env.scope.names.lookup y = some .local)
    (hsw : swapsWith (.DictComp kx vx [⟨tg, iter, ifs, 0⟩] scope pos) (some (.Name y py)) spos.line X.env = pure true) (hi : PI X tg iter wi) (ok : BlkOk X.N X.env.scope scope own)
    (hg : ∀ (s : Shared) (H : Hp) (C : Addr) (cl : List (Str × Addr)) (fp : List Addr), PG (X.blk s H scope (compEnvC scope cl C X.env) fp) tg g) (ht : ∀ (s : Shared) (H : Hp) (C : Addr) (cl : List (Str × Addr)) (fp : List Addr), PTs (X.blk s H scope (compEnvC scope cl C X.env) fp) ifs tt)
    (hk : ∀ (s : Shared) (H : Hp) (C : Addr) (cl : List (Str × Addr)) (fp : List Addr), PE (X.blk s H scope (compEnvC scope cl C X.env) fp) kx tk)
    (he : ∀ (s : Shared) (H : Hp) (C : Addr) (cl : List (Str × Addr)) (fp : List Addr), PE (X.blk s H scope (compEnvC scope cl C X.env) fp) vx tv) (hs : ∀ x, foldedSetIterable iter X.env x = pure x := by intro _; rfl) :
    PS X (.Assign [.Name y py] (.DictComp kx vx [⟨tg, iter, ifs, 0⟩] scope pos) spos) (tAsg (tDc wi g tt tk tv (own.map (·.2))) (gName i)) := by
  refine ⟨fun pins s σ H D I h => ?_⟩
  rw [exec_Assign_Name_used _ _ _ _ hsw]
  refine wpAny_bind (wpAny_standAt (wpAny_bind ?_))
  show wpAny _ X.A (do let _ ← comprehension (.DictComp kx vx [⟨tg, iter, ifs, 0⟩] scope pos) scope X.env (firstIterPos [⟨tg, iter, ifs, 0⟩] pos) newDict false (eval iter X.env) (some (assign (.Name y py) X.env))) _ _ s
  have h : tDc wi g tt tk tv (own.map (·.2)) σ H (fun x H1 => gName i x σ H1 D.nx) := h
  refine wpAny_bind (thn (dc_core (Qf := fun _ s' => SP X pins D .next s') hc hN I hi ok hg ht hk he hs h fun L C s' m H' I' q hn f => ?_) fun _ s' hq => wpAny_pure (wpAny_pure hq))
  show wpAny _ _ (assign (.Name y py) X.env (.ref L)) _ _ _
  refine wpAny_assign_Name (store_ok2 (v := V.ref L) I' hN hy (.inl hyl) rfl (fun s2 I2 ⟨a, sb, ha⟩ => ?_) (.inr hyl))
  obtain ⟨f0, f1, f2, f3, f4, f5⟩ := f
  have haC : C ≠ a := by
    rcases ha with z | z
    · rw [z]; exact f1
    · exact fun e => f4 y a z e.symm
  refine ⟨m, hn.sameBut sb haC, fun h3 sb3 => ?_⟩
  exact ⟨_, H', I2.turned (t' := s2.toks) (fun b o hb e => (sb3.2 b hb).trans e) f0 f1 f3 f4 f5, q⟩
theorem sw_trueD {kx vx : Expr} {gs : List Comprehension} {scope : Scope} {pos py : Pos} {y : Str} {l : Nat} {env : Env} (hk : env.scope.kind = .function) (hy : env.scope.names.lookup y = some .local) (hl : (py.line == pos.line) = true)
    (ha : (scope.names.any fun (n, k) => n == y && (k == .local || k == .cell)) = false) : swapsWith (.DictComp kx vx gs scope pos) (some (.Name y py)) l env = pure true := by
  have ky : env.kindOf y = some .local := hy
  have hb : env.blockKind = .function := by unfold Env.blockKind; rw [hk]; rfl
  unfold swapsWith
  simp only [hb, ky, ha, Expr.pos, hl]
  rfl
theorem r_dc {wi : TI} {g : TG} {tt : TT} {tk tv : TE} {vs : List Nat} {σ : L2.St} {H : Hp} {Q : VK} (q : wi σ H fun J H1 => ∀ D, H1 D = none → ∃ W : Nat → Nat → Hp → Prop, (∃ m, W 0 m (upd H1 D (.dK []))) ∧ ∀ i m H, W i m H →
  (J.stop i H ∧ Q (.ref D) H) ∨ (J.go i H ∧ ∃ Nx : Hp → Prop, (∀ H', Nx H' → ∃ m', m' < m ∧ W (i + 1) m' H') ∧ ∀ x H', J.yld i H x H' → g x (wipe σ vs) H' fun σ2 H2 => wipe σ2 vs = wipe σ vs ∧ tt σ2 H2 fun b H3 =>
    if b = true then tk σ2 H3 fun y H4 => tv σ2 H4 fun z H5 => ∃ kvs k, y = kV k ∧ H5 D = some (.dK kvs) ∧ kvs.length < sizeLine ∧ Nx (upd H5 D (.dK (putK kvs k z))) else Nx H3)) : tDc wi g tt tk tv vs σ H Q := q
/-- over a range, with the slots written out -/
theorem dc_rangeS {lo : Int} {n : Nat} {g : TG} {tt : TT} {tk tv : TE} {vs : List Nat} {σ : L2.St} {H1 : Hp} {D : Addr} {Qd : Hp → Prop} (σ' : L2.St) (hσ : wipe σ vs = σ') (Pv : Nat → Hp → Prop) (h0 : Pv 0 (upd H1 D (.dK [])))
    (hs : ∀ i H, i < n → Pv i H → g (.int (lo + i)) σ' H fun σ2 H2 => wipe σ2 vs = σ' ∧ tt σ2 H2 fun b H3 =>
      if b = true then tk σ2 H3 fun y H4 => tv σ2 H4 fun z H5 => ∃ kvs k, y = kV k ∧ H5 D = some (.dK kvs) ∧ kvs.length < sizeLine ∧ Pv (i + 1) (upd H5 D (.dK (putK kvs k z))) else Pv (i + 1) H3) (hd : ∀ H, Pv n H → Qd H) :
    ∃ W : Nat → Nat → Hp → Prop, (∃ m, W 0 m (upd H1 D (.dK []))) ∧ ∀ i m H, W i m H →
      ((Itr lo n).stop i H ∧ Qd H) ∨ ((Itr lo n).go i H ∧ ∃ Nx : Hp → Prop, (∀ H', Nx H' → ∃ m', m' < m ∧ W (i + 1) m' H') ∧ ∀ x H', (Itr lo n).yld i H x H' → g x (wipe σ vs) H' fun σ2 H2 => wipe σ2 vs = wipe σ vs ∧ tt σ2 H2 fun b H3 =>
        if b = true then tk σ2 H3 fun y H4 => tv σ2 H4 fun z H5 => ∃ kvs k, y = kV k ∧ H5 D = some (.dK kvs) ∧ kvs.length < sizeLine ∧ Nx (upd H5 D (.dK (putK kvs k z))) else Nx H3) := by
  subst hσ
  refine ⟨fun i m H => m = n - i ∧ i ≤ n ∧ Pv i H, ⟨n, by simp, Nat.zero_le _, h0⟩, ?_⟩
  rintro i m H ⟨rfl, hi, hp⟩
  rcases Nat.lt_or_ge i n with z | z
  · refine .inr ⟨z, fun H' => Pv (i + 1) H', fun H' hp' => ⟨n - (i + 1), by omega, rfl, by omega, hp'⟩, fun x H' hy => ?_⟩
    obtain ⟨rfl, rfl⟩ := hy
    exact hs i _ z hp
  · have e : i = n := by omega
    subst e
    exact .inl ⟨Nat.le_refl _, hd H hp⟩
end
section
variable {K : PySem.W.Frag}
/-- a comprehension over the pairs of two lists, with the slots written out -/
theorem lc_zipS {a b : Addr} {xs ys : List V} {g : TG} {tt : TT} {te : TE} {vs : List Nat} {σ : L2.St} {H1 : Hp} {D : Addr} {Qd : Hp → Prop} (σ' : L2.St) (hσ : wipe σ vs = σ') (n : Nat) (hx : xs.length = n) (hy : ys.length = n) (Pv : Nat → Hp → Prop) (h0 : Pv 0 (upd H1 D (.lst []))) (hl : ∀ i H, i ≤ n → Pv i H → SqL K H a xs ∧ SqL K H b ys)
    (hs : ∀ i x y T H H', xs[i]? = some x → ys[i]? = some y → Pv i H → H T = none → Same H H' → H' T = some (.tup [x, y]) → g (.ref T) σ' H' fun σ2 H2 => wipe σ2 vs = σ' ∧ tt σ2 H2 fun b H3 =>
      if b = true then te σ2 H3 fun y H4 => ∃ acc, H4 D = some (.lst acc) ∧ acc.length < sizeLine ∧ Pv (i + 1) (upd H4 D (.lst (acc ++ [y]))) else Pv (i + 1) H3) (hd : ∀ H, Pv n H → Qd H) :
    ∃ W : Nat → Nat → Hp → Prop, (∃ m, W 0 m (upd H1 D (.lst []))) ∧ ∀ i m H, W i m H →
      ((Itz K a b).stop i H ∧ Qd H) ∨ ((Itz K a b).go i H ∧ ∃ Nx : Hp → Prop, (∀ H', Nx H' → ∃ m', m' < m ∧ W (i + 1) m' H') ∧ ∀ x H', (Itz K a b).yld i H x H' → g x (wipe σ vs) H' fun σ2 H2 => wipe σ2 vs = wipe σ vs ∧ tt σ2 H2 fun b H3 =>
        if b = true then te σ2 H3 fun y H4 => ∃ acc, H4 D = some (.lst acc) ∧ acc.length < sizeLine ∧ Nx (upd H4 D (.lst (acc ++ [y]))) else Nx H3) := by
  subst hσ
  refine ⟨fun i m H => m = n - i ∧ i ≤ n ∧ Pv i H, ⟨n, by simp, Nat.zero_le _, h0⟩, ?_⟩
  rintro i m H ⟨rfl, hi, hp⟩
  obtain ⟨sa, sb⟩ := hl i H hi hp
  rcases Nat.lt_or_ge i n with z | z
  · have ex : xs[i]? = some (xs[i]'(by omega)) := List.getElem?_eq_getElem (by omega)
    have ey : ys[i]? = some (ys[i]'(by omega)) := List.getElem?_eq_getElem (by omega)
    refine .inr ⟨⟨xs, ys, _, _, sa, sb, ex, ey⟩, fun H' => Pv (i + 1) H', fun H' hp' => ⟨n - (i + 1), by omega, rfl, by omega, hp'⟩, ?_⟩
    rintro x H' ⟨T, x1, y1, rfl, hT, rfl, h1, h2⟩
    exact hs i _ _ T H _ (h1 xs sa) (h2 ys sb) hp hT (same_new hT) upd_same
  · have e : i = n := by omega
    subst e
    exact .inl ⟨⟨xs, ys, sa, sb, .inl (by omega)⟩, hd H hp⟩
end
theorem r_zip {K : PySem.W.Frag} {ta : TA} {σ : L2.St} {H : Hp} {R : It → Hp → Prop} (q : ta σ H fun vs H1 => ∃ a b xs ys, vs = [.ref a, .ref b] ∧ SqL K H1 a xs ∧ SqL K H1 b ys ∧ R (Itz K a b) H1) : iZip K ta σ H R := q
/-! ### text * int, upper -/
def rMulS : V → V → Hp → VK → Prop := fun x y H Q => ∃ z k, x = .str z ∧ y = .int k ∧ PySem.MulOk z k ∧ Q (.str (Txt.mul z k)) H
theorem op_mulS {X : Cx} : OpR X (binaryOp .Mult) rMulS := by
  intro pins s σ H x y v u Q I rx ry h
  obtain ⟨i, j, rfl, rfl, hz, q⟩ := h
  obtain ⟨t, rfl⟩ := rx
  obtain ⟨t', rfl⟩ := ry
  exact SB.mul hz fun t' tk => ⟨.str _, H, I.tok _, ⟨_, rfl⟩, q⟩
theorem r_mulS {z : Str} {k : Int} {H : Hp} {Q : VK} (h : PySem.MulOk z k) (q : Q (.str (Txt.mul z k)) H) : rMulS (.str z) (.int k) H Q := ⟨z, k, rfl, rfl, h, q⟩
def rUpper : V → List V → Hp → VK → Prop := fun x xs H Q => ∃ a, x = .str a ∧ xs = [] ∧ a.length ≤ 5592405 ∧ Q (.str (Txt.upper a)) H
theorem pe_upperT {X : Cx} {o : Expr} {to : TE} {apos pos : Pos} (ho : PE X o to) (hbase : attributeBase o "upper" X.env (eval o X.env) = eval o X.env := by rfl) (hline : (apos.endLine == pos.line) = true := by rfl) :
    PE X (.Call (.Attribute o "upper" apos) [] [] pos) (tM0 rUpper to) := pe_upper ho hbase hline
theorem r_upper {a : Str} {H : Hp} {Q : VK} (h : a.length ≤ 5592405) (q : Q (.str (Txt.upper a)) H) : rUpper (.str a) [] H Q := ⟨a, rfl, rfl, h, q⟩
theorem r_m0 {r : V → List V → Hp → VK → Prop} {to : TE} {σ : L2.St} {H : Hp} {Q : VK} (q : to σ H fun x H1 => (∃ a, x = .str a) ∧ r x [] H1 Q) : tM0 r to σ H Q := q
/-! ### for k, v in d.items() -/
theorem r_lock {t : TS} {D : Ends} {σ : L2.St} {H : Hp} {d : Addr} {u : HO} (h : H d = some u) (mu : Mut (some u)) (q : ∀ (od : Obj) (H1 : Hp), (∀ b o, b ≠ d → H b = some o → H1 b = some o) → H1 d = some (.frz od u) →
    t ⟨fun σ' H' => H' d = some (.frz od u) ∧ D.nx σ' (upd H' d u), fun v H' => H' d = some (.frz od u) ∧ D.rt v (upd H' d u), fun σ' H' => H' d = some (.frz od u) ∧ D.bk σ' (upd H' d u), fun σ' H' => H' d = some (.frz od u) ∧ D.ct σ' (upd H' d u)⟩ σ H1) : tLock t D σ H :=
  ⟨d, u, h, mu, fun od => q od _ (fun b o n e => by rw [upd_ne n]; exact e) upd_same⟩
theorem r_items {td : TE} {σ : L2.St} {H : Hp} {R : It → Hp → Prop} (q : td σ H fun x H1 => ∃ d o kvs, x = .ref d ∧ H1 d = some (.frz o (.dK kvs)) ∧ R (Iti d o kvs) H1) : iItems td σ H R := q
theorem r_forI {d : Addr} {od : Obj} {kvs : List (Key × V)} {g : TG} {tb : TS} {D : Ends} {σ : L2.St} {H : Hp} (Pv : Nat → L2.St → Hp → Prop) (h0 : Pv 0 σ H) (hl : ∀ i σ H, i ≤ kvs.length → Pv i σ H → H d = some (.frz od (.dK kvs)))
    (hs : ∀ i k v σ H T H', kvs[i]? = some (k, v) → Pv i σ H → H T = none → Same H H' → H' T = some (.tup [kV k, v]) → g (.ref T) σ H' fun σ2 H2 => tb { D with nx := Pv (i + 1), ct := Pv (i + 1), bk := D.nx } σ2 H2) (hd : ∀ σ H, Pv kvs.length σ H → D.nx σ H) : rFor g tb D σ (Iti d od kvs) H := by
  refine ⟨fun i m σ H => m = kvs.length - i ∧ i ≤ kvs.length ∧ Pv i σ H, ⟨_, rfl, Nat.zero_le _, h0⟩, ?_⟩
  rintro i m σ H ⟨rfl, hi, h⟩
  rcases Nat.lt_or_ge i kvs.length with z | z
  · refine .inr ⟨⟨hl i σ H hi h, z⟩, Pv (i + 1), fun σ' H' p => ⟨_, ?_, rfl, z, p⟩, ?_⟩
    · omega
    · rintro v H' ⟨T, k, v, hkv, rfl, hT, rfl⟩
      exact hs i k v σ H T _ hkv h hT (same_new hT) upd_same
  · have e : i = kvs.length := by omega
    subst e
    exact .inl ⟨⟨hl _ σ H hi h, Nat.le_refl _⟩, hd σ H h⟩
theorem mem_putK {kvs : List (Key × V)} {k : Key} {v : V} {p : Key × V} (h : p ∈ putK kvs k v) : p ∈ kvs ∨ p = (k, v) := by
  unfold putK at h
  split at h
  · obtain ⟨q, hq, e⟩ := List.mem_map.mp h
    split at e
    · rename_i z
      rw [z] at e
      exact .inr e.symm
    · rw [e] at hq
      exact .inl hq
  · rcases List.mem_append.mp h with z | z
    · exact .inl z
    · rw [List.mem_singleton] at z
      exact .inr z
end KrT

namespace KrE
open Kr L2 PySem PySem.Spec PyProof.Rows
open PySem.HandSPX PySem.W Builtin Builtin.ObjectAttr
section
variable {prog : Program} {w : World} {A : Around} {E : Value → Shared → Prop} {R : Result → Shared → Prop} {hp : Heap} {g : Array GenState} {d : Drawn} {t : Nat} {os : OsState} {B : String} {bmB : List Value}
/-- the first field of an exception in the making, whatever built-in class it rests on -/
theorem first_field {K : W.Frag} {name : Str} {tk : Tok} {v : Value} {x C : Addr} {fv : Array Value} {cd : ClassData} (SF : StoreFacts B bmB "object.__setattr__" "object")
    (X : K.In hp) (hx : hp.get? x = some { cls := .ref C, data := .fields fv }) (hcd : W.clsIn K C = some cd) (ho : excOver K C bmB = true) (hh : cd.hasDict = true) (ht : takerIn K C name = some none)
    (hq : ∀ h' tk' dx, (∀ b o, b ≠ x → hp.get? b = some o → h'.get? b = some o) → hp.objs.size ≤ dx → dx ≠ x → h'.get? x = some { cls := .ref C, dict := some dx, data := .fields fv } →
      h'.Ns1 dx (fun y => if y = name then some v else none) → R (.ok (.ret .none)) ⟨h', g, d, tk', os⟩) :
    codeAny (model prog w) A (.call (.builtin "object.__setattr__") ⟨[.ref x, .str name tk, v], []⟩) R ⟨hp, g, d, t, os⟩ := by
  refine osa_openX (C := C) (od := none) (r := none) SF X (show InstAt hp x _ C none from ⟨hx, rfl, rfl, trivial⟩) ho ht fun b => ?_
  have hcls : W.Looks (model prog w) hp (classData C) cd := W.looks_clsIn X hcd
  have hxs : x ≠ hp.objs.size := Nat.ne_of_lt (Heap.lt_size hx)
  show wpAny _ _ (storeInOwnDict (.ref x) (.ref C) (.str name tk) name v b) _ _ _
  obtain ⟨nm, bs, mro, ns, qn, hd, sn, sb, ab, col, del⟩ := cd
  dsimp only at hh
  subst hh
  unfold storeInOwnDict ownDictForStores
  repeat (first | with_reducible refine store_in_new ?_ ?_ | with_reducible refine wpAny_loadPart_at hx ?_ | with_reducible refine hcls.at ?_ | wp_step)
  · exact ⟨_, #[], _, (Heap.get?_update_ne _ _ _ _ hxs.symm).trans (Heap.get?_push_at rfl rfl), rfl, fun e he => absurd he (by simp), fun _ => rfl⟩
  · intro h' tk' hn' hs
    have hx1 : (hp.push { cls := .type "dict", data := .dict #[] }).get? x = some { cls := .ref C, data := .fields fv } := Heap.get?_push_of_some _ hx
    refine hq h' tk' hp.objs.size (fun b o hb e => ?_) (Nat.le_refl _) hxs.symm ?_ hn'
    · exact (hs.2 b (Nat.ne_of_lt (Heap.lt_size e))).trans ((Heap.get?_update_ne _ _ _ _ hb).trans (Heap.get?_push_of_some _ e))
    · exact (hs.2 x hxs).trans (Heap.get?_update_self _ hx1 rfl)
end
/-- the built-in classes above -/
def lkTail : List Value := [.type "LookupError", .type "Exception", .type "BaseException", .type "object"]
/-- an own class over LookupError: what the written part says of it -/
structure ErrC (K : PySem.W.Frag) (C : Addr) : Prop where
  ini : PySem.W.excInitIn K C lkTail "LookupError.__new__" = true
  ov : PySem.W.excOver K C lkTail = true
  dc : PySem.W.hasDictIn K C = true
  sa : PySem.W.findIn K (.ref C) "__setattr__" = some (some (.builtin "object.__setattr__"))
  exC : PySem.W.subIn K (.ref C) (.type "BaseException") = some true
  tyC : PySem.W.typeIn K (.ref C) = some (.type "type")
  kC : PySem.W.keepIn K (.ref C) = true
section
variable {X : Cx} {pins : List (Addr × Obj)} {σ : L2.St} {H : Hp} {s : Shared} {a C : Addr} {f : Str} {y : V} {u : Value} {Q : Unit → Shared → Prop} {E : Value → Shared → Prop} {A : Around}
theorem put_first (T : ErrC X.K C) (I : Inv X pins σ H s) (e : H a = some (exo a C none)) (ht : PySem.W.takerIn X.K C f = some none) (ry : RelV y u)
    (h : ∀ dx s', H dx = none → dx ≠ a → Inv X pins σ (upd (upd H dx (exd dx [(f, y)])) a (exo a C (some dx))) s' → Q () s') : wpAny (model X.prog X.w) A (setAttr (.ref a) f u) Q E s := by
  obtain ⟨cd, hcl, hdc⟩ := any_some T.dc
  obtain ⟨t1, ho⟩ := exo_at I.hok e
  obtain ⟨hp, g, d, t, os⟩ := s
  refine PySem.W.set_plain I.kIn (od := none) (show PySem.W.InstAt hp a _ C none from ⟨ho, rfl, rfl, trivial⟩) T.sa ?_
  refine first_field PySem.F.store_LookupError I.kIn ho hcl T.ov hdc ht fun h' tk' dx k dn dne hx hn => ?_
  have free : H dx = none := I.hok.fresh dn
  have old : ∀ {b : Addr} {o : Obj}, hp.get? b = some o → b ≠ dx := fun q z => absurd (Heap.lt_size q) (by rw [z]; exact Nat.not_lt.mpr dn)
  have off : ∀ {b : Addr}, H b = none → b ≠ a := fun n z => by rw [z, e] at n; cases n
  have fix : ∀ {b : Addr} {o : HO}, H b = some o → o ≠ exo a C none → upd (upd H dx (exd dx [(f, y)])) a (exo a C (some dx)) b = some o := fun {b o} q z => by
    have n1 : b ≠ a := fun w => z (by rw [w, e] at q; exact (Option.some.inj q).symm)
    rw [upd_ne n1, upd_ne (ne_of_none q free)]
    exact q
  have un : Un X.fs [] H (upd (upd H dx (exd dx [(f, y)])) a (exo a C (some dx))) hp h' := by
    refine ⟨fun b o q n _ _ => k b o (off n) q, fun b o q n _ _ => ⟨o.slots, k b o (off n) q⟩, fun b o q n _ => by rw [upd_ne (off n), upd_ne (old q)]; exact n, fun b o q _ => ?_, fun b xs q => fix q (Ne.symm exo_tup), fun b o v q => fix q (Ne.symm exo_frz), fun b ps q => ⟨#[], by rw [fix q (Ne.symm exo_tbl)]; simp⟩⟩
    by_cases hb : b = a
    · exact ⟨_, by rw [hb]; exact hx⟩
    · exact ⟨o, k b o hb q⟩
  refine h dx _ free dne (I.un (t' := tk') un fun b o q => ?_)
  by_cases hb : b = a
  · subst hb
    rw [upd_same] at q
    obtain rfl := Option.some.inj q
    exact exo_ok hx
  rw [upd_ne hb] at q
  by_cases hd : b = dx
  · subst hd
    rw [upd_same] at q
    obtain rfl := Option.some.inj q
    exact exd_ok hn (relO_put (fs := []) ry fun _ => True.intro)
  rw [upd_ne hd] at q
  refine (I.hok b o q).stay (fun c v hc z => k c v ?_ z) (fun c hc => fix hc (Ne.symm exo_own)) fun c xs hc => fix hc (Ne.symm exo_tup)
  rcases hc with rfl | hc
  · exact hb
  · intro w
    rw [w, e] at hc
    exact exo_own (Option.some.inj hc)
end
/-- self.f = y, the first field of an exception in the making -/
def tErs (K : PySem.W.Frag) (f : Str) (to te : TE) : TS := fun D σ H => te σ H fun y H1 => to σ H1 fun x H2 => ∃ a C : Addr, x = .ref a ∧ ErrC K C ∧ PySem.W.takerIn K C f = some none ∧ H2 a = some (exo a C none) ∧
  ∀ dx, H2 dx = none → dx ≠ a → D.nx σ (upd (upd H2 dx (exd dx [(f, y)])) a (exo a C (some dx)))
section
variable {X : Cx} {o e : Expr} {es : List Expr} {to te : TE} {ta : TA} {f : Str} {p p' pos : Pos}
theorem ps_ers (ho : PE X o to) (he : PE X e te) (hs : swapsWith e (some (.Attribute o f p')) pos.line X.env = pure false := by rfl) : PS X (.Assign [.Attribute o f p'] e pos) (tErs X.K f to te) := by
  refine ⟨fun pins s0 st0 H D I h => ?_⟩
  refine plainObj_wpAny_Assign_Attribute (thn (he.run pins s0 st0 H _ I h) fun v s1 ⟨y, H1, I1, r1, q1⟩ => thn (ho.run pins s1 st0 H1 _ I1 q1) fun u s2 ⟨x, H2, I2, r2, a, C, ex, T, ht, ea, q⟩ => ?_) hs
  subst ex
  obtain rfl : u = Value.ref a := r2
  exact put_first T I2 ea ht r1 fun dx s' n1 n2 J => ⟨st0, _, J, q dx n1 n2⟩
theorem pmk_err {CX : CXT} {x : Str} {C fI : Addr} {k : Nat} {fd : FuncData} {ps : List Str} {sp : Sp} (T : ErrC X.K C) (iC : PySem.W.findIn X.K (.ref C) "__init__" = some (some (.ref fI))) (tI : PySem.W.typeIn X.K (.ref fI) = some (.type "function"))
    (F1 : FnOk X.prog X.w X.K X.mg X.base CX k fI fd ps sp) (hr : Room (k + 1) X.A) (hb : Binds X.K fd ps []) (hx : Passes CX X (fun _ _ _ => False)) (hg : Gl X x) (hm : X.mg x = some (.ref C)) (ha : PA X (e :: es) ta)
    (hdb : (x == ("__debug__" : Str)) = false := by decide) (he : starEach (e :: es) X.env = (false, eval e X.env) :: starEach es X.env := by rfl) (hpl : (backTo pos (starEach es X.env)).any (·.1) = false := by rfl) :
    PMk X (.Call (.Name x p) (e :: es) [] pos) (tMkO C sp [] ta) := by
  intro pins s0 st0 H Q I h
  refine wpAny_Call_Name_kw (ld_glob I hg hm ?_ hdb)
  refine PySem.W.callWith_K (h₀ := X.base) I.ok.mod.kin T.kC (thn (ha.run pos pins s0 st0 H _ I h) fun us s1 ⟨vs, H1, I1, r1, hz, q1⟩ => ⟨I1.kIn, ?_⟩) he hpl
  show wpAny _ _ (call (.ref C) us) _ _ _
  obtain ⟨nm, N, qn, bs, bm, hdct, sn, sub, ab, col, dd, k0, k1, k2, k3, k5, hC, hT⟩ := PySem.W.excInit_of I1.kIn T.ini
  obtain ⟨hp, g, dr, tk, os⟩ := s1
  have le1 : hp.objs.size ≤ hp.objs.size + 1 := Nat.le_succ _
  have free := I1.hok.fresh le1
  have hq := q1 _ free
  have grown : ∀ b o, hp.get? b = some o → ((hp.push (PySem.W.kdv_tup us)).push (PySem.HandSPX.excO C hp.objs.size)).get? b = some o := fun b o z => Heap.get?_push_of_some _ (Heap.get?_push_of_some _ z)
  have made : ((hp.push (PySem.W.kdv_tup us)).push (PySem.HandSPX.excO C hp.objs.size)).get? (hp.objs.size + 1) = some (PySem.HandSPX.excO C hp.objs.size) := by heap_get
  have I2 : Inv X pins st0 (upd H1 (hp.objs.size + 1) (exo (hp.objs.size + 1) C none)) ⟨(hp.push (PySem.W.kdv_tup us)).push (PySem.HandSPX.excO C hp.objs.size), g, dr, tk, os⟩ := I1.laid (t' := tk) (a := hp.objs.size + 1) (o := exo (hp.objs.size + 1) C none) (h' := (hp.push (PySem.W.kdv_tup us)).push (PySem.HandSPX.excO C hp.objs.size)) grown le1 (exo_ok made)
  have r2 : Vals (V.ref (hp.objs.size + 1) :: (vs ++ [])) (Value.ref (hp.objs.size + 1) :: (us ++ [])) := .cons rfl (r1.append .nil)
  have hl : (Value.ref (hp.objs.size + 1) :: us ++ []).length = ps.length := r2.length.symm.trans (F1.len _ _ _ _ hq)
  have few : us.length ≤ sizeLine := by
    have := Paired.length r1
    rw [sizeLine_eq]
    omega
  have bound : BindsTo ⟨(hp.push (PySem.W.kdv_tup us)).push (PySem.HandSPX.excO C hp.objs.size), g, dr, tk, os⟩ fd ⟨Value.ref (hp.objs.size + 1) :: us, []⟩ (ps.zip (Value.ref (hp.objs.size + 1) :: (us ++ []))) := hb _ (Value.ref (hp.objs.size + 1) :: us) I2.kIn hl
  refine wpAny_call (PySem.HandSPX.call_own PySem.F.excBase_LookupError hT hC (PySem.W.looks_findIn I1.kIn iC) (fun self => PySem.W.bind_fn I1.kIn self tI) few
    (codeAny_mono (F1.run _ X.stack _ _ ⟨Value.ref (hp.objs.size + 1) :: us, []⟩ (Value.ref (hp.objs.size + 1) :: (us ++ [])) _ _ (fun _ _ _ => False) (hr.make C us []) (I2.env0.make C us []) bound r2 hq) fun r s' z => ?_))
  cases r with
  | error er => exact hx pins st0 _ _ er s' I2 z
  | ok fl =>
    cases fl with
    | ret u =>
      obtain ⟨v, H2, os2, bare2, un2, hok2, rv, ev, d, fs, ea, ed, hd1, q2⟩ := z
      subst ev
      obtain ⟨h2, g2, d2, t2, os'⟩ := s'
      exact ⟨rv, mk_end (raises_own T.exC T.tyC) I1 le1 grown un2 hok2 os2 bare2 ea ed hd1 q2⟩
    | next => exact False.elim z
    | brk => exact False.elim z
    | cont => exact False.elim z
end
/-- the error class of the module's name x, its __init__ keeping sp -/
def ErH (P : Program) (w : World) (K : PySem.W.Frag) (mg : Str → Option Value) (base : Heap) (CX : CXT) (k : Nat) (x : Str) (C : Addr) (ps : List Str) (sp : Sp) : Prop :=
  ∃ (f : Addr) (fd : FuncData), mg x = some (.ref C) ∧ ErrC K C ∧ PySem.W.findIn K (.ref C) "__init__" = some (some (.ref f)) ∧ PySem.W.typeIn K (.ref f) = some (.type "function") ∧ Binds K fd ps [] ∧ FnOk P w K mg base CX k f fd ps sp
section
variable {X : Cx} {C : Addr} {k : Nat} {x : Str} {ps : List Str} {sp : Sp} {e : Expr} {es : List Expr} {ta : TA} {p pos : Pos}
theorem pmk_mk (h : ErH X.prog X.w X.K X.mg X.base CX0 k x C ps sp) (hr : Room (k + 1) X.A) (ha : PA X (e :: es) ta) (hg : Gl X x := by rfl)
    (hdb : (x == ("__debug__" : Str)) = false := by decide) (he : starEach (e :: es) X.env = (false, eval e X.env) :: starEach es X.env := by rfl) (hpl : (backTo pos (starEach es X.env)).any (·.1) = false := by rfl) :
    PMk X (.Call (.Name x p) (e :: es) [] pos) (tMkO C sp [] ta) := by
  obtain ⟨f, fd, hm, T, iC, tI, hb, F⟩ := h
  exact pmk_err T iC tI F hr hb pass0 hg hm ha hdb he hpl
end
def rErs (K : PySem.W.Frag) (f : Str) (y x : V) (H : Hp) (Qn : Hp → Prop) : Prop := ∃ a C : Addr, x = .ref a ∧ ErrC K C ∧ PySem.W.takerIn K C f = some none ∧ H a = some (exo a C none) ∧ ∀ dx, H dx = none → dx ≠ a → Qn (upd (upd H dx (exd dx [(f, y)])) a (exo a C (some dx)))
theorem r_sErs {K : PySem.W.Frag} {f : Str} {to te : TE} {D : Ends} {σ : L2.St} {H : Hp} (q : te σ H fun y H1 => to σ H1 fun x H2 => rErs K f y x H2 fun H3 => D.nx σ H3) : tErs K f to te D σ H := q
theorem r_ers {K : PySem.W.Frag} {f : Str} {y : V} {a C : Addr} {H : Hp} {Qn : Hp → Prop} (T : ErrC K C) (t : PySem.W.takerIn K C f = some none) (h : H a = some (exo a C none)) (q : ∀ dx, H dx = none → dx ≠ a → Qn (upd (upd H dx (exd dx [(f, y)])) a (exo a C (some dx)))) : rErs K f y (.ref a) H Qn := ⟨a, C, rfl, T, t, h, q⟩
/-- the making of an error, told by its end -/
def rMkE (C : Addr) (sp : Sp) (vs : List V) (H1 : Hp) (Q : XK) : Prop := vs.length ≤ 1000 ∧ ∀ a, H1 a = none → sp (.ref a :: (vs ++ [])) (upd H1 a (exo a C none))
  (fun v H2 => v = .non ∧ ∃ (d : Addr) (fs : List (Str × V)), H2 a = some (exo a C (some d)) ∧ H2 d = some (exd d fs) ∧ H1 d = none ∧ Q (.ref C) (some d) (upd (del H2 a) d (.xd fs))) (fun _ _ _ => False)
theorem r_mkE {C : Addr} {sp : Sp} {ta : TA} {σ : L2.St} {H : Hp} {Q : XK} (q : ta σ H fun vs H1 => rMkE C sp vs H1 Q) : tMkO C sp [] ta σ H Q := q
def errB (K : PySem.W.Frag) (C : Addr) : Bool := PySem.W.excInitIn K C lkTail "LookupError.__new__" && (PySem.W.excOver K C lkTail && (PySem.W.hasDictIn K C && (decide (PySem.W.findIn K (.ref C) "__setattr__" = some (some (.builtin "object.__setattr__"))) &&
  (decide (PySem.W.subIn K (.ref C) (.type "BaseException") = some true) && (decide (PySem.W.typeIn K (.ref C) = some (.type "type")) && PySem.W.keepIn K (.ref C))))))
theorem errB_ok {K : PySem.W.Frag} {C : Addr} (h : errB K C = true) : ErrC K C := by
  unfold errB at h
  simp only [Bool.and_eq_true, decide_eq_true_eq] at h
  exact ⟨h.1, h.2.1, h.2.2.1, h.2.2.2.1, h.2.2.2.2.1, h.2.2.2.2.2.1, h.2.2.2.2.2.2⟩
/-- the making of an error with one field -/
theorem r_mk1 {C : Addr} {f : Str} {v : V} {H1 : Hp} {Q : XK} {sp : Sp} (hsp : ∀ a H (Q' : VK), H a = some (exo a C none) → (∀ d, H d = none → d ≠ a → Q' .non (upd (upd H d (exd d [(f, v)])) a (exo a C (some d)))) → sp [.ref a, v] H Q' (fun _ _ _ => False))
    (q : ∀ d H', Same H1 H' → H1 d = none → H' d = some (.xd [(f, v)]) → Q (.ref C) (some d) H') : rMkE C sp [v] H1 Q := by
  refine ⟨by simp, fun a ha => hsp a _ _ upd_same fun d hd hda => ⟨rfl, d, [(f, v)], upd_same, by rw [upd_ne hda]; exact upd_same, by rw [upd_ne hda] at hd; exact hd, ?_⟩⟩
  rw [upd_ne hda] at hd
  refine q d _ (fun b o e => ?_) hd upd_same
  have n1 : b ≠ d := ne_of_none e hd
  have n2 : b ≠ a := ne_of_none e ha
  rw [upd_ne n1, del_ne n2, upd_ne n2, upd_ne n1, upd_ne n2]
  exact e
end KrE

namespace KrE
open Kr L2 PySem PySem.Spec PyProof.Rows
/-- what the body's exception asks where the first clause takes it by a name, in slot i -/
def wFst (K : PySem.W.Frag) (c : Value) (i : Nat) (ts : Addr → Value → Option Addr → TS) (D : Ends) : WX := fun cls d σ H => PySem.W.exmOne K cls c = some true ∧ ∀ a, H a = none →
  ts a cls d { nx := fun σ2 H2 => D.nx (σ2.set i none) H2, rt := D.rt, bk := fun σ2 H2 => D.bk (σ2.set i none) H2, ct := fun σ2 H2 => D.ct (σ2.set i none) H2 } (σ.set i (some (.ref a))) H
section
variable {X : Cx} {x n : Str} {c : Value} {i : Nat} {body suite : List Stmt} {b0 : Stmt} {np pos pos' : Pos} {tb : WX → TS} {ts : Addr → Value → Option Addr → TS} {hds : List ExceptHandler}
/-- try: .. except X as n: suite, further clauses behind it: where the first clause takes all that comes -/
theorem ps_try_first (hs : X.stack = X.env :: X.outer) (hf : X.env.frame = some X.env.locals) (hN : X.N.Nodup) (hi : X.N[i]? = some n) (hln : X.env.kindOf n = some .local) (hc : Names X x c)
    (hb : ∀ (W : WX) (pn : List (Addr × Obj)) (xe : Value → Shared → Prop), Takes (X.tr pn xe) W → PassesOwn (model X.prog X.w) X.A X.env xe → PSs (X.tr pn xe) body (tb W))
    (hsu : ∀ (a : Addr) (oe : Obj) (cls : Value) (d : Option Addr) (pn : List (Addr × Obj)), Zc cls d oe → (∃ vs, oe.data = .fields vs) → PSs (X.suite a ((a, oe) :: pn)) (b0 :: suite) (ts a cls d)) :
    PS X (.Try body (.ExceptHandler (some (.Name x np)) (some n) (b0 :: suite) pos' :: hds) [] [] pos) (fun D σ H => tb (wFst X.K c i ts D) D σ H) := by
  refine ⟨fun pins s0 st0 H D I h => ?_⟩
  have ok := I.ok
  have hfr : X.A.frames = some (X.env :: X.outer) := by rw [ok.frames, hs]
  refine wpAny_Try_except ?_
  refine wpAny_mono ((hb (wFst X.K c i ts D) (X.pn ++ pins) (fun e s1 => wpAny (model X.prog X.w) X.A (noteFrame e X.env) (fun _ s2 => wpAny (model X.prog X.w) X.A (setFlight e none) (fun _ s3 =>
    wpAny (model X.prog X.w) X.A (handleBy e X.env (.ExceptHandler (some (.Name x np)) (some n) (b0 :: suite) pos' :: hds)) (SP X pins D) X.xe s3) X.xe s2) X.xe s1) (fun u s' xx => ?_) PassesOwn.looking).run [] s0 st0 H D (I.toTry _) h) (fun f s1 z => ?_) (fun _ _ he => he)
  · obtain ⟨a, B, sI, pins', st1, H1, cls, d, rfl, J', nb, up, sky, na, os, ag, hit, go⟩ := xx
    have J : Inv X pins st1 H1 sI := J'.ofTry ok
    rw [hs] at sky
    show wpAny (model X.prog X.w) X.A (noteFrame (.ref a) X.env) _ _ _
    refine Sky.land Zc.steady hfr hf sky fun h3 fl3 up3 => ?_
    have J3 : Inv X pins st1 H1 { s' with heap := h3 } := J.landed nb fl3.1 (up.trans up3) os ag
    obtain ⟨oe3, vs3, he3, hz3, hd3⟩ := fl3.there
    have nfr : a ∉ frs (X.env :: X.outer) := fun hm => by
      obtain ⟨_, o', e', hnf⟩ := fl3.2.2.1.mem hm
      rw [he3] at e'
      obtain rfl := Option.some.inj e'
      exact hnf _ hd3
    have nL : a ≠ X.env.locals := fun z => nfr (List.mem_filterMap.mpr ⟨X.env, List.mem_cons_self, by rw [hf, z]⟩)
    have nF : a ∉ X.fs := fun hm => by
      obtain ⟨e, he, q⟩ := List.mem_filterMap.mp hm
      exact nfr (List.mem_filterMap.mpr ⟨e, List.mem_cons_of_mem _ he, q⟩)
    have S3 := J3.suite he3 hd3 na nL nF
    refine wpAny_handleBy_cons (codeAny_handlers_test ?_) (by intro q; cases q)
    have ty : PySem.W.Looks (model X.prog X.w) h3 (typeOf (.ref a)) cls := fun A Q E s k q => wpAny_typeOf_ref (k _ _ he3) (by rw [hz3.1]; exact q)
    have asked : ∀ {Q : Value → Shared → Prop} {E : Value → Shared → Prop}, Q c { s' with heap := h3 } → wpAny (model X.prog X.w) (X.A.mark (some (.ref a))) (eval (.Name x np) X.env) Q E { s' with heap := h3 } := fun {Q E} q => by
      obtain ⟨hg, hdbg, hm | ⟨hm, hv, hnn⟩⟩ := hc
      · exact ld_glob (X := X.suite a ((a, oe3) :: (X.pn ++ pins))) S3 hg hm q hdbg
      · exact ld_blt (X := X.suite a ((a, oe3) :: (X.pn ++ pins))) S3 hg hm hv q hnn hdbg
    refine asked ((PySem.W.exm_one (M := model X.prog X.w) J3.kIn ty hit).here (codeAny_handlers_suite_as (HandSPX.lands_againZ fl3 fun h4 fl4 up4 => ?_)))
    have J4 : Inv X pins st1 H1 { s' with heap := h4 } := J.landed nb fl4.1 ((up.trans up3).trans up4) os ag
    obtain ⟨oe4, vs4, he4, hz4, hd4⟩ := fl4.there
    have S4 := J4.suite he4 hd4 na nL nF
    refine store_ok (X := X.suite a ((a, oe4) :: (X.pn ++ pins))) (v := .ref a) S4 hN hi (.inl hln) rfl (fun s5 S5 => ?_) (.inr hln)
    refine wpAny_mono ((hsu a oe4 cls d (X.pn ++ pins) hz4 ⟨_, hd4⟩).run [] s5 _ H1 _ S5 (go a na)) (fun f s6 z => ?_) (fun _ _ z => False.elim z)
    have off : ∀ {st6 : L2.St} {H6 : Hp} {Q : Shared → Prop}, Inv (X.suite a ((a, oe4) :: (X.pn ++ pins))) [] st6 H6 s6 → (∀ s7, Inv X pins (st6.set i none) H6 s7 → Q s7) →
        wpAny (model X.prog X.w) X.A (do bindName X.env n .none; unbindBehindTheSuite X.env n pos') (fun _ s7 => Q s7) X.xe s6 := fun S6 hq => gone_ok (S6.unsuite ok) hN hi hln hq
    cases f with
    | next =>
      obtain ⟨st6, H6, S6, q6⟩ := z
      exact off S6 fun s7 J7 => ⟨_, _, J7, q6⟩
    | brk =>
      obtain ⟨st6, H6, S6, q6⟩ := z
      exact off S6 fun s7 J7 => ⟨_, _, J7, q6⟩
    | cont =>
      obtain ⟨st6, H6, S6, q6⟩ := z
      exact off S6 fun s7 J7 => ⟨_, _, J7, q6⟩
    | ret u =>
      obtain ⟨v6, st6, H6, S6, r6, q6⟩ := z
      exact off S6 fun s7 J7 => ⟨_, _, _, J7, r6, q6⟩
  · cases f with
    | next =>
      obtain ⟨st2, H2, J2, q⟩ := z
      exact wpAny_execs_nil ⟨st2, H2, J2.ofTry ok, q⟩
    | brk =>
      obtain ⟨st2, H2, J2, q⟩ := z
      exact ⟨st2, H2, J2.ofTry ok, q⟩
    | cont =>
      obtain ⟨st2, H2, J2, q⟩ := z
      exact ⟨st2, H2, J2.ofTry ok, q⟩
    | ret u =>
      obtain ⟨v, st2, H2, J2, r, q⟩ := z
      exact ⟨v, st2, H2, J2.ofTry ok, r, q⟩
end
end KrE

namespace KrE
open Kr L2 PySem PySem.Spec PyProof.Rows
/-! ### an object made by keywords where an error may leave, told by the slots as they stand -/
def tMakeKS (C : Addr) (n m : Nat) (sp : Sp) (E : L2.St → XK) (t tk : TA) : TE := fun σ H Q => t σ H fun vs H1 => tk σ H1 fun zs H2 => vs.length = n ∧ zs.length = m ∧ rMk C sp (E σ) (fun s => s :: vs ++ zs) H2 Q
section
variable {X : Cx} {CX : CXT} {k n : Nat} {C : Addr} {ps ks : List Str} {sp : Sp} {E : L2.St → XK} {x : Str} {p pos : Pos} {e : Expr} {es : List Expr} {kws : List Keyword} {t tk : TA}
theorem pe_mkES (h : MkK X.prog X.w X.K X.mg X.base CX k x C ps (n + 1) ks sp) (hr : Room (k + 1) X.A) (hx : ∀ σ, PassesAt CX X σ (E σ)) (ha : PA X (e :: es) t) (hkw : PK X kws tk) (hg : Gl X x := by rfl)
    (hall : (backToKw pos (keywordEach kws X.env)).all (·.1.isSome) = true := by rfl) (hks : (backToKw pos (keywordEach kws X.env)).filterMap (·.1) = ks := by rfl) (hdb : (x == ("__debug__" : Str)) = false := by decide)
    (he : starEach (e :: es) X.env = (false, eval e X.env) :: starEach es X.env := by rfl) (hpl : ((backTo pos (starEach (e :: es) X.env)).any (·.1) || (backToKw pos (keywordEach kws X.env)).any (·.1.isNone)) = false := by rfl) :
    PE X (.Call (.Name x p) (e :: es) kws pos) (tMakeKS C n ks.length sp E t tk) := by
  obtain ⟨f, fd, hm, M, hb, F⟩ := h
  refine ⟨fun pins s0 st0 H Q I hq0 => ?_⟩
  refine wpAny_Call_Name_kw (ld_glob I hg hm ?_ hdb)
  refine PySem.W.callWith_KW (h₀ := X.base) I.ok.mod.kin M.kp hall (thn (ha.run pos pins s0 st0 H _ I hq0) fun us s1 ⟨vs, H1, I1, r1, q1⟩ => thn (hkw.run pos pins s1 st0 H1 _ I1 q1) fun ws s2 ⟨zs, H2, I2, r2, l1, l2, q2⟩ => ⟨I2.kIn, ?_⟩) hpl he
  rw [hks]
  have made := Inv.made (C := C) I2
  have free1 : H2 (s2.heap.objs.size + 1) = none := I2.hok.fresh (Nat.le_succ _)
  have free0 : H2 s2.heap.objs.size = none := I2.hok.fresh (Nat.le_refl _)
  have promise := q2 (s2.heap.objs.size + 1) s2.heap.objs.size free1 free0 (Nat.ne_of_lt (Nat.lt_succ_self _))
  have rs : Vals (V.ref (s2.heap.objs.size + 1) :: vs) (Value.ref (s2.heap.objs.size + 1) :: us) := .cons rfl r1
  have many : (Value.ref (s2.heap.objs.size + 1) :: us).length = n + 1 := by rw [List.length_cons, ← r1.length, l1]
  refine wpAny_call (make_map (f := f) I2.kIn M.makes M.init (beq_iff_eq.mp M.fn) (codeAny_mono (F.run _ X.stack _ _ ⟨Value.ref (s2.heap.objs.size + 1) :: us, ks.zip ws⟩ _ _ _ (E st0) (hr.make C us (ks.zip ws))
    (made.env0.make C us (ks.zip ws)) (hb.to _ (Value.ref (s2.heap.objs.size + 1) :: us) ws made.kIn many (r2.length.symm.trans l2)) (hb.rel rs r2) promise) fun r s3 z => ?_))
  cases r with
  | error er => exact hx st0 pins _ _ er s3 made z
  | ok fl =>
    cases fl with
    | ret u =>
      obtain ⟨v, H3, I3, rv, ev, q3⟩ := made.after z
      subst ev
      exact ⟨rv, V.ref (s2.heap.objs.size + 1), H3, I3, rfl, q3⟩
    | next => exact False.elim z
    | brk => exact False.elim z
    | cont => exact False.elim z
end
theorem r_mkKS {C : Addr} {n m : Nat} {sp : Sp} {E : L2.St → XK} {t tk : TA} {σ : L2.St} {H : Hp} {Q : VK} (q : t σ H fun vs H1 => tk σ H1 fun zs H2 => vs.length = n ∧ zs.length = m ∧ rMk C sp (E σ) (fun s => s :: vs ++ zs) H2 Q) : tMakeKS C n m sp E t tk σ H Q := q
end KrE
namespace PySem.W
open PySem PySem.Spec PySem.Calls PyProof.Rows
section
variable {prog : Program} {w : World} {A : Around} {E : Value → Shared → Prop} {s : Shared} {K : Frag} {x D : Addr} {ox : Obj} {od : Option Obj}
theorem kr_dataFound {C : Addr} {name : Str} {a g : Value} (hc : (clsIn K C).isSome = true) (ha : findIn K (.ref C) name = some (some a)) (hg : specialIn K a "__get__" = some (some g)) (ht : takesIn K a = some true) : findObj K C od name = some (.bind g a) := by
  obtain ⟨cd, e⟩ := Option.isSome_iff_exists.mp hc
  unfold findObj
  simp [e, ha, hg, ht]
/-- what an own class of errors says of __class__ -/
structure KrErrT (K : Frag) (D : Addr) : Prop where
  ga : findIn K (.ref D) "__getattribute__" = some (some (.builtin "BaseException.__getattribute__"))
  gt : findIn K (.ref D) "__getattr__" = some none
  sb : subIn K (.ref D) (.type "BaseException") = some true
  dc : hasDictIn K D = true
  ca : findIn K (.ref D) "__class__" = some (some (.builtin "object.__class__"))
  cg : specialIn K (.builtin "object.__class__") "__get__" = some (some (.builtin "getset_descriptor.__get__"))
  ct : takesIn K (.builtin "object.__class__") = some true
  mo : mroIn K D (.type "object") = some true
def krErrT (K : Frag) (D : Addr) : Bool := decide (findIn K (.ref D) "__getattribute__" = some (some (.builtin "BaseException.__getattribute__"))) && (decide (findIn K (.ref D) "__getattr__" = some none) && (decide (subIn K (.ref D) (.type "BaseException") = some true) && (hasDictIn K D &&
  (decide (findIn K (.ref D) "__class__" = some (some (.builtin "object.__class__"))) && (decide (specialIn K (.builtin "object.__class__") "__get__" = some (some (.builtin "getset_descriptor.__get__"))) && (decide (takesIn K (.builtin "object.__class__") = some true) && decide (mroIn K D (.type "object") = some true)))))))
theorem krErrT_ok {K : Frag} {D : Addr} (h : krErrT K D = true) : KrErrT K D := by
  unfold krErrT at h
  simp only [Bool.and_eq_true, decide_eq_true_eq] at h
  exact ⟨h.1, h.2.1, h.2.2.1, h.2.2.2.1, h.2.2.2.2.1, h.2.2.2.2.2.1, h.2.2.2.2.2.2.1, h.2.2.2.2.2.2.2⟩
theorem kr_class {Q : Option Value → Shared → Prop} (T : KrErrT K D) (X : K.In s.heap) (I : InstAt s.heap x ox D od) (h : Q (some (.ref D)) { s with toks := s.toks + 1 }) : wpAny (model prog w) A (getAttr? (.ref x) "__class__") Q E s := by
  have found : findObj K D od "__class__" = some (.bind (.builtin "getset_descriptor.__get__") (.builtin "object.__class__")) := kr_dataFound (by obtain ⟨cd, e, _⟩ := any_some T.dc; rw [e]; rfl) T.ca T.cg T.ct
  obtain ⟨hp, g, d, t, os⟩ := s
  have lt := I.type (M := model prog w)
  have lg := looks_findIn (M := model prog w) X T.ga
  have lh := looks_findIn (M := model prog w) X T.gt
  have lf := looks_find (M := model prog w) X I found
  have below : Looks (model prog w) hp (isInstance (.ref x) (.type "BaseException")) true := lt.andThen (looks_subIn X T.sb)
  have n0 : (false && onTheHeap (Value.builtin "BaseException.__getattribute__")) = false := rfl
  have n1 : (onTheHeap (Value.ref D) && Value.builtin "BaseException.__getattribute__" == Value.builtin "object.__getattribute__") = false := by
    have : (Value.builtin "BaseException.__getattribute__" == Value.builtin "object.__getattribute__") = false := by decide +kernel
    rw [this]
    rfl
  unfold getAttr? getAttrBy? getAttrBy
  refine wpAny_bind (wpAny_mkText (wpAny_bind (wpAny_attempt (wpAny_holding (wpAny_bind (lt.at (wpAny_bind (lg.at ?_))))))))
  show wpAny _ _ (if (onTheHeap (Value.ref D) && Value.builtin "BaseException.__getattribute__" == Value.builtin "object.__getattribute__") = true then _ else _) _ _ _
  rw [n1, if_neg Bool.false_ne_true]
  unfold getAttrByItsOwn hookBefore
  refine wpAny_bind ?_
  rw [if_pos (show onTheHeap (Value.ref D) = true from rfl)]
  refine lh.at (wpAny_bind (wpAny_attempt (wpAny_holding ?_)))
  unfold callGetattribute
  rw [n0, if_neg Bool.false_ne_true]
  unfold boundAndCalled
  rw [PySem.F.excAttr_ValueError.ga.bind (.ref x)]
  refine wpAny_bind (wpAny_pure ?_)
  show wpAny _ _ (call (.builtin "BaseException.__getattribute__") [.ref x, .str "__class__" t]) _ _ _
  refine wpAny_call (codeAny_call_builtin PySem.F.excAttr_ValueError.ga.plain PySem.F.entry_bexc_ga (@check_slot (model prog w) _ _ ⟨hp, g, d, t + 1, os⟩ "BaseException.__getattribute__" "BaseException" "__getattribute__" (.ref x) [.str "__class__" t] [] _ (by decide +kernel) (by decide +kernel) below (PySem.F.args_bexc_ga (.ref x) (.str "__class__" t)) ?_))
  unfold Builtin.«object.__getattribute__»
  refine wpAny_bind (wpAny_of_eq (a := ((Value.ref x : Value), [Value.str "__class__" t])) (by first | rfl | (simp only [slotArgs]; rfl)) (wpAny_bind (wpAny_pure (wpAny_bind (lt.at (wpAny_bind (lf.at ?_)))))))
  show wpAny _ _ (holding [Value.builtin "object.__class__"] (call (.builtin "getset_descriptor.__get__") [.builtin "object.__class__", .ref x, .ref D]) >>= ret) _ _ _
  refine wpAny_bind (wpAny_holding (wpAny_call (class_get (s := ⟨hp, g, d, t + 1, os⟩) (ox := ox) (od := od) X I T.mo (wpAny_pure ?_))))
  show wpAny _ _ (handedOut (.ref D)) _ _ _
  rw [handedOut_of (v := .ref D) rfl]
  first
    | exact wpAny_pure (wpAny_pure h)
    | exact wpAny_pure h
    | exact wpAny_pure (wpAny_bind (wpAny_pure (wpAny_pure h)))
theorem kr_kitx (T : KrErrT K D) : KitX K (.ref x) (.ref D) (fun h => InstAt h x ox D od) := by
  obtain ⟨cd, ec, _⟩ := any_some T.dc
  unfold clsIn at ec
  split at ec
  rotate_left
  · cases ec
  rename_i c1 d1 cd1 sl1 ho
  refine ⟨fun _ _ _ I => I.type, fun _ _ Y _ => ?_, fun h tp dd its n sl Y htp => ?_, fun Y I k => kr_class T Y I k⟩
  · intro A' Q' E' s' k q
    unfold isType loadHead
    exact wpAny_bind (wpAny_loadPart (k _ _ (Y _ _ ho)) (wpAny_pure q))
  · refine Bool.eq_false_iff.mpr fun q => ?_
    have e : D = tp := Value.ref.inj (beq_iff_eq.mp q)
    subst e
    cases (Y _ _ ho).symm.trans htp
end
end PySem.W
namespace KrE
open Kr L2 PySem PySem.Spec PyProof.Rows
/-- isinstance(e, c), e the error that the suite holds, with its fields -/
def rIsD (K : PySem.W.Frag) (a : Addr) (cls : Value) (d : Option Addr) (C : Addr) : List V → Hp → VK → Prop := fun xs H Q => ∃ (c : V) (cv : Value) (b : Bool) (dd : Addr) (fs : List (Str × V)), xs = [.ref a, c] ∧ cls = .ref C ∧ d = some dd ∧ H dd = some (.xd fs) ∧ (∀ u, RelV c u → u = cv) ∧ PySem.W.kitOne K (.ref C) cv = some b ∧ Q (.bl b) H
theorem c_isD {X : Cx} {a C : Addr} {oe : Obj} {cls : Value} {d : Option Addr} {pn : List (Addr × Obj)} (T : PySem.W.KrErrT X.K C) (hz : Zc cls d oe) (hf : ∃ vs, oe.data = .fields vs) : CallR (X.suite a ((a, oe) :: pn)) (.builtin "isinstance") (rIsD X.K a cls d C) := by
  intro pins s0 st0 H xs us Q I r h
  obtain ⟨c, cv, b, dd, fs, rfl, rfl, rfl, ea, hcv, e, q⟩ := h
  obtain ⟨u1, u2, rfl, rx, rt⟩ : ∃ u1 u2, us = [u1, u2] ∧ RelV (.ref a) u1 ∧ RelV c u2 := by
    cases r with
    | cons rx rr =>
      cases rr with
      | cons rt rr =>
        cases rr
        exact ⟨_, _, rfl, rx, rt⟩
  obtain rfl : u1 = Value.ref a := rx
  obtain rfl := hcv _ rt
  obtain ⟨at1, -⟩ := I.pin (a, oe) (List.mem_append.mpr (.inl List.mem_cons_self))
  obtain ⟨vs, hv⟩ := hf
  obtain ⟨mA, hns, -⟩ : ObjOk X.prog X.w H s0.heap dd (.xd fs) := I.hok dd _ ea
  obtain ⟨od, ho, -⟩ := lookIn_ns hns
  have J : PySem.W.InstAt s0.heap a oe C (some od) := ⟨at1, hz.1, by unfold PySem.W.notCls; rw [hv] <;> rfl, by rw [hz.2]; exact ho⟩
  exact PySem.W.kia_one (PySem.W.kr_kitx T) I.kIn J e (fun z => nomatch z) fun tk => ⟨.bl b, H, I.kept (t' := tk) fun _ _ z => z, rfl, q⟩
theorem r_isD {K : PySem.W.Frag} {a C dd : Addr} {H : Hp} {Q : VK} {fs : List (Str × V)} {T : Addr} {b : Bool} (h : H dd = some (.xd fs)) (e : PySem.W.kitOne K (.ref C) (.ref T) = some b) (q : Q (.bl b) H) : rIsD K a (.ref C) (some dd) C [.ref a, .ref T] H Q := ⟨_, _, b, dd, fs, rfl, rfl, rfl, h, fun u r => r, e, q⟩
def rXf (a : Addr) (cls : Value) (d : Option Addr) (C : Addr) (f : Str) (x : V) (H : Hp) (Q : VK) : Prop := x = .ref a ∧ cls = .ref C ∧ ∃ (dd : Addr) (fs : List (Str × V)) (v : V), d = some dd ∧ H dd = some (.xd fs) ∧ fs.lookup f = some v ∧ Q v H
theorem r_tXf {a C : Addr} {cls : Value} {d : Option Addr} {f : Str} {te : TE} {σ : L2.St} {H : Hp} {Q : VK} (q : te σ H fun x H1 => rXf a cls d C f x H1 Q) : tXf a cls d C f te σ H Q := q
theorem r_xf {a C dd : Addr} {f : Str} {H : Hp} {Q : VK} {fs : List (Str × V)} {v : V} (h : H dd = some (.xd fs)) (l : fs.lookup f = some v) (q : Q v H) : rXf a (.ref C) (some dd) C f (.ref a) H Q := ⟨rfl, rfl, dd, fs, v, rfl, h, l, q⟩
end KrE

namespace KrL
open Kr L2 PySem PySem.Spec PyProof.Rows LamX
/-! ### a def whose code object is known -/
theorem okC {P : Program} {w : World} {K : PySem.W.Frag} {mg : Str → Option Value} {base : Heap} {nm qual : Str} {params : Arguments} {body : List Stmt} {scope : Scope} {f c : Addr} {fd : FuncData} {CX : CXT} {N ps : List Str} {k : Nat} {sp : Sp}
    (F : FunD K nm qual params body scope [] [] f fd) (hc : fd.code = .ref c) (S : FnScope N ps scope) (ln : ∀ vs H Q E, sp vs H Q E → vs.length = ps.length)
    (hb : ∀ (A : Around) (outer : List Env) (s : Shared) (H : Hp) (vs : List V) (Q : VK) (E : XK), Room k (A.deeper (envOfC qual scope s.heap.objs.size f (.ref c))) → sp vs H Q E →
      ∃ t, PSs (cxOf CX P w K mg base N qual scope f (.ref c) A outer s H E) body t ∧ t { nx := fun _ H' => Q .non H', rt := Q } (L2.start N vs) H) : FnOk P w K mg base CX (k + 1) f fd ps sp := by
  obtain ⟨oc, od, dV, kV, doc, pm, an, cdv, ct, osl, e, lk, hcd, -, -⟩ := F.ex
  subst e
  have e2 : cdv = .ref c := hc
  subst e2
  exact fn_of lk hcd S ln hb
/-- the def p of the program is made with the code object and the table that cT finds -/
theorem code_cT {K : PySem.W.Frag} {p : He.Defn} {nm qual : Str} {params : Arguments} {body : List Stmt} {scope : Scope} {fd : FuncData} (F : FunD K nm qual params body scope [] [] (He.fAd K p) fd) : fd.code = .ref (He.cT K p).1 := by
  obtain ⟨oc, od, dV, kV, doc, pm, an, cdv, ct, osl, e, lk, hcd, -, -⟩ := F.ex
  obtain ⟨c, hc⟩ := He.codeIn_ref hcd
  have e1 : fd.code = .ref c := by
    subst e
    exact hc
  have e2 : He.codeOf K p = c := He.codeOf_eq lk e1
  rw [e1]
  show Value.ref c = Value.ref (He.codeOf K p)
  rw [e2]
/-! ### the lambda called, where what it raises is wished for at the slots as they stand -/
section
variable {X : Cx} {pins : List (Addr × Obj)} {st0 : L2.St} {H : Hp} {s0 : Shared}
theorem act_at {Eg : XK} {CXg : CXT} {Ng : List Str} {qg : Str} {sg : Scope} {g f co : Addr} {cdg pm ctv : Value} {params : Arguments} {body : Expr} {scope : Scope} {k i : Nat} {a : Str} {pn : List (Addr × Obj)} {xe : Value → Shared → Prop} {W : WX} {tb : XK → TE} {p1 p2 : Pos}
    (I : Inv X pins st0 H s0) (L : LamS X.env.scope scope) (hf : s0.heap.get? f = some (PySem.W.kla_obj "<lambda>" (X.env.qual ++ "<lambda>") params body scope (cloFrom X.env.cells scope.names []) pm co ctv)) (hfn : H f = none) (hfr : f ∉ frs X.stack)
    (hbind : bindArgs (PySem.W.kla_fn "<lambda>" (X.env.qual ++ "<lambda>") params body scope (cloFrom X.env.cells scope.names []) pm (.ref co) ctv) ⟨[], []⟩ = pure [])
    (tk : Takes ((cxOf CXg X.prog X.w X.K X.mg X.base Ng qg sg g cdg X.A X.stack s0 H Eg).tr pn xe) W) (hr : Room (k + 1) (X.A.deeper (envOfC qg sg s0.heap.objs.size g cdg)))
    (hbody : ∀ (A : Around) (outer : List Env) (s : Shared) (H : Hp) (E1 : XK), Room k (A.deeper (lamEnv X scope s.heap.objs.size f co)) → PE (lamCx X A outer s H E1 scope f co) body (tb E1))
    (hN : Ng[i]? = some a) (hv : Vis sg a) (hd : (a == ("__debug__" : Str)) = false := by decide) (hcd : (a == ("__classdict__" : Str)) = false := by decide) :
    PE ((cxOf CXg X.prog X.w X.K X.mg X.base Ng qg sg g cdg X.A X.stack s0 H Eg).tr pn xe) (.Call (.Name a p1) [] [] p2)
      (fun stZ HZ Q => stZ[i]? = some (some (.ref f)) ∧ HZ co = some (CodeO co (X.env.qual ++ "<lambda>")) ∧ ∃ E : XK, (∀ cls d H', E cls d H' → W cls d stZ H') ∧ tb E st0 HZ Q) := by
  refine ⟨fun pinsZ sZ stZ HZ Q IZ hz => ?_⟩
  obtain ⟨hs, hc, E, hW, ht⟩ := hz
  refine wpAny_Call_Name_kw (thn ((pe_var (pos := p1) (i := i) hN hv hd hcd).run pinsZ sZ stZ HZ (fun v H1 => v = .ref f ∧ H1 = HZ) IZ ⟨.ref f, hs, rfl, rfl⟩) fun u s1 ⟨v, H1, I1, r1, q1⟩ => ?_)
  obtain ⟨ev, eH⟩ := q1
  subst ev
  rw [eH] at I1
  obtain rfl : u = Value.ref f := r1
  have at1 := I1.base.keep f _ hf hfn hfr (fun z => nomatch (show f ∈ ([] : List Addr) from z))
  refine PySem.W.callWith_F0 ⟨_, _, _, _, at1⟩ ?_
  have un : Un (frs X.stack) [] H HZ s0.heap s1.heap := I1.base
  obtain ⟨⟨oc, vs, t, hoc, hdc, hvc⟩, -, -⟩ := I1.hok co _ hc
  have rc : codeAny (model X.prog X.w) (X.A.deeper (envOfC qg sg s0.heap.objs.size g cdg)) (.call (.ref f) ⟨[], []⟩) (CR (L2.CX X.prog X.w) (envOfC qg sg s0.heap.objs.size g cdg :: X.stack) X.prog X.w HZ s1 Q E) s1 := by
    refine PySem.W.kla_callFunE hr.depth at1 rfl L.co L.gen rfl ⟨co, oc, vs, t, rfl, hoc, hdc, hvc⟩ ?_
    rw [hbind]
    refine wpAny_pure (wpAny_newFunctionEnv (fun y hy => (L.own y hy).2) (fun y hy => absurd hy (by simp)) (fun hh hns hsb => ⟨I1.nolimit.fresh _ hsb, ?_⟩) L.kind)
    show codeAny _ _ (.expr body (lamEnv X scope s1.heap.objs.size f co)) _ _
    have kp : ∀ b o, s1.heap.get? b = some o → hh.get? b = some o := fun b o e => hsb.extBut b o (Nat.ne_of_lt (Heap.lt_size e)) (Heap.get?_push_of_some _ e)
    have J := lam_start2 (E := E) (f := f) (c' := co) (tk := s1.toks + ([] : List (Str × Value)).length) I L I1.env0 hr.hd un hns kp
    refine PySem.W.kla_codeExpr (wpAny_mono ((hbody _ _ s1 HZ E (hr.deeper _)).run [] _ _ HZ Q J ht) (fun v s2 hq => ?_) fun e s2 hq => hq)
    obtain ⟨v2, H2, J2, rv, q⟩ := hq
    exact ⟨v2, H2, J2.os, J2.bare, J2.base, J2.hok, rv, q⟩
  refine wpAny_call (codeAny_mono rc fun r s2 hq => ?_)
  cases r with
  | error e =>
    exact tk e s2 (XE.of_call I1 hW hq)
  | ok fl =>
    cases fl with
    | ret u => exact I1.after hq
    | next => exact False.elim hq
    | brk => exact False.elim hq
    | cont => exact False.elim hq
end
/-- what a def makes of the lambda that it gets: it calls it by its parameter's name -/
def Gives (X : Cx) (Ng : List Str) (x : Str) (sg : Scope) (g : Addr) (cdg : Value) (bg : List Stmt) (a : Str) (TT : (XK → Hp → VK → Prop) → Hp → VK → Prop) : Prop :=
  ∀ (q : Str) (f co : Addr) (s0 : Shared) (H : Hp) (Q : VK) (tl : XK → Hp → VK → Prop),
    (∀ (W : WX) (pn : List (Addr × Obj)) (xe : Value → Shared → Prop) (p1 p2 : Pos), Takes ((cxOf C8.CX0 X.prog X.w X.K X.mg X.base Ng x sg g cdg X.A X.stack s0 H C8.E0).tr pn xe) W →
      PE ((cxOf C8.CX0 X.prog X.w X.K X.mg X.base Ng x sg g cdg X.A X.stack s0 H C8.E0).tr pn xe) (.Call (.Name a p1) [] [] p2) (fun stZ HZ Q => stZ[0]? = some (some (.ref f)) ∧ HZ co = some (CodeO co q) ∧ ∃ E : XK, (∀ cls d H', E cls d H' → W cls d stZ H') ∧ tl E HZ Q)) →
    H co = some (CodeO co q) → TT tl H Q →
    ∃ t, PSs (cxOf C8.CX0 X.prog X.w X.K X.mg X.base Ng x sg g cdg X.A X.stack s0 H C8.E0).nox bg t ∧ t { nx := fun _ H' => Q .non H', rt := Q } (L2.start Ng [.ref f]) H
/-- the module's def x takes a lambda and makes TT of it -/
def LamH (P : Program) (w : World) (K : PySem.W.Frag) (mg : Str → Option Value) (base : Heap) (x : Str) (TT : (XK → Hp → VK → Prop) → Hp → VK → Prop) : Prop :=
  ∃ (a : Str) (g : Addr) (fd : FuncData) (pg : Arguments) (bg : List Stmt) (sg : Scope) (Ng : List Str), mg x = some (.ref g) ∧ FunD K x x pg bg sg [] [] g fd ∧ L2.Binds K fd [a] [] ∧ FnScope Ng [a] sg ∧ Ng[0]? = some a ∧ Vis sg a ∧ (a == ("__debug__" : Str)) = false ∧ (a == ("__classdict__" : Str)) = false ∧
    ∀ (X : Cx) (cdv : Value), X.prog = P → X.w = w → X.K = K → X.mg = mg → X.base = base → Gives X Ng x sg g cdv bg a TT
section
variable {X : Cx}
theorem pe_lam {T : List (Addr × Str)} {TT : (XK → Hp → VK → Prop) → Hp → VK → Prop} {x : Str} {c P : Addr} {k : Nat} {params : Arguments} {body : Expr} {scope : Scope} {t : XK → TE} {p lpos pos : Pos} (h : LamH X.prog X.w X.K X.mg X.base x TT)
    (TB : TabB X.base X.mg c P) (hcode : X.env.code = .ref c) (hmT : (P, X.env.qual ++ "<lambda>") ∈ T) (hu : ∀ p ∈ T, p.1 = P → p.2 = X.env.qual ++ "<lambda>") (hr : Room (k + 2) X.A) (L : LamS X.env.scope scope)
    (hbody : ∀ (A : Around) (outer : List Env) (s : Shared) (H : Hp) (E1 : XK) (f co : Addr), Room k (A.deeper (lamEnv X scope s.heap.objs.size f co)) → PE (lamCx X A outer s H E1 scope f co) body (t E1)) (hg : Gl X x := by rfl)
    (hdef : defaultsOf params X.env = ([], []) := by rfl) (hbind : ∀ (q : Str) (cl : List (Str × Addr)) (pm cv ctv : Value), bindArgs (PySem.W.kla_fn "<lambda>" q params body scope cl pm cv ctv) ⟨[], []⟩ = pure [] := by intros; rfl) (hdb : (x == ("__debug__" : Str)) = false := by decide) :
    PE X (.Call (.Name x p) [.Lambda params body scope lpos] [] pos) (tLam T TT t) := by
  obtain ⟨a, g, fd, pg, bg, sg, Ng, hm, F, hb, Sg, hNg, hva, hd, hcd, hG⟩ := h
  obtain ⟨oc, od, dV, kV, doc, pm, an, cdv, ct, osl, efd, lk, hcg, -, -⟩ := F.ex
  subst efd
  refine ⟨fun pins s0 st0 H Q I hz => ?_⟩
  obtain ⟨hT, hz⟩ := hz
  refine wpAny_Call_Name_kw (ld_glob I hg hm ?_ hdb)
  refine PySem.W.callWith_K (h₀ := X.base) I.ok.mod.kin F.kp ?_ (by rfl) (by rfl)
  show wpAny _ _ (spliced ((false, eval (.Lambda params body scope lpos) X.env) :: backTo pos (starEach [] X.env))) _ _ s0
  refine Calls.spliced_cons (lam_make2 I TB hcode hmT hu hT hdef (L.has I.ok) fun f co pm1 ctv H1 s1 I1 eN T1 hf hfn hfr hco => ?_)
  refine Calls.spliced_nil ⟨I1.kIn, ?_⟩
  have rc : codeAny (model X.prog X.w) X.A (.call (.ref g) ⟨[.ref f], []⟩) (CR C8.CX0 X.stack X.prog X.w H1 s1 Q C8.E0) s1 := by
    refine run_ofS (N := Ng) (ps := [a]) (us := [.ref f]) (vs := [.ref f]) lk hcg Sg hr I1.env0 (hb s1 [.ref f] I1.kIn rfl) (.cons rfl .nil) rfl fun hr1 => ?_
    obtain ⟨t1, ht1, hq1⟩ := hG X cdv rfl rfl rfl rfl rfl (X.env.qual ++ "<lambda>") f co s1 H1 Q (fun E1 H2 Q2 => t E1 st0 H2 Q2) (fun W pn xe p1 p2 tk => act_at (i := 0) I1 L hf hfn hfr (hbind _ _ _ _ _) tk hr1 (fun A outer s H E1 hr2 => hbody A outer s H E1 f co hr2) hNg hva hd hcd) hco (hz H1 eN T1)
    exact ⟨t1, ht1.nox, hq1⟩
  refine wpAny_call (codeAny_mono rc fun r s2 hq => ?_)
  cases r with
  | error e => exact (show False from hq).elim
  | ok fl =>
    cases fl with
    | ret u => exact I1.after hq
    | next => exact False.elim hq
    | brk => exact False.elim hq
    | cont => exact False.elim hq
end
theorem tbu_ok {T : List (Addr × Str)} {P : Addr} {q : Str} (h : (T.all fun p => !decide (p.1 = P) || decide (p.2 = q)) = true) : ∀ p ∈ T, p.1 = P → p.2 = q := fun p hp e => by
  have := List.all_eq_true.mp h p hp
  simpa [e] using this
/-! ### calls that may raise -/
section
variable {X : Cx} {CX : CXT} {k : Nat} {C : Addr} {ps : List Str} {sp : Sp} {E : XK} {x m : Str} {p pos apos : Pos} {e o : Expr} {es : List Expr} {ta : TE} {t : TA}
theorem pe_mtE (h : MtH X.prog X.w X.K X.mg X.base CX k C m ps sp) (c : Cls X.K C) (hr : Room k X.A) (hx : Passes CX X E) (he : PE X o ta) (ha : PA X (e :: es) t) {pl : Sem Bool}
    (hst : starEach (e :: es) X.env = (false, eval e X.env) :: starEach es X.env := by rfl) (hpl : (backTo pos (starEach es X.env)).any (·.1) = false := by rfl)
    (ht : eval (.Call (.Attribute o m apos) (e :: es) [] pos) X.env = (do
      let ov ← eval o X.env
      standAt apos.atName
      let (f, first) ← holding [ov] (getMethod ov m pl)
      callWith pos f first (backTo pos (starEach (e :: es) X.env)) (backToKw pos (keywordEach [] X.env))) := by rfl) : PE X (.Call (.Attribute o m apos) (e :: es) [] pos) (tMeth C m sp [] E ta t) := by
  obtain ⟨f, fd, hm, hb, F⟩ := h
  exact pe_meth he c hm F hr hb .nil hx ha hst hpl ht
theorem pe_mkP (h : MkH X.prog X.w X.K X.mg X.base CX k x C ps sp) (hr : Room (k + 1) X.A) (hx : Passes CX X E) (ha : PA X (e :: es) t) (hg : Gl X x := by rfl) (hdb : (x == ("__debug__" : Str)) = false := by decide)
    (he : starEach (e :: es) X.env = (false, eval e X.env) :: starEach es X.env := by rfl) (hpl : (backTo pos (starEach es X.env)).any (·.1) = false := by rfl) : PE X (.Call (.Name x p) (e :: es) [] pos) (tMake C sp [] E t) := by
  obtain ⟨f, fd, hm, M, hb, F⟩ := h
  exact pe_make M F hr hg hm hb .nil hx ha hdb he hpl
end
section
variable {H H1 H2 : Hp}
theorem r_lam {T : List (Addr × Str)} {TT : (XK → Hp → VK → Prop) → Hp → VK → Prop} {t : XK → TE} {st0 : L2.St} {Q : VK} (hT : Tabs T H) (q : ∀ H1, ExtN H H1 → Tabs T H1 → TT (fun E1 H2 Q2 => t E1 st0 H2 Q2) H1 Q) : tLam T TT t st0 H Q := ⟨hT, q⟩
theorem ExtN.of_same (s : Same H H1) : ExtN H H1 := fun b o e _ => s b o e
end
theorem r_clear {l : Addr} {xs : List V} {H : Hp} {Q : VK} (h : H l = some (.lst xs)) (q : Q .non (upd H l (.lst []))) : rClear (.ref l) [] H Q := ⟨l, xs, rfl, rfl, h, q⟩
theorem op_inK {X : Cx} {K : PySem.W.Frag} (h : X.K = K) : OpR X (compareOp .In) (rIn K false) := h ▸ op_in_seq
theorem op_ninK {X : Cx} {K : PySem.W.Frag} (h : X.K = K) : OpR X (compareOp .NotIn) (rIn K true) := h ▸ op_notIn_seq
theorem lk_relabel {env : Env} {sc : Scope} {x : Str} (h : sc.names.lookup x = some .cell ∨ sc.names.lookup x = some .free) : (relabel sc env).names.lookup x = some .cell ∨ (relabel sc env).names.lookup x = some .free := by
  unfold relabel
  generalize sc.names = names at h ⊢
  show (names.map fun (n, k) => if (k == NameKind.free && env.scope.kind == .function && env.kindOf n == some .cell) then (n, NameKind.cell) else (n, k)).lookup x = some .cell ∨ (names.map fun (n, k) => if (k == NameKind.free && env.scope.kind == .function && env.kindOf n == some .cell) then (n, NameKind.cell) else (n, k)).lookup x = some .free
  induction names with
  | nil => simp at h
  | cons y r ih =>
    obtain ⟨n, k⟩ := y
    rw [List.map_cons]
    generalize List.map _ r = r' at ih ⊢
    show List.lookup x ((if (k == NameKind.free && env.scope.kind == .function && env.kindOf n == some .cell) = true then (n, NameKind.cell) else (n, k)) :: r') = some .cell ∨ List.lookup x ((if (k == NameKind.free && env.scope.kind == .function && env.kindOf n == some .cell) = true then (n, NameKind.cell) else (n, k)) :: r') = some .free
    by_cases hc : (k == NameKind.free && env.scope.kind == .function && env.kindOf n == some .cell) = true
    · rw [if_pos hc]
      cases hx : x == n with
      | true => simp [List.lookup_cons, hx]
      | false =>
        simp only [List.lookup_cons, hx] at h ⊢
        exact ih h
    · rw [if_neg hc]
      cases hx : x == n with
      | true =>
        simp only [List.lookup_cons, hx] at h ⊢
        exact h
      | false =>
        simp only [List.lookup_cons, hx] at h ⊢
        exact ih h
/-- a comprehension's block within another's -/
theorem blk_in {X : Cx} {N : List Str} {sc scope : Scope} {own : List (Str × Nat)} {s : Shared} {H : Hp} {C : Addr} {cl : List (Str × Addr)} {fp : List Addr} (hN : X.N = N) (h : blkC N sc scope own = true) : BlkOk (X.blk s H sc (compEnvC sc cl C X.env) fp).N (X.blk s H sc (compEnvC sc cl C X.env) fp).env.scope scope own := by
  subst hN
  have b := blkOk_by h
  refine ⟨b.kind, b.uniq, b.ix, fun y hy e => ?_, b.own⟩
  show (relabel sc X.env).names.lookup y.1 = some .cell ∨ (relabel sc X.env).names.lookup y.1 = some .free
  exact lk_relabel (b.free y hy e)
theorem sl_listK {X : Cx} {K : PySem.W.Frag} (h : X.K = K) : SlR X (rSlL K) := h ▸ sl_list
theorem op_catSK {X : Cx} {K : PySem.W.Frag} (h : X.K = K) : OpR X (binaryOp .Add) (rCatS K) := h ▸ op_catS
theorem op_eqDK {X : Cx} {K : PySem.W.Frag} (h : X.K = K) (hu : X.A.units + 64 < cLine) : OpR X (compareOp .Eq) (rEqD K) := h ▸ op_eqD hu
theorem op_neDK {X : Cx} {K : PySem.W.Frag} (h : X.K = K) (hu : X.A.units + 64 < cLine) : OpR X (compareOp .NotEq) (rNeD K) := h ▸ op_neD hu
theorem un65 {A : Around} {k : Nat} (hr : Room k A) : A.units + 65 < cLine := by
  have := hr.un
  omega
theorem pi_listK {X : Cx} {K : PySem.W.Frag} {tg l : Expr} {tl : TE} (h : X.K = K) (hl : PE X l tl) : PI X tg l (iList K tl) := h ▸ pi_list hl
theorem pi_tupK {X : Cx} {K : PySem.W.Frag} {tg l : Expr} {tl : TE} (h : X.K = K) (hl : PE X l tl) : PI X tg l (iTup K tl) := h ▸ pi_tup hl
end KrL

/-! A def called where an error may leave, told by the slots as they stand. -/
namespace KrE
open Kr L2 PySem PySem.Spec PyProof.Rows
section
variable {X : Cx} {CX : CXT} {k : Nat} {ps : List Str} {sp : Sp} {E : L2.St → XK} {x : Str} {p pos : Pos} {e : Expr} {es : List Expr} {t : TA}
theorem pe_clES (h : FnH X.prog X.w X.K X.mg X.base CX k x ps sp) (hr : Room k X.A) (hx : ∀ σ, PassesAt CX X σ (E σ)) (ha : PA X (e :: es) t) (hg : Gl X x := by rfl) (hdb : (x == ("__debug__" : Str)) = false := by decide)
    (he : starEach (e :: es) X.env = (false, eval e X.env) :: starEach es X.env := by rfl) (hpl : (backTo pos (starEach es X.env)).any (·.1) = false := by rfl) : PE X (.Call (.Name x p) (e :: es) [] pos) (tCallS sp E t) := by
  obtain ⟨f, fd, hm, hk, hb, F⟩ := h
  exact pe_callS F hr hg hm hk hb hx ha hdb he hpl
theorem r_clS {σ : L2.St} {H : Hp} {Q : VK} (q : t σ H fun vs H1 => sp vs H1 Q (E σ)) : tCallS sp E t σ H Q := q
end
end KrE
namespace KrT
open Kr L2 PySem PySem.Spec PyProof.Rows
/-! ### rows of texts compared -/
theorem dpStrs {K : PySem.W.Frag} {H : Hp} : ∀ xs : List Str, DpAll K H (xs.map V.str) (xs.map PyData.str)
  | [] => .nil
  | x :: r => .cons (.str x) (dpStrs r)
theorem eqvStrs : ∀ xs ys : List Str, PyData.eqvAll (xs.map PyData.str) (ys.map PyData.str) = decide (xs = ys)
  | [], [] => by simp [PyData.eqvAll]
  | [], _ :: _ => by simp [PyData.eqvAll]
  | _ :: _, [] => by simp [PyData.eqvAll]
  | a :: xs, b :: ys => by
    show (PyData.eqv (.str a) (.str b) && PyData.eqvAll (xs.map PyData.str) (ys.map PyData.str)) = _
    rw [eqvStrs xs ys]
    show ((a == b) && decide (xs = ys)) = decide (a :: xs = b :: ys)
    by_cases h : a = b <;> by_cases h2 : xs = ys <;> simp [h, h2]
theorem layStrs : ∀ {xs : List Str}, (∀ x ∈ xs, PyData.strOk x = true) → PyData.canLayAll0 (xs.map PyData.str) = true ∧ PyData.depthAll (xs.map PyData.str) = 0
  | [], _ => ⟨rfl, rfl⟩
  | x :: r, h => by
    have ih := layStrs (xs := r) fun z hz => h z (List.mem_cons_of_mem _ hz)
    have hx := h x List.mem_cons_self
    simp [PyData.canLayAll0, PyData.canLay0, PyData.depthAll, PyData.depth, ih, hx]
theorem shLS {xs : List Str} (h : ∀ x ∈ xs, PyData.strOk x = true) : SeqAt.shaped (.list (xs.map PyData.str)) = true := by simp [SeqAt.shaped, PyData.canLay0, PyData.depth, layStrs h]
section
variable {K : PySem.W.Frag} {H : Hp} {Q : VK} {a b : Addr} {xs ys : List Str}
theorem r_eqSS (ox : ∀ x ∈ xs, PyData.strOk x = true) (oy : ∀ x ∈ ys, PyData.strOk x = true) (h : SqL K H a (xs.map V.str)) (g : SqL K H b (ys.map V.str)) (q : Q (.bl (decide (xs = ys))) H) : rEqD K (.ref a) (.ref b) H Q :=
  ⟨_, _, .lst h (dpStrs xs), .lst g (dpStrs ys), shLS ox, shLS oy, by rw [show PyData.eqv (.list (xs.map PyData.str)) (.list (ys.map PyData.str)) = decide (xs = ys) from eqvStrs xs ys]; exact q⟩
theorem r_neSS (ox : ∀ x ∈ xs, PyData.strOk x = true) (oy : ∀ x ∈ ys, PyData.strOk x = true) (h : SqL K H a (xs.map V.str)) (g : SqL K H b (ys.map V.str)) (q : Q (.bl (!decide (xs = ys))) H) : rNeD K (.ref a) (.ref b) H Q :=
  ⟨_, _, .lst h (dpStrs xs), .lst g (dpStrs ys), shLS ox, shLS oy, by rw [show PyData.eqv (.list (xs.map PyData.str)) (.list (ys.map PyData.str)) = decide (xs = ys) from eqvStrs xs ys]; exact q⟩
end
/-! ### signs of a text -/
def rInS : V → V → Hp → VK → Prop := fun x y H Q => ∃ (c : Nat) (z : Str), x = .str ⟨#[c]⟩ ∧ y = .str z ∧ Q (.bl (decide (c ∈ z.cps.toList))) H
def rNinS : V → V → Hp → VK → Prop := fun x y H Q => ∃ (c : Nat) (z : Str), x = .str ⟨#[c]⟩ ∧ y = .str z ∧ Q (.bl (!decide (c ∈ z.cps.toList))) H
theorem op_inS {X : Cx} : OpR X (compareOp .In) rInS := op_in_sign
theorem op_ninS {X : Cx} : OpR X (compareOp .NotIn) rNinS := op_notIn_sign
def rIntS : List V → Hp → VK → Prop := fun xs H Q => ∃ a n, xs = [.str a] ∧ PySem.intText? a = some n ∧ a.length ≤ 640 ∧ Q (.int n) H
theorem c_intS {X : Cx} : CallR X (.type "int") rIntS := call_int_str
theorem r_intS {a : Str} {n : Int} {H : Hp} {Q : VK} (h : PySem.intText? a = some n) (hl : a.length ≤ 640) (q : Q (.int n) H) : rIntS [.str a] H Q := ⟨a, n, rfl, h, hl, q⟩
theorem r_iStr {te : TE} {σ : L2.St} {H : Hp} {R : It → Hp → Prop} (q : te σ H fun v H1 => ∃ x, v = .str x ∧ R (Its x) H1) : iStr te σ H R := q
theorem r_revL {K : PySem.W.Frag} {te : TE} {σ : L2.St} {H : Hp} {Q : VK} (q : te σ H fun x H1 => ∃ a xs, x = .ref a ∧ SqL K H1 a xs ∧ ∀ p, H1 p = none → Q (.ref p) (upd H1 p (.lst xs.reverse))) : tRevL K te σ H Q := q
/-- a comprehension over the signs of a text, with the slots written out -/
theorem lc_strS {z : Str} {g : TG} {tt : TT} {te : TE} {vs : List Nat} {σ : L2.St} {H1 : Hp} {D : Addr} {Qd : Hp → Prop} (σ' : L2.St) (hσ : wipe σ vs = σ') (Pv : Nat → Hp → Prop) (h0 : Pv 0 (upd H1 D (.lst [])))
    (hs : ∀ i c H, z.cps[i]? = some c → Pv i H → g (.str ⟨#[c]⟩) σ' H fun σ2 H2 => wipe σ2 vs = σ' ∧ tt σ2 H2 fun b H3 =>
      if b = true then te σ2 H3 fun y H4 => ∃ acc, H4 D = some (.lst acc) ∧ acc.length < sizeLine ∧ Pv (i + 1) (upd H4 D (.lst (acc ++ [y]))) else Pv (i + 1) H3) (hd : ∀ H, Pv z.cps.size H → Qd H) :
    ∃ W : Nat → Nat → Hp → Prop, (∃ m, W 0 m (upd H1 D (.lst []))) ∧ ∀ i m H, W i m H →
      ((Its z).stop i H ∧ Qd H) ∨ ((Its z).go i H ∧ ∃ Nx : Hp → Prop, (∀ H', Nx H' → ∃ m', m' < m ∧ W (i + 1) m' H') ∧ ∀ x H', (Its z).yld i H x H' → g x (wipe σ vs) H' fun σ2 H2 => wipe σ2 vs = wipe σ vs ∧ tt σ2 H2 fun b H3 =>
        if b = true then te σ2 H3 fun y H4 => ∃ acc, H4 D = some (.lst acc) ∧ acc.length < sizeLine ∧ Nx (upd H4 D (.lst (acc ++ [y]))) else Nx H3) := by
  subst hσ
  refine ⟨fun i m H => m = z.cps.size - i ∧ i ≤ z.cps.size ∧ Pv i H, ⟨z.cps.size, by simp, Nat.zero_le _, h0⟩, ?_⟩
  rintro i m H ⟨rfl, hi, hp⟩
  rcases Nat.lt_or_ge i z.cps.size with y | y
  · refine .inr ⟨y, fun H' => Pv (i + 1) H', fun H' hp' => ⟨z.cps.size - (i + 1), by omega, rfl, by omega, hp'⟩, ?_⟩
    rintro x H' ⟨rfl, c, hc, rfl⟩
    exact hs i c _ hc hp
  · have e : i = z.cps.size := by omega
    subst e
    exact .inl ⟨Nat.le_refl _, hd H hp⟩
end KrT
namespace KrT
open Kr L2 PySem PySem.Spec PyProof.Rows
/-! ### xs += ys -/
def ipE : TIp := rExt2
theorem ip_ext {X : Cx} : PIp X .Add ipE := fun p s t H x y v u Q I a b h => iop_ext p s t H x y v u Q I a b h
theorem r_ipE {l b : Addr} {xs zs : List V} {H : Hp} {Q : VK} (h : H l = some (.lst xs)) (g : H b = some (.lst zs)) (hz : xs.length + zs.length ≤ 100000) (q : Q (.ref l) (upd H l (.lst (xs ++ zs)))) : ipE (.ref l) (.ref b) H Q := ⟨l, b, xs, zs, rfl, rfl, h, g, Nat.le_trans hz (by rw [sizeLine_eq]; decide), q⟩
end KrT

/-! max of a tuple, gcd, x //= j, index of flat things. -/
namespace KrH
open L2 PySem PySem.Spec PyProof.Rows Kr
/-! ### max(t) of a tuple of ints -/
theorem max_intTup {prog : Program} {w : World} {A : Around} {E : Value → Shared → Prop} {s : Shared} {l : Addr} {its : List Value} {ns : List Int} {Q : Value → Shared → Prop} (hh : A.handled = none) (hl : s.heap.IsTuple l its.toArray) (hi : IntsAre its ns) (hne : 0 < ns.length)
    (h : ∀ h' tk M t', (∀ b o, s.heap.get? b = some o → h'.get? b = some o) → M ∈ ns → (∀ a, a ∈ ns → a ≤ M) → Q (.int M t') { s with heap := h', toks := tk }) : wpAny (model prog w) A (call (.builtin "max") [.ref l]) Q E s := by
  obtain ⟨xs, e⟩ := hi.allInts.items
  have hn : numsOf (intItems xs).toList = ns := by rw [← e]; exact hi.numsOf
  rw [nums_intItems] at hn
  subst hn
  rw [e] at hl
  have hsz : 0 < xs.size := by simpa using hne
  obtain ⟨o, ho, hrest⟩ := id hl
  have hlt : l < s.heap.objs.size := Heap.lt_size ho
  refine PySem.call_max_walk (wpAny_pyIter_tuple hl ?_)
  refine ⟨s.heap.objs.size, _, [s.heap.objs.size], _, _, _, _, rfl, Walks.tuple (A := A.in1) hh s.heap.objs.size l (Nat.ne_of_lt hlt) (intItems xs), ⟨⟨_, Heap.get?_push_size _ rfl, rfl, rfl⟩, IsTup.push hl _⟩, fun b hb => ?_, by simpa [intItems] using hsz, CmpOf.ints_gt (numAt xs) (fun _ _ => intItems_at), fun v h' tk hP hk => ?_⟩
  · rw [Heap.size_push]
    simp only [List.mem_cons, List.not_mem_nil, or_false] at hb
    rcases hb with rfl | rfl
    · exact Nat.lt_succ_self _
    · exact Nat.lt_succ_of_lt hlt
  have hP2 : (intItems xs)[argBest (fun i j => decide (numAt xs i > numAt xs j)) (xs.size - 1)]? = some v := by simpa [intItems] using hP
  obtain ⟨t, rfl⟩ := intItems_at hP2
  obtain ⟨h1, h2⟩ := argBest_gt (numAt xs) (xs.size - 1)
  refine h h' tk _ t (fun b o e => hk b o (fun z => by
    rw [List.mem_singleton] at z
    rw [z] at e
    exact absurd (Heap.lt_size e) (Nat.lt_irrefl _)) (Heap.get?_push_of_some _ e)) ?_ fun a ha => ?_
  · rw [numAt_eq]; exact PySem.getD_mem (by rw [List.length_map, Array.length_toList]; omega)
  · obtain ⟨j, hj, rfl⟩ := mem_getD ha
    rw [List.length_map, Array.length_toList] at hj
    rw [← numAt_eq]; exact h2 j (by omega)
def rMaxT (K : PySem.W.Frag) : List V → Hp → VK → Prop := fun vs H Q => ∃ (a : Addr) (ns : List Int), vs = [V.ref a] ∧ SqT K H a (ns.map V.int) ∧ 0 < ns.length ∧ ∀ m, m ∈ ns → (∀ y, y ∈ ns → y ≤ m) → Q (.int m) H
theorem c_maxT {X : Cx} (hc : X.calm = true) : CallR X (.builtin "max") (rMaxT X.K) := by
  intro pins s σ H vs us Q I r h
  obtain ⟨a, ns, rfl, hs, hne, q⟩ := h
  obtain ⟨its, rv, hl, _⟩ := I.tuple hs
  rw [Vals.ref1 r]
  have hh : X.A.in1.handled = none := by
    have := I.ok.hd hc
    simpa using this
  exact max_intTup (I.ok.hd hc) (show s.heap.IsTuple a its.toArray from hl) rv.ints hne fun h' tk m t' hk h1 h2 => ⟨.int _, H, I.kept hk, ⟨_, rfl⟩, q m h1 h2⟩
theorem r_maxT {K : PySem.W.Frag} {H : Hp} {Q : VK} {a : Addr} {ns : List Int} (h : SqT K H a (ns.map V.int)) (h0 : 0 < ns.length) (q : ∀ m, m ∈ ns → (∀ y, y ∈ ns → y ≤ m) → Q (.int m) H) : rMaxT K [.ref a] H Q := ⟨a, ns, rfl, h, h0, q⟩
theorem r_gcd {a b : Int} {H : Hp} {Q : VK} (q : Q (.int ((Nat.gcd a.natAbs b.natAbs : Nat) : Int)) H) : rGcd [.int a, .int b] H Q := ⟨a, b, rfl, q⟩
/-! ### x //= y -/
def ipF : TIp := fun x y H Q => ∃ i j : Int, x = .int i ∧ y = .int j ∧ CDivW i j ∧ Q (.int (i / j)) H
theorem ip_fdiv {X : Cx} : PIp X .FloorDiv ipF := by
  intro pins s0 st0 H x y v u Q I r1 r2 h
  obtain ⟨i, j, rfl, rfl, hm, q⟩ := h
  exact iop_fdivW pins s0 st0 H _ _ v u Q I r1 r2 ⟨i, j, rfl, rfl, hm, q⟩
theorem r_ipF {i j : Int} {H : Hp} {Q : VK} (h : CDivW i j) (q : Q (.int (i / j)) H) : ipF (.int i) (.int j) H Q := ⟨i, j, rfl, rfl, h, q⟩
/-! ### xs.index(k) of ints -/
theorem r_indexI {K : PySem.W.Frag} {H : Hp} {Q : VK} {a : Addr} {ns : List Int} {k : Int} {j : Nat} (h : SqL K H a (ns.map V.int)) (hj : ns[j]? = some k) (no : ∀ m k', m < j → ns[m]? = some k' → k' ≠ k) (q : Q (.int (j : Nat)) H) : rIndex K (.ref a) [.int k] H Q := by
  refine ⟨a, ns.map V.int, .int k, j, .int k, rfl, rfl, h, rfl, ?_, ?_, ?_, fun m z' hm hz => ?_, q⟩
  · rw [List.all_eq_true]
    intro x hx
    obtain ⟨n, _, rfl⟩ := List.mem_map.mp hx
    rfl
  · rw [List.getElem?_map, hj]
    rfl
  · simp [eqV]
  · rw [List.getElem?_map] at hz
    obtain ⟨k', h1, rfl⟩ := Option.map_eq_some_iff.mp hz
    have := no m k' hm h1
    simp [eqV, this]
theorem r_forT {K : PySem.W.Frag} {a : Addr} {xs : List V} {g : TG} {tb : TS} {D : Ends} {st0 : L2.St} {H : Hp} (Pv : Nat → L2.St → Hp → Prop) (h0 : Pv 0 st0 H) (hl : ∀ i st0 H, i ≤ xs.length → Pv i st0 H → SqT K H a xs)
    (hs : ∀ i x st0 H, xs[i]? = some x → Pv i st0 H → g x st0 H fun σ2 H2 => tb { D with nx := Pv (i + 1), ct := Pv (i + 1), bk := D.nx } σ2 H2) (hd : ∀ st0 H, Pv xs.length st0 H → D.nx st0 H) : rFor g tb D st0 (Itt K a) H := for_tup Pv h0 hl hs hd
/-! ### a test that is an if-expression -/
def tIfT (t u v : TT) : TT := fun st0 H Q => t st0 H fun c H1 => if c = true then u st0 H1 Q else v st0 H1 Q
theorem pt_ifExp {X : Cx} {c a b : Expr} {pos : Pos} {tc ta tb : TT} (hc : PT X c tc) (ha : PT X a ta) (hb : PT X b tb) : PT X (.IfExp c a b pos) (tIfT tc ta tb) := by
  refine ⟨fun pins s st0 H Q I h => ?_⟩
  refine isTrue_IfExp (thn (hc.run pins s st0 H _ I h) fun d s1 ⟨H1, I1, q1⟩ => ?_)
  cases d with
  | true => exact ha.run pins s1 st0 H1 Q I1 q1
  | false => exact hb.run pins s1 st0 H1 Q I1 q1
theorem r_ifT {t u v : TT} {st0 : L2.St} {H : Hp} {Q : Bool → Hp → Prop} (q : t st0 H fun c H1 => if c = true then u st0 H1 Q else v st0 H1 Q) : tIfT t u v st0 H Q := q
end KrH

/-! The mathematics of gaps that come again (k84, k85). No Python. -/
namespace Hm
/-- the sum of the first n -/
def S (g : Nat → Nat) : Nat → Nat
  | 0 => 0
  | n + 1 => S g n + g n
theorem S_mono (g : Nat → Nat) (a : Nat) : ∀ n, S g a ≤ S g (a + n)
  | 0 => Nat.le_refl _
  | n + 1 => Nat.le_trans (S_mono g a n) (Nat.le_add_right _ _)
/-- what stands between two counts is the same a turn later -/
theorem S_shift {g : Nat → Nat} {N P : Nat} (per : ∀ k, N ≤ k → g (k + P) = g k) {a : Nat} (ha : N ≤ a) : ∀ n, S g (a + P + n) - S g (a + P) = S g (a + n) - S g a
  | 0 => by simp
  | n + 1 => by
    have ih := S_shift per ha n
    have h1 := S_mono g (a + P) n
    have h2 := S_mono g a n
    have e : g (a + P + n) = g (a + n) := by
      have := per (a + n) (by omega)
      rw [← this]
      congr 1
      omega
    show S g (a + P + n) + g (a + P + n) - S g (a + P) = S g (a + n) + g (a + n) - S g a
    omega
/-- one turn more -/
theorem S_turn {g : Nat → Nat} {N P : Nat} (per : ∀ k, N ≤ k → g (k + P) = g k) (n : Nat) : S g (N + n + P) = S g (N + n) + (S g (N + P) - S g N) := by
  have h := S_shift per (Nat.le_refl N) n
  have h1 := S_mono g (N + P) n
  have h2 := S_mono g N n
  have h3 := S_mono g N P
  rw [show N + n + P = N + P + n by omega]
  omega
/-- many turns -/
theorem S_turns {g : Nat → Nat} {N P : Nat} (per : ∀ k, N ≤ k → g (k + P) = g k) (n : Nat) : ∀ t, S g (N + n + t * P) = S g (N + n) + t * (S g (N + P) - S g N)
  | 0 => by simp
  | t + 1 => by
    have := S_turn per (n + t * P)
    rw [show N + (n + t * P) + P = N + n + (t + 1) * P by rw [Nat.succ_mul]; omega, show N + (n + t * P) = N + n + t * P by omega, S_turns per n t] at this
    rw [this, Nat.succ_mul]
    omega
/-- what Gaps.sum_of reckons -/
theorem sum_of {g : Nat → Nat} {N P : Nat} (per : ∀ k, N ≤ k → g (k + P) = g k) (m : Nat) : S g m = S g (m - (m - N) / P * P) + (m - N) / P * (S g (N + P) - S g N) := by
  rcases Nat.le_total m N with h | h
  · rw [Nat.sub_eq_zero_of_le h, Nat.zero_div]
    simp
  · have le : (m - N) / P * P ≤ m - N := Nat.div_mul_le_self _ _
    have := S_turns per (m - N - (m - N) / P * P) ((m - N) / P)
    generalize (m - N) / P * P = w at this le ⊢
    rw [show N + (m - N - w) + w = m by omega, show N + (m - N - w) = m - w by omega] at this
    exact this
/-- the place at which the count is asked lies within the list -/
theorem sum_at {N P m : Nat} (hP : 0 < P) : m - (m - N) / P * P < N + P := by
  have h1 := Nat.div_add_mod (m - N) P
  have h2 := Nat.mod_lt (m - N) hP
  rw [Nat.mul_comm P] at h1
  generalize (m - N) / P * P = w at h1 ⊢
  omega
/-- a step times its turn is whole cycles -/
theorem gcd_turn {pages step : Nat} : ∃ c, pages / Nat.gcd pages step * step = c * pages := by
  obtain ⟨a, ha⟩ := Nat.gcd_dvd_left pages step
  obtain ⟨b, hb⟩ := Nat.gcd_dvd_right pages step
  rcases Nat.eq_zero_or_pos (Nat.gcd pages step) with z | z
  · exact ⟨0, by rw [z]; simp⟩
  · refine ⟨b, ?_⟩
    generalize Nat.gcd pages step = d at *
    subst ha
    subst hb
    rw [Nat.mul_div_cancel_left _ z, Nat.mul_left_comm, Nat.mul_comm a b, ← Nat.mul_assoc, Nat.mul_comm d b, Nat.mul_assoc]
open Pk
variable {ls : List Int} {sz : Int} {j k : Nat}
/-- the rows between border number n + 1 of a step and the next one, at most so many -/
def gap (ls : List Int) (sz : Int) (step most n : Nat) : Nat := min most (st ls sz ((n + 2) * step) - st ls sz ((n + 1) * step))
/-- behind the first borders the gaps come again -/
theorem gap_per (c : Cyc ls sz j k) (o : Ok ls sz) {step : Nat} (most : Nat) (hs : 0 < step) (n : Nat) (hn : j / step ≤ n) : gap ls sz step most (n + (k - j) / Nat.gcd (k - j) step) = gap ls sz step most n := by
  obtain ⟨m, hm⟩ := gcd_turn (pages := k - j) (step := step)
  generalize (k - j) / Nat.gcd (k - j) step = P at hm ⊢
  have hj : j ≤ (n + 1) * step := by
    have h1 := Nat.div_add_mod j step
    have h2 := Nat.mod_lt j hs
    have h3 : step * (j / step) ≤ step * n := Nat.mul_le_mul_left _ hn
    rw [Nat.succ_mul, Nat.mul_comm n]
    omega
  have hj2 : j ≤ (n + 2) * step := Nat.le_trans hj (Nat.mul_le_mul_right _ (by omega))
  have e1 : (n + P + 1) * step = (n + 1) * step + m * (k - j) := by
    rw [← hm, ← Nat.add_mul]
    congr 1
    omega
  have e2 : (n + P + 2) * step = (n + 2) * step + m * (k - j) := by
    rw [← hm, ← Nat.add_mul]
    congr 1
    omega
  unfold gap
  rw [e1, e2, c.steps o hj, c.steps o hj2, Nat.add_sub_add_right]
section
variable {f pg : Nat → Nat} {step most : Nat}
/-- what Heights.above reckons, over the starts f of pages and the pages pg of rows -/
def abv (f pg : Nat → Nat) (step most m : Nat) : Nat :=
  if m < 2 then 0 else if pg (m - 2) / step = 0 then 0 else S (fun n => min most (f ((n + 2) * step) - f ((n + 1) * step))) (pg (m - 2) / step - 1) + min most (m - 1 - f (pg (m - 2) / step * step))
/-- the height behind M rows is above the level: the last border at or before row M - 1 lies at most so many rows back -/
def Hi (f pg : Nat → Nat) (step most M : Nat) : Prop := pg (M - 1) / step ≠ 0 ∧ M ≤ f (pg (M - 1) / step * step) + most
theorem mono_of {f : Nat → Nat} (h : ∀ a, f a < f (a + 1)) {a b : Nat} (ab : a ≤ b) : f a ≤ f b := by
  obtain ⟨t, rfl⟩ := Nat.exists_eq_add_of_le ab
  induction t with
  | zero => exact Nat.le_refl _
  | succ t ih => exact Nat.le_trans (ih (by omega)) (Nat.le_of_lt (h _))
/-- the page of the next row is the same, or the next one, which then begins -/
theorem pg_next (h : ∀ a, f a < f (a + 1)) (on : ∀ r, f (pg r) ≤ r ∧ r < f (pg r + 1)) (r : Nat) : pg (r + 1) = pg r ∨ (pg (r + 1) = pg r + 1 ∧ f (pg r + 1) = r + 1) := by
  obtain ⟨a1, a2⟩ := on r
  obtain ⟨b1, b2⟩ := on (r + 1)
  have le : pg r ≤ pg (r + 1) := Nat.le_of_not_lt fun z => by
    have := mono_of h (show pg (r + 1) + 1 ≤ pg r by omega)
    omega
  rcases Nat.lt_or_ge (pg r) (pg (r + 1)) with z | z
  · have m1 := mono_of h (show pg r + 1 ≤ pg (r + 1) by omega)
    have e : pg (r + 1) = pg r + 1 := Nat.le_antisymm (Nat.le_of_not_lt fun y => by
      have m2 := mono_of h (show pg r + 1 + 1 ≤ pg (r + 1) by omega)
      have := h (pg r + 1)
      omega) (by omega)
    rw [e] at b1
    exact .inr ⟨e, by omega⟩
  · exact .inl (Nat.le_antisymm z le)
/-- one row more: one more if the height behind m rows is above the level -/
theorem abv_succ (h : ∀ a, f a < f (a + 1)) (f0 : f 0 = 0) (on : ∀ r, f (pg r) ≤ r ∧ r < f (pg r + 1)) {m : Nat} (hm : 1 ≤ m) [Decidable (Hi f pg step most m)] : abv f pg step most (m + 1) = abv f pg step most m + if Hi f pg step most m then 1 else 0 := by
  have p0 : pg 0 = 0 := by
    have a1 := (on 0).1
    rcases Nat.eq_zero_or_pos (pg 0) with z | z
    · exact z
    · have m1 : f 1 ≤ f (pg 0) := mono_of h (show 1 ≤ pg 0 from z)
      have m2 : f 0 < f 1 := h 0
      omega
  obtain ⟨r, rfl⟩ : ∃ r, m = r + 1 := ⟨m - 1, by omega⟩
  have e1 : abv f pg step most (r + 1 + 1) = if pg r / step = 0 then 0 else S (fun n => min most (f ((n + 2) * step) - f ((n + 1) * step))) (pg r / step - 1) + min most (r + 1 - f (pg r / step * step)) := by
    unfold abv
    rw [if_neg (by omega)]
    rfl
  rw [e1]
  clear e1
  have hdef : Hi f pg step most (r + 1) ↔ pg r / step ≠ 0 ∧ r + 1 ≤ f (pg r / step * step) + most := Iff.rfl
  have lo : f (pg r / step * step) ≤ r := Nat.le_trans (mono_of h (Nat.div_mul_le_self _ _)) (on r).1
  rcases Nat.eq_zero_or_pos r with z | z
  · subst z
    have e2 : abv f pg step most (0 + 1) = 0 := rfl
    rw [e2, p0, Nat.zero_div, if_pos rfl, if_neg (fun y => (hdef.mp y).1 (by rw [p0, Nat.zero_div]))]
  obtain ⟨t, rfl⟩ : ∃ t, r = t + 1 := ⟨r - 1, by omega⟩
  have e2 : abv f pg step most (t + 1 + 1) = if pg t / step = 0 then 0 else S (fun n => min most (f ((n + 2) * step) - f ((n + 1) * step))) (pg t / step - 1) + min most (t + 1 - f (pg t / step * step)) := by
    unfold abv
    rw [if_neg (by omega)]
    rfl
  rw [e2]
  clear e2
  have lo2 : f (pg t / step * step) ≤ t := Nat.le_trans (mono_of h (Nat.div_mul_le_self _ _)) (on t).1
  have same : pg (t + 1) / step = pg t / step ∨ (pg (t + 1) / step = pg t / step + 1 ∧ f ((pg t / step + 1) * step) = t + 1) := by
    rcases pg_next h on t with e | ⟨e, ef⟩
    · exact .inl (by rw [e])
    · rw [e, Nat.succ_div]
      by_cases d : step ∣ pg t + 1
      · rw [if_pos d]
        have : (pg t / step + 1) * step = pg t + 1 := by
          have q := Nat.div_mul_cancel d
          rw [Nat.succ_div, if_pos d] at q
          exact q
        exact .inr ⟨rfl, by rw [this, ef]⟩
      · rw [if_neg d]
        exact .inl rfl
  rcases same with e | ⟨e, ef⟩
  · rw [e] at hdef lo ⊢
    generalize pg t / step = q at *
    by_cases q0 : q = 0
    · rw [if_pos q0, if_pos q0, if_neg (fun y => (hdef.mp y).1 q0)]
    · rw [if_neg q0, if_neg q0]
      generalize S _ (q - 1) = w
      by_cases y : Hi f pg step most (t + 1 + 1)
      · rw [if_pos y]
        have := (hdef.mp y).2
        omega
      · rw [if_neg y]
        have : ¬ t + 1 + 1 ≤ f (q * step) + most := fun z => y (hdef.mpr ⟨q0, z⟩)
        omega
  · rw [e] at hdef lo ⊢
    generalize pg t / step = q at *
    rw [if_neg (by omega), Nat.add_sub_cancel, ef]
    rw [ef] at hdef
    have top : (if q = 0 then 0 else S (fun n => min most (f ((n + 2) * step) - f ((n + 1) * step))) (q - 1) + min most (t + 1 - f (q * step))) = S (fun n => min most (f ((n + 2) * step) - f ((n + 1) * step))) q := by
      by_cases q0 : q = 0
      · rw [if_pos q0, q0]
        rfl
      · rw [if_neg q0]
        obtain ⟨u, rfl⟩ : ∃ u, q = u + 1 := ⟨q - 1, by omega⟩
        show _ = S _ u + min most (f ((u + 2) * step) - f ((u + 1) * step))
        rw [show u + 1 + 1 = u + 2 from rfl] at ef
        rw [ef]
        rfl
    rw [top]
    generalize S _ q = w
    by_cases y : Hi f pg step most (t + 1 + 1)
    · rw [if_pos y]
      have := (hdef.mp y).2
      omega
    · rw [if_neg y]
      have : ¬ t + 1 + 1 ≤ t + 1 + most := fun z => y (hdef.mpr ⟨by omega, z⟩)
      omega
instance [∀ a b : Nat, Decidable (a = b)] (M : Nat) : Decidable (Hi f pg step most M) := inferInstanceAs (Decidable (_ ∧ _))
/-- Heights.above counts the numbers of rows below m behind which the height is above the level -/
theorem abv_count (h : ∀ a, f a < f (a + 1)) (f0 : f 0 = 0) (on : ∀ r, f (pg r) ≤ r ∧ r < f (pg r + 1)) : ∀ m, abv f pg step most m = ((List.range m).filter fun M => decide (M ≠ 0 ∧ Hi f pg step most M)).length
  | 0 => rfl
  | 1 => by
    show 0 = (([0] : List Nat).filter fun M => decide (M ≠ 0 ∧ Hi f pg step most M)).length
    rw [List.filter_cons_of_neg (by simp)]
    rfl
  | m + 2 => by
    rw [abv_succ h f0 on (by omega), abv_count h f0 on (m + 1), List.range_succ (n := m + 1), List.filter_append, List.length_append]
    congr 1
    by_cases y : Hi f pg step most (m + 1)
    · rw [if_pos y, List.filter_cons_of_pos (by simp [y])]
      rfl
    · rw [if_neg y, List.filter_cons_of_neg (by simp [y])]
      rfl
/-- the height is above a level when the first and the last live page stand under different nodes of it -/
theorem hi_iff (h : ∀ a, f a < f (a + 1)) (f0 : f 0 = 0) (on : ∀ r, f (pg r) ≤ r ∧ r < f (pg r + 1)) (hs : 0 < step) {keep M : Nat} (hk : 1 ≤ keep) (hM : 1 ≤ M) : Hi f pg step (keep - 1) M ↔ pg (M - keep) / step ≠ pg (M - 1) / step := by
  have mono : pg (M - keep) ≤ pg (M - 1) := Nat.le_of_not_lt fun z => by
    have m1 := mono_of h (show pg (M - 1) + 1 ≤ pg (M - keep) by omega)
    have m2 := (on (M - 1)).2
    have m3 := (on (M - keep)).1
    omega
  have dv : pg (M - keep) / step ≤ pg (M - 1) / step := Nat.div_le_div_right mono
  have lt : pg (M - keep) / step ≠ pg (M - 1) / step ↔ pg (M - keep) < pg (M - 1) / step * step := by
    rw [← Nat.div_lt_iff_lt_mul hs]
    omega
  have pl : ∀ p, pg (M - keep) < p ↔ M - keep < f p := fun p => by
    constructor
    · intro z
      exact Nat.lt_of_lt_of_le (on _).2 (mono_of h z)
    · intro z
      refine Nat.lt_of_not_le fun y => ?_
      have := mono_of h y
      have := (on (M - keep)).1
      omega
  rw [lt, pl]
  unfold Hi
  generalize pg (M - 1) / step = q
  rcases Nat.eq_zero_or_pos q with z | z
  · subst z
    rw [Nat.zero_mul, f0]
    omega
  · have m1 : f 1 ≤ f (q * step) := mono_of h (Nat.mul_pos z hs)
    have m2 : f 0 < f 1 := h 0
    omega
/-- pages that take so many rows at least -/
theorem rows_ge {rows : Nat} (hr : ∀ a, f a + rows ≤ f (a + 1)) (a : Nat) : ∀ t, f a + t * rows ≤ f (a + t)
  | 0 => by simp
  | t + 1 => by
    have := rows_ge hr a t
    have := hr (a + t)
    rw [Nat.succ_mul]
    show _ ≤ f (a + t + 1)
    omega
theorem S_const {g : Nat → Nat} {c : Nat} (h : ∀ n, g n = c) : ∀ n, S g n = n * c
  | 0 => by simp [S]
  | n + 1 => by
    show S g n + g n = _
    rw [S_const h n, h, Nat.succ_mul]
/-- borders that lie so far apart count in full -/
theorem gap_wide {rows : Nat} (hr : ∀ a, f a + rows ≤ f (a + 1)) (hw : most ≤ step * rows) (n : Nat) : min most (f ((n + 2) * step) - f ((n + 1) * step)) = most := by
  have := rows_ge hr ((n + 1) * step) step
  rw [show (n + 1) * step + step = (n + 2) * step by rw [← Nat.succ_mul]] at this
  omega
/-- on a level on which the last border counts in full, too, each border counts in full -/
theorem abv_full {rows : Nat} (hr : ∀ a, f a + rows ≤ f (a + 1)) (h1 : 1 ≤ rows) (on : ∀ r, f (pg r) ≤ r ∧ r < f (pg r + 1)) (hw : most ≤ step * rows) {m : Nat} (hm : 2 ≤ m) (hp : most ≤ pg (m - 2) % step) : abv f pg step most m = pg (m - 2) / step * most := by
  unfold abv
  rw [if_neg (by omega)]
  have a1 := (on (m - 2)).1
  have a2 := rows_ge hr (pg (m - 2) / step * step) (pg (m - 2) % step)
  have a3 : pg (m - 2) / step * step + pg (m - 2) % step = pg (m - 2) := by
    rw [Nat.mul_comm]
    exact Nat.div_add_mod _ _
  rw [a3] at a2
  have a4 : pg (m - 2) % step * 1 ≤ pg (m - 2) % step * rows := Nat.mul_le_mul_left _ h1
  generalize pg (m - 2) / step = q at *
  by_cases q0 : q = 0
  · rw [if_pos q0, q0, Nat.zero_mul]
  · rw [if_neg q0, S_const (gap_wide hr hw)]
    obtain ⟨u, rfl⟩ : ∃ u, q = u + 1 := ⟨q - 1, by omega⟩
    rw [Nat.add_sub_cancel, show (u + 1) * most = u * most + most from Nat.succ_mul u most]
    omega
/-- once it holds on a level it holds on the next -/
theorem full_up {fan : Nat} (hp : most ≤ n % step) : most ≤ n % (step * fan) := by
  refine Nat.le_trans hp ?_
  rw [← Nat.mod_mul_right_mod n step fan]
  exact Nat.mod_le _ _
end
/-- a level is not above the root's level when the two ends stand under different nodes of the level below it -/
theorem level_iff {f A B L : Nat} (h : A / f ^ (L + 1) = B / f ^ (L + 1) ∧ ∀ l, l < L → A / f ^ (l + 1) ≠ B / f ^ (l + 1)) {l : Nat} (hl : 1 ≤ l) : l ≤ L ↔ A / f ^ l ≠ B / f ^ l := by
  constructor
  · intro z
    have := h.2 (l - 1) (by omega)
    rw [show l - 1 + 1 = l by omega] at this
    exact this
  · intro z
    refine Nat.le_of_not_lt fun y => z ?_
    obtain ⟨t, rfl⟩ := Nat.exists_eq_add_of_le (show L + 1 ≤ l from y)
    rw [Nat.pow_add, ← Nat.div_div_eq_div_mul, ← Nat.div_div_eq_div_mul, h.1]
theorem S_add (g h : Nat → Nat) : ∀ n, S (fun k => g k + h k) n = S g n + S h n
  | 0 => rfl
  | n + 1 => by
    show S _ n + (g n + h n) = S g n + g n + (S h n + h n)
    rw [S_add g h n]
    omega
theorem S_congr {g h : Nat → Nat} (e : ∀ k, g k = h k) (n : Nat) : S g n = S h n := by rw [show g = h from funext e]
/-- as many levels lie below a number as it says -/
theorem S_below (c : Nat) : ∀ T, S (fun l => if l < c then 1 else 0) T = min c T
  | 0 => by simp [S]
  | T + 1 => by
    show S _ T + (if T < c then 1 else 0) = _
    rw [S_below c T]
    by_cases z : T < c
    · rw [if_pos z]
      omega
    · rw [if_neg z]
      omega
/-- the sum of heights is the sum over the levels of how many heights are above them -/
theorem sum_levels {hgt : Nat → Nat} {T : Nat} (hT : ∀ M, hgt M ≤ T) : ∀ m, S hgt m = S (fun l => ((List.range m).filter fun M => decide (l < hgt M)).length) T
  | 0 => by
    show 0 = S (fun _ => 0) T
    rw [S_const (c := 0) (fun _ => rfl), Nat.mul_zero]
  | m + 1 => by
    have e : ∀ l, ((List.range (m + 1)).filter fun M => decide (l < hgt M)).length = ((List.range m).filter fun M => decide (l < hgt M)).length + if l < hgt m then 1 else 0 := fun l => by
      rw [List.range_succ, List.filter_append, List.length_append]
      congr 1
      by_cases z : l < hgt m
      · rw [if_pos z, List.filter_cons_of_pos (by simpa using z)]
        rfl
      · rw [if_neg z, List.filter_cons_of_neg (by simpa using z)]
        rfl
    show S hgt m + hgt m = _
    rw [S_congr e, S_add, S_below, ← sum_levels hT m, Nat.min_eq_left (hT m)]
/-- a border between two pages -/
theorem mult_in {step low high : Nat} (hs : 0 < step) : (∃ q, low ≤ q * step ∧ q * step ≤ high) ↔ low ≤ high / step * step := by
  constructor
  · rintro ⟨q, h1, h2⟩
    exact Nat.le_trans h1 (Nat.mul_le_mul_right _ ((Nat.le_div_iff_mul_le hs).mpr h2))
  · intro h
    exact ⟨high / step, h, Nat.div_mul_le_self _ _⟩
/-- a border of a level is one of the level below -/
theorem mult_down {f k low high : Nat} (hf : 0 < f) (h : low ≤ high / f ^ (k + 1) * f ^ (k + 1)) : low ≤ high / f ^ k * f ^ k := by
  obtain ⟨q, h1, h2⟩ := (mult_in (Nat.pow_pos hf)).mpr h
  refine (mult_in (Nat.pow_pos hf)).mp ⟨q * f, ?_, ?_⟩ <;> rw [Nat.mul_assoc, Nat.mul_comm f, ← Nat.pow_succ]
  · exact h1
  · exact h2
/-- the first border from a page on -/
theorem ceil_least {step low : Nat} (hs : 0 < step) : low ≤ (low + step - 1) / step * step ∧ ∀ q, low ≤ q * step → (low + step - 1) / step * step ≤ q * step := by
  have h1 := Nat.div_add_mod (low + step - 1) step
  have h2 := Nat.mod_lt (low + step - 1) hs
  rw [Nat.mul_comm] at h1
  constructor
  · generalize (low + step - 1) / step * step = w at h1 ⊢
    omega
  · intro q hq
    refine Nat.mul_le_mul_right _ (Nat.le_of_lt_succ ((Nat.div_lt_iff_lt_mul hs).mpr ?_))
    rw [Nat.succ_mul]
    omega
section
variable {f pg : Nat → Nat} {step most : Nat}
theorem pg_mono (h : ∀ a, f a < f (a + 1)) (on : ∀ r, f (pg r) ≤ r ∧ r < f (pg r + 1)) {r s : Nat} (rs : r ≤ s) : pg r ≤ pg s := Nat.le_of_not_lt fun z => by
  have m1 := mono_of h (show pg s + 1 ≤ pg r by omega)
  have m2 := (on s).2
  have m3 := (on r).1
  omega
theorem pg_start (h : ∀ a, f a < f (a + 1)) (on : ∀ r, f (pg r) ≤ r ∧ r < f (pg r + 1)) (p : Nat) : pg (f p) = p := by
  obtain ⟨a1, a2⟩ := on (f p)
  refine Nat.le_antisymm (Nat.le_of_not_lt fun z => ?_) (Nat.le_of_not_lt fun z => ?_)
  · have := mono_of h (show p + 1 ≤ pg (f p) from z)
    have := h p
    omega
  · have := mono_of h (show pg (f p) + 1 ≤ p from z)
    omega
/-- up to the row with which the next border begins, no height is above the level if the first one is not -/
theorem hi_none (h : ∀ a, f a < f (a + 1)) (on : ∀ r, f (pg r) ≤ r ∧ r < f (pg r + 1)) (hs : 0 < step) {m p M : Nat} (hm : 1 ≤ m) (least : ∀ q, pg (m - 1) + 1 ≤ q * step → p ≤ q * step) (no : ¬ Hi f pg step most m) (h1 : m ≤ M) (h2 : M ≤ f p) : ¬ Hi f pg step most M := by
  intro y
  apply no
  have lt : pg (M - 1) < p := Nat.lt_of_not_le fun z => by
    have m1 := mono_of h z
    have m2 := (on (M - 1)).1
    omega
  have qle : pg (M - 1) / step * step ≤ pg (m - 1) := Nat.le_of_not_lt fun z => by
    have := least _ z
    have := Nat.div_mul_le_self (pg (M - 1)) step
    omega
  have e : pg (m - 1) / step = pg (M - 1) / step := Nat.le_antisymm (Nat.div_le_div_right (pg_mono h on (by omega))) ((Nat.le_div_iff_mul_le hs).mpr qle)
  unfold Hi at y ⊢
  rw [e]
  exact ⟨y.1, by omega⟩
/-- behind the first row of a border it is -/
theorem hi_at (h : ∀ a, f a < f (a + 1)) (on : ∀ r, f (pg r) ≤ r ∧ r < f (pg r + 1)) (hs : 0 < step) {q : Nat} (hq : 1 ≤ q) (h1 : 1 ≤ most) : Hi f pg step most (f (q * step) + 1) := by
  unfold Hi
  rw [Nat.add_sub_cancel, pg_start h on, Nat.mul_div_cancel _ hs]
  omega
end
theorem pre_up {mx : Int} (hm : ∀ r, lenAt ls r ≤ mx) (r : Nat) : ∀ n : Nat, pre ls r n ≤ n * mx
  | 0 => by
    show (0 : Int) ≤ _
    simp
  | n + 1 => by
    have := pre_up hm r n
    have := hm (r + n)
    show pre ls r n + lenAt ls (r + n) ≤ _
    rw [Int.natCast_add, Int.add_mul]
    omega
/-- each page takes so many rows at least -/
theorem st_rows (o : Ok ls sz) {mx : Int} (h1 : 1 ≤ mx) (hm : ∀ r, lenAt ls r ≤ mx) (a : Nat) : st ls sz a + (sz / mx).toNat ≤ st ls sz (a + 1) := by
  have f := (cnt_fill o (st ls sz a)).2
  have g := pre_up hm (st ls sz a) (cnt ls sz (st ls sz a) + 1)
  have : sz / mx < ((cnt ls sz (st ls sz a) + 1 : Nat) : Int) := (Int.ediv_lt_iff_lt_mul (by omega)).mpr (by omega)
  rw [st_succ]
  omega
end Hm

/-! set(a list of ints) with its order kept, sorted(a set of ints), both of any size. -/
namespace KrS
open Kr L2 PySem PySem.Spec PyProof.Rows
abbrev eSet (w : World) : Obj := { cls := .type "set", dict := none, data := .set #[] 0 (.fresh 0 0 (!w.params.followText "set-order")) }
section
variable {P : Program} {w : World} {A : Around} {E : Value → Shared → Prop} {s : Shared}
/-- set.__init__ of a new set from a list of ints -/
theorem set_fill {l : Addr} {xs : Array Value} {ns : List Int} {R : Result → Shared → Prop} (hh : A.handled = none) (hl : s.heap.IsList l xs) (hi : IntsAre xs.toList ns) (hb : ns.length + 1 < scanBound)
    (q : ∀ (h2 : Heap) (tk c : Nat), SetR w h2 s.heap.objs.size (fun j => decide (j ∈ ns)) c → c ≤ ns.length → (∀ b o, s.heap.get? b = some o → h2.get? b = some o) → R (.ok (.ret .none)) { s with heap := h2, toks := tk }) :
    codeAny (model P w) A (.call (.builtin "set.__init__") ⟨[.ref s.heap.objs.size, .ref l], []⟩) R { s with heap := s.heap.push (eSet w) } := by
  have n1 : xs.size = ns.length := by rw [← Array.length_toList]; exact IntsAre.length hi
  have gS : (s.heap.push (eSet w)).get? s.heap.objs.size = some (eSet w) := Heap.get?_push_size _ rfl
  have tS : Shared.TypeIs { s with heap := s.heap.push (eSet w) } (.ref s.heap.objs.size) "set" := ⟨_, gS, rfl⟩
  refine codeAny_mono (codeAny_call_builtin (R := R) F.called_set.init.plain F.entry_set_init (check_set_init_1 tS ?_)) fun _ _ z => z
  obtain ⟨ol, hol, hcl, nl, hdl⟩ := hl
  obtain ⟨c1, c2, c3, c4⟩ := ol
  simp only at hcl hdl
  subst hcl hdl
  have hl1 : (s.heap.push (eSet w)).IsList l xs := ⟨_, Heap.get?_push_of_some _ hol, rfl, nl, rfl⟩
  have k1 := F.sub_list_set
  have k2 := F.sub_list_frozenset
  have k3 : (Value.type "list" == Value.type "dict") = false := by decide
  unfold Builtin.«set.__init__» noKeywords
  unfold Builtin.Frozenset.updateFrom
  generalize hI : pyIter = walkIt
  wp_walk
  subst hI
  refine wpAny_pyIter_list hl1 (wpAny_bind (wpAny_runValue ?_))
  have sl : l < s.heap.objs.size := Heap.lt_size hol
  have sz : (s.heap.push (eSet w)).objs.size = s.heap.objs.size + 1 := Heap.size_push ..
  have a1 : l ≠ (s.heap.push (eSet w)).objs.size := by
    rw [sz]
    exact fun z => Nat.lt_irrefl _ (Nat.lt_trans (z ▸ sl) (Nat.lt_succ_self _))
  have a2 : s.heap.objs.size ∉ [(s.heap.push (eSet w)).objs.size, l] := by
    rw [sz, List.mem_cons, List.mem_singleton]
    rintro (z | z)
    · exact Nat.lt_irrefl _ (Nat.lt_of_lt_of_eq (Nat.lt_succ_self _) z.symm)
    · exact Nat.lt_irrefl _ (z ▸ sl)
  have vals : ∀ (i : Nat) (v : Value), xs[i]? = some v → ∃ k t, ns[i]? = some k ∧ v = .int k t := by
    intro i v hv
    have lt : i < ns.length := by
      rw [← n1]
      exact (Array.getElem?_eq_some_iff.mp hv).1
    obtain ⟨t, e⟩ := IntsAre.int_at hi i v (by rw [Array.getElem?_toList]; exact hv)
    rw [List.getD_eq_getElem?_getD, List.getElem?_eq_getElem lt] at e
    exact ⟨ns[i], t, List.getElem?_eq_getElem lt, e⟩
  have h3 : A.in1.in1.handled = none := by simp [hh]
  refine set_update_ints (P := P) (w := w) ((Walks.list h3 _ l a1 xs).toS) s.heap.objs.size a2 ns n1 hb vals xs.size 0 _ rfl (Nat.zero_le _) ⟨⟨_, Heap.get?_push_size _ rfl, rfl, rfl⟩, hl1.push _⟩ ⟨0, Nat.le_refl 0, setR_new_at (Heap.get?_push_of_some _ gS)⟩ fun s2 c mv hc hS => ?_
  have g1 : s2.gens = s.gens := mv.gens
  have g2 : s2.drawn = s.drawn := mv.drawn
  have g3 : s2.os = s.os := mv.os
  have all : ∀ b o, s.heap.get? b = some o → s2.heap.get? b = some o := by
    intro b o e
    have lt : b < s.heap.objs.size := Heap.lt_size e
    refine mv.heap b o ?_ (Heap.get?_push_of_some _ (Heap.get?_push_of_some _ e))
    rw [List.mem_cons, List.mem_singleton]
    rintro (z | z)
    · exact Nat.lt_irrefl _ (z ▸ lt)
    · have z2 : b = s.heap.objs.size + 1 := z.trans sz
      exact Nat.lt_irrefl _ (Nat.lt_trans (z2 ▸ lt) (Nat.lt_succ_self _))
  have fin := q s2.heap s2.toks c hS (by rw [← n1]; exact hc) all
  rw [← g1, ← g2, ← g3] at fin
  refine wpAny_pure ?_
  exact wpAny_pure fin
/-- set(l) of a list of ints: who is in it, and the order it was filled in -/
theorem set_ints {l : Addr} {xs : Array Value} {ns : List Int} {Q : Value → Shared → Prop} (hh : A.handled = none) (hl : s.heap.IsList l xs) (hi : IntsAre xs.toList ns) (hb : ns.length + 1 < scanBound)
    (q : ∀ (h2 : Heap) (tk c : Nat), SetR w h2 s.heap.objs.size (fun j => decide (j ∈ ns)) c → c ≤ ns.length → (∀ b o, s.heap.get? b = some o → h2.get? b = some o) → Q (.ref s.heap.objs.size) { s with heap := h2, toks := tk }) :
    wpAny (model P w) A (call (.type "set") [.ref l]) Q E s := by
  obtain ⟨c0, tl0, mro⟩ := F.called_set.mro
  have f1 := F.called_set.made
  have f2 := F.called_set.sub
  have f3 := F.called_set.notType
  have f4 := F.called_set.canCreate
  have f5 := F.typeCall_set_1 (.ref l)
  have f6 := F.called_set.init.lookup
  refine wpAny_call (codeAny_of_tree (show wpAny _ _ (callAny (.type "set") _) _ _ _ from wpAny_pure ⟨Code.quiet_builtin _ (by decide +kernel), codeAny_builtin F.entry_type_call ?_⟩))
  rw [Around.under_plain (weight_type_call_type "set" [.ref l] []) (Eq.refl _)]
  repeat (any_goals (first | assumption | wp_step))
  refine codeAny_mono (code_set_led1 (.ref l) (E := E) (Q₁ := fun v s1 => v = .ref s.heap.objs.size ∧ s1 = { s with heap := s.heap.push (eSet w) }) ⟨rfl, rfl⟩) fun r s1 z => ?_
  rcases r with er | fl
  · exact z
  rcases fl with _ | _ | _ | v
  · exact z.elim
  · exact z.elim
  · exact z.elim
  obtain ⟨rfl, rfl⟩ := z
  have gS : (s.heap.push (eSet w)).get? s.heap.objs.size = some (eSet w) := Heap.get?_push_size _ rfl
  have tS : Shared.TypeIs { s with heap := s.heap.push (eSet w) } (.ref s.heap.objs.size) "set" := ⟨_, gS, rfl⟩
  have bd := F.called_set.init.bind (.ref s.heap.objs.size)
  repeat (any_goals (first | assumption | wp_step))
  refine set_fill (by simp [hh]) hl hi hb fun h2 tk c hS hc all => ?_
  repeat (any_goals (first | assumption | wp_step))
  exact q _ _ _ hS hc all
/-- sorted(a set of ints), of any size -/
theorem sorted_ints {a : Addr} {S : Int → Bool} {n : Nat} {Q : Value → Shared → Prop} (R : SetR w s.heap a S n) (hh : A.handled = none)
    (q : ∀ s2 p (out : Array Value) (c : Nat) (ns : List Int), (∀ b o, s.heap.get? b = some o → s2.heap.get? b = some o) → s2.gens = s.gens → s2.os = s.os → s.heap.objs.size ≤ p → s2.heap.get? p = some (seqObj "list" out c) →
      IntsAre out.toList ns → ns.Pairwise (· < ·) → (∀ k, k ∈ ns ↔ S k = true) → ns.length = n → Q (.ref p) s2) : wpAny (model P w) A (call (.builtin "sorted") [.ref a]) Q E s := by
  obtain ⟨o, es, ep, t, ho, ex, hd, good, nodup, mem, small, fits, cnt, ris, led⟩ := R
  refine Calls.call_function_entry kind_sorted plain_sorted entry_sorted (args_sorted1 _) (show wpAny _ _ (Builtin.«sorted» _) _ _ _ from ?_)
  unfold Builtin.«sorted»
  refine wpAny_bind (m := checkCount "sorted" 1 1 _) (wpAny_pure (wpAny_bind (collect_set (A := A.in1) hh ⟨o, ho, ex.1, hd⟩ fits small ris led fun s1 vs k1 hz g1 o1 pm => ?_)))
  have len : vs.length = n := by
    rw [← cnt, pm.length_eq]
    simp
  have inI : IntsAre vs (vs.map Builtin.Re.reRawOf) := by
    refine ints_of vs fun v hv => ?_
    obtain ⟨e, he, rfl⟩ := List.mem_map.mp (pm.mem_iff.mp hv)
    obtain ⟨k, tk, h1, _⟩ := good e he
    exact ⟨k, tk, h1⟩
  have keys : (vs.map Builtin.Re.reRawOf).Perm (es.toList.map keyOf) := by
    have p2 := pm.map Builtin.Re.reRawOf
    rwa [List.map_map] at p2
  have fitL : vs.length ≤ sizeLine := by
    rw [len, ← cnt]
    exact fits_of_scanBound small
  refine wpAny_bind (wpAny_newList ?_ fitL)
  have gL : (s1.heap.push (seqObj "list" vs.toArray 0)).get? s1.heap.objs.size = some (seqObj "list" vs.toArray 0) := Heap.get?_push_size _ rfl
  refine wpAny_bind (wpAny_holding (wpAny_call_entry slot_list_sort ⟨_, gL, rfl⟩ entry_list_sort (SrtO.list_sort_ord SrtO.swo_int gL fitL (fun h2 => SrtO.ints_sortable inI h2) fun out o2 o3 => ⟨_, rfl, ?_⟩) (args_list_sort _)))
  obtain ⟨r1, r2, r3⟩ := SrtO.ints_out inI o2 o3
  obtain ⟨c, gc⟩ := sortedHeap_at (vs := vs) (out := out.toArray) gL
  have pn := r2.trans keys
  have nd := pn.nodup_iff.mpr nodup
  refine wpAny_pure ⟨_, rfl, q _ s1.heap.objs.size out.toArray c (out.map SrtO.iv) (fun b u e => ?_) g1 o1 hz gc r1 (lt_of_le_nodup _ r3 nd) (fun k => by rw [pn.mem_iff, ← mem k]) ?_⟩
  · have e2 := k1 b u e
    have lt := Heap.lt_size e2
    have old := sortedHeap_old (vs := vs) (out := out.toArray) (h := s1.heap.push (seqObj "list" vs.toArray 0)) (a := s1.heap.objs.size) (b := b)
    exact (old (Nat.ne_of_lt lt) (by rw [size_push']; exact Nat.lt_succ_of_lt lt)).trans (Heap.get?_push_of_some _ e2)
  · rw [pn.length_eq, List.length_map, Array.length_toList]
    exact cnt
end
section
variable {X : Cx}
def rSetL (K : PySem.W.Frag) (w : World) : List V → Hp → VK → Prop := fun xs H Q => ∃ (l : Addr) (ns : List Int), xs = [V.ref l] ∧ SqL K H l (ns.map V.int) ∧ ns.length ≤ 4000 ∧ ∀ (p : Addr) (c : Nat), H p = none → Q (.ref p) (upd H p (SetO w p (fun j => decide (j ∈ ns)) c))
theorem cr_setL (hc : X.calm = true) : CallR X (.type "set") (rSetL X.K X.w) := by
  intro pins s σ H vs us Q I r h
  obtain ⟨l, ns, rfl, hs, hn, q⟩ := h
  obtain ⟨its, rv, pl, pz⟩ := I.list hs
  rw [Vals.ref1 r]
  have inI := rv.ints
  refine set_ints (I.ok.hd hc) pl.isList (ns := ns) (by simpa using inI) (by unfold scanBound; omega) fun h2 tk c R _ all => ?_
  exact ⟨.ref _, upd H s.heap.objs.size (SetO X.w s.heap.objs.size (fun j => decide (j ∈ ns)) c), I.laid (t' := tk) all (Nat.le_refl _) (setO_new R), rfl, q _ c (I.hok.fresh (Nat.le_refl _))⟩
def rSrtS (w : World) : List V → Hp → VK → Prop := fun vs H Q => ∃ (a : Addr) (S : Int → Bool) (n : Nat), vs = [V.ref a] ∧ H a = some (SetO w a S n) ∧ ∀ (ns : List Int) (p : Addr), ns.Pairwise (· < ·) → (∀ k : Int, k ∈ ns ↔ S k = true) → H p = none → Q (.ref p) (upd H p (.lst (ns.map V.int)))
theorem cr_srtS (hc : X.calm = true) : CallR X (.builtin "sorted") (rSrtS X.w) := by
  intro pins s σ H vs us Q I r h
  obtain ⟨a, S, n, rfl, ha, q⟩ := h
  have R := setO_get I ha
  have small : n ≤ sizeLine := by
    obtain ⟨o, es, ep, t, -, -, -, -, -, -, sm, -, cnt, -, -⟩ := id R
    rw [← cnt]
    exact fits_of_scanBound sm
  rw [Vals.ref1 r]
  refine sorted_ints R (I.ok.hd hc) fun s2 p out c ns k g o hp hg hi hs hm hl => ?_
  have fresh : H p = none := I.hok.fresh hp
  have e : s2 = { s with heap := s2.heap, gens := s2.gens, drawn := s2.drawn, toks := s2.toks } := by
    cases s2
    cases s
    cases o
    rfl
  rw [e]
  refine ⟨.ref p, _, I.call (ch := []) (Un.laid k hp fresh) (I.hok.laid k hp ?_) (by rw [g]; exact I.bare) (fun _ z => nomatch z), rfl, q ns p hs hm fresh⟩
  exact ⟨by rw [List.length_map, hl]; exact small, out.toList, c, vals_of_ints hi, hg⟩
end
/-! ### xs[::n], told by whose things they are -/
theorem vals_pick {xs : List V} {its : List Value} (r : Vals xs its) : ∀ idx : List Nat, Vals (idx.filterMap (xs[·]?)) (idx.filterMap (its[·]?))
  | [] => .nil
  | i :: t => by
    have ih := vals_pick r t
    rcases hx : xs[i]? with _ | x
    · have hi : its[i]? = none := by
        rw [List.getElem?_eq_none_iff] at hx ⊢
        rw [← r.length]
        exact hx
      rw [List.filterMap_cons_none hx, List.filterMap_cons_none hi]
      exact ih
    · obtain ⟨u, hu, ru⟩ := r.get hx
      rw [List.filterMap_cons_some hx, List.filterMap_cons_some hu]
      exact .cons ru ih
def tStep (K : PySem.W.Frag) (te ts : TE) : TE := fun σ H Q => te σ H fun x H1 => tPart ts σ H1 fun k H2 => ∃ (a : Addr) (xs : List V) (n : Int), x = .ref a ∧ k = some n ∧ SqL K H2 a xs ∧ 1 ≤ n ∧ ∀ (ys : List V) (p : Addr), (∀ y ∈ ys, y ∈ xs) → ys.length ≤ xs.length → H2 p = none → Q (.ref p) (upd H2 p (.lst ys))
theorem r_step {K : PySem.W.Frag} {te ts : TE} {σ : L2.St} {H : Hp} {Q : VK} (q : te σ H fun x H1 => tPart ts σ H1 fun k H2 => ∃ (a : Addr) (xs : List V) (n : Int), x = .ref a ∧ k = some n ∧ SqL K H2 a xs ∧ 1 ≤ n ∧ ∀ (ys : List V) (p : Addr), (∀ y ∈ ys, y ∈ xs) → ys.length ≤ xs.length → H2 p = none → Q (.ref p) (upd H2 p (.lst ys))) : tStep K te ts σ H Q := q
theorem pe_step {X : Cx} {e st : Expr} {te ts : TE} {p3 pos : Pos} (he : PE X e te) (hs : PE X st ts) (tl : ∀ x y : Value, subscripted (.Slice none none (some st) p3) false x y = operate [x, y] (getItem x y) := by intro _ _; with_unfolding_all rfl) : PE X (.Subscript e (.Slice none none (some st) p3) pos) (tStep X.K te ts) := by
  refine ⟨fun pins s σ H Q I h => Subscript_ (thn (he.run pins s σ H _ I h) fun v s1 ⟨x, H1, I1, r1, q1⟩ => ?_)⟩
  refine wpAny_Slice (thn (po_none.run pins s1 σ H1 (fun o H2 => o = none ∧ H2 = H1) I1 ⟨rfl, rfl⟩) fun vl s2 z => ?_)
  obtain ⟨l, H2, I2, pl, rfl, rfl⟩ := z
  refine thn (po_none.run pins s2 σ H2 (fun o H3 => o = none ∧ H3 = H2) I2 ⟨rfl, rfl⟩) fun vu s3 z => ?_
  obtain ⟨u, H3, I3, pu, rfl, rfl⟩ := z
  refine thn ((po_some hs).run pins s3 σ H3 _ I3 q1) fun vs s4 z => ?_
  obtain ⟨o, H4, I4, ps, a, xs, n, rfl, rfl, hx, n1, q⟩ := z
  cases r1
  have I5 : Inv X pins σ H4 { s4 with heap := s4.heap.push { cls := .type "slice", data := .fields #[vl, vu, vs] } } := I4.kept (t' := s4.toks) fun b ob g => Heap.get?_push_of_some _ g
  obtain ⟨its, r, ht, hz⟩ := I5.list hx
  have len := r.length
  have big : (slicePick its.toArray none none (some n)).size ≤ its.length := slicePick_size_le its.toArray none none (some n)
  have got : (slicePick its.toArray none none (some n)).toList = (sliceRange (sliceBounds none none (some n) its.toArray.size).1 (sliceBounds none none (some n) its.toArray.size).2.1 (sliceBounds none none (some n) its.toArray.size).2.2).filterMap (its[·]?) := by
    unfold slicePick
    simp
  obtain ⟨idx, hidx⟩ : ∃ idx, idx = sliceRange (sliceBounds none none (some n) its.toArray.size).1 (sliceBounds none none (some n) its.toArray.size).2.1 (sliceBounds none none (some n) its.toArray.size).2.2 := ⟨_, rfl⟩
  rw [← hidx] at got
  have rr := vals_pick r idx
  rw [← got] at rr
  have ll : (idx.filterMap (xs[·]?)).length = (slicePick its.toArray none none (some n)).size := by
    rw [rr.length]
    exact Array.length_toList
  have mem : ∀ y ∈ idx.filterMap (xs[·]?), y ∈ xs := by
    intro y hy
    obtain ⟨i, -, hi⟩ := List.mem_filterMap.mp hy
    exact List.mem_of_getElem? hi
  have made : slicePick its.toArray none none (some n) = (idx.filterMap (its[·]?)).toArray := by
    rw [← got, Array.toArray_toList]
  have fitY : (idx.filterMap (xs[·]?)).length ≤ xs.length := by omega
  refine tail_any (ops := [.ref a, .ref s4.heap.objs.size]) ht.isList.typeIs (PySem.slot_list_getitem.lookup) ?_ (tl _ _)
  refine wpAny_getItem_list_slice ht.isList (Heap.IsSliceOf.new _ vl vu vs) pl pu ps (fun z => ?_) ?_ (by rw [List.size_toArray]; omega)
  · cases z
    omega
  rw [made]
  have fresh := I5.hok.fresh (Nat.le_refl _)
  refine ⟨.ref _, _, I5.laid (t' := s4.toks) (o := .lst (idx.filterMap (xs[·]?))) (fun b ob g => Heap.get?_push_of_some _ g) (Nat.le_refl _) ?_, rfl, q _ _ mem fitY fresh⟩
  rw [got] at rr
  exact ⟨Nat.le_trans fitY hz, _, 0, rr, Heap.get?_push_size _ rfl⟩
/-! ### the readings, by name -/
theorem r_setL {K : PySem.W.Frag} {w : World} {l : Addr} {ns : List Int} {H : Hp} {Q : VK} (h : SqL K H l (ns.map V.int)) (hz : ns.length ≤ 4000) (q : ∀ (p : Addr) (c : Nat) (H' : Hp), H p = none → Same H H' → H' p = some (SetO w p (fun j => decide (j ∈ ns)) c) → Q (.ref p) H') : rSetL K w [.ref l] H Q :=
  ⟨l, ns, rfl, h, hz, fun p c hp => q p c _ hp (same_new hp) upd_same⟩
theorem r_srtS {w : World} {a : Addr} {S : Int → Bool} {n : Nat} {H : Hp} {Q : VK} (h : H a = some (SetO w a S n)) (q : ∀ (ns : List Int) (p : Addr) (H' : Hp), ns.Pairwise (· < ·) → (∀ k : Int, k ∈ ns ↔ S k = true) → H p = none → Same H H' → H' p = some (.lst (ns.map V.int)) → Q (.ref p) H') : rSrtS w [.ref a] H Q :=
  ⟨a, S, n, rfl, h, fun ns p h1 h2 hp => q ns p _ h1 h2 hp (same_new hp) upd_same⟩
theorem lt_ext : ∀ {a b : List Int}, a.Pairwise (· < ·) → b.Pairwise (· < ·) → (∀ k, k ∈ a ↔ k ∈ b) → a = b
  | [], [], _, _, _ => rfl
  | [], y :: b, _, _, h => absurd ((h y).mpr List.mem_cons_self) (by simp)
  | x :: a, [], _, _, h => absurd ((h x).mp List.mem_cons_self) (by simp)
  | x :: a, y :: b, ha, hb, h => by
    obtain ⟨a1, a2⟩ := List.pairwise_cons.mp ha
    obtain ⟨b1, b2⟩ := List.pairwise_cons.mp hb
    have e : x = y := by
      rcases List.mem_cons.mp ((h x).mp List.mem_cons_self) with e | e
      · exact e
      · rcases List.mem_cons.mp ((h y).mpr List.mem_cons_self) with g | g
        · exact g.symm
        · have := a1 y g
          have := b1 x e
          omega
    subst e
    rw [lt_ext a2 b2 fun k => ?_]
    constructor
    · intro hk
      rcases List.mem_cons.mp ((h k).mp (List.mem_cons_of_mem _ hk)) with e | e
      · have := a1 k hk
        omega
      · exact e
    · intro hk
      rcases List.mem_cons.mp ((h k).mpr (List.mem_cons_of_mem _ hk)) with e | e
      · have := b1 k hk
        omega
      · exact e
end KrS

/-! list(d.values()), sorted(d) of int and of pair keys, of any size; d.pop(t) of a tuple key. -/
namespace KrD
open Kr L2 PySem PySem.Spec PyProof.Rows
/-! ### sorted(r), r anything that is collected -/
section
variable {prog : Program} {w : World} {A : Around} {E : Value → Shared → Prop} {s : Shared} {T : String} {r d : Addr} {n : Nat} {P : Nat → Value → Prop} {OK : Heap → Prop}
theorem sorted_src {ltv : Value → Value → Bool} {Q : Value → Shared → Prop} (Kd : PySem.W.KdlSrc prog w T r d n P OK) (hh : A.handled = none) (hok : OK s.heap) (hn : n ≤ sizeLine) (O : SrtO.Swo ltv)
    (hS : ∀ vs : List Value, vs.length = n → (∀ j v, vs[j]? = some v → P j v) → 2 ≤ vs.length → ∀ (h₁ : Heap) (a : Addr) (tk : Nat), h₁.get? a = some (seqObj "list" vs.toArray 0) → (∀ b o, s.heap.get? b = some o → b ≠ a ∧ h₁.get? b = some o) → SrtO.SortableO prog w A.in1.in1 { s with heap := h₁, toks := tk } a vs ltv)
    (q : ∀ (vs out : List Value) (p : Addr) (h' : Heap) (tk c : Nat), vs.length = n → (∀ j v, vs[j]? = some v → P j v) → SrtO.Srtd ltv out → SrtO.Stb ltv out vs → (∀ b o, s.heap.get? b = some o → h'.get? b = some o) → s.heap.get? p = none → h'.get? p = some (seqObj "list" out.toArray c) → Q (.ref p) { s with heap := h', toks := tk }) :
    wpAny (model prog w) A (call (.builtin "sorted") [.ref r]) Q E s := by
  refine Calls.call_function_entry kind_sorted plain_sorted entry_sorted (args_sorted1 _) (show wpAny _ _ (Builtin.«sorted» _) _ _ _ from ?_)
  unfold Builtin.«sorted»
  refine wpAny_bind (m := checkCount "sorted" 1 1 _) (wpAny_pure (wpAny_bind (PySem.W.kdu_collect (A := A.in1) Kd (by simp [hh]) hok hn fun h1 tk acc k1 it => ?_)))
  have len : acc.toList.length = n := by rw [Array.length_toList]; exact it.1
  have itP : ∀ j v, acc.toList[j]? = some v → P j v := fun j v e => it.2 j v (by rw [← Array.getElem?_toList]; exact e)
  generalize acc.toList = vs at len itP
  have fitL : vs.length ≤ sizeLine := by omega
  refine wpAny_bind (wpAny_newList ?_ fitL)
  have gL : (h1.push (seqObj "list" vs.toArray 0)).get? h1.objs.size = some (seqObj "list" vs.toArray 0) := Heap.get?_push_size _ rfl
  have lo : s.heap.get? h1.objs.size = none := by
    cases e : s.heap.get? h1.objs.size with
    | none => rfl
    | some o => exact absurd (Heap.lt_size (k1 _ o e)) (Nat.lt_irrefl _)
  have keep : ∀ b o, s.heap.get? b = some o → b ≠ h1.objs.size ∧ (h1.push (seqObj "list" vs.toArray 0)).get? b = some o := fun b o e => ⟨Nat.ne_of_lt (Heap.lt_size (k1 b o e)), Heap.get?_push_of_some _ (k1 b o e)⟩
  refine wpAny_bind (wpAny_holding (wpAny_call_entry slot_list_sort ⟨_, gL, rfl⟩ entry_list_sort (SrtO.list_sort_ord O gL fitL (fun h2 => hS vs len itP h2 _ _ tk gL keep) fun out o2 o3 => ⟨_, rfl, ?_⟩) (args_list_sort _)))
  obtain ⟨c, gc⟩ := sortedHeap_at (vs := vs) (out := out.toArray) gL
  refine wpAny_pure ⟨_, rfl, q vs out h1.objs.size _ tk c len itP o2 o3 (fun b u e => ?_) lo gc⟩
  have e2 := k1 b u e
  have lt := Heap.lt_size e2
  have old := sortedHeap_old (vs := vs) (out := out.toArray) (h := h1.push (seqObj "list" vs.toArray 0)) (a := h1.objs.size) (b := b)
  exact (old (Nat.ne_of_lt lt) (by rw [size_push']; exact Nat.lt_succ_of_lt lt)).trans (Heap.get?_push_of_some _ e2)
end
/-- what is tracked is there -/
theorem there {P : Program} {w : World} {H : Hp} {h : Heap} {a : Addr} {o : HO} (x : ObjOk P w H h a o) : ∃ u, h.get? a = some u := by
  cases o with
  | lst xs => exact let ⟨_, _, _, _, e⟩ := x; ⟨_, e⟩
  | tup xs => exact let ⟨_, _, _, o, e, _⟩ := x; ⟨o, e⟩
  | dK kvs => exact let ⟨_, _, _, _, o, _, _, e, _⟩ := x; ⟨o, e⟩
  | dT kvs => exact let ⟨_, _, _, _, o, _, _, e, _⟩ := x; ⟨o, e⟩
  | set S n => exact let ⟨o, _, _, _, e, _⟩ := x; ⟨o, e⟩
  | ins C dx fs => exact let ⟨_, _, _, e, _⟩ := x; ⟨_, e⟩
  | own y => exact x
  | xd fs => exact let ⟨_, ⟨_, _, _, e, _⟩, _⟩ := x; ⟨_, e⟩
  | rng lo hi => exact let ⟨_, _, _, e⟩ := x; ⟨_, e⟩
  | frz o u => exact ⟨_, x.1⟩
  | tbl ps => exact ⟨_, x⟩
  | met f y => exact ⟨_, x⟩
  | ext φ => exact x.2.1
theorem pgetR {α β : Type} {F : α → β → Prop} : ∀ {xs : List α} {ys : List β} {j : Nat} {y : β}, Paired F xs ys → ys[j]? = some y → ∃ x, xs[j]? = some x ∧ F x y
  | _, _, _, _, .nil, e => by cases e
  | _, _, 0, _, .cons f _, e => by
    cases e
    exact ⟨_, rfl, f⟩
  | _, _, j + 1, _, .cons _ t, e => pgetR (j := j) t e
theorem intsAt : ∀ {vs : List Value} {ns : List Int}, vs.length = ns.length → (∀ (j : Nat) (v : Value), vs[j]? = some v → ∃ n t, ns[j]? = some n ∧ v = Value.int n t) → IntsAre vs ns
  | [], [], _, _ => .nil
  | [], _ :: _, h, _ => by cases h
  | _ :: _, [], h, _ => by cases h
  | v :: vs, n :: ns, h, q => by
    obtain ⟨m, t, e1, e2⟩ := q 0 v rfl
    have e3 : n = m := Option.some.inj e1
    rw [e2, ← e3]
    exact .cons n t (intsAt (Nat.succ.inj h) fun j u e => q (j + 1) u e)
section
variable {X : Cx}
/-! ### sorted(d), the keys ints -/
def rSrtDK : List V → Hp → VK → Prop := fun vs H Q => ∃ (a : Addr) (kvs : List (Key × V)) (ks : List Int), vs = [V.ref a] ∧ H a = some (.dK kvs) ∧ kvs.map (·.1) = ks.map Sum.inl ∧ ∀ (ns : List Int) (p : Addr), ns.Perm ks → ns.Pairwise (· ≤ ·) → H p = none → Q (.ref p) (upd H p (.lst (ns.map V.int)))
theorem cr_srtDK (hc : X.calm = true) : CallR X (.builtin "sorted") rSrtDK := by
  intro pins s st0 H vs us Q I r h
  obtain ⟨a, kvs, ks, rfl, ha, hk, q⟩ := h
  rw [Vals.ref1 r]
  obtain ⟨z, lo, ys, rk, hd⟩ := (show ObjOk X.prog X.w H s.heap a (.dK kvs) from I.hok a _ ha)
  obtain ⟨ep, hat⟩ := hd.dictAt
  have hl : kvs.length = ys.length := Paired.length rk
  have kl : ks.length = ys.length := by
    have := congrArg List.length hk
    rw [List.length_map, List.length_map] at this
    omega
  have hI : ∀ vs : List Value, vs.length = ys.length → (∀ (j : Nat) (v : Value), vs[j]? = some v → ∃ k x, ys[j]? = some (k, x) ∧ (mixKind X.prog X.w).is k v = true) → IntsAre vs ks := fun vs hvl hv => by
    refine intsAt (by omega) fun j v e => ?_
    obtain ⟨k, x, h1, h2⟩ := hv j v e
    have e1 : (kvs.map (·.1))[j]? = some k := by
      rw [KV.keys rk, List.getElem?_map, h1] <;> rfl
    rw [hk, List.getElem?_map] at e1
    obtain ⟨n, h3, h4⟩ := Option.map_eq_some_iff.mp e1
    rw [← h4] at h2
    obtain ⟨t, e2⟩ : RelV (kV (Sum.inl n)) v := keyIs_rel h2
    exact ⟨n, t, h3, e2⟩
  refine sorted_src (PySem.W.kdl_dict (knd := mixKind X.prog X.w) (kvs := ys) (ep := ep) lo) (I.ok.hd hc) hat (by omega) SrtO.swo_int (fun vs h1 h2 h3 h₁ a' tk _ _ => SrtO.ints_sortable (hI vs h1 h2) h3) fun vs out p h' tk c h1 h2 o2 o3 k1 hp hg => ?_
  obtain ⟨r1, r2, r3⟩ := SrtO.ints_out (hI vs h1 h2) o2 o3
  have fresh : H p = none := by
    cases e : H p with
    | none => rfl
    | some o =>
      obtain ⟨u, e2⟩ := there (I.hok p o e)
      rw [hp] at e2
      cases e2
  refine ⟨.ref p, _, I.laidN (t' := tk) k1 hp fresh (o := .lst ((out.map SrtO.iv).map V.int)) ?_, rfl, q _ p r2 r3 fresh⟩
  exact ⟨by rw [List.length_map, r2.length_eq]; omega, out, c, vals_of_ints r1, hg⟩
/-! ### sorted(d), the keys pairs of ints -/
def pkOf (h : Heap) (v : Value) : Int × Int := match v with
  | .ref a => (match h.get? a with
    | some ⟨_, _, .seq vs _, _⟩ => ((match vs.toList[0]? with
      | some (Value.int i _) => i
      | _ => 0), (match vs.toList[1]? with
      | some (Value.int j _) => j
      | _ => 0))
    | _ => (0, 0))
  | _ => (0, 0)
/-- the tuples of pairs at addresses -/
def PrAt (H : Hp) (bs : List Addr) (ks : List (Int × Int)) : Prop := Paired (fun (b : Addr) (k : Int × Int) => H b = some (.tup [.int k.1, .int k.2])) bs ks
def rSrtDT : List V → Hp → VK → Prop := fun vs H Q => ∃ (a : Addr) (kvs : List (List L2.Key × V)) (ks : List (Int × Int)), vs = [V.ref a] ∧ H a = some (.dT kvs) ∧ kvs.map (·.1) = ks.map (fun k => [Sum.inl k.1, Sum.inl k.2]) ∧
  ∀ (bs : List Addr) (ns : List (Int × Int)) (p : Addr), ns.Perm ks → ns.Pairwise (fun x y => SrtO.lexB y x = false) → H p = none → PrAt H bs ns → Q (.ref p) (upd H p (.lst (bs.map V.ref)))
theorem cr_srtDT (hc : X.calm = true) : CallR X (.builtin "sorted") rSrtDT := by
  intro pins s st0 H vs us Q I r h
  obtain ⟨a, kvs, ks, rfl, ha, hk, q⟩ := h
  rw [Vals.ref1 r]
  obtain ⟨z, hs, ys, pr, o, es, ep, ho, hx, hdt, he, hn⟩ := (show ObjOk X.prog X.w H s.heap a (.dT kvs) from I.hok a _ ha)
  have l1 : es.size = ys.length := size_of_entries he
  have l2 : kvs.length = ys.length := Paired.length pr
  have kl : ks.length = ys.length := by
    have := congrArg List.length hk
    rw [List.length_map, List.length_map] at this
    omega
  have hP : ∀ vs : List Value, vs.length = es.size → (∀ (j : Nat) (v : Value), vs[j]? = some v → ∃ en : DictEntry, es[j]? = some en ∧ v = en.key) → ∀ (j : Nat) (v : Value), vs[j]? = some v → ∃ (b : Addr) (k : Int × Int), v = Value.ref b ∧ ks[j]? = some k ∧ H b = some (.tup [.int k.1, .int k.2]) := fun vs h1 h2 j v e => by
    obtain ⟨en, h3, rfl⟩ := h2 j v e
    have qe := entry_at he j
    rw [h3] at qe
    cases hb : ys[j]? with
    | none =>
      rw [hb] at qe
      exact nomatch (show some en = none from qe)
    | some b =>
      rw [hb] at qe
      have e2 : en = entryOfKey (tupleKind (mixKind X.prog X.w)) b := Option.some.inj qe
      obtain ⟨pk, g1, g2, g3, g4⟩ := pgetR pr hb
      have e1 : (kvs.map (·.1))[j]? = some pk.1 := by rw [List.getElem?_map, g1]; rfl
      rw [hk, List.getElem?_map] at e1
      obtain ⟨k, h4, h5⟩ := Option.map_eq_some_iff.mp e1
      refine ⟨b.2.1, k, by rw [e2]; rfl, h4, ?_⟩
      rw [g3, ← h5]
      rfl
  have pairAt : ∀ (b : Addr) (k : Int × Int), H b = some (.tup [.int k.1, .int k.2]) → Srt.IsPair s.heap (.ref b) k.1 k.2 := fun b k hb => by
    obtain ⟨_, its2, r2, o, ho, hc, n, hd⟩ := I.hok _ _ hb
    obtain ⟨u1, u2, rfl, ri, rj⟩ := vals2 r2
    obtain ⟨t1, rfl⟩ := ri
    obtain ⟨t2, rfl⟩ := rj
    exact ⟨b, o, t1, t2, n, rfl, ho, hc, hd⟩
  have pkIs : ∀ (b : Addr) (k : Int × Int), H b = some (.tup [.int k.1, .int k.2]) → pkOf s.heap (.ref b) = k := fun b k hb => by
    obtain ⟨a', o, t1, t2, n, e, ho, hc, hd⟩ := pairAt b k hb
    cases e
    unfold pkOf
    obtain ⟨c1, c2, c3, c4⟩ := o
    simp only at hc hd
    subst hd
    simp [ho]
  refine sorted_src (kdl_raw hs hx hdt) (I.ok.hd hc) ho (by omega) (SrtO.swo_lex (pkOf s.heap)) (fun vs h1 h2 h3 h₁ a' tk hg kk => ?_) fun vs out p h' tk c h1 h2 o2 o3 k1 hp hg => ?_
  · refine SrtO.pairs_sortableO (s := { s with heap := h₁, toks := tk }) (k := pkOf s.heap) (by omega) (fun v hv => ?_) fun o e => ?_
    · obtain ⟨j, hj⟩ := List.getElem?_of_mem hv
      obtain ⟨b, k, rfl, _, hb⟩ := hP vs h1 h2 j v hj
      rw [pkIs b k hb]
      exact (pairAt b k hb).keeps fun b o e _ => (kk b o e).2
    · have e' : some o = some (seqObj "list" vs.toArray 0) := e.symm.trans hg
      cases e'
      intro c
      exact absurd (Value.type.inj c) (by decide)
  have fresh : H p = none := by
    cases e : H p with
    | none => rfl
    | some o =>
      obtain ⟨u, e2⟩ := there (I.hok p o e)
      rw [hp] at e2
      cases e2
  have mem : ∀ v ∈ vs, ∃ (b : Addr) (k : Int × Int), v = Value.ref b ∧ H b = some (.tup [.int k.1, .int k.2]) := fun v hv => by
    obtain ⟨j, hj⟩ := List.getElem?_of_mem hv
    obtain ⟨b, k, e1, _, e2⟩ := hP vs h1 h2 j v hj
    exact ⟨b, k, e1, e2⟩
  have vsk : vs.map (pkOf s.heap) = ks := by
    apply List.ext_getElem?
    intro j
    rw [List.getElem?_map]
    cases hj : vs[j]? with
    | none =>
      have := List.getElem?_eq_none_iff.mp hj
      rw [List.getElem?_eq_none (by omega)]
      rfl
    | some v =>
      obtain ⟨b, k, rfl, e1, e2⟩ := hP vs h1 h2 j v hj
      rw [e1, ← pkIs b k e2]
      rfl
  have outm : ∀ v ∈ out, v ∈ vs := fun v hv => o3.perm.mem_iff.mp hv
  obtain ⟨bs, eo⟩ : ∃ bs : List Addr, out = bs.map Value.ref := by
    have key : ∀ l : List Value, (∀ v ∈ l, v ∈ vs) → ∃ bs : List Addr, l = bs.map Value.ref := fun l => by
      induction l with
      | nil => exact fun _ => ⟨[], rfl⟩
      | cons v l ih =>
        intro hm
        obtain ⟨b, k, e1, _⟩ := mem v (hm v List.mem_cons_self)
        obtain ⟨bs, e2⟩ := ih fun u hu => hm u (List.mem_cons_of_mem _ hu)
        exact ⟨b :: bs, by rw [e1, e2]; rfl⟩
    exact key out outm
  subst eo
  have hlen : bs.length = ys.length := by
    have := o3.perm.length_eq
    rw [List.length_map] at this
    omega
  refine ⟨.ref p, _, I.laidN (t' := tk) k1 hp fresh (o := .lst (bs.map V.ref)) ?_, rfl, q bs ((bs.map Value.ref).map (pkOf s.heap)) p ?_ ?_ fresh ?_⟩
  · exact ⟨by rw [List.length_map]; omega, bs.map Value.ref, c, vals_refs bs, hg⟩
  · rw [← vsk]
    exact o3.perm.map _
  · exact List.pairwise_map.mpr o2
  · have key : ∀ l : List Addr, (∀ b ∈ l, Value.ref b ∈ vs) → PrAt H l ((l.map Value.ref).map (pkOf s.heap)) := fun l => by
      induction l with
      | nil => exact fun _ => Paired.nil
      | cons b l ih =>
        intro hm
        refine Paired.cons ?_ (ih fun u hu => hm u (List.mem_cons_of_mem _ hu))
        obtain ⟨b', k, e1, e2⟩ := mem _ (hm b List.mem_cons_self)
        cases e1
        rw [pkIs b k e2]
        exact e2
    exact key bs fun b hb => outm _ (List.mem_map_of_mem hb)
/-! ### d.pop(t), the keys tuples, t is there -/
section
variable {prog : Program} {w : World} {K : Type} [DecidableEq K] {knd : HeapKind prog w K}
theorem meetsPop1 {d b : Addr} {k : K} (hd : (d == sysModules) = false) :
    MeetsIn prog w (Builtin.«dict.pop» ⟨[.ref d, .ref b], []⟩) (fun A R s => ∃ xs p, knd.room A.in1 ∧ knd.is s.heap k b ∧ s.heap.DictOfH knd d xs ∧ xs.length ≤ sizeLine ∧ atKey xs k = some p ∧
      ∀ h' tk, h'.DictOfH knd d (DT.dropH xs k) → Heap.SameBut d s.heap h' → R (.ok (.ret p.2)) { s with heap := h', toks := tk }) :=
  .of_wp fun A R s ⟨xs, p, hu, hkey, hm, hsz, hp, fin⟩ => by
    obtain ⟨o, es, ep, ho, hc, hdat, he, his, hn⟩ := id hm
    have hes : es.size = xs.length := size_of_entries he
    have hem : es.isEmpty = false := by
      cases e : es.isEmpty with
      | false => rfl
      | true =>
        have z : es.size = 0 := by simpa using e
        have h0 : xs = [] := List.length_eq_zero_iff.mp (by omega)
        rw [h0] at hp
        cases hp
    unfold Builtin.«dict.pop» Builtin.Dict.keyAndDefault
    refine wpAny_bind (wpAny_bind (wpAny_notOrdered_dict hm.typeIs (show wpAny _ _ (pure (d, Value.ref b, none)) _ _ s from wpAny_pure ?_)))
    simp only [show (keyPart (Value.ref b)).isSome = false from rfl, Bool.false_eq_true, if_false]
    refine wpAny_bind (wpAny_dictEntries ho hdat (wpAny_bind (wpAny_pure (?_ : wpAny _ _ _ _ _ s))))
    simp only [hem, Bool.false_eq_true, if_false]
    refine wpAny_bind (DT.takeH hu hkey hm hsz (fun z => by rw [hp] at z; cases z) fun p2 e z1 hev h' hm' hs' => ?_)
    have pe : p = p2 := Option.some.inj (hp.symm.trans z1)
    simp only [Option.isNone_some, Bool.false_eq_true, if_false]
    exact wpAny_bind (wpAny_letGo (wpAny_pure ⟨e.val, rfl, by rw [hev, ← pe]; exact fin h' _ hm' hs'⟩))
end
def rPop1T : V → List V → Hp → VK → Prop := fun x xs H Q => ∃ (a : Addr) (kvs : List (List L2.Key × V)) (k : List L2.Key) (b : Addr) (v : V), x = .ref a ∧ xs = [.ref b] ∧ H a = some (.dT kvs) ∧ H b = some (.tup (k.map kV)) ∧ valV kvs k = some v ∧ Q v (upd H a (.dT (dropK kvs k)))
end
section
variable {X : Cx}
theorem mt_pop1T (hu : X.A.units + 1 < cLine) : MtR X "dict.pop" rPop1T := by
  intro pins s st0 H x xs v us Q I rx rxs h
  obtain ⟨a, kvs, k, b, v0, rfl, rfl, ha, hb, hv, q⟩ := h
  cases rx
  obtain ⟨u1, rfl, r1⟩ := vals1 rxs
  cases r1
  obtain ⟨z, hd, xs', rel, dd⟩ := dt_of I.hok ha
  have hz : xs'.length ≤ sizeLine := by rw [← Paired.length rel]; exact z
  have r := rel.val k
  rw [hv] at r
  obtain ⟨p, hp, rv⟩ : ∃ p, atKey xs' k = some p ∧ RelV v0 p.2 := by
    cases e : atKey xs' k with
    | none =>
      rw [e] at r
      exact (show False from r).elim
    | some p =>
      rw [e] at r
      exact ⟨p, rfl, r⟩
  refine call_meetsIn PySem.F.slot_dict_pop dd.typeIs PySem.F.entry_dict_pop (PySem.F.args_dict_pop_2 _ _) (meetsPop1 (knd := tupleKind (mixKind X.prog X.w)) (k := k) hd) ⟨xs', p, tupleKind_room_in1 hu, key_of I.hok hb, dd, hz, hp, fun h' tk dd' hs => ?_⟩
  obtain ⟨o, es, ep, hq, h2, h3, h4, _, h5⟩ := dd'
  have I2 : Inv X pins st0 (upd H a (.dT (dropK kvs k))) { s with heap := h', toks := tk } :=
    d_write I (by rw [ha]; trivial) hs ⟨o, hq⟩ ⟨Nat.le_trans (dropK_le kvs k) z, hd, _, (L2.DX.KT_drop k rel).keeps (fun c ys ec => (by rw [upd_ne (ne_of ec ha (fun z => nomatch z))]; exact ec)), o, es, ep, hq, h2, h3, h4, h5⟩
  exact (show EP X pins st0 Q p.2 _ from ⟨v0, _, I2, rv, q⟩)
end
/-! ### list(d.values()) -/
section
variable {X : Cx} {e : Expr} {te : TE} {p apos cpos pos : Pos}
def rValsL : V → Hp → VK → Prop := fun x H Q => ∃ (d : Addr) (kvs : List (Key × V)), x = .ref d ∧ H d = some (.dK kvs) ∧ ∀ p, H p = none → Q (.ref p) (upd H p (.lst (kvs.map (·.2))))
def tListVals (te : TE) : TE := fun st0 H Q => te st0 H fun x H1 => rValsL x H1 Q
theorem pe_listVals (hc : X.calm = true) (he : PE X e te) (hg : Gl X "list") (hm : X.mg "list" = none) (hv : bootBuiltins "list" = some (.type "list")) (hbase : attributeBase e "values" X.env (eval e X.env) = eval e X.env := by rfl) (hline : (apos.endLine == cpos.line) = true := by rfl)
    (hs : starEach [.Call (.Attribute e "values" apos) [] [] cpos] X.env = (false, eval (.Call (.Attribute e "values" apos) [] [] cpos) X.env) :: starEach [] X.env := by rfl) :
    PE X (.Call (.Name "list" p) [.Call (.Attribute e "values" apos) [] [] cpos] [] pos) (tListVals te) := by
  refine ⟨fun pins s st0 H Q I hq => ?_⟩
  refine wpAny_Call_Name_kw (ld_blt I hg hm hv (PyProof.Rows.callWith_type1 ?_ hs rfl))
  rw [hs]
  show wpAny _ _ (spliced ((false, eval (.Call (.Attribute e "values" apos) [] [] cpos) X.env) :: backTo pos (starEach [] X.env))) _ _ s
  refine Calls.spliced_cons (wpAny_Call_method (T := "dict") (id := "dict.values") hbase rfl hline F.plainAttrs_dict F.slot_dict_values F.type_dict_values (thn (he.run pins s st0 H _ I hq) fun u s1 ⟨x, H1, I1, rx, d, kvs, ex, hd, q⟩ => ?_))
  subst ex
  obtain rfl : u = Value.ref d := rx
  obtain ⟨hz, hs0, vs, kv, hdo⟩ := I1.hok d _ hd
  obtain ⟨ep, hat⟩ := hdo.dictAt
  have lk : kvs.length = vs.length := Paired.length kv
  refine ⟨hdo.typeIs, hdo.mapOf.noDict, ?_⟩
  have I2 : Inv X pins st0 H1 { s1 with heap := s1.heap.push { cls := .type "dict_values", data := .fields #[.ref d] } } := I1.kept (t' := s1.toks) fun b ob q => Heap.get?_push_of_some _ q
  show wpAny _ _ (callWith cpos (.builtin "dict.values") [.ref d] [] []) _ X.xe s1
  refine method_meetsIn F.slot_dict_values F.entry_dict_values rfl (PySem.evalArgs_none ⟨rfl, hdo.typeIs, F.args_dict_values_1 _, _, meets_dict_values (mixKind X.prog X.w) d hs0, ⟨vs, hdo⟩, Calls.spliced_nil ?_⟩)
  refine PySem.W.kdl_call (PySem.W.kdl_values (knd := mixKind X.prog X.w) (kvs := vs) (ep := ep)) (I1.ok.hd hc) ⟨⟨_, Heap.get?_push_size _ rfl, rfl, rfl⟩, hat.push _⟩ (by omega) fun h' tk acc' c' hkeep hS hacc => ?_
  refine ⟨.ref _, _, I2.laid (o := .lst (kvs.map (·.2))) hkeep (Nat.le_refl _) ⟨by rw [List.length_map]; exact hz, acc'.toList, c', vals_of_at (by have z := hacc.1; rw [List.length_map]; simp only [Array.length_toList]; omega) fun j x w h1 h2 => ?_, by rw [Array.toArray_toList]; exact hS⟩, rfl, q _ (I2.hok.fresh (Nat.le_refl _))⟩
  obtain ⟨k, e1⟩ := hacc.2 j w (by rw [← Array.getElem?_toList]; exact h2)
  obtain ⟨y, e2, e3⟩ := pgetR kv e1
  rw [List.getElem?_map, e2] at h1
  cases h1
  exact e3.2
end
/-! ### the readings, step by step -/
theorem in_ext {X : Cx} : InOp X .Add rExt2 := fun pins s st0 H x y u v Q I rx ry h => iop_ext pins s st0 H x y u v Q I rx ry h
section
variable {K : PySem.W.Frag} {st0 : L2.St} {H : Hp} {Q : VK} {D : Ends} {ta tb td ty tx te to : TE} {tr : TA} {v x y : V} {R : Prop}
def rFA (K : PySem.W.Frag) (tv : TE) (rd : V → V → Hp → VK → Prop) (f : Str) (x : V) (st0 : L2.St) (H1 : Hp) (Qn : Hp → Prop) : Prop := ∃ a C dx fs v, x = .ref a ∧ H1 a = some (.ins C dx fs) ∧ Cls K C ∧ NoAttr K C f ∧ fs.lookup f = some v ∧
  tv st0 H1 fun y H2 => rd v y H2 fun z H3 => ∃ dx' fs', H3 a = some (.ins C dx' fs') ∧ fs'.length < 1000 ∧ Qn (upd H3 a (.ins C dx' (putF f z fs')))
theorem r_fldaug {f : Str} {rd : V → V → Hp → VK → Prop} (q : ta st0 H fun x H1 => rFA K tb rd f x st0 H1 fun H2 => D.nx st0 H2) : sFldAug K ta tb rd f D st0 H := q
def rFB (C : Addr) (a : Addr) (f : Str) (z : V) (H3 : Hp) (Qn : Hp → Prop) : Prop := ∃ dx' fs', H3 a = some (.ins C dx' fs') ∧ fs'.length < 1000 ∧ Qn (upd H3 a (.ins C dx' (putF f z fs')))
theorem r_fa {a C dx : Addr} {f : Str} {fs : List (Str × V)} {rd : V → V → Hp → VK → Prop} {Qn : Hp → Prop} (h : H a = some (.ins C dx fs)) (c : Cls K C) (n : NoAttr K C f) (l : fs.lookup f = some v) (q : tb st0 H fun y H2 => rd v y H2 fun z H3 => rFB C a f z H3 Qn) : rFA K tb rd f (.ref a) st0 H Qn := ⟨a, C, dx, fs, v, rfl, h, c, n, l, q⟩
theorem r_fb {a C dx : Addr} {f : Str} {z : V} {fs gs : List (Str × V)} {Qn : Hp → Prop} (h : H a = some (.ins C dx fs)) (l : fs.length < 1000) (e : putF f z fs = gs) (q : Qn (upd H a (.ins C dx gs))) : rFB C a f z H Qn := by
  subst e
  exact ⟨dx, fs, h, l, q⟩
theorem r_add {i j : Int} (q : Q (.int (i + j)) H) : L2.rAdd (.int i) (.int j) H Q := ⟨i, j, rfl, rfl, q⟩
theorem r_ext {l b : Addr} {xs zs : List V} (h : H l = some (.lst xs)) (g : H b = some (.lst zs)) (hz : xs.length + zs.length ≤ 100000) (q : Q (.ref l) (upd H l (.lst (xs ++ zs)))) : rExt2 (.ref l) (.ref b) H Q := KrT.r_ipE h g hz q
theorem r_pop {l : Addr} {xs : List V} (h : H l = some (.lst xs)) (e : xs[xs.length - 1]? = some y) (q : Q y (upd H l (.lst xs.dropLast))) : rPop (.ref l) [] H Q := ⟨l, xs, y, rfl, rfl, h, e, q⟩
def rP1 (x y : V) (H : Hp) (Q : VK) : Prop := ∃ a, x = .ref a ∧ ∃ kvs k v, H a = some (.dK kvs) ∧ y = kV k ∧ valV kvs k = some v ∧ Q v (upd H a (.dK (dropK kvs k)))
def rIsDK (x : V) (H : Hp) (R : Addr → Prop) : Prop := ∃ a, x = .ref a ∧ IsD H a ∧ R a
def rPopK (a : Addr) (y : V) (H2 : Hp) (Q : VK) : Prop := ∃ kvs k v, H2 a = some (.dK kvs) ∧ y = kV k ∧ valV kvs k = some v ∧ Q v (upd H2 a (.dK (dropK kvs k)))
theorem r_dpop1 (q : td st0 H fun x H1 => rIsDK x H1 fun a => ty st0 H1 fun y H2 => rPopK a y H2 Q) : tDPop1 td ty st0 H Q := q
theorem r_isDK {a : Addr} {kvs : List (Key × V)} {R : Addr → Prop} (h : H a = some (.dK kvs)) (q : R a) : rIsDK (.ref a) H R := ⟨a, rfl, .inl ⟨kvs, .inl h⟩, q⟩
theorem r_popK {a : Addr} {kvs : List (Key × V)} {k : Int} (h : H a = some (.dK kvs)) (e : valV kvs (Sum.inl k) = some v) (q : Q v (upd H a (.dK (dropK kvs (Sum.inl k))))) : rPopK a (.int k) H Q := ⟨kvs, Sum.inl k, v, h, rfl, e, q⟩
def rPopD (a : Addr) (y z : V) (H3 : Hp) (Q : VK) : Prop := ∃ kvs k, H3 a = some (.dK kvs) ∧ y = kV k ∧ (∀ v, valV kvs k = some v → Q v (upd H3 a (.dK (dropK kvs k)))) ∧ (valV kvs k = none → Q z H3)
theorem r_dpop2 (q : td st0 H fun x H1 => rIsDK x H1 fun a => ty st0 H1 fun y H2 => tx st0 H2 fun z H3 => rPopD a y z H3 Q) : tDPop2 td ty tx st0 H Q := q
theorem r_popD {a : Addr} {kvs : List (Key × V)} {k : Int} {z : V} (h : H a = some (.dK kvs)) (q1 : ∀ v, valV kvs (Sum.inl k) = some v → Q v (upd H a (.dK (dropK kvs (Sum.inl k))))) (q2 : valV kvs (Sum.inl k) = none → Q z H) : rPopD a (.int k) z H Q := ⟨kvs, Sum.inl k, h, rfl, q1, q2⟩
theorem r_tyDT {a : Addr} {kvs : List (List L2.Key × V)} (h : H a = some (.dT kvs)) (q : R) : rTy K "dict" (.ref a) H R := ⟨.inr (.inr (.inl ⟨rfl, .inr ⟨kvs, h⟩⟩)), q⟩
theorem r_pop1T {a b : Addr} {kvs : List (List L2.Key × V)} {k : List L2.Key} (h : H a = some (.dT kvs)) (hb : H b = some (.tup (k.map kV))) (e : valV kvs k = some v) (q : Q v (upd H a (.dT (dropK kvs k)))) : rPop1T (.ref a) [.ref b] H Q := ⟨a, kvs, k, b, v, rfl, rfl, h, hb, e, q⟩
theorem r_dkT {a b : Addr} {kvs : List (List L2.Key × V)} {k : List L2.Key} {RO : Option V → Prop} (h : H a = some (.dT kvs)) (hb : H b = some (.tup (k.map kV))) (q : RO (valV kvs k)) : rDk (.ref a) (.ref b) H RO := ⟨a, _, rfl, DGet.t h hb, q⟩
theorem r_dgT {a b : Addr} {kvs : List (List L2.Key × V)} {k : List L2.Key} (h : H a = some (.dT kvs)) (hb : H b = some (.tup (k.map kV))) (e : valV kvs k = some v) (q : Q v H) : rDg (.ref a) (.ref b) H Q := ⟨a, v, rfl, by rw [← e]; exact DGet.t h hb, q⟩
theorem r_dpT {a b : Addr} {kvs : List (List L2.Key × V)} {k : List L2.Key} {Qn : Hp → Prop} (h : H a = some (.dT kvs)) (hb : H b = some (.tup (k.map kV))) (hl : kvs.length < 100000) (q : Qn (upd H a (.dT (putK kvs k v)))) : rDp (.ref a) (.ref b) v H Qn := ⟨a, _, rfl, DPut.t h hb (szl hl), q⟩
theorem r_dnewT (q : rNew (.dT []) H Q) : tDNewT st0 H Q := q
theorem r_listVals (q : te st0 H fun x H1 => rValsL x H1 Q) : tListVals te st0 H Q := q
theorem r_valsL {d : Addr} {kvs : List (Key × V)} (h : H d = some (.dK kvs)) (q : rNew (.lst (kvs.map (·.2))) H Q) : rValsL (.ref d) H Q := ⟨d, kvs, rfl, h, q⟩
theorem r_listItems (q : te st0 H fun x H1 => LiI.rItemsL x H1 Q) : LiI.tListItems te st0 H Q := q
theorem r_itemsL {d : Addr} {kvs : List (Key × V)} (h : H d = some (.dK kvs)) (q : ∀ (H' : Hp) (p : Addr) (ts : List Addr), Same H H' → H p = none → (∀ t ∈ ts, H t = none) → H' p = some (.lst (ts.map V.ref)) → Paired (fun (t : Addr) (q : Key × V) => H' t = some (.tup [kV q.1, q.2])) ts kvs → Q (.ref p) H') : LiI.rItemsL (.ref d) H Q :=
  ⟨d, kvs, rfl, h, fun H' p ts s hp ht _ e pr => q H' p ts s hp ht e pr⟩
theorem r_srtDK {a : Addr} {kvs : List (Key × V)} {ks : List Int} (h : H a = some (.dK kvs)) (hk : kvs.map (·.1) = ks.map Sum.inl) (q : ∀ (ns : List Int) (p : Addr) (H' : Hp), ns.Perm ks → ns.Pairwise (· ≤ ·) → H p = none → Same H H' → H' p = some (.lst (ns.map V.int)) → Q (.ref p) H') : rSrtDK [.ref a] H Q :=
  ⟨a, kvs, ks, rfl, h, hk, fun ns p pm srt hp => q ns p _ pm srt hp (same_new hp) upd_same⟩
theorem r_srtDT {a : Addr} {kvs : List (List L2.Key × V)} {ks : List (Int × Int)} (h : H a = some (.dT kvs)) (hk : kvs.map (·.1) = ks.map (fun k => [Sum.inl k.1, Sum.inl k.2])) (q : ∀ (bs : List Addr) (ns : List (Int × Int)) (p : Addr) (H' : Hp), ns.Perm ks → ns.Pairwise (fun x y => SrtO.lexB y x = false) → H p = none → Same H H' → PrAt H bs ns → H' p = some (.lst (bs.map V.ref)) → Q (.ref p) H') : rSrtDT [.ref a] H Q :=
  ⟨a, kvs, ks, rfl, h, hk, fun bs ns p pm srt hp pr => q bs ns p _ pm srt hp (same_new hp) pr upd_same⟩
theorem r_truL {a : Addr} {xs : List V} {RB : Bool → Prop} (h : SqL K H a xs) (q : RB (!xs.isEmpty)) : rTr K (.ref a) H RB := ⟨_, .inl ⟨xs, h, rfl⟩, q⟩
end
theorem pe_fldK {X : Cx} {K : PySem.W.Frag} {e : Expr} {f : Str} {pos : Pos} {ta : TE} (h : X.K = K) (he : PE X e ta) (hb : attributeBase e f X.env (eval e X.env) = eval e X.env) : PE X (.Attribute e f pos) (tFld K ta f) := h ▸ pe_fld he hb
/-! ### how many are in a set of ints -/
theorem setR_count {w : World} {h : Heap} {a : Addr} {ns : List Int} {c : Nat} (R : SetR w h a (fun j => decide (j ∈ ns)) c) (nd : ns.Nodup) : c = ns.length := by
  obtain ⟨o, es, ep, t, -, -, -, -, kd, hm, -, -, hn, -, -⟩ := R
  have pm : (es.toList.map keyOf).Perm ns := (List.perm_ext_iff_of_nodup kd nd).mpr fun k => by
    rw [← hm k, decide_eq_true_eq]
  have := pm.length_eq
  rw [List.length_map, Array.length_toList, hn] at this
  exact this
def rSetN (K : PySem.W.Frag) (w : World) : List V → Hp → VK → Prop := fun xs H Q => ∃ (l : Addr) (ns : List Int), xs = [V.ref l] ∧ SqL K H l (ns.map V.int) ∧ ns.length ≤ 4000 ∧ ∀ (p : Addr) (c : Nat), H p = none → (ns.Nodup → c = ns.length) → Q (.ref p) (upd H p (SetO w p (fun j => decide (j ∈ ns)) c))
theorem cr_setN {X : Cx} (hc : X.calm = true) : CallR X (.type "set") (rSetN X.K X.w) := by
  intro pins s σ H vs us Q I r h
  obtain ⟨l, ns, rfl, hs, hn, q⟩ := h
  obtain ⟨its, rv, pl, pz⟩ := I.list hs
  rw [Vals.ref1 r]
  have inI := rv.ints
  refine KrS.set_ints (I.ok.hd hc) pl.isList (ns := ns) (by simpa using inI) (by unfold scanBound; omega) fun h2 tk c R _ all => ?_
  exact ⟨.ref _, upd H s.heap.objs.size (SetO X.w s.heap.objs.size (fun j => decide (j ∈ ns)) c), I.laid (t' := tk) all (Nat.le_refl _) (setO_new R), rfl, q _ c (I.hok.fresh (Nat.le_refl _)) (setR_count R)⟩
def rLenS (w : World) : List V → Hp → VK → Prop := fun xs H Q => ∃ (a : Addr) (S : Int → Bool) (n : Nat), xs = [V.ref a] ∧ H a = some (SetO w a S n) ∧ Q (.int (n : Nat)) H
theorem cr_lenS {X : Cx} : CallR X (.builtin "len") (rLenS X.w) := by
  intro pins s σ H xs us Q I r h
  obtain ⟨a, S, n, rfl, ha, q⟩ := h
  obtain ⟨o, es, ep, t, ho, hx, hd, -, -, -, hb, hf, rfl, -, -⟩ := setO_get I ha
  rw [Vals.ref1 r]
  refine call_len_set ho hx hd hf (by unfold scanBound at hb; omega) ?_
  exact ⟨.int ((es.size : Nat) : Int), H, I.tok _, ⟨_, rfl⟩, q⟩
theorem r_setN {K : PySem.W.Frag} {w : World} {l : Addr} {ns : List Int} {H : Hp} {Q : VK} (h : SqL K H l (ns.map V.int)) (hz : ns.length ≤ 4000) (q : ∀ (p : Addr) (c : Nat) (H' : Hp), H p = none → (ns.Nodup → c = ns.length) → Same H H' → H' p = some (SetO w p (fun j => decide (j ∈ ns)) c) → Q (.ref p) H') : rSetN K w [.ref l] H Q :=
  ⟨l, ns, rfl, h, hz, fun p c hp hc => q p c _ hp hc (same_new hp) upd_same⟩
theorem r_lenS {w : World} {a : Addr} {S : Int → Bool} {n : Nat} {H : Hp} {Q : VK} (h : H a = some (SetO w a S n)) (q : Q (.int (n : Nat)) H) : rLenS w [.ref a] H Q := ⟨a, S, n, rfl, h, q⟩
/-! ### the truth of a dict with tuple keys -/
section
variable {κ : Type} [DecidableEq κ] {prog : Program} {w : World} {knd : HeapKind prog w κ} {A : Around} {E : Value → Shared → Prop} {s : Shared}
theorem truthy_H {d : Addr} {xs : List (κ × Addr × Value)} {Q : Bool → Shared → Prop} (hd : (d == sysModules) = false) (hm : s.heap.DictOfH knd d xs) (hz : (xs.length : Int) < 2 ^ 63) (q : ∀ t, Q (!xs.isEmpty) { s with toks := t }) : wpAny (model prog w) A (truthy (.ref d)) Q E s := by
  have sz : ((xs.length : Int) != 0) = !xs.isEmpty := by
    cases xs with
    | nil => rfl
    | cons x t =>
      simp only [List.length_cons, List.isEmpty_cons, Bool.not_false, bne_iff_ne, ne_eq]
      omega
  have run := wpAny_runValue (A := A) (E := E) (codeAny_builtin entry_len (by
    rw [Around.under_plainId plain_len _]
    exact wpAny_len_body_dictH (Q := fun r s' => (∃ t, r = .int xs.length t) ∧ Q (!xs.isEmpty) s') (E := fun e s' => E e s') hd hm hz ⟨⟨_, rfl⟩, q _⟩ |> fun z => wpAny_mono z (fun fin s' ⟨r, e, h⟩ => by subst e; exact h) fun _ _ e => e))
  unfold truthy
  refine wpAny_bind (wpAny_callSpecial?_none (name := Str.ofString "__bool__") hm.typeIs noBool_dict ?_)
  refine wpAny_bind (wpAny_specialOf (name := Str.ofString "__len__") hm.typeIs F.slot_dict_len.lookup ?_)
  refine wpAny_bind (wpAny_mono run (fun r s' h => ?_) fun _ _ e => e)
  obtain ⟨⟨t, rfl⟩, h⟩ := h
  exact wpAny_pure (by rw [← sz] at h; exact h)
end
def tTruT (ta : TE) : TT := fun σ H QT => ta σ H fun x H' => ∃ (a : Addr) (kvs : List (List L2.Key × V)), x = .ref a ∧ H' a = some (.dT kvs) ∧ QT (!kvs.isEmpty) H'
theorem p_truT {X : Cx} {e : Expr} {ta : TE} (ha : PE X e ta) (he : ∀ whole, isTrue e X.env whole = (do let v ← whole; standAt e.pos; holding [v] (truthy v))) : PT X e (tTruT ta) := by
  refine ⟨fun pins s σ H Q I h => ?_⟩
  refine isTrue_plain (thn (ha.run pins s σ H _ I h) fun v s1 ⟨x, H1, I1, r1, q1⟩ => ?_) (he _)
  obtain ⟨a, kvs, rfl, ha, q⟩ := q1
  cases r1
  obtain ⟨z, hd, ys, rel, dd⟩ := dt_of I1.hok ha
  have hl : kvs.length = ys.length := Paired.length rel
  have em : (!ys.isEmpty) = !kvs.isEmpty := by
    cases kvs <;> cases ys <;> first | rfl | simp at hl
  exact truthy_H hd dd (by rw [← hl]; rw [sizeLine_eq] at z; omega) fun t => ⟨H1, I1.tok _, by rw [em]; exact q⟩
theorem r_truT {ta : TE} {σ : L2.St} {H : Hp} {QT : Bool → Hp → Prop} (q : ta σ H fun x H' => ∃ (a : Addr) (kvs : List (List L2.Key × V)), x = .ref a ∧ H' a = some (.dT kvs) ∧ QT (!kvs.isEmpty) H') : tTruT ta σ H QT := q
theorem op_catTK {X : Cx} {K : PySem.W.Frag} (h : X.K = K) : OpR X (binaryOp .Add) (rCatT K) := h ▸ op_catT
theorem sl_tupK {X : Cx} {K : PySem.W.Frag} (h : X.K = K) : SlR X (rSlT K) := h ▸ sl_tup
theorem r_catT {K : PySem.W.Frag} {H : Hp} {Q : VK} {a b : Addr} {xs ys : List V} (h : SqT K H a xs) (g : SqT K H b ys) (nx : xs ≠ []) (ny : ys ≠ []) (hz : xs.length + ys.length ≤ 100000) (q : rNew (.tup (xs ++ ys)) H Q) : rCatT K (.ref a) (.ref b) H Q :=
  ⟨a, b, xs, ys, rfl, rfl, h, g, nx, sz hz, fun z => absurd z ny, fun _ => q⟩
theorem r_slT {K : PySem.W.Frag} {H : Hp} {Q : VK} {a : Addr} {xs : List V} {lo hi : Option Int} (h : SqT K H a xs) (n : ¬ (HT.sIx xs.length 0 lo = 0 ∧ HT.sIx xs.length xs.length hi = xs.length)) (q : rNew (.tup (cutV xs lo hi)) H Q) : rSlT K (.ref a) lo hi H Q := ⟨a, xs, rfl, h, n, q⟩
end KrD

namespace Kw
open Kr L2 PySem PySem.Spec PyProof.Rows
def top (i : Nat) : Stmt := PySem.Challenge.pw_keeprows_k32_whole_one_role_for_each_pag.main.body.getD i (.Pass ⟨0, 0, 0, 0⟩)
abbrev s_is_from : Stmt := top 8
abbrev N_is_from : List Str := ["number", "least"]
theorem st_is_from (v0 v1 : V) : L2.start N_is_from [v0, v1] = [some v0, some v1] := rfl
theorem sc_is_from : FnScope N_is_from ["number", "least"] (defScope s_is_from) := ⟨rfl, rfl, rfl, by decide +kernel, rfl, by decide +kernel, by decide +kernel⟩
abbrev s_is_within : Stmt := top 9
abbrev N_is_within : List Str := ["number", "least", "most"]
theorem st_is_within (v0 v1 v2 : V) : L2.start N_is_within [v0, v1, v2] = [some v0, some v1, some v2] := rfl
theorem sc_is_within : FnScope N_is_within ["number", "least", "most"] (defScope s_is_within) := ⟨rfl, rfl, rfl, by decide +kernel, rfl, by decide +kernel, by decide +kernel⟩
abbrev s_check_number : Stmt := top 10
abbrev N_check_number : List Str := ["number", "least", "most"]
theorem st_check_number (v0 v1 v2 : V) : L2.start N_check_number [v0, v1, v2] = [some v0, some v1, some v2] := rfl
theorem sc_check_number : FnScope N_check_number ["number", "least", "most"] (defScope s_check_number) := ⟨rfl, rfl, rfl, by decide +kernel, rfl, by decide +kernel, by decide +kernel⟩
abbrev s_check_moment : Stmt := top 11
abbrev N_check_moment : List Str := ["moment"]
theorem st_check_moment (v0 : V) : L2.start N_check_moment [v0] = [some v0] := rfl
theorem sc_check_moment : FnScope N_check_moment ["moment"] (defScope s_check_moment) := ⟨rfl, rfl, rfl, by decide +kernel, rfl, by decide +kernel, by decide +kernel⟩
abbrev s_nodes_beyond : Stmt := top 13
abbrev N_nodes_beyond : List Str := ["fanout", "first", "last", "low", "high", "nodes", "level", "width", "above", "many", "left", "right"]
theorem st_nodes_beyond (v0 v1 v2 v3 v4 : V) : L2.start N_nodes_beyond [v0, v1, v2, v3, v4] = [some v0, some v1, some v2, some v3, some v4, none, none, none, none, none, none, none] := rfl
theorem sc_nodes_beyond : FnScope N_nodes_beyond ["fanout", "first", "last", "low", "high"] (defScope s_nodes_beyond) := ⟨rfl, rfl, rfl, by decide +kernel, rfl, by decide +kernel, by decide +kernel⟩
abbrev s_heap_list : Stmt := top 16
abbrev N_heap_list : List Str := ["state"]
theorem st_heap_list (v0 : V) : L2.start N_heap_list [v0] = [some v0] := rfl
theorem sc_heap_list : FnScope N_heap_list ["state"] (defScope s_heap_list) := ⟨rfl, rfl, rfl, by decide +kernel, rfl, by decide +kernel, by decide +kernel⟩
abbrev s_node_list : Stmt := top 17
abbrev N_node_list : List Str := ["state", "level", "index"]
theorem st_node_list (v0 : V) : L2.start N_node_list [v0] = [some v0, none, none] := rfl
theorem sc_node_list : FnScope N_node_list ["state"] (defScope s_node_list) := ⟨rfl, rfl, rfl, by decide +kernel, rfl, by decide +kernel, by decide +kernel⟩
abbrev s_root_of : Stmt := top 18
abbrev N_root_of : List Str := ["state"]
theorem st_root_of (v0 : V) : L2.start N_root_of [v0] = [some v0] := rfl
theorem sc_root_of : FnScope N_root_of ["state"] (defScope s_root_of) := ⟨rfl, rfl, rfl, by decide +kernel, rfl, by decide +kernel, by decide +kernel⟩
abbrev s_free_list : Stmt := top 19
abbrev N_free_list : List Str := ["state", "count", "missing"]
theorem st_free_list (v0 v1 : V) : L2.start N_free_list [v0, v1] = [some v0, some v1, none] := rfl
theorem sc_free_list : FnScope N_free_list ["state", "count"] (defScope s_free_list) := ⟨rfl, rfl, rfl, by decide +kernel, rfl, by decide +kernel, by decide +kernel⟩
abbrev s_are_lengths : Stmt := top 24
abbrev N_are_lengths : List Str := ["lengths", "length"]
theorem st_are_lengths (v0 : V) : L2.start N_are_lengths [v0] = [some v0, none] := rfl
theorem sc_are_lengths : FnScope N_are_lengths ["lengths"] (defScope s_are_lengths) := ⟨rfl, rfl, rfl, by decide +kernel, rfl, by decide +kernel, by decide +kernel⟩
abbrev s_bounds_behind : Stmt := top 25
abbrev N_bounds_behind : List Str := ["lengths"]
theorem st_bounds_behind (v0 : V) : L2.start N_bounds_behind [v0] = [some v0] := rfl
theorem sc_bounds_behind : FnScope N_bounds_behind ["lengths"] (defScope s_bounds_behind) := ⟨rfl, rfl, rfl, by decide +kernel, rfl, by decide +kernel, by decide +kernel⟩
abbrev s_Settings___init__ : Stmt := inClass (top 26) 0
abbrev N_Settings___init__ : List Str := ["self", "lengths", "size", "fanout", "records", "every", "keep", "given", "part", "least", "most"]
theorem st_Settings___init__ (v0 v1 v2 v3 v4 v5 v6 : V) : L2.start N_Settings___init__ [v0, v1, v2, v3, v4, v5, v6] = [some v0, some v1, some v2, some v3, some v4, some v5, some v6, none, none, none, none] := rfl
theorem sc_Settings___init__ : FnScope N_Settings___init__ ["self", "lengths", "size", "fanout", "records", "every", "keep"] (defScope s_Settings___init__) := ⟨rfl, rfl, rfl, by decide +kernel, rfl, by decide +kernel, by decide +kernel⟩
abbrev s_check_settings : Stmt := top 27
abbrev N_check_settings : List Str := ["settings"]
theorem st_check_settings (v0 : V) : L2.start N_check_settings [v0] = [some v0] := rfl
theorem sc_check_settings : FnScope N_check_settings ["settings"] (defScope s_check_settings) := ⟨rfl, rfl, rfl, by decide +kernel, rfl, by decide +kernel, by decide +kernel⟩
abbrev s_rows_from : Stmt := top 29
abbrev N_rows_from : List Str := ["settings", "row", "lengths", "rows", "left"]
theorem st_rows_from (v0 v1 : V) : L2.start N_rows_from [v0, v1] = [some v0, some v1, none, none, none] := rfl
theorem sc_rows_from : FnScope N_rows_from ["settings", "row"] (defScope s_rows_from) := ⟨rfl, rfl, rfl, by decide +kernel, rfl, by decide +kernel, by decide +kernel⟩
abbrev s_Packing_page_with : Stmt := inClass (top 30) 10
abbrev N_Packing_page_with : List Str := ["self", "row", "turns", "near", "page"]
theorem st_Packing_page_with (v0 v1 : V) : L2.start N_Packing_page_with [v0, v1] = [some v0, some v1, none, none, none] := rfl
theorem sc_Packing_page_with : FnScope N_Packing_page_with ["self", "row"] (defScope s_Packing_page_with) := ⟨rfl, rfl, rfl, by decide +kernel, rfl, by decide +kernel, by decide +kernel⟩
abbrev s_Packing___init__ : Stmt := inClass (top 30) 0
abbrev N_Packing___init__ : List Str := ["self", "settings", "many", "starts", "page_of_place"]
theorem st_Packing___init__ (v0 v1 : V) : L2.start N_Packing___init__ [v0, v1] = [some v0, some v1, none, none, none] := rfl
theorem sc_Packing___init__ : FnScope N_Packing___init__ ["self", "settings"] (defScope s_Packing___init__) := ⟨rfl, rfl, rfl, by decide +kernel, rfl, by decide +kernel, by decide +kernel⟩
abbrev s_Packing_begun : Stmt := inClass (top 30) 6
abbrev N_Packing_begun : List Str := ["self", "moment"]
theorem st_Packing_begun (v0 v1 : V) : L2.start N_Packing_begun [v0, v1] = [some v0, some v1] := rfl
theorem sc_Packing_begun : FnScope N_Packing_begun ["self", "moment"] (defScope s_Packing_begun) := ⟨rfl, rfl, rfl, by decide +kernel, rfl, by decide +kernel, by decide +kernel⟩
abbrev s_Packing_start_of : Stmt := inClass (top 30) 9
abbrev N_Packing_start_of : List Str := ["self", "page", "turns"]
theorem st_Packing_start_of (v0 v1 : V) : L2.start N_Packing_start_of [v0, v1] = [some v0, some v1, none] := rfl
theorem sc_Packing_start_of : FnScope N_Packing_start_of ["self", "page"] (defScope s_Packing_start_of) := ⟨rfl, rfl, rfl, by decide +kernel, rfl, by decide +kernel, by decide +kernel⟩
abbrev s_State___init__ : Stmt := inClass (top 32) 0
abbrev N_State___init__ : List Str := ["self", "settings"]
theorem st_State___init__ (v0 v1 : V) : L2.start N_State___init__ [v0, v1] = [some v0, some v1] := rfl
theorem sc_State___init__ : FnScope N_State___init__ ["self", "settings"] (defScope s_State___init__) := ⟨rfl, rfl, rfl, by decide +kernel, rfl, by decide +kernel, by decide +kernel⟩
abbrev s_do_checkpoint : Stmt := top 41
abbrev N_do_checkpoint : List Str := ["state", "events", "freed", "page"]
theorem st_do_checkpoint (v0 v1 : V) : L2.start N_do_checkpoint [v0, v1] = [some v0, some v1, none, none] := rfl
theorem sc_do_checkpoint : FnScope N_do_checkpoint ["state", "events"] (defScope s_do_checkpoint) := ⟨rfl, rfl, rfl, by decide +kernel, rfl, by decide +kernel, by decide +kernel⟩
abbrev s_change_parents : Stmt := top 40
abbrev N_change_parents : List Str := ["state", "number", "nodes", "fanout", "parents", "node", "level", "index"]
theorem st_change_parents (v0 v1 v2 : V) : L2.start N_change_parents [v0, v1, v2] = [some v0, some v1, some v2, none, none, none, none, none] := rfl
theorem sc_change_parents : FnScope N_change_parents ["state", "number", "nodes"] (defScope s_change_parents) := ⟨rfl, rfl, rfl, by decide +kernel, rfl, by decide +kernel, by decide +kernel⟩
abbrev s_give_back : Stmt := top 35
abbrev N_give_back : List Str := ["state", "page", "role", "events"]
theorem st_give_back (v0 v1 v2 v3 : V) : L2.start N_give_back [v0, v1, v2, v3] = [some v0, some v1, some v2, some v3] := rfl
theorem sc_give_back : FnScope N_give_back ["state", "page", "role", "events"] (defScope s_give_back) := ⟨rfl, rfl, rfl, by decide +kernel, rfl, by decide +kernel, by decide +kernel⟩
abbrev s_expire : Stmt := top 39
abbrev N_expire : List Str := ["state", "events", "number", "last", "ended", "level", "index"]
theorem st_expire (v0 v1 : V) : L2.start N_expire [v0, v1] = [some v0, some v1, none, none, none, none, none] := rfl
theorem sc_expire : FnScope N_expire ["state", "events"] (defScope s_expire) := ⟨rfl, rfl, rfl, by decide +kernel, rfl, by decide +kernel, by decide +kernel⟩
abbrev s_take_page : Stmt := top 34
abbrev N_take_page : List Str := ["state", "role", "events", "page"]
theorem st_take_page (v0 v1 v2 : V) : L2.start N_take_page [v0, v1, v2] = [some v0, some v1, some v2, none] := rfl
theorem sc_take_page : FnScope N_take_page ["state", "role", "events"] (defScope s_take_page) := ⟨rfl, rfl, rfl, by decide +kernel, rfl, by decide +kernel, by decide +kernel⟩
abbrev s_begin_heap_page : Stmt := top 38
abbrev N_begin_heap_page : List Str := ["state", "events", "number", "begun", "level", "index", "page"]
theorem st_begin_heap_page (v0 v1 : V) : L2.start N_begin_heap_page [v0, v1] = [some v0, some v1, none, none, none, none, none] := rfl
theorem sc_begin_heap_page : FnScope N_begin_heap_page ["state", "events"] (defScope s_begin_heap_page) := ⟨rfl, rfl, rfl, by decide +kernel, rfl, by decide +kernel, by decide +kernel⟩
abbrev s_put_row : Stmt := top 37
abbrev N_put_row : List Str := ["state", "events", "page"]
theorem st_put_row (v0 v1 : V) : L2.start N_put_row [v0, v1] = [some v0, some v1, none] := rfl
theorem sc_put_row : FnScope N_put_row ["state", "events"] (defScope s_put_row) := ⟨rfl, rfl, rfl, by decide +kernel, rfl, by decide +kernel, by decide +kernel⟩
abbrev s_write_to_log : Stmt := top 36
abbrev N_write_to_log : List Str := ["state", "events", "settings", "place"]
theorem st_write_to_log (v0 v1 : V) : L2.start N_write_to_log [v0, v1] = [some v0, some v1, none, none] := rfl
theorem sc_write_to_log : FnScope N_write_to_log ["state", "events"] (defScope s_write_to_log) := ⟨rfl, rfl, rfl, by decide +kernel, rfl, by decide +kernel, by decide +kernel⟩
abbrev s_do_row : Stmt := top 33
abbrev N_do_row : List Str := ["state", "events"]
theorem st_do_row (v0 : V) : L2.start N_do_row [v0] = [some v0, none] := rfl
theorem sc_do_row : FnScope N_do_row ["state"] (defScope s_do_row) := ⟨rfl, rfl, rfl, by decide +kernel, rfl, by decide +kernel, by decide +kernel⟩
abbrev s_Store___init__ : Stmt := inClass (top 43) 0
abbrev N_Store___init__ : List Str := ["self", "settings"]
theorem st_Store___init__ (v0 v1 : V) : L2.start N_Store___init__ [v0, v1] = [some v0, some v1] := rfl
theorem sc_Store___init__ : FnScope N_Store___init__ ["self", "settings"] (defScope s_Store___init__) := ⟨rfl, rfl, rfl, by decide +kernel, rfl, by decide +kernel, by decide +kernel⟩
abbrev s_Store_step : Stmt := inClass (top 43) 3
abbrev N_Store_step : List Str := ["self"]
theorem st_Store_step (v0 : V) : L2.start N_Store_step [v0] = [some v0] := rfl
theorem sc_Store_step : FnScope N_Store_step ["self"] (defScope s_Store_step) := ⟨rfl, rfl, rfl, by decide +kernel, rfl, by decide +kernel, by decide +kernel⟩
abbrev s_Store_heap_pages : Stmt := inClass (top 43) 5
abbrev N_Store_heap_pages : List Str := ["self"]
theorem st_Store_heap_pages (v0 : V) : L2.start N_Store_heap_pages [v0] = [some v0] := rfl
theorem sc_Store_heap_pages : FnScope N_Store_heap_pages ["self"] (defScope s_Store_heap_pages) := ⟨rfl, rfl, rfl, by decide +kernel, rfl, by decide +kernel, by decide +kernel⟩
abbrev s_Store_node_pages : Stmt := inClass (top 43) 6
abbrev N_Store_node_pages : List Str := ["self"]
theorem st_Store_node_pages (v0 : V) : L2.start N_Store_node_pages [v0] = [some v0] := rfl
theorem sc_Store_node_pages : FnScope N_Store_node_pages ["self"] (defScope s_Store_node_pages) := ⟨rfl, rfl, rfl, by decide +kernel, rfl, by decide +kernel, by decide +kernel⟩
abbrev s_Store_root : Stmt := inClass (top 43) 7
abbrev N_Store_root : List Str := ["self"]
theorem st_Store_root (v0 : V) : L2.start N_Store_root [v0] = [some v0] := rfl
theorem sc_Store_root : FnScope N_Store_root ["self"] (defScope s_Store_root) := ⟨rfl, rfl, rfl, by decide +kernel, rfl, by decide +kernel, by decide +kernel⟩
abbrev s_Store_log_pages : Stmt := inClass (top 43) 8
abbrev N_Store_log_pages : List Str := ["self"]
theorem st_Store_log_pages (v0 : V) : L2.start N_Store_log_pages [v0] = [some v0] := rfl
theorem sc_Store_log_pages : FnScope N_Store_log_pages ["self"] (defScope s_Store_log_pages) := ⟨rfl, rfl, rfl, by decide +kernel, rfl, by decide +kernel, by decide +kernel⟩
abbrev s_Store_waiting_pages : Stmt := inClass (top 43) 9
abbrev N_Store_waiting_pages : List Str := ["self"]
theorem st_Store_waiting_pages (v0 : V) : L2.start N_Store_waiting_pages [v0] = [some v0] := rfl
theorem sc_Store_waiting_pages : FnScope N_Store_waiting_pages ["self"] (defScope s_Store_waiting_pages) := ⟨rfl, rfl, rfl, by decide +kernel, rfl, by decide +kernel, by decide +kernel⟩
abbrev s_Store_free_pages : Stmt := inClass (top 43) 11
abbrev N_Store_free_pages : List Str := ["self", "count"]
theorem st_Store_free_pages (v0 v1 : V) : L2.start N_Store_free_pages [v0, v1] = [some v0, some v1] := rfl
theorem sc_Store_free_pages : FnScope N_Store_free_pages ["self", "count"] (defScope s_Store_free_pages) := ⟨rfl, rfl, rfl, by decide +kernel, rfl, by decide +kernel, by decide +kernel⟩
abbrev s_Store_file_size : Stmt := inClass (top 43) 12
abbrev N_Store_file_size : List Str := ["self"]
theorem st_Store_file_size (v0 : V) : L2.start N_Store_file_size [v0] = [some v0] := rfl
theorem sc_Store_file_size : FnScope N_Store_file_size ["self"] (defScope s_Store_file_size) := ⟨rfl, rfl, rfl, by decide +kernel, rfl, by decide +kernel, by decide +kernel⟩
abbrev s__law_digits : Stmt := top 45
abbrev N__law_digits : List Str := ["cell", "many", "digits", "rest", "number", "k"]
theorem st__law_digits (v0 v1 : V) : L2.start N__law_digits [v0, v1] = [some v0, some v1, none, none, none, none] := rfl
theorem sc__law_digits : FnScope N__law_digits ["cell", "many"] (defScope s__law_digits) := ⟨rfl, rfl, rfl, by decide +kernel, rfl, by decide +kernel, by decide +kernel⟩
abbrev s__law_parts : Stmt := top 46
abbrev N__law_parts : List Str := ["digits", "size", "lengths", "parts", "k"]
theorem st__law_parts (v0 : V) : L2.start N__law_parts [v0] = [some v0, none, none, none, none] := rfl
theorem sc__law_parts : FnScope N__law_parts ["digits"] (defScope s__law_parts) := ⟨rfl, rfl, rfl, by decide +kernel, rfl, by decide +kernel, by decide +kernel⟩
abbrev s__law_settings : Stmt := top 47
abbrev N__law_settings : List Str := ["parts", "fan", "many", "pace", "kept", "word"]
theorem st__law_settings (v0 : V) : L2.start N__law_settings [v0] = [some v0, none, none, none, none, none] := rfl
theorem sc__law_settings : FnScope N__law_settings ["parts"] (defScope s__law_settings) := ⟨rfl, rfl, rfl, by decide +kernel, rfl, by decide +kernel, by decide +kernel⟩
abbrev s__law_busy : Stmt := top 48
abbrev N__law_busy : List Str := ["store", "some", "number", "page", "row"]
theorem st__law_busy (v0 : V) : L2.start N__law_busy [v0] = [some v0, none, none, none, none] := rfl
theorem sc__law_busy : FnScope N__law_busy ["store"] (defScope s__law_busy) := ⟨rfl, rfl, rfl, by decide +kernel, rfl, by decide +kernel, by decide +kernel⟩
abbrev s__law_row_right : Stmt := top 49
abbrev N__law_row_right : List Str := ["store", "written", "busy", "size", "free", "event", "due", "page"]
theorem st__law_row_right (v0 v1 : V) : L2.start N__law_row_right [v0, v1] = [some v0, some v1, none, none, none, none, none, none] := rfl
theorem sc__law_row_right : FnScope N__law_row_right ["store", "written"] (defScope s__law_row_right) := ⟨rfl, rfl, rfl, by decide +kernel, rfl, by decide +kernel, by decide +kernel⟩
abbrev s_law : Stmt := top 50
abbrev N_law : List Str := ["script", "cell", "digits", "store", "written", "most", "row"]
theorem st_law (v0 : V) : L2.start N_law [v0] = [some v0, none, none, none, none, none, none] := rfl
theorem sc_law : FnScope N_law ["script"] (defScope s_law) := ⟨rfl, rfl, rfl, by decide +kernel, rfl, by decide +kernel, by decide +kernel⟩
def d_is_from : He.DefD := ⟨("is_from", none), "is_from", "is_from", defArgs s_is_from, defBody s_is_from, defScope s_is_from, [], []⟩
def d_is_within : He.DefD := ⟨("is_within", none), "is_within", "is_within", defArgs s_is_within, defBody s_is_within, defScope s_is_within, [], []⟩
def d_check_number : He.DefD := ⟨("check_number", none), "check_number", "check_number", defArgs s_check_number, defBody s_check_number, defScope s_check_number, [], []⟩
def d_check_moment : He.DefD := ⟨("check_moment", none), "check_moment", "check_moment", defArgs s_check_moment, defBody s_check_moment, defScope s_check_moment, [], []⟩
def d_nodes_beyond : He.DefD := ⟨("nodes_beyond", none), "nodes_beyond", "nodes_beyond", defArgs s_nodes_beyond, defBody s_nodes_beyond, defScope s_nodes_beyond, [], []⟩
def d_heap_list : He.DefD := ⟨("heap_list", none), "heap_list", "heap_list", defArgs s_heap_list, defBody s_heap_list, defScope s_heap_list, [], []⟩
def d_node_list : He.DefD := ⟨("node_list", none), "node_list", "node_list", defArgs s_node_list, defBody s_node_list, defScope s_node_list, [], []⟩
def d_root_of : He.DefD := ⟨("root_of", none), "root_of", "root_of", defArgs s_root_of, defBody s_root_of, defScope s_root_of, [], []⟩
def d_free_list : He.DefD := ⟨("free_list", none), "free_list", "free_list", defArgs s_free_list, defBody s_free_list, defScope s_free_list, [], []⟩
def d_are_lengths : He.DefD := ⟨("are_lengths", none), "are_lengths", "are_lengths", defArgs s_are_lengths, defBody s_are_lengths, defScope s_are_lengths, [], []⟩
def d_bounds_behind : He.DefD := ⟨("bounds_behind", none), "bounds_behind", "bounds_behind", defArgs s_bounds_behind, defBody s_bounds_behind, defScope s_bounds_behind, [], []⟩
def d_Settings___init__ : He.DefD := ⟨("Settings", some "__init__"), "__init__", "Settings.__init__", defArgs s_Settings___init__, defBody s_Settings___init__, defScope s_Settings___init__, [], []⟩
def d_check_settings : He.DefD := ⟨("check_settings", none), "check_settings", "check_settings", defArgs s_check_settings, defBody s_check_settings, defScope s_check_settings, [], []⟩
def d_rows_from : He.DefD := ⟨("rows_from", none), "rows_from", "rows_from", defArgs s_rows_from, defBody s_rows_from, defScope s_rows_from, [], []⟩
def d_Packing_page_with : He.DefD := ⟨("Packing", some "page_with"), "page_with", "Packing.page_with", defArgs s_Packing_page_with, defBody s_Packing_page_with, defScope s_Packing_page_with, [], []⟩
def d_Packing___init__ : He.DefD := ⟨("Packing", some "__init__"), "__init__", "Packing.__init__", defArgs s_Packing___init__, defBody s_Packing___init__, defScope s_Packing___init__, [], []⟩
def d_Packing_begun : He.DefD := ⟨("Packing", some "begun"), "begun", "Packing.begun", defArgs s_Packing_begun, defBody s_Packing_begun, defScope s_Packing_begun, [], []⟩
def d_Packing_start_of : He.DefD := ⟨("Packing", some "start_of"), "start_of", "Packing.start_of", defArgs s_Packing_start_of, defBody s_Packing_start_of, defScope s_Packing_start_of, [], []⟩
def d_State___init__ : He.DefD := ⟨("State", some "__init__"), "__init__", "State.__init__", defArgs s_State___init__, defBody s_State___init__, defScope s_State___init__, [], []⟩
def d_do_checkpoint : He.DefD := ⟨("do_checkpoint", none), "do_checkpoint", "do_checkpoint", defArgs s_do_checkpoint, defBody s_do_checkpoint, defScope s_do_checkpoint, [], []⟩
def d_change_parents : He.DefD := ⟨("change_parents", none), "change_parents", "change_parents", defArgs s_change_parents, defBody s_change_parents, defScope s_change_parents, [], []⟩
def d_give_back : He.DefD := ⟨("give_back", none), "give_back", "give_back", defArgs s_give_back, defBody s_give_back, defScope s_give_back, [], []⟩
def d_expire : He.DefD := ⟨("expire", none), "expire", "expire", defArgs s_expire, defBody s_expire, defScope s_expire, [], []⟩
def d_take_page : He.DefD := ⟨("take_page", none), "take_page", "take_page", defArgs s_take_page, defBody s_take_page, defScope s_take_page, [], []⟩
def d_begin_heap_page : He.DefD := ⟨("begin_heap_page", none), "begin_heap_page", "begin_heap_page", defArgs s_begin_heap_page, defBody s_begin_heap_page, defScope s_begin_heap_page, [], []⟩
def d_put_row : He.DefD := ⟨("put_row", none), "put_row", "put_row", defArgs s_put_row, defBody s_put_row, defScope s_put_row, [], []⟩
def d_write_to_log : He.DefD := ⟨("write_to_log", none), "write_to_log", "write_to_log", defArgs s_write_to_log, defBody s_write_to_log, defScope s_write_to_log, [], []⟩
def d_do_row : He.DefD := ⟨("do_row", none), "do_row", "do_row", defArgs s_do_row, defBody s_do_row, defScope s_do_row, [], []⟩
def d_Store___init__ : He.DefD := ⟨("Store", some "__init__"), "__init__", "Store.__init__", defArgs s_Store___init__, defBody s_Store___init__, defScope s_Store___init__, [], []⟩
def d_Store_step : He.DefD := ⟨("Store", some "step"), "step", "Store.step", defArgs s_Store_step, defBody s_Store_step, defScope s_Store_step, [], []⟩
def d_Store_heap_pages : He.DefD := ⟨("Store", some "heap_pages"), "heap_pages", "Store.heap_pages", defArgs s_Store_heap_pages, defBody s_Store_heap_pages, defScope s_Store_heap_pages, [], []⟩
def d_Store_node_pages : He.DefD := ⟨("Store", some "node_pages"), "node_pages", "Store.node_pages", defArgs s_Store_node_pages, defBody s_Store_node_pages, defScope s_Store_node_pages, [], []⟩
def d_Store_root : He.DefD := ⟨("Store", some "root"), "root", "Store.root", defArgs s_Store_root, defBody s_Store_root, defScope s_Store_root, [], []⟩
def d_Store_log_pages : He.DefD := ⟨("Store", some "log_pages"), "log_pages", "Store.log_pages", defArgs s_Store_log_pages, defBody s_Store_log_pages, defScope s_Store_log_pages, [], []⟩
def d_Store_waiting_pages : He.DefD := ⟨("Store", some "waiting_pages"), "waiting_pages", "Store.waiting_pages", defArgs s_Store_waiting_pages, defBody s_Store_waiting_pages, defScope s_Store_waiting_pages, [], []⟩
def d_Store_free_pages : He.DefD := ⟨("Store", some "free_pages"), "free_pages", "Store.free_pages", defArgs s_Store_free_pages, defBody s_Store_free_pages, defScope s_Store_free_pages, [], []⟩
def d_Store_file_size : He.DefD := ⟨("Store", some "file_size"), "file_size", "Store.file_size", defArgs s_Store_file_size, defBody s_Store_file_size, defScope s_Store_file_size, [], []⟩
def d__law_digits : He.DefD := ⟨("_law_digits", none), "_law_digits", "_law_digits", defArgs s__law_digits, defBody s__law_digits, defScope s__law_digits, [], []⟩
def d__law_parts : He.DefD := ⟨("_law_parts", none), "_law_parts", "_law_parts", defArgs s__law_parts, defBody s__law_parts, defScope s__law_parts, [], []⟩
def d__law_settings : He.DefD := ⟨("_law_settings", none), "_law_settings", "_law_settings", defArgs s__law_settings, defBody s__law_settings, defScope s__law_settings, [], []⟩
def d__law_busy : He.DefD := ⟨("_law_busy", none), "_law_busy", "_law_busy", defArgs s__law_busy, defBody s__law_busy, defScope s__law_busy, [], []⟩
def d__law_row_right : He.DefD := ⟨("_law_row_right", none), "_law_row_right", "_law_row_right", defArgs s__law_row_right, defBody s__law_row_right, defScope s__law_row_right, [], []⟩
def d_law : He.DefD := ⟨("law", none), "law", "law", defArgs s_law, defBody s_law, defScope s_law, [], []⟩
def fn : List He.DefD := [d_is_from, d_is_within, d_check_number, d_check_moment, d_nodes_beyond, d_heap_list, d_node_list, d_root_of, d_free_list, d_are_lengths, d_bounds_behind, d_Settings___init__, d_check_settings, d_rows_from, d_Packing_page_with, d_Packing___init__, d_Packing_begun, d_Packing_start_of, d_State___init__, d_do_checkpoint, d_change_parents, d_give_back, d_expire, d_take_page, d_begin_heap_page, d_put_row, d_write_to_log, d_do_row, d_Store___init__, d_Store_step, d_Store_heap_pages, d_Store_node_pages, d_Store_root, d_Store_log_pages, d_Store_waiting_pages, d_Store_free_pages, d_Store_file_size, d__law_digits, d__law_parts, d__law_settings, d__law_busy, d__law_row_right, d_law]
def fa : List He.Fa := [.noat "Packing" "_first", .noat "Packing" "_last", .noat "Packing" "_pages", .noat "Packing" "_rows", .noat "Packing" "_settings", .noat "Packing" "_starts", .noat "Settings" "every", .noat "Settings" "fanout", .noat "Settings" "keep", .noat "Settings" "lengths", .noat "Settings" "records", .noat "Settings" "size", .noat "State" "after", .noat "State" "changed", .noat "State" "done", .noat "State" "first", .noat "State" "free", .noat "State" "heap", .noat "State" "log", .noat "State" "next_begin", .noat "State" "nodes", .noat "State" "oldest_end", .noat "State" "packing", .noat "State" "settings", .noat "State" "size", .noat "State" "waiting", .noat "Store" "_state", .cls "Packing", .cls "Settings", .cls "State", .cls "Store", .int "MOST_FREE" 1000, .int "MOST_LENGTHS" 6, .int "MOST_UNITS" 64, .int "ROWS" 1000000000000000000000000000000, .glo "Settings", .free "all", .free "bool", .free "int", .free "isinstance", .free "len", .free "list", .free "max", .free "range", .free "sorted", .free "sum", .free "tuple", .glo "is_from", .glo "is_within", .glo "check_number", .glo "check_moment", .glo "nodes_beyond", .glo "heap_list", .glo "node_list", .glo "root_of", .glo "free_list", .glo "are_lengths", .glo "bounds_behind", .mkr "Settings", .glo "check_settings", .glo "rows_from", .meth "Packing" "page_with", .mkr "Packing", .glo "Packing", .meth "Packing" "begun", .meth "Packing" "start_of", .mkr "State", .glo "State", .glo "do_checkpoint", .glo "change_parents", .glo "give_back", .glo "expire", .glo "take_page", .glo "begin_heap_page", .glo "put_row", .glo "write_to_log", .glo "do_row", .mkr "Store", .glo "Store", .meth "Store" "step", .meth "Store" "heap_pages", .meth "Store" "node_pages", .meth "Store" "root", .meth "Store" "log_pages", .meth "Store" "waiting_pages", .meth "Store" "free_pages", .meth "Store" "file_size", .glo "_law_digits", .glo "_law_parts", .glo "_law_settings", .glo "_law_busy", .glo "_law_row_right", .glo "law"]
def exs : List (PySem.W.Frag → Bool) := [fun K => Kr.insB K (He.ga K "Settings")]
def ex (K : PySem.W.Frag) : Bool := exs.all fun e => e K
theorem ex_at {K : PySem.W.Frag} (i : Nat) (h : ex K = true) {e : PySem.W.Frag → Bool} (hi : exs[i]? = some e := by rfl) : e K = true := Kr.ex_all h i hi
abbrev hk : PySem.W.Hook := Kr.hookM 8 fa fn ex
def ob (s : PySem.W.SharedT) : Kr.AlM := Kr.obsM 8 fa fn ex (HandSHeadRun.getT s)
theorem ob_eq (s : PySem.W.SharedT) : ob s = hk.obs s.abs := Kr.obsM_eq (HandSHeadRun.getT_eq s)
abbrev R0 : PySem.W.OpenRow := PySem.W.OpenLaw.row PySem.Challenge.rw_keeprows_k32_whole_one_role_for_each_pag
def loose : List Str := "_wall" :: "StoreError" :: "InvalidSettings" :: "InvalidPage" :: "InvalidNumber" :: "ROWS" :: "is_from" :: "is_within" :: "check_number" :: "check_moment" :: "nodes_beyond" :: "MOST_FREE" :: "heap_list" :: "node_list" :: "root_of" :: "free_list" :: "role_of" :: "MOST_LENGTHS" :: "MOST_UNITS" :: "are_lengths" :: "bounds_behind" :: "Settings" :: "check_settings" :: "rows_from" :: "Packing" :: "State" :: "do_row" :: "take_page" :: "give_back" :: "write_to_log" :: "put_row" :: "begin_heap_page" :: "expire" :: "change_parents" :: "do_checkpoint" :: "Store" :: "_law_digits" :: "_law_parts" :: "_law_settings" :: "_law_busy" :: "_law_row_right" :: []
theorem runs (w : World) : HandSHeadRun.RunEq R0 (PySem.W.view R0.prog [50]) hk ob 6000 loose w := by
  intro os
  kernel_rfl

/-- a positive number of at most forty digits: what draws are limited by -/
def Lim (n : Int) : Prop := 0 < n ∧ n ≤ 10 ^ 40
theorem Lim.div {n : Int} (h : Lim n) : CDivW 0 n := wide_div (b := 200) h.1 (by have := h.1; have := h.2; omega) (by decide) (by decide)
theorem emod_lt {a n : Int} (h : 0 < n) : 0 ≤ a % n ∧ a % n < n := ⟨Int.emod_nonneg _ (by omega), Int.emod_lt_of_pos _ h⟩
theorem mod_fit {a n : Int} (h : 0 < n) (hn : n < 2 ^ 64) : -(2 ^ 64) < a % n ∧ a % n < 2 ^ 64 := by
  have := @emod_lt a n h
  omega
/-- what drawn parts of settings keep -/
structure PartsOk (ls : List Int) (room fo re ev ke : Int) : Prop where
  l1 : 1 ≤ ls.length
  l6 : ls.length ≤ 6
  all : ∀ l ∈ ls, 1 ≤ l ∧ l ≤ room
  r1 : 1 ≤ room
  r64 : room ≤ 64
  fo : 2 ≤ fo ∧ fo ≤ 8
  re : 1 ≤ re ∧ re ≤ 16
  ev : 1 ≤ ev ∧ ev ≤ 40
  ke : 1 ≤ ke ∧ ke ≤ 100
/-- the bounds of the j-th further part -/
def Bd (j : Nat) (v : Int) : Prop := match j with
  | 0 => 2 ≤ v ∧ v ≤ 8
  | 1 => 1 ≤ v ∧ v ≤ 16
  | 2 => 1 ≤ v ∧ v ≤ 40
  | _ => 1 ≤ v ∧ v ≤ 100
/-- what a list of lengths keeps -/
structure LensOk (ls : List Int) (sz : Int) : Prop where
  l1 : 1 ≤ ls.length
  l6 : ls.length ≤ 6
  all : ∀ l ∈ ls, 1 ≤ l ∧ l ≤ sz
  r64 : sz ≤ 64
/-- what settings keep -/
structure SetOk (ls : List Int) (sz fo re ev ke : Int) : Prop extends LensOk ls sz where
  fo : 2 ≤ fo ∧ fo ≤ 8
  re : 1 ≤ re ∧ re ≤ 16
  ev : 1 ≤ ev ∧ ev ≤ 40
  ke : 1 ≤ ke ∧ ke ≤ 100
theorem PartsOk.set {ls : List Int} {room fo re ev ke : Int} (p : PartsOk ls room fo re ev ke) : SetOk ls room fo re ev ke := ⟨⟨p.l1, p.l6, p.all, p.r64⟩, p.fo, p.re, p.ev, p.ke⟩
/-- the attributes of Settings, in the order in which they are stored -/
def setF (t : Addr) (sz fo re ev ke : Int) : List (Str × V) := [("lengths", .ref t), ("size", .int sz), ("fanout", .int fo), ("records", .int re), ("every", .int ev), ("keep", .int ke)]
/-- Settings at a -/
def SetAt (K : PySem.W.Frag) (H : Hp) (a : Addr) (ls : List Int) (sz fo re ev ke : Int) : Prop := ∃ dx t, H a = some (.ins (He.ga K "Settings") dx (setF t sz fo re ev ke)) ∧ H t = some (.tup (ls.map V.int))
theorem SetAt.same {K : PySem.W.Frag} {H H' : Hp} {a : Addr} {ls : List Int} {sz fo re ev ke : Int} (h : SetAt K H a ls sz fo re ev ke) (s : Same H H') : SetAt K H' a ls sz fo re ev ke := by
  obtain ⟨dx, t, h1, h2⟩ := h
  exact ⟨dx, t, s _ _ h1, s _ _ h2⟩
theorem SetAt.dr {K : PySem.W.Frag} {H H' : Hp} {b a : Addr} {ls : List Int} {sz fo re ev ke : Int} (h : SetAt K H a ls sz fo re ev ke) (hs : Src H b) (s : Dr b H H') : SetAt K H' a ls sz fo re ev ke := by
  obtain ⟨dx, t, h1, h2⟩ := h
  exact ⟨dx, t, s.old _ _ (hs.ne_ins h1) h1, s.old _ _ (hs.ne_tup h2) h2⟩
/-- the list of the bounds of the other parts at L -/
def Bnds (H : Hp) (L : Addr) (m : Int) : Prop := ∃ t1 t2 t3 t4 t5 : Addr, H L = some (.lst [.ref t1, .ref t2, .ref t3, .ref t4, .ref t5]) ∧ H t1 = some (.tup [.str "size", .int m, .int 64]) ∧ H t2 = some (.tup [.str "fanout", .int 2, .int 8]) ∧
  H t3 = some (.tup [.str "records", .int 1, .int 16]) ∧ H t4 = some (.tup [.str "every", .int 1, .int 40]) ∧ H t5 = some (.tup [.str "keep", .int 1, .int 100])
/-- the further parts by their names -/
def givD (v1 v2 v3 v4 v5 : V) : List (Key × V) := [(.inr "size", v1), (.inr "fanout", v2), (.inr "records", v3), (.inr "every", v4), (.inr "keep", v5)]
theorem LensOk.pk {ls : List Int} {sz : Int} (h : LensOk ls sz) : Pk.Ok ls sz := ⟨h.l1, by have := h.l6; omega, h.all, by have := h.r64; omega⟩
theorem sum_pre (ls : List Int) : ∀ j, j ≤ ls.length → (ls.take j).sum = Pk.pre ls 0 j
  | 0, _ => rfl
  | j + 1, h => by
    have hj : j < ls.length := by omega
    rw [List.take_add_one, List.sum_append, sum_pre ls j (by omega), List.getElem?_eq_getElem hj]
    show _ + ([ls[j]] : List Int).sum = Pk.pre ls 0 j + Pk.lenAt ls (0 + j)
    have e : Pk.lenAt ls (0 + j) = ls[j] := by
      unfold Pk.lenAt
      rw [Nat.zero_add, Nat.mod_eq_of_lt hj, List.getD_eq_getElem?_getD, List.getElem?_eq_getElem hj]
      rfl
    rw [e, List.sum_cons]
    show _ + (_ + 0) = _
    rw [Int.add_zero]
theorem sum_round (ls : List Int) : ls.sum = Pk.pre ls 0 ls.length := by
  have := sum_pre ls ls.length (Nat.le_refl _)
  rw [List.take_length] at this
  exact this
/-- a whole round from any place has the same units -/
theorem round_any (ls : List Int) : ∀ r, Pk.pre ls r ls.length = Pk.pre ls 0 ls.length
  | 0 => rfl
  | r + 1 => by
    have ih := round_any ls r
    have e1 := Pk.pre_one (ls := ls) r ls.length
    have e2 : Pk.pre ls r (ls.length + 1) = Pk.pre ls r ls.length + Pk.lenAt ls (r + ls.length) := rfl
    have e3 : Pk.lenAt ls (r + ls.length) = Pk.lenAt ls r := Pk.len_mod (Nat.add_mod_right r ls.length)
    omega
theorem rounds (ls : List Int) (r : Nat) : ∀ q, Pk.pre ls r (q * ls.length) = q * ls.sum
  | 0 => by simp [Pk.pre]
  | q + 1 => by
    rw [Nat.succ_mul, Pk.pre_add, rounds ls r q, round_any, ← sum_round, Int.natCast_add, Int.add_mul]
    simp
/-- the first rows of the first heap pages -/
abbrev stV (ls : List Int) (sz : Int) (i : Nat) : V := .int (Pk.st ls sz i : Nat)
/-- what page_with and start_of lean on: the four fields of a Packing at a -/
structure PkF (K : PySem.W.Frag) (H : Hp) (a : Addr) (ls : List Int) (sz : Int) (j k : Nat) (lp dx : Addr) (fs : List (Str × V)) : Prop where
  at_ : H a = some (.ins (He.ga K "Packing") dx fs)
  l1 : fs.lookup ("_starts" : Str) = some (.ref lp)
  l2 : fs.lookup ("_first" : Str) = some (.int j)
  l3 : fs.lookup ("_pages" : Str) = some (.int (k - j : Nat))
  l4 : fs.lookup ("_rows" : Str) = some (.int (Pk.rws ls sz j k : Nat))
  l5 : fs.lookup ("page_with" : Str) = none
  l6 : fs.lookup ("start_of" : Str) = none
  lst : H lp = some (.lst (tabL (stV ls sz) (k + 1)))
  cyc : Pk.Cyc ls sz j k
  ok : LensOk ls sz
theorem PkF.small {K : PySem.W.Frag} {H : Hp} {a lp dx : Addr} {ls : List Int} {sz : Int} {j k : Nat} {fs : List (Str × V)} (F : PkF K H a ls sz j k lp dx fs) : k ≤ 6 ∧ Pk.st ls sz k ≤ 400 := by
  have o := F.ok.pk
  have h1 := F.cyc.le o
  have h2 := F.ok.l6
  have h3 := Pk.st_up o k
  have h4 := F.ok.r64
  have h5 : (k : Int) * sz ≤ 6 * 64 := by
    have a1 : (k : Int) * sz ≤ k * 64 := Int.mul_le_mul_of_nonneg_left h4 (by omega)
    have a2 : (k : Int) * 64 ≤ 6 * 64 := Int.mul_le_mul_of_nonneg_right (by omega) (by omega)
    omega
  omega
theorem PkF.same {K : PySem.W.Frag} {H H' : Hp} {a lp dx : Addr} {ls : List Int} {sz : Int} {j k : Nat} {fs : List (Str × V)} (F : PkF K H a ls sz j k lp dx fs) (s : Same H H') : PkF K H' a ls sz j k lp dx fs :=
  { F with at_ := s _ _ F.at_, lst := s _ _ F.lst }
/-- a Packing at a, of the settings at s -/
def PackAt (K : PySem.W.Frag) (H : Hp) (a s : Addr) (ls : List Int) (sz : Int) : Prop := ∃ (dx lp : Addr) (j k last : Nat), PkF K H a ls sz j k lp dx [("_settings", .ref s), ("_starts", .ref lp), ("_first", .int j), ("_pages", .int (k - j : Nat)), ("_rows", .int (Pk.rws ls sz j k : Nat)), ("_last", .int last)] ∧ Pk.On ls sz last (10 ^ 30 - 1) ∧
  ∃ dy t fo re ev ke, H s = some (.ins (He.ga K "Settings") dy (setF t sz fo re ev ke)) ∧ H t = some (.tup (ls.map V.int))
theorem PackAt.same {K : PySem.W.Frag} {H H' : Hp} {a x : Addr} {ls : List Int} {sz : Int} (h : PackAt K H a x ls sz) (s : Same H H') : PackAt K H' a x ls sz := by
  obtain ⟨dx, lp, j, k, last, F, on, dy, t, fo, re, ev, ke, h1, h2⟩ := h
  exact ⟨dx, lp, j, k, last, F.same s, on, dy, t, fo, re, ev, ke, s _ _ h1, s _ _ h2⟩
theorem pre_ahead (ls : List Int) (h : 1 ≤ ls.length) (r : Nat) : Pk.pre ls 0 r = ((r / ls.length : Nat) : Int) * ls.sum + (ls.take (r % ls.length)).sum := by
  have lt : r % ls.length < ls.length := Nat.mod_lt _ h
  have e : Pk.pre ls 0 (r / ls.length * ls.length + r % ls.length) = Pk.pre ls 0 (r / ls.length * ls.length) + Pk.pre ls (0 + r / ls.length * ls.length) (r % ls.length) := Pk.pre_add 0 _ _
  rw [Nat.mul_comm (r / ls.length), Nat.div_add_mod r, Nat.mul_comm ls.length] at e
  have e2 : Pk.pre ls (0 + r / ls.length * ls.length) (r % ls.length) = Pk.pre ls 0 (r % ls.length) := Pk.pre_mod (by simp) _
  rw [e, rounds, e2, sum_pre ls _ (Nat.le_of_lt lt)]
/-- what the units between two rows are -/
theorem pre_span (ls : List Int) (r n : Nat) : Pk.pre ls 0 (r + n) - Pk.pre ls 0 r = Pk.pre ls r n := by
  have := Pk.pre_add (ls := ls) 0 r n
  rw [Nat.zero_add] at this
  omega
/-- pages begun at a moment -/
def Bg (ls : List Int) (sz : Int) (r b : Nat) : Prop := (r = 0 ∧ b = 0) ∨ (0 < r ∧ ∃ m, Pk.On ls sz m (r - 1) ∧ b = m + 1)
theorem bg_ex {ls : List Int} {sz : Int} (o : Pk.Ok ls sz) (r : Nat) : ∃ b, Bg ls sz r b := by
  rcases Nat.eq_zero_or_pos r with z | z
  · exact ⟨0, .inl ⟨z, rfl⟩⟩
  · obtain ⟨m, h⟩ := Pk.on_ex o (r - 1)
    exact ⟨m + 1, .inr ⟨z, m, h, rfl⟩⟩
theorem bg_start {ls : List Int} {sz : Int} (o : Pk.Ok ls sz) (m : Nat) : Bg ls sz (Pk.st ls sz m) m := by
  rcases m with _ | m
  · exact .inl ⟨rfl, rfl⟩
  · have h := Pk.st_lt o m
    exact .inr ⟨by omega, m, ⟨by omega, by omega⟩, rfl⟩
/-- the dict of the parts of settings -/
def parD (q : Addr) (sz fo re ev ke : Int) : List (Key × V) := [(.inr "lengths", .ref q), (.inr "size", .int sz), (.inr "fanout", .int fo), (.inr "records", .int re), (.inr "every", .int ev), (.inr "keep", .int ke)]
structure PD (H : Hp) (p q : Addr) (ls : List Int) (sz fo re ev ke : Int) : Prop where
  d : H p = some (.dK (parD q sz fo re ev ke))
  l : H q = some (.lst (ls.map V.int))
theorem PD.same {H H' : Hp} {p q : Addr} {ls : List Int} {sz fo re ev ke : Int} (h : PD H p q ls sz fo re ev ke) (s : Same H H') : PD H' p q ls sz fo re ev ke := ⟨s _ _ h.d, s _ _ h.l⟩
theorem pd_l {q : Addr} {sz fo re ev ke : Int} : valV (parD q sz fo re ev ke) (Sum.inr "lengths") = some (.ref q) := rfl
theorem pd_s {q : Addr} {sz fo re ev ke : Int} : valV (parD q sz fo re ev ke) (Sum.inr "size") = some (.int sz) := rfl
theorem pd_f {q : Addr} {sz fo re ev ke : Int} : valV (parD q sz fo re ev ke) (Sum.inr "fanout") = some (.int fo) := rfl
theorem pd_r {q : Addr} {sz fo re ev ke : Int} : valV (parD q sz fo re ev ke) (Sum.inr "records") = some (.int re) := rfl
theorem pd_e {q : Addr} {sz fo re ev ke : Int} : valV (parD q sz fo re ev ke) (Sum.inr "every") = some (.int ev) := rfl
theorem pd_k {q : Addr} {sz fo re ev ke : Int} : valV (parD q sz fo re ev ke) (Sum.inr "keep") = some (.int ke) := rfl
/-- drawn digits -/
structure Dg (H : Hp) (p : Addr) (ds : List Int) : Prop where
  l : H p = some (.lst (ds.map V.int))
  n : ds.length = 40
  b : ∀ d ∈ ds, 0 ≤ d ∧ d < 1009
theorem Dg.same {H H' : Hp} {p : Addr} {ds : List Int} (h : Dg H p ds) (s : Same H H') : Dg H' p ds := ⟨s _ _ h.l, h.n, h.b⟩
theorem Dg.at_ {H : Hp} {p : Addr} {ds : List Int} (h : Dg H p ds) {z : Int} (h0 : 0 ≤ z) (h1 : z < 40) : atI (ds.map V.int) z = some (.int (ds.getD z.toNat 0)) := by
  refine at_of (j := z.toNat) (by omega) ?_
  have hz : z.toNat < ds.length := by rw [h.n]; omega
  rw [List.getElem?_map, List.getD_eq_getElem?_getD, List.getElem?_eq_getElem hz]
  rfl
theorem Dg.bd {H : Hp} {p : Addr} {ds : List Int} (h : Dg H p ds) (j : Nat) : 0 ≤ ds.getD j 0 ∧ ds.getD j 0 < 1009 := by
  rw [List.getD_eq_getElem?_getD]
  cases e : ds[j]? with
  | none => exact ⟨Int.le_refl _, by show (0 : Int) < 1009; decide⟩
  | some v => exact h.b v (List.mem_of_getElem? e)
theorem two_at {a b z : Int} (h0 : 0 ≤ z) (h1 : z < 2) : ∃ v, (v = a ∨ v = b) ∧ atI [V.int a, V.int b] z = some (.int v) := by
  rcases (show z = 0 ∨ z = 1 by omega) with rfl | rfl
  · exact ⟨a, .inl rfl, rfl⟩
  · exact ⟨b, .inr rfl, rfl⟩
/-- the page of a row -/
def pg (ls : List Int) (sz : Int) : Nat → Nat
  | 0 => 0
  | r + 1 => if r + 1 < Pk.st ls sz (pg ls sz r + 1) then pg ls sz r else pg ls sz r + 1
theorem pg_on {ls : List Int} {sz : Int} (o : Pk.Ok ls sz) : ∀ r, Pk.On ls sz (pg ls sz r) r
  | 0 => ⟨Nat.le_refl _, by
      have := Pk.st_lt o 0
      have e : Pk.st ls sz 0 = 0 := rfl
      show 0 < Pk.st ls sz (0 + 1)
      omega⟩
  | r + 1 => by
    obtain ⟨h1, h2⟩ := pg_on o r
    unfold pg
    split
    · exact ⟨by omega, by assumption⟩
    · exact ⟨by omega, by have := Pk.st_lt o (pg ls sz r + 1); omega⟩
theorem pg_is {ls : List Int} {sz : Int} (o : Pk.Ok ls sz) {m r : Nat} (h : Pk.On ls sz m r) : pg ls sz r = m := (pg_on o r).inj o h
theorem pg_st {ls : List Int} {sz : Int} (o : Pk.Ok ls sz) (m : Nat) : pg ls sz (Pk.st ls sz m) = m := pg_is o ⟨Nat.le_refl _, Pk.st_lt o m⟩
theorem pg_pre {ls : List Int} {sz : Int} (o : Pk.Ok ls sz) (m : Nat) : pg ls sz (Pk.st ls sz (m + 1) - 1) = m := by
  have := Pk.st_lt o m
  exact pg_is o ⟨by omega, by omega⟩
theorem pg_mono {ls : List Int} {sz : Int} (o : Pk.Ok ls sz) {r s : Nat} (h : r ≤ s) : pg ls sz r ≤ pg ls sz s := (pg_on o r).mono o (pg_on o s) h
theorem pg_le {ls : List Int} {sz : Int} (o : Pk.Ok ls sz) (r : Nat) : pg ls sz r ≤ r := Nat.le_trans (Pk.st_ge o _) (pg_on o r).1
/-- how many pages have begun behind so many rows -/
def bg (ls : List Int) (sz : Int) (r : Nat) : Nat := if r = 0 then 0 else pg ls sz (r - 1) + 1
theorem bg_Bg {ls : List Int} {sz : Int} (o : Pk.Ok ls sz) (r : Nat) : Bg ls sz r (bg ls sz r) := by
  unfold bg
  split
  · exact .inl ⟨by assumption, rfl⟩
  · exact .inr ⟨by omega, _, pg_on o _, rfl⟩
/-- a page has begun just when it begins ahead -/
theorem bg_lt {ls : List Int} {sz : Int} (o : Pk.Ok ls sz) (r m : Nat) : m < bg ls sz r ↔ Pk.st ls sz m < r := by
  unfold bg
  split
  · omega
  · obtain ⟨h1, h2⟩ := pg_on o (r - 1)
    constructor
    · intro h
      have := Pk.st_le o (show m ≤ pg ls sz (r - 1) by omega)
      omega
    · intro h
      rcases Nat.lt_or_ge m (pg ls sz (r - 1) + 1) with z | z
      · exact z
      · have := Pk.st_le o z
        omega
theorem bg_le {ls : List Int} {sz : Int} (o : Pk.Ok ls sz) (r : Nat) : bg ls sz r ≤ r := by
  unfold bg
  split
  · omega
  · have := pg_le o (r - 1)
    omega
abbrev pgV (ls : List Int) (sz : Int) (i : Nat) : V := .int (pg ls sz i : Nat)
theorem hat_len {ls : List Int} {sz : Int} (o : Pk.Ok ls sz) (r : Nat) : atI (ls.map V.int) ((r : Int) % (ls.length : Int)) = some (V.int (Pk.lenAt ls r)) := by
  refine at_of (j := r % ls.length) (by push_cast; rfl) ?_
  rw [List.getElem?_map, Pk.len_at o r]
  rfl
/-- the first rows up to a row, of the first pages -/
theorem st_upto {ls : List Int} {sz : Int} (o : Pk.Ok ls sz) (near : Nat) : ∀ k, ((tabL (stV ls sz) (k + 1)).filter fun v => match v with | .int i => decide (i ≤ (near : Int)) | _ => false).length = min (k + 1) (pg ls sz near + 1) := by
  intro k
  induction k with
  | zero =>
    have : min (0 + 1) (pg ls sz near + 1) = 1 := by omega
    rw [this]
    rfl
  | succ k ih =>
    rw [tabL_succ, List.filter_append, List.length_append, ih]
    obtain ⟨h1, h2⟩ := pg_on o near
    by_cases h : k + 1 ≤ pg ls sz near
    · have a1 := Pk.st_le o h
      rw [List.filter_cons_of_pos (by show decide _ = true; exact decide_eq_true (by omega))]
      show min (k + 1) _ + 1 = _
      omega
    · have a1 := Pk.st_le o (show pg ls sz near + 1 ≤ k + 1 by omega)
      rw [List.filter_cons_of_neg (by show ¬ decide _ = true; simp; omega)]
      show min (k + 1) _ + 0 = _
      omega
/-- the heap pages of the rows from a to b - 1 -/
def kpt (ls : List Int) (sz : Int) (a b : Nat) : List V := if a = b then [] else rgV (pg ls sz a) (pg ls sz (b - 1) + 1 : Nat)
theorem kpt_pos {ls : List Int} {sz : Int} {a b : Nat} (h : a < b) : kpt ls sz a b = rgV (pg ls sz a) (pg ls sz (b - 1) + 1 : Nat) := if_neg (by omega)
theorem pw_lt {b i : Nat} (hb : b ≤ 8) (hi : i ≤ 150) : b ^ i < 2 ^ 451 := by
  refine Nat.lt_of_le_of_lt (Nat.pow_le_pow_left hb i) ?_
  refine Nat.lt_of_le_of_lt (Nat.pow_le_pow_right (by decide) hi) ?_
  exact Nat.lt_of_lt_of_le (show 8 ^ 150 < 2 ^ 451 by decide +kernel) (Nat.le_refl _)
theorem pw_log {b i : Nat} (hb : b ≤ 8) (hi : i ≤ 150) : ((b ^ i : Nat) : Int).natAbs.log2 < 451 := by
  rw [Int.natAbs_natCast]
  rcases Nat.eq_zero_or_pos (b ^ i) with z | z
  · rw [z]
    decide
  · exact (Nat.log2_lt (by omega)).mpr (pw_lt hb hi)
theorem wd_pos {f l : Nat} (h : 2 ≤ f) : 0 < f ^ l := Nat.pow_pos (by omega)
theorem wd_div {f l : Nat} (h2 : 2 ≤ f) (h8 : f ≤ 8) (hl : l ≤ 150) : CDivW 0 ((f ^ l : Nat) : Int) := wide_div (b := 451) (by have := wd_pos (l := l) h2; omega) (by have := pw_lt h8 hl; exact_mod_cast this) (by decide) (by decide)
theorem r_whN {tb : TS} {D : Ends} {Pv : Nat → L2.St → Hp → Prop} {m : Nat} {σ : L2.St} {H1 : Hp} {p : Prop} [Decidable p] (h1 : ¬ p → tb { D with nx := fun σ' H' => ∃ m', m' < m ∧ Pv m' σ' H', ct := fun σ' H' => ∃ m', m' < m ∧ Pv m' σ' H', bk := D.nx } σ H1) (h2 : p → D.nx σ H1) : rWh tb D Pv m σ (!decide p) H1 := by
  by_cases h : p
  · rw [decide_eq_true h]
    exact r_whF (h2 h)
  · rw [decide_eq_false h]
    exact r_whT (h1 h)
/-- the level of the first node that covers pages a to b -/
def IsRl (f a b L : Nat) : Prop := a / f ^ (L + 1) = b / f ^ (L + 1) ∧ ∀ l, l < L → a / f ^ (l + 1) ≠ b / f ^ (l + 1)
theorem least_ex (P : Nat → Prop) : ∀ n, P n → ∃ L, L ≤ n ∧ P L ∧ ∀ l, l < L → ¬ P l := by
  intro n
  induction n using Nat.strongRecOn with
  | ind n ih =>
    intro h
    by_cases z : ∃ l, l < n ∧ P l
    · obtain ⟨l, hl, hp⟩ := z
      obtain ⟨L, h1, h2, h3⟩ := ih l hl hp
      exact ⟨L, by omega, h2, h3⟩
    · exact ⟨n, Nat.le_refl _, h, fun l hl hp => z ⟨l, hl, hp⟩⟩
theorem rl_ex {f a b : Nat} (h2 : 2 ≤ f) (hab : a ≤ b) (hb : b < 10 ^ 40) : ∃ L, L ≤ 132 ∧ IsRl f a b L := by
  have z : b / f ^ (132 + 1) = 0 := Nat.div_eq_of_lt (Nat.lt_of_lt_of_le hb (Nat.le_trans (show 10 ^ 40 ≤ 2 ^ 133 by decide +kernel) (Nat.pow_le_pow_left h2 133)))
  have za : a / f ^ (132 + 1) = 0 := Nat.div_eq_of_lt (Nat.lt_of_le_of_lt hab (Nat.lt_of_lt_of_le hb (Nat.le_trans (show 10 ^ 40 ≤ 2 ^ 133 by decide +kernel) (Nat.pow_le_pow_left h2 133))))
  obtain ⟨L, h1, h2', h3⟩ := least_ex (fun L => a / f ^ (L + 1) = b / f ^ (L + 1)) 132 (za.trans z.symm)
  exact ⟨L, h1, h2', h3⟩
theorem IsRl.inj {f a b L M : Nat} (h : IsRl f a b L) (g : IsRl f a b M) : L = M := by
  rcases Nat.lt_trichotomy L M with z | z | z
  · exact absurd h.1 (g.2 L z)
  · exact z
  · exact absurd g.1 (h.2 M z)
/-- a node's tuple -/
def ndO (n : Nat × Nat) : HO := .tup [.int (n.1 : Nat), .int (n.2 : Nat)]
/-- a list of nodes -/
structure NdL (H : Hp) (vs : List V) (ns : List (Nat × Nat)) : Prop where
  len : vs.length = ns.length
  at_ : ∀ (i : Nat) (n : Nat × Nat), ns[i]? = some n → ∃ t, vs[i]? = some (V.ref t) ∧ H t = some (ndO n)
theorem NdL.nil {H : Hp} : NdL H [] [] := ⟨rfl, fun i n h => by simp at h⟩
theorem NdL.keep {H H' : Hp} {vs : List V} {ns : List (Nat × Nat)} (h : NdL H vs ns) (s : ∀ b xs, H b = some (.tup xs) → H' b = some (.tup xs)) : NdL H' vs ns := ⟨h.len, fun i n e => by
  obtain ⟨t, h1, h2⟩ := h.at_ i n e
  exact ⟨t, h1, s _ _ h2⟩⟩
theorem NdL.same {H H' : Hp} {vs : List V} {ns : List (Nat × Nat)} (h : NdL H vs ns) (s : Same H H') : NdL H' vs ns := h.keep fun b xs e => s b _ e
theorem NdL.app {H : Hp} {vs ws : List V} {ns ms : List (Nat × Nat)} (h : NdL H vs ns) (g : NdL H ws ms) : NdL H (vs ++ ws) (ns ++ ms) := by
  refine ⟨by rw [List.length_append, List.length_append, h.len, g.len], fun i n e => ?_⟩
  rcases Nat.lt_or_ge i ns.length with z | z
  · rw [List.getElem?_append_left z] at e
    obtain ⟨t, h1, h2⟩ := h.at_ i n e
    exact ⟨t, by rw [List.getElem?_append_left (by rw [h.len]; exact z)]; exact h1, h2⟩
  · rw [List.getElem?_append_right z] at e
    obtain ⟨t, h1, h2⟩ := g.at_ _ n e
    exact ⟨t, by rw [List.getElem?_append_right (by rw [h.len]; exact z), h.len]; exact h1, h2⟩
theorem NdL.one {H : Hp} {t : Addr} {n : Nat × Nat} (h : H t = some (ndO n)) : NdL H [.ref t] [n] := ⟨rfl, fun i m e => by
  cases i with
  | zero => cases e; exact ⟨t, rfl, h⟩
  | succ k => simp at e⟩
/-- the numbers of a level's nodes, the nodes of a level, of the tree -/
def lvN (f a b l : Nat) : Nat := b / f ^ (l + 1) + 1 - a / f ^ (l + 1)
def lvR (f a b l : Nat) : List (Nat × Nat) := (List.range (lvN f a b l)).map fun k => (l, a / f ^ (l + 1) + k)
def nds (f a b L : Nat) : List (Nat × Nat) := (List.range (L + 1)).flatMap (lvR f a b)
theorem lvN_le {f a b l : Nat} (h2 : 2 ≤ f) (h : b ≤ a + 300) : lvN f a b l ≤ 302 := by
  unfold lvN
  have hp : 0 < f ^ (l + 1) := wd_pos h2
  have : b / f ^ (l + 1) ≤ (a + 300 * f ^ (l + 1)) / f ^ (l + 1) := Nat.div_le_div_right (Nat.le_trans h (Nat.add_le_add_left (Nat.le_mul_of_pos_right _ hp) _))
  rw [Nat.add_mul_div_right _ _ hp] at this
  omega
theorem flat_len {f a b : Nat} (h2 : 2 ≤ f) (h : b ≤ a + 300) : ∀ i, ((List.range i).flatMap (lvR f a b)).length ≤ 302 * i
  | 0 => by simp
  | i + 1 => by
    have ih := flat_len h2 h i
    have := lvN_le (l := i) h2 h
    rw [List.range_succ, List.flatMap_append, List.length_append, List.flatMap_singleton]
    unfold lvR at ih ⊢
    rw [List.length_map, List.length_range]
    omega
theorem flat_succ {f a b i : Nat} : (List.range (i + 1)).flatMap (lvR f a b) = (List.range i).flatMap (lvR f a b) ++ lvR f a b i := by
  rw [List.range_succ, List.flatMap_append, List.flatMap_singleton]
/-- the first heap page of the newest rows, and the one behind them -/
def lvA (ls : List Int) (sz ke : Int) (M : Nat) : Nat := if M = 0 then 0 else pg ls sz (M - ke.toNat)
def lvZ (ls : List Int) (sz : Int) (M : Nat) : Nat := if M = 0 then 0 else pg ls sz (M - 1) + 1
theorem lv_lt {ls : List Int} {sz ke : Int} (o : Pk.Ok ls sz) (k1 : 1 ≤ ke) {M : Nat} (h : M ≠ 0) : lvA ls sz ke M < lvZ ls sz M := by
  unfold lvA lvZ
  rw [if_neg h, if_neg h]
  have := pg_mono o (show M - ke.toNat ≤ M - 1 by omega)
  omega
theorem lv_le {ls : List Int} {sz : Int} (o : Pk.Ok ls sz) (M : Nat) : lvZ ls sz M ≤ M := by
  unfold lvZ
  split
  · omega
  · have := pg_le o (M - 1)
    omega
theorem pg_one (ls : List Int) (sz : Int) (r : Nat) : pg ls sz (r + 1) ≤ pg ls sz r + 1 := by
  show (if r + 1 < Pk.st ls sz (pg ls sz r + 1) then pg ls sz r else pg ls sz r + 1) ≤ _
  split <;> omega
theorem pg_step (ls : List Int) (sz : Int) (r : Nat) : ∀ n, pg ls sz (r + n) ≤ pg ls sz r + n
  | 0 => Nat.le_refl _
  | n + 1 => by
    have ih := pg_step ls sz r n
    have := pg_one ls sz (r + n)
    rw [show r + (n + 1) = (r + n) + 1 by omega]
    omega
theorem lv_near {ls : List Int} {sz ke : Int} (k1 : 1 ≤ ke) {M : Nat} (h : M ≠ 0) : lvZ ls sz M - 1 ≤ lvA ls sz ke M + ke.toNat := by
  unfold lvA lvZ
  rw [if_neg h, if_neg h]
  have := pg_step ls sz (M - ke.toNat) (M - 1 - (M - ke.toNat))
  rw [show M - ke.toNat + (M - 1 - (M - ke.toNat)) = M - 1 by omega] at this
  omega
theorem log_lt {n : Nat} (h : n < 2 ^ 500) : ((n : Nat) : Int).natAbs.log2 < 500 := by
  rw [Int.natAbs_natCast]
  rcases Nat.eq_zero_or_pos n with z | z
  · rw [z]
    decide
  · exact (Nat.log2_lt (by omega)).mpr h
theorem mulW_ok {a b : Nat} (h : a < 2 ^ 500) (g : b < 2 ^ 500) : CMulW (a : Int) (b : Int) := by
  have := log_lt h
  have := log_lt g
  show _ + _ < 1000000
  omega
theorem w500 {f l : Nat} (h8 : f ≤ 8) (hl : l ≤ 150) : f ^ l < 2 ^ 500 := Nat.lt_trans (pw_lt h8 hl) (by decide +kernel)
theorem i500 {n : Nat} (h : n ≤ 10 ^ 31) : n < 2 ^ 500 := Nat.lt_of_le_of_lt h (by decide +kernel)
theorem int30 {n : Nat} (h : n ≤ 10 ^ 30) : (n : Int) ≤ 1000000000000000000000000000000 := Int.ofNat_le.mpr h
/-- the first child of node i of level l, and how many there are -/
def chA (fo A l i : Nat) : Nat := max (i * fo) (A / fo ^ l)
def chN (fo A B l i : Nat) : Nat := min (i * fo + fo - 1) (B / fo ^ l) + 1 - chA fo A l i
theorem chA_int {A fo l i : Nat} : (if (A : Int) / ((fo ^ l : Nat) : Int) > (i : Int) * (fo : Int) then (A : Int) / ((fo ^ l : Nat) : Int) else (i : Int) * (fo : Int)) = ((chA fo A l i : Nat) : Int) := by
  rw [show (A : Int) / ((fo ^ l : Nat) : Int) = ((A / fo ^ l : Nat) : Int) from rfl, ← Int.natCast_mul]
  unfold chA
  generalize A / fo ^ l = x
  generalize i * fo = y
  split <;> omega
theorem chM_int {B fo l i : Nat} (h : 1 ≤ fo) : (if (B : Int) / ((fo ^ l : Nat) : Int) < (i : Int) * (fo : Int) + (fo : Int) - 1 then (B : Int) / ((fo ^ l : Nat) : Int) else (i : Int) * (fo : Int) + (fo : Int) - 1) = ((min (i * fo + fo - 1) (B / fo ^ l) : Nat) : Int) := by
  rw [show (B : Int) / ((fo ^ l : Nat) : Int) = ((B / fo ^ l : Nat) : Int) from rfl, ← Int.natCast_mul]
  generalize B / fo ^ l = x
  generalize i * fo = y
  split <;> omega
theorem chA_le {fo A l i : Nat} (h8 : fo ≤ 8) (hi : i ≤ 10 ^ 8) (hA : A ≤ 10 ^ 9) : chA fo A l i ≤ 10 ^ 9 := by
  unfold chA
  have h1 := Nat.div_le_self A (fo ^ l)
  have h2 := Nat.mul_le_mul hi h8
  omega
theorem chN_le {fo A B l i : Nat} (h8 : fo ≤ 8) : chN fo A B l i ≤ 8 := by
  unfold chN chA
  generalize A / fo ^ l = x
  generalize B / fo ^ l = z
  generalize i * fo = y
  omega
/-! the mathematics of heights -/
theorem st_on {ls : List Int} {sz : Int} (o : Pk.Ok ls sz) : ∀ r, Pk.st ls sz (pg ls sz r) ≤ r ∧ r < Pk.st ls sz (pg ls sz r + 1) := fun r => pg_on o r
theorem rl_any {f a b : Nat} (h2 : 2 ≤ f) : ∃ L, IsRl f a b L := by
  have z : ∀ x, x ≤ a + b → x / f ^ (a + b + 1) = 0 := fun x hx => Nat.div_eq_of_lt (Nat.lt_of_le_of_lt (Nat.le_succ_of_le hx) (Nat.lt_pow_self (by omega)))
  obtain ⟨L, _, h1, h3⟩ := least_ex (fun L => a / f ^ (L + 1) = b / f ^ (L + 1)) (a + b) ((z a (by omega)).trans (z b (by omega)).symm)
  exact ⟨L, h1, h3⟩
section
variable {ls : List Int} {sz ke : Int} {fo M : Nat}
open Classical in
/-- the height behind M rows -/
noncomputable def htM (ls : List Int) (sz ke : Int) (fo M : Nat) : Nat := if M = 0 then 0 else if h : ∃ L, IsRl fo (lvA ls sz ke M) (lvZ ls sz M - 1) L then Classical.choose h + 1 else 0
theorem htM_zero : htM ls sz ke fo 0 = 0 := if_pos rfl
theorem htM_rl {L : Nat} (M0 : M ≠ 0) (h : IsRl fo (lvA ls sz ke M) (lvZ ls sz M - 1) L) : htM ls sz ke fo M = L + 1 := by
  have ex : ∃ L, IsRl fo (lvA ls sz ke M) (lvZ ls sz M - 1) L := ⟨L, h⟩
  unfold htM
  rw [if_neg M0, dif_pos ex, (Classical.choose_spec ex).inj h]
theorem htM_ex (f2 : 2 ≤ fo) (M0 : M ≠ 0) : ∃ L, IsRl fo (lvA ls sz ke M) (lvZ ls sz M - 1) L ∧ htM ls sz ke fo M = L + 1 := by
  obtain ⟨L, h⟩ := rl_any (a := lvA ls sz ke M) (b := lvZ ls sz M - 1) f2
  exact ⟨L, h, htM_rl M0 h⟩
theorem htM_pos (f2 : 2 ≤ fo) (M0 : M ≠ 0) : 1 ≤ htM ls sz ke fo M := by
  obtain ⟨L, _, e⟩ := htM_ex (ls := ls) (sz := sz) (ke := ke) f2 M0
  omega
theorem htM_le (o : Pk.Ok ls sz) (k1 : 1 ≤ ke) (f2 : 2 ≤ fo) (hM : M < 10 ^ 40) : htM ls sz ke fo M ≤ 134 := by
  by_cases M0 : M = 0
  · rw [M0, htM_zero]
    omega
  · have lt := lv_lt o k1 M0
    have le := lv_le (sz := sz) o M
    obtain ⟨L, hL, hr⟩ := rl_ex (a := lvA ls sz ke M) (b := lvZ ls sz M - 1) f2 (by omega) (by omega)
    rw [htM_rl M0 hr]
    omega
theorem htM_le100 (o : Pk.Ok ls sz) (k1 : 1 ≤ ke) (f2 : 2 ≤ fo) (hM : M ≤ 10 ^ 30) : htM ls sz ke fo M ≤ 100 := by
  by_cases M0 : M = 0
  · rw [M0, htM_zero]
    omega
  · have lt := lv_lt o k1 M0
    have le := lv_le (sz := sz) o M
    obtain ⟨L, hr, e⟩ := htM_ex (ls := ls) (sz := sz) (ke := ke) f2 M0
    rw [e]
    refine Nat.le_of_not_lt fun z => hr.2 99 (by omega) ?_
    have p1 : 2 ^ 100 ≤ fo ^ (99 + 1) := Nat.pow_le_pow_left f2 100
    have p2 : (10 : Nat) ^ 30 < 2 ^ 100 := by decide +kernel
    rw [Nat.div_eq_of_lt (by omega), Nat.div_eq_of_lt (by omega)]
theorem ht_hi (o : Pk.Ok ls sz) (k1 : 1 ≤ ke) (f2 : 2 ≤ fo) (M1 : 1 ≤ M) {l : Nat} (l1 : 1 ≤ l) : l < htM ls sz ke fo M ↔ Hm.Hi (Pk.st ls sz) (pg ls sz) (fo ^ l) (ke.toNat - 1) M := by
  obtain ⟨L, hr, e⟩ := htM_ex (ls := ls) (sz := sz) (ke := ke) f2 (show M ≠ 0 by omega)
  have h1 := Hm.level_iff (f := fo) hr l1
  have h2 := Hm.hi_iff (Pk.st_lt o) rfl (st_on o) (wd_pos (l := l) f2) (keep := ke.toNat) (M := M) (by omega) M1
  rw [e, h2]
  unfold lvA lvZ at h1
  rw [if_neg (by omega), if_neg (by omega), Nat.add_sub_cancel] at h1
  exact Nat.lt_succ_iff.trans h1
/-- below m rows: how many heights are above the level -/
noncomputable def cntH (ls : List Int) (sz ke : Int) (fo l m : Nat) : Nat := ((List.range m).filter fun M => decide (l < htM ls sz ke fo M)).length
theorem cntH_zero (f2 : 2 ≤ fo) : ∀ m, cntH ls sz ke fo 0 m = m - 1
  | 0 => rfl
  | m + 1 => by
    have ih := cntH_zero f2 m
    unfold cntH at ih ⊢
    rw [List.range_succ, List.filter_append, List.length_append, ih]
    by_cases z : m = 0
    · subst z
      rw [List.filter_cons_of_neg (by rw [htM_zero]; simp)]
      rfl
    · have := htM_pos (ls := ls) (sz := sz) (ke := ke) f2 z
      rw [List.filter_cons_of_pos (by rw [decide_eq_true_iff]; omega)]
      show m - 1 + 1 = m + 1 - 1
      omega
theorem cntH_abv (o : Pk.Ok ls sz) (k1 : 1 ≤ ke) (f2 : 2 ≤ fo) {l : Nat} (l1 : 1 ≤ l) (m : Nat) : cntH ls sz ke fo l m = Hm.abv (Pk.st ls sz) (pg ls sz) (fo ^ l) (ke.toNat - 1) m := by
  rw [Hm.abv_count (Pk.st_lt o) rfl (st_on o)]
  unfold cntH
  congr 1
  refine List.filter_congr fun M _ => ?_
  refine decide_eq_decide.mpr ?_
  by_cases M0 : M = 0
  · rw [M0, htM_zero]
    constructor
    · intro h
      omega
    · intro h
      exact absurd rfl h.1
  · rw [ht_hi o k1 f2 (by omega) l1]
    exact ⟨fun h => ⟨M0, h⟩, fun h => h.2⟩
theorem S_congr_lt {g h : Nat → Nat} : ∀ n, (∀ k, k < n → g k = h k) → Hm.S g n = Hm.S h n
  | 0, _ => rfl
  | n + 1, e => by
    show Hm.S g n + g n = Hm.S h n + h n
    rw [S_congr_lt n (fun k hk => e k (by omega)), e n (by omega)]
theorem S_tail (c : Nat → Nat) (a : Nat) : ∀ n, Hm.S c (a + n) = Hm.S c a + Hm.S (fun t => c (a + t)) n
  | 0 => rfl
  | n + 1 => by
    show Hm.S c (a + n) + c (a + n) = Hm.S c a + (Hm.S (fun t => c (a + t)) n + c (a + n))
    rw [S_tail c a n]
    omega
theorem S_mul (g : Nat → Nat) (k : Nat) : ∀ n, Hm.S (fun t => g t * k) n = Hm.S g n * k
  | 0 => by
    show 0 = 0 * k
    rw [Nat.zero_mul]
  | n + 1 => by
    show Hm.S (fun t => g t * k) n + g n * k = (Hm.S g n + g n) * k
    rw [S_mul g k n, Nat.add_mul]
theorem sum_T {T m : Nat} (hT : ∀ M, M < m → htM ls sz ke fo M ≤ T) : Hm.S (htM ls sz ke fo) m = Hm.S (fun l => cntH ls sz ke fo l m) T := by
  have h := Hm.sum_levels (hgt := fun M => if M < m then htM ls sz ke fo M else 0) (T := T) (fun M => by
    by_cases z : M < m
    · show (if M < m then _ else _) ≤ T
      rw [if_pos z]
      exact hT M z
    · show (if M < m then _ else _) ≤ T
      rw [if_neg z]
      omega) m
  rw [S_congr_lt (g := htM ls sz ke fo) (h := fun M => if M < m then htM ls sz ke fo M else 0) m (fun k hk => by show _ = if k < m then _ else _; rw [if_pos hk]), h]
  refine Hm.S_congr (fun l => ?_) T
  unfold cntH
  congr 1
  refine List.filter_congr fun M hM => ?_
  rw [if_pos (List.mem_range.mp hM)]
theorem div_zero_up {x f a b : Nat} (h2 : 2 ≤ f) (h : x / f ^ a = 0) (ab : a ≤ b) : x / f ^ b = 0 := by
  rcases Nat.div_eq_zero_iff.mp h with z | z
  · have := wd_pos (l := a) h2
    omega
  · exact Nat.div_eq_of_lt (Nat.lt_of_lt_of_le z (Nat.pow_le_pow_right (by omega) ab))
/-- what sum_below comes to -/
theorem ht_sum (f2 : 2 ≤ fo) {m a n page most T : Nat} (hT : ∀ M, M < m → htM ls sz ke fo M ≤ T) (hr : ∀ l, a ≤ l → cntH ls sz ke fo l m = page / fo ^ l * most) (hz : page / fo ^ (a + n) = 0) :
    Hm.S (htM ls sz ke fo) m = Hm.S (fun l => cntH ls sz ke fo l m) a + Hm.S (fun t => page / fo ^ (a + t)) n * most := by
  have h := sum_T (ls := ls) (sz := sz) (ke := ke) (fo := fo) (T := a + (n + T)) (m := m) (fun M hM => by have := hT M hM; omega)
  rw [h, S_tail, Hm.S_congr (g := fun t => cntH ls sz ke fo (a + t) m) (h := fun t => page / fo ^ (a + t) * most) (fun t => hr (a + t) (by omega)), S_mul, S_tail]
  rw [Hm.S_congr (g := fun t => page / fo ^ (a + (n + t))) (h := fun _ => 0) (fun t => div_zero_up f2 hz (by omega)), Hm.S_const (c := 0) (fun _ => rfl), Nat.mul_zero, Nat.add_zero]
/-- the sum of heights if a page is kept alone -/
theorem ht_sum1 (o : Pk.Ok ls sz) (f2 : 2 ≤ fo) (k1 : ke = 1) (m : Nat) : Hm.S (htM ls sz ke fo) m = m - 1 := by
  have h1 : ∀ M, M < m → htM ls sz ke fo M ≤ 1 := fun M _ => by
    by_cases M0 : M = 0
    · rw [M0, htM_zero]
      omega
    · refine Nat.le_of_not_lt fun z => ?_
      have := (ht_hi o (by omega) f2 (by omega) (l := 1) (Nat.le_refl _)).mp z
      unfold Hm.Hi at this
      have h2 := (st_on o (M - 1)).1
      have h3 := Pk.st_le o (Nat.div_mul_le_self (pg ls sz (M - 1)) (fo ^ 1))
      rw [k1] at this
      have h4 : ((1 : Int).toNat - 1) = 0 := rfl
      omega
  rw [sum_T h1]
  show 0 + cntH ls sz ke fo 0 m = m - 1
  rw [cntH_zero f2, Nat.zero_add]
/-- on far levels no height is above -/
theorem cnt_far (o : Pk.Ok ls sz) (k1 : 1 ≤ ke) (f2 : 2 ≤ fo) {l m : Nat} (l1 : 1 ≤ l) (hp : pg ls sz (m - 2) < fo ^ l) : cntH ls sz ke fo l m = 0 := by
  rw [cntH_abv o k1 f2 l1]
  unfold Hm.abv
  split
  · rfl
  · rw [if_pos (Nat.div_eq_of_lt hp)]
end
theorem PackAt.butD {K : PySem.W.Frag} {H H' : Hp} {a x d : Addr} {ls : List Int} {sz : Int} {kvs : List (Key × V)} (h : PackAt K H a x ls sz) (e : H d = some (.dK kvs)) (s : But d H H') : PackAt K H' a x ls sz := by
  obtain ⟨dx, lp, j, k, last, F, on, dy, t, fo, re, ev, ke, h1, h2⟩ := h
  have n : ∀ {b o}, H b = some o → (∀ kvs, o ≠ .dK kvs) → H' b = some o := fun hb ho => s _ _ (fun z => by rw [z, e] at hb; injection hb with hb; exact ho _ hb.symm) hb
  exact ⟨dx, lp, j, k, last, { F with at_ := n F.at_ (by intro _ z; cases z), lst := n F.lst (by intro _ z; cases z) }, on, dy, t, fo, re, ev, ke, n h1 (by intro _ z; cases z), n h2 (by intro _ z; cases z)⟩
theorem PackAt.but0 {K : PySem.W.Frag} {H H' : Hp} {a x d C dx0 : Addr} {ls : List Int} {sz : Int} (h : PackAt K H a x ls sz) (e : H d = some (.ins C dx0 [])) (s : But d H H') : PackAt K H' a x ls sz := by
  obtain ⟨dx, lp, j, k, last, F, on, dy, t, fo, re, ev, ke, h1, h2⟩ := h
  have n : ∀ {b o}, H b = some o → (∀ C dx, o ≠ .ins C dx []) → H' b = some o := fun hb ho => s _ _ (fun z => by rw [z, e] at hb; injection hb with hb; exact ho _ _ hb.symm) hb
  exact ⟨dx, lp, j, k, last, { F with at_ := n F.at_ (by intro _ _ z; cases z), lst := n F.lst (by intro _ _ z; cases z) }, on, dy, t, fo, re, ev, ke, n h1 (by intro _ _ z; simp [setF] at z), n h2 (by intro _ _ z; cases z)⟩
/-- the sums of the gaps of a step, at g -/
def GapAt (K : PySem.W.Frag) (H : Hp) (g : Addr) (ls : List Int) (sz : Int) (step most : Nat) : Prop := ∃ (dx l : Addr) (j k : Nat), Pk.Cyc ls sz j k ∧ k ≤ 6 ∧ H g = some (.ins (He.ga K "Gaps") dx [("_near", .int (j / step : Nat)), ("_period", .int ((k - j) / Nat.gcd (k - j) step : Nat)), ("_sums", .ref l)]) ∧
  H l = some (.lst (tabL (fun i => .int (Hm.S (Hm.gap ls sz step most) i : Nat)) (j / step + (k - j) / Nat.gcd (k - j) step + 1)))
theorem GapAt.same {K : PySem.W.Frag} {H H' : Hp} {g : Addr} {ls : List Int} {sz : Int} {step most : Nat} (h : GapAt K H g ls sz step most) (s : Same H H') : GapAt K H' g ls sz step most := by
  obtain ⟨dx, l, j, k, c, k6, h1, h2⟩ := h
  exact ⟨dx, l, j, k, c, k6, s _ _ h1, s _ _ h2⟩
theorem GapAt.butD {K : PySem.W.Frag} {H H' : Hp} {g d : Addr} {ls : List Int} {sz : Int} {step most : Nat} {kvs : List (Key × V)} (h : GapAt K H g ls sz step most) (e : H d = some (.dK kvs)) (s : But d H H') : GapAt K H' g ls sz step most := by
  obtain ⟨dx, l, j, k, c, k6, h1, h2⟩ := h
  have n : ∀ {b o}, H b = some o → (∀ kvs, o ≠ .dK kvs) → H' b = some o := fun hb ho => s _ _ (fun z => by rw [z, e] at hb; injection hb with hb; exact ho _ hb.symm) hb
  exact ⟨dx, l, j, k, c, k6, n h1 (by intro _ z; cases z), n h2 (by intro _ z; cases z)⟩
theorem per_pos {j k step : Nat} (h : j < k) : 1 ≤ (k - j) / Nat.gcd (k - j) step := by
  have g := Nat.gcd_pos_of_pos_left step (show 0 < k - j by omega)
  exact (Nat.le_div_iff_mul_le g).mpr (by rw [Nat.one_mul]; exact Nat.le_of_dvd (by omega) (Nat.gcd_dvd_left _ _))
/-- Heights at h, with the dict of its gaps at d -/
def HeAt (K : PySem.W.Frag) (H : Hp) (h d : Addr) (ls : List Int) (sz : Int) (fo most rows c : Nat) : Prop := ∃ (dx p s : Addr) (kvs : List (Key × V)), H h = some (.ins (He.ga K "Heights") dx [("_packing", .ref p), ("_fanout", .int fo), ("_most", .int most), ("_rows", .int rows), ("_gaps", .ref d)]) ∧ PackAt K H p s ls sz ∧ H d = some (.dK kvs) ∧ kvs.length ≤ c ∧
  ∀ (x : Nat) (v : V), valV kvs (Sum.inl (x : Int)) = some v → ∃ g, v = .ref g ∧ GapAt K H g ls sz x most
theorem HeAt.same {K : PySem.W.Frag} {H H' : Hp} {h d : Addr} {ls : List Int} {sz : Int} {fo most rows c : Nat} (x : HeAt K H h d ls sz fo most rows c) (s : Same H H') : HeAt K H' h d ls sz fo most rows c := by
  obtain ⟨dx, p, s1, kvs, h1, h2, h3, h4, h5⟩ := x
  exact ⟨dx, p, s1, kvs, s _ _ h1, h2.same s, s _ _ h3, h4, fun x v e => by obtain ⟨g, e1, e2⟩ := h5 x v e; exact ⟨g, e1, e2.same s⟩⟩
theorem HeAt.mono {K : PySem.W.Frag} {H : Hp} {h d : Addr} {ls : List Int} {sz : Int} {fo most rows c c' : Nat} (x : HeAt K H h d ls sz fo most rows c) (l : c ≤ c') : HeAt K H h d ls sz fo most rows c' := by
  obtain ⟨dx, p, s1, kvs, h1, h2, h3, h4, h5⟩ := x
  exact ⟨dx, p, s1, kvs, h1, h2, h3, Nat.le_trans h4 l, h5⟩
/-- what is known of the pages of settings -/
structure HeOk (ls : List Int) (sz : Int) (fo most rows : Nat) : Prop where
  o : Pk.Ok ls sz
  fb : 2 ≤ fo ∧ fo ≤ 8
  mb : most ≤ 99
  rb : 1 ≤ rows ∧ rows ≤ 64
  sb : ∀ a, Pk.st ls sz a + rows ≤ Pk.st ls sz (a + 1)
/-! the nodes of one tree that another one has not -/
/-- node (l, i) is one of the tree over pages a to b -/
def InTr (f a b : Nat) (n : Nat × Nat) : Prop := ∃ L, IsRl f a b L ∧ n.1 ≤ L ∧ a / f ^ (n.1 + 1) ≤ n.2 ∧ n.2 ≤ b / f ^ (n.1 + 1)
def abF (f c d : Nat) : Nat → Bool
  | 0 => false
  | l + 1 => abF f c d l || decide (c / f ^ (l + 1) = d / f ^ (l + 1))
def nbL (f a b c d l : Nat) : List (Nat × Nat) := (if abF f c d l = true ∨ a / f ^ (l + 1) < c / f ^ (l + 1) then [(l, a / f ^ (l + 1))] else []) ++ (if a / f ^ (l + 1) < b / f ^ (l + 1) ∧ (abF f c d l = true ∨ d / f ^ (l + 1) < b / f ^ (l + 1)) then [(l, b / f ^ (l + 1))] else [])
def nbs (f a b c d K : Nat) : List (Nat × Nat) := (List.range (K + 1)).flatMap (nbL f a b c d)
/-- the level at which the search ends -/
def IsNb (f a b c d K : Nat) : Prop := (a / f ^ (K + 1) = b / f ^ (K + 1) ∨ nbL f a b c d K = []) ∧ ∀ l, l < K → a / f ^ (l + 1) ≠ b / f ^ (l + 1) ∧ nbL f a b c d l ≠ []
section
variable {f a b c d K : Nat}
theorem nb_ex (h2 : 2 ≤ f) (ab : a ≤ b) (hb : b < 10 ^ 40) : ∃ K, K ≤ 132 ∧ IsNb f a b c d K := by
  obtain ⟨L, hL, hr⟩ := rl_ex h2 ab hb
  obtain ⟨K, h1, h3, h4⟩ := least_ex (fun K => a / f ^ (K + 1) = b / f ^ (K + 1) ∨ nbL f a b c d K = []) L (.inl hr.1)
  exact ⟨K, by omega, h3, fun l hl => ⟨fun z => h4 l hl (.inl z), fun z => h4 l hl (.inr z)⟩⟩
theorem div_up {x y k : Nat} (h : x / f ^ (k + 1) = y / f ^ (k + 1)) {l : Nat} (kl : k ≤ l) : x / f ^ (l + 1) = y / f ^ (l + 1) := by
  obtain ⟨u, rfl⟩ := Nat.exists_eq_add_of_le kl
  rw [show k + u + 1 = k + 1 + u by omega, Nat.pow_add, ← Nat.div_div_eq_div_mul, ← Nat.div_div_eq_div_mul, h]
theorem abF_iff {Lr : Nat} (hr : IsRl f c d Lr) : ∀ l, abF f c d l = true ↔ Lr < l
  | 0 => by
    show (false = true) ↔ _
    simp
  | l + 1 => by
    have ih := abF_iff hr l
    show (abF f c d l || decide (c / f ^ (l + 1) = d / f ^ (l + 1))) = true ↔ _
    rw [Bool.or_eq_true, ih, decide_eq_true_iff]
    constructor
    · rintro (h | h)
      · omega
      · exact Nat.lt_succ_of_le (Nat.le_of_not_lt fun z => hr.2 l z h)
    · intro h
      rcases Nat.lt_or_ge Lr l with z | z
      · exact .inl z
      · exact .inr (by rw [show l = Lr by omega]; exact hr.1)
/-- how two pages stand to two others within a page of theirs -/
structure Nbr (a b c d : Nat) : Prop where
  cd : c ≤ d
  ac : a ≤ c ∧ c ≤ a + 1
  db : d ≤ b ∧ b ≤ d + 1
  one : a = c ∨ b = d
theorem div_one {x y w : Nat} (hw : 0 < w) (h : y ≤ x + 1) : y / w ≤ x / w + 1 := by
  have h1 : y / w ≤ (x + w) / w := Nat.div_le_div_right (by omega)
  rw [Nat.add_div_right _ hw] at h1
  exact h1
theorem Nbr.at_ (n : Nbr a b c d) (h2 : 2 ≤ f) (l : Nat) : a / f ^ (l + 1) ≤ c / f ^ (l + 1) ∧ c / f ^ (l + 1) ≤ d / f ^ (l + 1) ∧ d / f ^ (l + 1) ≤ b / f ^ (l + 1) ∧ c / f ^ (l + 1) ≤ a / f ^ (l + 1) + 1 ∧ b / f ^ (l + 1) ≤ d / f ^ (l + 1) + 1 ∧ (a / f ^ (l + 1) = c / f ^ (l + 1) ∨ b / f ^ (l + 1) = d / f ^ (l + 1)) := by
  have w := wd_pos (l := l + 1) h2
  refine ⟨Nat.div_le_div_right n.ac.1, Nat.div_le_div_right n.cd, Nat.div_le_div_right n.db.1, div_one w n.ac.2, div_one w n.db.2, ?_⟩
  rcases n.one with e | e
  · exact .inl (by rw [e])
  · exact .inr (by rw [e])
theorem nb_mem (n : Nbr a b c d) (h2 : 2 ≤ f) (h : IsNb f a b c d K) (m : Nat × Nat) : m ∈ nbs f a b c d K ↔ InTr f a b m ∧ ¬ InTr f c d m := by
  obtain ⟨L, hr⟩ := rl_any (a := a) (b := b) h2
  obtain ⟨Lr, hs⟩ := rl_any (a := c) (b := d) h2
  obtain ⟨l, i⟩ := m
  have KL : K ≤ L := Nat.le_of_not_lt fun z => (h.2 L z).1 hr.1
  have A := fun j => n.at_ (f := f) h2 j
  have ab := abF_iff hs
  have mem : (l, i) ∈ nbs f a b c d K ↔ l ≤ K ∧ ((i = a / f ^ (l + 1) ∧ (abF f c d l = true ∨ a / f ^ (l + 1) < c / f ^ (l + 1))) ∨ (i = b / f ^ (l + 1) ∧ a / f ^ (l + 1) < b / f ^ (l + 1) ∧ (abF f c d l = true ∨ d / f ^ (l + 1) < b / f ^ (l + 1)))) := by
    unfold nbs
    rw [List.mem_flatMap]
    constructor
    · rintro ⟨j, hj, hm⟩
      have hj := List.mem_range.mp hj
      unfold nbL at hm
      rcases List.mem_append.mp hm with hm | hm
      · split at hm
        · rename_i y
          cases List.mem_singleton.mp hm
          exact ⟨by omega, .inl ⟨rfl, y⟩⟩
        · cases hm
      · split at hm
        · rename_i y
          cases List.mem_singleton.mp hm
          exact ⟨by omega, .inr ⟨rfl, y⟩⟩
        · cases hm
    · rintro ⟨hl, hm⟩
      refine ⟨l, List.mem_range.mpr (by omega), ?_⟩
      unfold nbL
      rcases hm with ⟨rfl, y⟩ | ⟨rfl, y⟩
      · rw [if_pos y]
        exact List.mem_append_left _ (List.mem_singleton.mpr rfl)
      · rw [if_pos y]
        exact List.mem_append_right _ (List.mem_singleton.mpr rfl)
  rw [mem]
  obtain ⟨a1, a2, a3, a4, a5, a6⟩ := A l
  have inC : InTr f c d (l, i) ↔ l ≤ Lr ∧ c / f ^ (l + 1) ≤ i ∧ i ≤ d / f ^ (l + 1) := by
    constructor
    · rintro ⟨L', h1, h3⟩
      rw [h1.inj hs] at h3
      exact h3
    · exact fun h3 => ⟨Lr, hs, h3⟩
  have inA : InTr f a b (l, i) ↔ l ≤ L ∧ a / f ^ (l + 1) ≤ i ∧ i ≤ b / f ^ (l + 1) := by
    constructor
    · rintro ⟨L', h1, h3⟩
      rw [h1.inj hr] at h3
      exact h3
    · exact fun h3 => ⟨L, hr, h3⟩
  rw [inA, inC, ab l]
  have same : Lr < l → c / f ^ (l + 1) = d / f ^ (l + 1) := fun z => div_up hs.1 (by omega)
  constructor
  · rintro ⟨hl, ⟨rfl, y⟩ | ⟨rfl, y1, y2⟩⟩
    · exact ⟨⟨by omega, by omega, by omega⟩, by omega⟩
    · exact ⟨⟨by omega, by omega, by omega⟩, by omega⟩
  · rintro ⟨⟨hl, i1, i2⟩, no⟩
    have lK : l ≤ K := Nat.le_of_not_lt fun z => by
      obtain ⟨b1, b2, b3, b4, b5, b6⟩ := A K
      have neK : a / f ^ (K + 1) ≠ b / f ^ (K + 1) := hr.2 K (by omega)
      have eK : nbL f a b c d K = [] := by
        rcases h.1 with y | y
        · exact absurd y neK
        · exact y
      unfold nbL at eK
      obtain ⟨e1, e2⟩ := List.append_eq_nil_iff.mp eK
      have f1 : ¬ (abF f c d K = true ∨ a / f ^ (K + 1) < c / f ^ (K + 1)) := fun y => by
        rw [if_pos y] at e1
        cases e1
      have f2 : ¬ (a / f ^ (K + 1) < b / f ^ (K + 1) ∧ (abF f c d K = true ∨ d / f ^ (K + 1) < b / f ^ (K + 1))) := fun y => by
        rw [if_pos y] at e2
        cases e2
      rw [ab K] at f1 f2
      have ea : c / f ^ (K + 1) = a / f ^ (K + 1) := by omega
      have eb : d / f ^ (K + 1) = b / f ^ (K + 1) := by omega
      have LrL : L ≤ Lr := Nat.le_of_not_lt fun y => hr.2 Lr y (by
        rw [← div_up ea (show K ≤ Lr by omega), ← div_up eb (show K ≤ Lr by omega)]
        exact hs.1)
      apply no
      rw [div_up ea (show K ≤ l by omega), div_up eb (show K ≤ l by omega)]
      omega
    refine ⟨lK, ?_⟩
    by_cases z : Lr < l
    · have := same z
      have : i = a / f ^ (l + 1) ∨ i = b / f ^ (l + 1) := by omega
      by_cases e : i = a / f ^ (l + 1)
      · exact .inl ⟨e, .inl z⟩
      · exact .inr ⟨by omega, by omega, .inl z⟩
    · have : i < c / f ^ (l + 1) ∨ d / f ^ (l + 1) < i := by omega
      omega
theorem nbL_two (l : Nat) : (nbL f a b c d l).length ≤ 2 := by
  unfold nbL
  rw [List.length_append]
  split <;> split <;> simp
theorem nbs_len : ∀ K, ((List.range K).flatMap (nbL f a b c d)).length ≤ 2 * K
  | 0 => by simp
  | K + 1 => by
    have ih := nbs_len K
    have := nbL_two (f := f) (a := a) (b := b) (c := c) (d := d) K
    rw [List.range_succ, List.flatMap_append, List.length_append, List.flatMap_singleton]
    omega
theorem nbs_nodup : ∀ K, ((List.range K).flatMap (nbL f a b c d)).Nodup
  | 0 => by simp
  | K + 1 => by
    have ih := nbs_nodup K
    rw [List.range_succ, List.flatMap_append, List.flatMap_singleton]
    have low : ∀ m ∈ (List.range K).flatMap (nbL f a b c d), m.1 < K := fun m hm => by
      obtain ⟨j, hj, h1⟩ := List.mem_flatMap.mp hm
      have hj := List.mem_range.mp hj
      unfold nbL at h1
      rcases List.mem_append.mp h1 with h1 | h1
      · split at h1
        · rw [List.mem_singleton.mp h1]
          exact hj
        · cases h1
      · split at h1
        · rw [List.mem_singleton.mp h1]
          exact hj
        · cases h1
    have top : ∀ m ∈ nbL f a b c d K, m.1 = K := fun m h1 => by
      unfold nbL at h1
      rcases List.mem_append.mp h1 with h1 | h1
      · split at h1
        · rw [List.mem_singleton.mp h1]
        · cases h1
      · split at h1
        · rw [List.mem_singleton.mp h1]
        · cases h1
    refine List.nodup_append.mpr ⟨ih, ?_, fun x hx y hy e => ?_⟩
    · unfold nbL
      refine List.nodup_append.mpr ⟨by split <;> simp, by split <;> simp, fun x hx y hy e => ?_⟩
      split at hx
      · split at hy
        · rename_i _ z
          cases List.mem_singleton.mp hx
          cases List.mem_singleton.mp hy
          injection e with _ e
          omega
        · cases hy
      · cases hx
    · have := low x hx
      have := top y hy
      rw [e] at *
      omega
end
/-- a node put to the end of a new list -/
theorem nd_push {H H2 H3 : Hp} {nd t : Addr} {vs : List V} {ns : List (Nat × Nat)} {n : Nat × Nat} (hnd : H nd = none) (s2 : Same H H2) (e2 : H2 nd = some (.lst vs)) (nl : NdL H2 vs ns) (ht : H2 t = none) (s3 : Same H2 H3) (et : H3 t = some (ndO n)) :
    Same H (upd H3 nd (.lst (vs ++ [.ref t]))) ∧ (upd H3 nd (.lst (vs ++ [.ref t]))) nd = some (.lst (vs ++ [.ref t])) ∧ NdL (upd H3 nd (.lst (vs ++ [.ref t]))) (vs ++ [.ref t]) (ns ++ [n]) := by
  have tn : t ≠ nd := (ne_of_none e2 ht).symm
  have e3 := s3 _ _ e2
  refine ⟨fun b o e => ?_, upd_same, ((nl.same s3).keep fun b xs e => ?_).app (NdL.one ?_)⟩
  · rw [upd_ne (ne_of_none e hnd)]
    exact s3 _ _ (s2 _ _ e)
  · rw [upd_ne (fun z => by rw [z, e3] at e; cases e)]
    exact e
  · rw [upd_ne tn]
    exact et
/-! a store, without Python -/
/-- a role -/
inductive Rl where
  | log (k : Nat)
  | heap (n : Nat)
  | node (l i : Nat)
/-- an event -/
inductive Ev where
  | take (p : Nat) (r : Rl)
  | recd (p row : Nat)
  | put (p row : Nat)
  | give (p : Nat) (r : Rl)
  | write (p : Nat)
  | free (p : Nat)
/-- a store behind some rows -/
structure St where
  done : Nat
  first : Nat
  after : Nat
  heap : List (Nat × Nat)
  nodes : List ((Nat × Nat) × Nat)
  log : List Nat
  waiting : List Nat
  free : List Nat
  changed : List Nat
  size : Nat
  nb : Nat
  oe : Nat
def rlT : Rl → List V
  | .log k => [.str "log", .int (k : Nat)]
  | .heap n => [.str "heap", .int (n : Nat)]
  | .node l i => [.str "node", .int (l : Nat), .int (i : Nat)]
/-- an event in memory -/
def EvO (H : Hp) (v : V) : Ev → Prop
  | .take p r => ∃ t q : Addr, v = .ref t ∧ H t = some (.tup [.str "take", .int (p : Nat), .ref q]) ∧ H q = some (.tup (rlT r))
  | .recd p r => ∃ t : Addr, v = .ref t ∧ H t = some (.tup [.str "record", .int (p : Nat), .int (r : Nat)])
  | .put p r => ∃ t : Addr, v = .ref t ∧ H t = some (.tup [.str "put", .int (p : Nat), .int (r : Nat)])
  | .give p r => ∃ t q : Addr, v = .ref t ∧ H t = some (.tup [.str "give", .int (p : Nat), .ref q]) ∧ H q = some (.tup (rlT r))
  | .write p => ∃ t : Addr, v = .ref t ∧ H t = some (.tup [.str "write", .int (p : Nat)])
  | .free p => ∃ t : Addr, v = .ref t ∧ H t = some (.tup [.str "free", .int (p : Nat)])
/-- all tuples stand -/
def TpS (H H' : Hp) : Prop := ∀ b xs, H b = some (.tup xs) → H' b = some (.tup xs)
theorem TpS.trans {H H1 H2 : Hp} (a : TpS H H1) (b : TpS H1 H2) : TpS H H2 := fun c xs e => b c xs (a c xs e)
theorem EvO.tp {H H' : Hp} {v : V} {e : Ev} (h : EvO H v e) (s : TpS H H') : EvO H' v e := by
  cases e with
  | take p r => exact let ⟨t, q, e1, e2, e3⟩ := h; ⟨t, q, e1, s _ _ e2, s _ _ e3⟩
  | recd p r => exact let ⟨t, e1, e2⟩ := h; ⟨t, e1, s _ _ e2⟩
  | put p r => exact let ⟨t, e1, e2⟩ := h; ⟨t, e1, s _ _ e2⟩
  | give p r => exact let ⟨t, q, e1, e2, e3⟩ := h; ⟨t, q, e1, s _ _ e2, s _ _ e3⟩
  | write p => exact let ⟨t, e1, e2⟩ := h; ⟨t, e1, s _ _ e2⟩
  | free p => exact let ⟨t, e1, e2⟩ := h; ⟨t, e1, s _ _ e2⟩
/-- the list of events at e -/
def EvL (H : Hp) (e : Addr) (evs : List Ev) : Prop := ∃ vs, H e = some (.lst vs) ∧ Paired (EvO H) vs evs
theorem paired_app {α β : Type} {F : α → β → Prop} : ∀ {a : List α} {b : List β} {c : List α} {d : List β}, Paired F a b → Paired F c d → Paired F (a ++ c) (b ++ d)
  | _, _, _, _, .nil, h => h
  | _, _, _, _, .cons f t, h => .cons f (paired_app t h)
theorem paired_mono {α β : Type} {F G : α → β → Prop} (g : ∀ x y, F x y → G x y) : ∀ {a : List α} {b : List β}, Paired F a b → Paired G a b
  | _, _, .nil => .nil
  | _, _, .cons f t => .cons (g _ _ f) (paired_mono g t)
/-- the objects of a state that change -/
structure Ow where
  dh : Addr
  dn : Addr
  lg : Addr
  wt : Addr
  fr : Addr
  ch : Addr
def Ow.all (o : Ow) : List Addr := [o.dh, o.dn, o.lg, o.wt, o.fr, o.ch]
def stF (s p : Addr) (o : Ow) (x : St) : List (Str × V) := [("settings", .ref s), ("packing", .ref p), ("done", .int x.done), ("first", .int x.first), ("after", .int x.after), ("heap", .ref o.dh), ("nodes", .ref o.dn), ("log", .ref o.lg), ("waiting", .ref o.wt), ("free", .ref o.fr), ("changed", .ref o.ch), ("size", .int x.size), ("next_begin", .int x.nb), ("oldest_end", .int x.oe)]
def nI (n : Nat) : V := .int (n : Nat)
def hpE (p : Nat × Nat) : Key × V := (Sum.inl (p.1 : Int), .int (p.2 : Nat))
def ndK (n : Nat × Nat) : List L2.Key := [Sum.inl (n.1 : Int), Sum.inl (n.2 : Int)]
def ndE (p : (Nat × Nat) × Nat) : List L2.Key × V := (ndK p.1, .int (p.2 : Nat))
def chE (n : Nat) : Key × V := (Sum.inl (n : Int), .bl true)
/-- a state at a; F is what stands beside it -/
structure StAt (K : PySem.W.Frag) (F H : Hp) (a s p : Addr) (o : Ow) (x : St) : Prop where
  at_ : ∃ dx, H a = some (.ins (He.ga K "State") dx (stF s p o x))
  hp : H o.dh = some (.dK (x.heap.map hpE))
  nd : H o.dn = some (.dT (x.nodes.map ndE))
  lg : H o.lg = some (.lst (x.log.map nI))
  wt : H o.wt = some (.lst (x.waiting.map nI))
  fr : H o.fr = some (.lst (x.free.map nI))
  ch : H o.ch = some (.dK (x.changed.map chE))
  ne : o.dh ≠ o.ch ∧ o.lg ≠ o.wt ∧ o.lg ≠ o.fr ∧ o.wt ≠ o.fr
  fz : Same F H
  own : ∀ y ∈ a :: o.all, F y = none
/-- what an operation on the state at a and the events at e leaves -/
structure Mv (a e : Addr) (o : Ow) (H : Hp) (o' : Ow) (H' : Hp) : Prop where
  kp : ∀ b u, b ≠ a → b ∉ o.all → b ≠ e → H b = some u → H' b = some u
  nw : ∀ y ∈ o'.all, y ∈ o.all ∨ H y = none
  al : ∀ b, H' b = none → H b = none
  tp : TpS H H'
theorem Mv.refl (a e : Addr) (o : Ow) (H : Hp) : Mv a e o H o H := ⟨fun _ _ _ _ _ h => h, fun _ h => .inl h, fun _ h => h, fun _ _ h => h⟩
theorem Mv.trans {a e : Addr} {o o1 o2 : Ow} {H H1 H2 : Hp} (x : Mv a e o H o1 H1) (y : Mv a e o1 H1 o2 H2) : Mv a e o H o2 H2 where
  kp := fun b u h1 h2 h3 h => y.kp b u h1 (fun z => by
    rcases x.nw b z with z | z
    · exact h2 z
    · rw [z] at h
      cases h) h3 (x.kp b u h1 h2 h3 h)
  nw := fun b hb => by
    rcases y.nw b hb with z | z
    · exact x.nw b z
    · exact .inr (x.al b z)
  al := fun b h => x.al b (y.al b h)
  tp := x.tp.trans y.tp
theorem Mv.same {a e : Addr} {o o1 : Ow} {H H1 H2 : Hp} (x : Mv a e o H o1 H1) (s : Same H1 H2) : Mv a e o H o1 H2 where
  kp := fun b u h1 h2 h3 h => s _ _ (x.kp b u h1 h2 h3 h)
  nw := x.nw
  al := fun b h => x.al b (s.free h)
  tp := fun b xs h => s _ _ (x.tp b xs h)
section
variable {K : PySem.W.Frag} {F H H' : Hp} {a s p e : Addr} {o : Ow} {x : St}
theorem StAt.same (h : StAt K F H a s p o x) (z : Same H H') : StAt K F H' a s p o x where
  at_ := let ⟨dx, e⟩ := h.at_; ⟨dx, z _ _ e⟩
  hp := z _ _ h.hp
  nd := z _ _ h.nd
  lg := z _ _ h.lg
  wt := z _ _ h.wt
  fr := z _ _ h.fr
  ch := z _ _ h.ch
  ne := h.ne
  fz := fun b u w => z _ _ (h.fz b u w)
  own := h.own
/-- one object of ours is written -/
theorem fz_upd {F H : Hp} {b : Addr} {u : HO} (fz : Same F H) (h : F b = none) : Same F (upd H b u) := fun c v e => by
  rw [upd_ne (ne_of_none e h)]
  exact fz _ _ e
theorem al_upd {H : Hp} {b : Addr} {u : HO} : ∀ c, upd H b u c = none → H c = none := fun c h => by
  by_cases e : c = b
  · rw [e, upd_same] at h
    cases h
  · rw [upd_ne e] at h
    exact h
theorem tp_upd {H : Hp} {b : Addr} {u v : HO} (h : H b = some v) (n : ∀ xs, v ≠ .tup xs) : TpS H (upd H b u) := fun c xs e => by
  rw [upd_ne (fun z => by rw [z, h] at e; injection e with e; exact n xs e)]
  exact e
theorem StAt.setA (h : StAt K F H a s p o x) {x' : St} (e1 : x'.heap = x.heap) (e2 : x'.nodes = x.nodes) (e3 : x'.log = x.log) (e4 : x'.waiting = x.waiting) (e5 : x'.free = x.free) (e6 : x'.changed = x.changed) {dx : Addr} :
    StAt K F (upd H a (.ins (He.ga K "State") dx (stF s p o x'))) a s p o x' ∧ Mv a e o H o (upd H a (.ins (He.ga K "State") dx (stF s p o x'))) := by
  obtain ⟨dy, ha⟩ := h.at_
  have n : ∀ {b u}, H b = some u → (∀ C d fs, u ≠ .ins C d fs) → b ≠ a := fun hb hu z => by rw [z, ha] at hb; injection hb with hb; exact hu _ _ _ hb.symm
  refine ⟨⟨⟨dx, upd_same⟩, ?_, ?_, ?_, ?_, ?_, ?_, h.ne, fz_upd h.fz (h.own _ List.mem_cons_self), h.own⟩, ⟨fun b u h1 _ _ hb => by rw [upd_ne h1]; exact hb, fun _ z => .inl z, al_upd, tp_upd ha (by intro _ z; cases z)⟩⟩
  · rw [upd_ne (n h.hp (by intro _ _ _ z; cases z)), e1]
    exact h.hp
  · rw [upd_ne (n h.nd (by intro _ _ _ z; cases z)), e2]
    exact h.nd
  · rw [upd_ne (n h.lg (by intro _ _ _ z; cases z)), e3]
    exact h.lg
  · rw [upd_ne (n h.wt (by intro _ _ _ z; cases z)), e4]
    exact h.wt
  · rw [upd_ne (n h.fr (by intro _ _ _ z; cases z)), e5]
    exact h.fr
  · rw [upd_ne (n h.ch (by intro _ _ _ z; cases z)), e6]
    exact h.ch
theorem StAt.setH (h : StAt K F H a s p o x) (m : List (Nat × Nat)) : StAt K F (upd H o.dh (.dK (m.map hpE))) a s p o { x with heap := m } ∧ Mv a e o H o (upd H o.dh (.dK (m.map hpE))) := by
  obtain ⟨dy, ha⟩ := h.at_
  have n : ∀ {b u}, H b = some u → (∀ kvs, u ≠ .dK kvs) → b ≠ o.dh := fun hb hu z => by rw [z, h.hp] at hb; injection hb with hb; exact hu _ hb.symm
  refine ⟨⟨⟨dy, ?_⟩, upd_same, ?_, ?_, ?_, ?_, ?_, h.ne, fz_upd h.fz (h.own _ (by simp [Ow.all])), h.own⟩, ⟨fun b u _ h2 _ hb => by rw [upd_ne (fun z => h2 (by rw [z]; simp [Ow.all]))]; exact hb, fun _ z => .inl z, al_upd, tp_upd h.hp (by intro _ z; cases z)⟩⟩
  · rw [upd_ne (n ha (by intro _ z; cases z))]
    exact ha
  · rw [upd_ne (n h.nd (by intro _ z; cases z))]
    exact h.nd
  · rw [upd_ne (n h.lg (by intro _ z; cases z))]
    exact h.lg
  · rw [upd_ne (n h.wt (by intro _ z; cases z))]
    exact h.wt
  · rw [upd_ne (n h.fr (by intro _ z; cases z))]
    exact h.fr
  · rw [upd_ne (Ne.symm h.ne.1)]
    exact h.ch
theorem StAt.setC (h : StAt K F H a s p o x) (m : List Nat) : StAt K F (upd H o.ch (.dK (m.map chE))) a s p o { x with changed := m } ∧ Mv a e o H o (upd H o.ch (.dK (m.map chE))) := by
  obtain ⟨dy, ha⟩ := h.at_
  have n : ∀ {b u}, H b = some u → (∀ kvs, u ≠ .dK kvs) → b ≠ o.ch := fun hb hu z => by rw [z, h.ch] at hb; injection hb with hb; exact hu _ hb.symm
  refine ⟨⟨⟨dy, ?_⟩, ?_, ?_, ?_, ?_, ?_, upd_same, h.ne, fz_upd h.fz (h.own _ (by simp [Ow.all])), h.own⟩, ⟨fun b u _ h2 _ hb => by rw [upd_ne (fun z => h2 (by rw [z]; simp [Ow.all]))]; exact hb, fun _ z => .inl z, al_upd, tp_upd h.ch (by intro _ z; cases z)⟩⟩
  · rw [upd_ne (n ha (by intro _ z; cases z))]
    exact ha
  · rw [upd_ne h.ne.1]
    exact h.hp
  · rw [upd_ne (n h.nd (by intro _ z; cases z))]
    exact h.nd
  · rw [upd_ne (n h.lg (by intro _ z; cases z))]
    exact h.lg
  · rw [upd_ne (n h.wt (by intro _ z; cases z))]
    exact h.wt
  · rw [upd_ne (n h.fr (by intro _ z; cases z))]
    exact h.fr
theorem StAt.setN (h : StAt K F H a s p o x) (m : List ((Nat × Nat) × Nat)) : StAt K F (upd H o.dn (.dT (m.map ndE))) a s p o { x with nodes := m } ∧ Mv a e o H o (upd H o.dn (.dT (m.map ndE))) := by
  obtain ⟨dy, ha⟩ := h.at_
  have n : ∀ {b u}, H b = some u → (∀ kvs, u ≠ .dT kvs) → b ≠ o.dn := fun hb hu z => by rw [z, h.nd] at hb; injection hb with hb; exact hu _ hb.symm
  refine ⟨⟨⟨dy, ?_⟩, ?_, upd_same, ?_, ?_, ?_, ?_, h.ne, fz_upd h.fz (h.own _ (by simp [Ow.all])), h.own⟩, ⟨fun b u _ h2 _ hb => by rw [upd_ne (fun z => h2 (by rw [z]; simp [Ow.all]))]; exact hb, fun _ z => .inl z, al_upd, tp_upd h.nd (by intro _ z; cases z)⟩⟩
  · rw [upd_ne (n ha (by intro _ z; cases z))]
    exact ha
  · rw [upd_ne (n h.hp (by intro _ z; cases z))]
    exact h.hp
  · rw [upd_ne (n h.lg (by intro _ z; cases z))]
    exact h.lg
  · rw [upd_ne (n h.wt (by intro _ z; cases z))]
    exact h.wt
  · rw [upd_ne (n h.fr (by intro _ z; cases z))]
    exact h.fr
  · rw [upd_ne (n h.ch (by intro _ z; cases z))]
    exact h.ch
theorem StAt.setL (h : StAt K F H a s p o x) (m : List Nat) : StAt K F (upd H o.lg (.lst (m.map nI))) a s p o { x with log := m } ∧ Mv a e o H o (upd H o.lg (.lst (m.map nI))) := by
  obtain ⟨dy, ha⟩ := h.at_
  obtain ⟨n1, n2, n3, n4⟩ := h.ne
  have n : ∀ {b u}, H b = some u → (∀ kvs, u ≠ .lst kvs) → b ≠ o.lg := fun hb hu z => by rw [z, h.lg] at hb; injection hb with hb; exact hu _ hb.symm
  refine ⟨⟨⟨dy, ?_⟩, ?_, ?_, upd_same, ?_, ?_, ?_, h.ne, fz_upd h.fz (h.own _ (by simp [Ow.all])), h.own⟩, ⟨fun b u _ h2 _ hb => by rw [upd_ne (fun z => h2 (by rw [z]; simp [Ow.all]))]; exact hb, fun _ z => .inl z, al_upd, tp_upd h.lg (by intro _ z; cases z)⟩⟩
  · rw [upd_ne (n ha (by intro _ z; cases z))]
    exact ha
  · rw [upd_ne (n h.hp (by intro _ z; cases z))]
    exact h.hp
  · rw [upd_ne (n h.nd (by intro _ z; cases z))]
    exact h.nd
  · rw [upd_ne (Ne.symm n2)]
    exact h.wt
  · rw [upd_ne (Ne.symm n3)]
    exact h.fr
  · rw [upd_ne (n h.ch (by intro _ z; cases z))]
    exact h.ch
theorem StAt.setW (h : StAt K F H a s p o x) (m : List Nat) : StAt K F (upd H o.wt (.lst (m.map nI))) a s p o { x with waiting := m } ∧ Mv a e o H o (upd H o.wt (.lst (m.map nI))) := by
  obtain ⟨dy, ha⟩ := h.at_
  obtain ⟨n1, n2, n3, n4⟩ := h.ne
  have n : ∀ {b u}, H b = some u → (∀ kvs, u ≠ .lst kvs) → b ≠ o.wt := fun hb hu z => by rw [z, h.wt] at hb; injection hb with hb; exact hu _ hb.symm
  refine ⟨⟨⟨dy, ?_⟩, ?_, ?_, ?_, upd_same, ?_, ?_, h.ne, fz_upd h.fz (h.own _ (by simp [Ow.all])), h.own⟩, ⟨fun b u _ h2 _ hb => by rw [upd_ne (fun z => h2 (by rw [z]; simp [Ow.all]))]; exact hb, fun _ z => .inl z, al_upd, tp_upd h.wt (by intro _ z; cases z)⟩⟩
  · rw [upd_ne (n ha (by intro _ z; cases z))]
    exact ha
  · rw [upd_ne (n h.hp (by intro _ z; cases z))]
    exact h.hp
  · rw [upd_ne (n h.nd (by intro _ z; cases z))]
    exact h.nd
  · rw [upd_ne n2]
    exact h.lg
  · rw [upd_ne (Ne.symm n4)]
    exact h.fr
  · rw [upd_ne (n h.ch (by intro _ z; cases z))]
    exact h.ch
theorem StAt.setF (h : StAt K F H a s p o x) (m : List Nat) : StAt K F (upd H o.fr (.lst (m.map nI))) a s p o { x with free := m } ∧ Mv a e o H o (upd H o.fr (.lst (m.map nI))) := by
  obtain ⟨dy, ha⟩ := h.at_
  obtain ⟨n1, n2, n3, n4⟩ := h.ne
  have n : ∀ {b u}, H b = some u → (∀ kvs, u ≠ .lst kvs) → b ≠ o.fr := fun hb hu z => by rw [z, h.fr] at hb; injection hb with hb; exact hu _ hb.symm
  refine ⟨⟨⟨dy, ?_⟩, ?_, ?_, ?_, ?_, upd_same, ?_, h.ne, fz_upd h.fz (h.own _ (by simp [Ow.all])), h.own⟩, ⟨fun b u _ h2 _ hb => by rw [upd_ne (fun z => h2 (by rw [z]; simp [Ow.all]))]; exact hb, fun _ z => .inl z, al_upd, tp_upd h.fr (by intro _ z; cases z)⟩⟩
  · rw [upd_ne (n ha (by intro _ z; cases z))]
    exact ha
  · rw [upd_ne (n h.hp (by intro _ z; cases z))]
    exact h.hp
  · rw [upd_ne (n h.nd (by intro _ z; cases z))]
    exact h.nd
  · rw [upd_ne n3]
    exact h.lg
  · rw [upd_ne n4]
    exact h.wt
  · rw [upd_ne (n h.ch (by intro _ z; cases z))]
    exact h.ch
/-- the events at e: a list beside the state -/
structure EvA (F H : Hp) (e a : Addr) (o : Ow) (evs : List Ev) : Prop where
  l : EvL H e evs
  n : e ∉ a :: o.all
  f : F e = none
theorem EvL.tp {evs : List Ev} (h : EvL H e evs) (z : TpS H H') (k : ∀ vs, H e = some (.lst vs) → H' e = some (.lst vs)) : EvL H' e evs := by
  obtain ⟨vs, h1, h2⟩ := h
  exact ⟨vs, k vs h1, paired_mono (fun v ev w => w.tp z) h2⟩
theorem EvA.same {evs : List Ev} (h : EvA F H e a o evs) (z : Same H H') : EvA F H' e a o evs := ⟨h.l.tp (fun b xs w => z _ _ w) (fun vs w => z _ _ w), h.n, h.f⟩
/-- an event to the end -/
theorem EvA.push {evs : List Ev} {v : V} {ev : Ev} (h : EvA F H e a o evs) (S : StAt K F H a s p o x) (hv : EvO H v ev) : ∃ vs, H e = some (.lst vs) ∧ vs.length = evs.length ∧ EvA F (upd H e (.lst (vs ++ [v]))) e a o (evs ++ [ev]) ∧ StAt K F (upd H e (.lst (vs ++ [v]))) a s p o x ∧ Mv a e o H o (upd H e (.lst (vs ++ [v]))) := by
  obtain ⟨vs, h1, h2⟩ := h.l
  have tp : TpS H (upd H e (.lst (vs ++ [v]))) := tp_upd h1 (by intro _ z; cases z)
  have n : ∀ y ∈ a :: o.all, y ≠ e := fun y hy z => h.n (by rw [← z]; exact hy)
  have k : ∀ {y : Addr} {u : HO}, y ∈ a :: o.all → H y = some u → upd H e (.lst (vs ++ [v])) y = some u := fun hy w => by
    rw [upd_ne (n _ hy)]
    exact w
  obtain ⟨dx, ha⟩ := S.at_
  refine ⟨vs, h1, Paired.length h2, ⟨⟨_, upd_same, paired_app (paired_mono (fun v ev w => w.tp tp) h2) (.cons (hv.tp tp) .nil)⟩, h.n, h.f⟩, ⟨⟨dx, k (by simp) ha⟩, k (by simp [Ow.all]) S.hp, k (by simp [Ow.all]) S.nd, k (by simp [Ow.all]) S.lg, k (by simp [Ow.all]) S.wt, k (by simp [Ow.all]) S.fr, k (by simp [Ow.all]) S.ch, S.ne, fz_upd S.fz h.f, S.own⟩, ⟨fun b u _ _ h3 hb => ?_, fun _ z => .inl z, al_upd, tp⟩⟩
  rw [upd_ne h3]
  exact hb
/-- the events beside a state that was written -/
theorem EvA.mv {evs : List Ev} {o' : Ow} (h : EvA F H e a o evs) (m : Mv a e o H o' H') (k : ∀ vs, H e = some (.lst vs) → H' e = some (.lst vs)) : EvA F H' e a o' evs := by
  refine ⟨h.l.tp m.tp k, fun z => ?_, h.f⟩
  rcases List.mem_cons.mp z with z | z
  · exact h.n (by rw [z]; exact List.mem_cons_self)
  · rcases m.nw e z with z | z
    · exact h.n (List.mem_cons_of_mem _ z)
    · obtain ⟨vs, h1, _⟩ := h.l
      rw [z] at h1
      cases h1
theorem EvA.of {evs : List Ev} {b : Addr} {u : HO} (h : EvA F H e a o evs) (hb : b ∈ a :: o.all) (tp : TpS H (upd H b u)) : EvA F (upd H b u) e a o evs := ⟨h.l.tp tp fun vs w => by rw [upd_ne (fun z => h.n (by rw [z]; exact hb))]; exact w, h.n, h.f⟩
end
theorem StAt.nw {K : PySem.W.Frag} {F H : Hp} {a s p b : Addr} {o : Ow} {x : St} (h : StAt K F H a s p o x) (hb : H b = none) : b ∉ a :: o.all := fun z => by
  obtain ⟨dx, ha⟩ := h.at_
  simp only [Ow.all, List.mem_cons, List.not_mem_nil, or_false] at z
  rcases z with z | z | z | z | z | z | z <;> subst z
  · rw [ha] at hb; cases hb
  · rw [h.hp] at hb; cases hb
  · rw [h.nd] at hb; cases hb
  · rw [h.lg] at hb; cases hb
  · rw [h.wt] at hb; cases hb
  · rw [h.fr] at hb; cases hb
  · rw [h.ch] at hb; cases hb
theorem EvA.nw {F H : Hp} {e a b : Addr} {o : Ow} {evs : List Ev} (h : EvA F H e a o evs) (hb : H b = none) : b ≠ e := fun z => by
  obtain ⟨vs, h1, _⟩ := h.l
  rw [z, h1] at hb
  cases hb
/-- a page taken -/
def St.took (x : St) : Nat × St := match x.free.getLast? with
  | some p => (p, { x with free := x.free.dropLast })
  | none => (x.size, { x with size := x.size + 1 })
def St.mark (x : St) (p : Nat) : St := if p ∈ x.changed then x else { x with changed := x.changed ++ [p] }
theorem lastI {m : List Nat} (h : m ≠ []) : (m.map nI)[(m.map nI).length - 1]? = some (nI (m.getLast h)) := by
  rw [List.length_map, List.getElem?_map, List.getElem?_eq_getElem (by have := List.length_pos_iff.mpr h; omega), List.getLast_eq_getElem]
  rfl
theorem valV_one {κ : Type} [DecidableEq κ] (kv : κ × V) (kvs : List (κ × V)) (k : κ) : valV (kv :: kvs) k = if kv.1 = k then some kv.2 else valV kvs k := by
  unfold valV
  rw [List.find?_cons]
  by_cases h : kv.1 = k <;> simp [h]
theorem chE_get (p : Nat) : ∀ m : List Nat, valV (m.map chE) (Sum.inl (p : Int)) = if p ∈ m then some (.bl true) else none
  | [] => rfl
  | q :: m => by
    rw [List.map_cons, valV_one, chE_get p m]
    by_cases e : q = p
    · rw [if_pos (show (chE q).1 = Sum.inl (p : Int) by rw [e]; rfl), if_pos (by rw [e]; exact List.mem_cons_self)]
      rfl
    · rw [if_neg (show ¬ (chE q).1 = Sum.inl (p : Int) from fun z => e (by have := Sum.inl.inj z; omega))]
      by_cases h : p ∈ m
      · rw [if_pos h, if_pos (List.mem_cons_of_mem _ h)]
      · rw [if_neg h, if_neg (fun z => by
          rcases List.mem_cons.mp z with z | z
          · exact e z.symm
          · exact h z)]
section
variable {α κ : Type} [DecidableEq α] [DecidableEq κ]
def eE (enc : α → κ) (p : α × Nat) : κ × V := (enc p.1, nI p.2)
def gtL (m : List (α × Nat)) (a : α) : Option Nat := (m.find? fun p => decide (p.1 = a)).map (·.2)
def drL (m : List (α × Nat)) (a : α) : List (α × Nat) := m.filter fun p => decide (p.1 ≠ a)
theorem gtL_cons (p : α × Nat) (m : List (α × Nat)) (a : α) : gtL (p :: m) a = if p.1 = a then some p.2 else gtL m a := by
  unfold gtL
  rw [List.find?_cons]
  by_cases h : p.1 = a <;> simp [h]
theorem eE_get {enc : α → κ} (inj : ∀ a b, enc a = enc b → a = b) (a : α) : ∀ m : List (α × Nat), valV (m.map (eE enc)) (enc a) = (gtL m a).map nI
  | [] => rfl
  | p :: m => by
    rw [List.map_cons, valV_one, eE_get inj a m, gtL_cons]
    by_cases h : p.1 = a
    · rw [if_pos (show (eE enc p).1 = enc a by rw [← h]; rfl), if_pos h]
      rfl
    · rw [if_neg (show ¬ (eE enc p).1 = enc a from fun z => h (inj _ _ z)), if_neg h]
theorem eE_put {enc : α → κ} (inj : ∀ a b, enc a = enc b → a = b) {a : α} {m : List (α × Nat)} (v : Nat) (h : gtL m a = none) : putK (m.map (eE enc)) (enc a) (nI v) = (m ++ [(a, v)]).map (eE enc) := by
  rw [putK_new _ (by rw [eE_get inj, h]; rfl), List.map_append]
  rfl
theorem eE_drop {enc : α → κ} (inj : ∀ a b, enc a = enc b → a = b) (a : α) : ∀ m : List (α × Nat), dropK (m.map (eE enc)) (enc a) = (drL m a).map (eE enc)
  | [] => rfl
  | p :: m => by
    have ih := eE_drop inj a m
    unfold dropK drL at *
    rw [List.map_cons, List.filter_cons, List.filter_cons, ih]
    by_cases h : p.1 = a
    · rw [if_neg (by rw [decide_eq_true_eq]; exact fun z => z (by rw [← h]; rfl)), if_neg (by rw [decide_eq_true_eq]; exact fun z => z h)]
    · rw [if_pos (by rw [decide_eq_true_eq]; exact fun z => h (inj _ _ z)), if_pos (by rw [decide_eq_true_eq]; exact h)]
      rfl
end
def hpK (n : Nat) : Key := Sum.inl (n : Int)
theorem hpK_inj : ∀ a b : Nat, hpK a = hpK b → a = b := fun a b h => by
  have := Sum.inl.inj h
  omega
theorem ndK_inj : ∀ a b : Nat × Nat, ndK a = ndK b → a = b := fun a b h => by
  obtain ⟨a1, a2⟩ := a
  obtain ⟨b1, b2⟩ := b
  have h := List.cons.inj h
  have h1 := Sum.inl.inj h.1
  have h2 := Sum.inl.inj (List.cons.inj h.2).1
  simp only at h1 h2
  rw [show a1 = b1 by omega, show a2 = b2 by omega]
theorem ch_put (m : List Nat) (p : Nat) : putK (m.map chE) (Sum.inl (p : Int)) (.bl true) = (if p ∈ m then m else m ++ [p]).map chE := by
  by_cases h : p ∈ m
  · rw [if_pos h]
    unfold putK
    rw [if_pos (by rw [valV_any, chE_get, if_pos h]; rfl), List.map_map]
    refine List.map_congr_left fun q _ => ?_
    show (if (chE q).1 = Sum.inl (p : Int) then ((chE q).1, .bl true) else chE q) = chE q
    by_cases e : (chE q).1 = Sum.inl (p : Int)
    · rw [if_pos e]
      rfl
    · rw [if_neg e]
  · rw [if_neg h, putK_new _ (by rw [chE_get, if_neg h]), List.map_append]
    rfl
def St.gave (x : St) (p : Nat) : St := { x with changed := x.changed.filter fun q => decide (q ≠ p), waiting := x.waiting ++ [p] }
theorem ch_drop (m : List Nat) (p : Nat) : dropK (m.map chE) (Sum.inl (p : Int)) = (m.filter fun q => decide (q ≠ p)).map chE := by
  unfold dropK
  rw [List.filter_map]
  refine congrArg _ (List.filter_congr fun q _ => ?_)
  show decide ((chE q).1 ≠ Sum.inl (p : Int)) = decide (q ≠ p)
  refine decide_eq_decide.mpr ⟨fun h z => h (by rw [z]; rfl), fun h z => h ?_⟩
  have := Sum.inl.inj z
  omega
theorem ch_none {m : List Nat} {p : Nat} (h : p ∉ m) : (m.filter fun q => decide (q ≠ p)) = m := List.filter_eq_self.mpr fun q hq => by
  rw [decide_eq_true_eq]
  exact fun z => h (by rw [← z]; exact hq)
theorem nI_last {m : List Nat} (h : m ≠ []) : atI (m.map nI) (-1) = some (.int (m.getLast?.getD 0 : Nat)) := by
  have e : m = m.dropLast ++ [m.getLast?.getD 0] := by
    rw [List.getLast?_eq_some_getLast h]
    exact (List.dropLast_concat_getLast h).symm
  rw [e, List.map_append, ← e]
  exact atI_last _ _
theorem took_at (x : St) : x.took.2.log = x.log ∧ x.took.2.done = x.done ∧ x.took.2.first = x.first ∧ x.took.2.after = x.after ∧ x.took.2.heap = x.heap ∧ x.took.2.nodes = x.nodes ∧ x.took.2.waiting = x.waiting ∧ x.took.2.changed = x.changed ∧ x.took.2.nb = x.nb ∧ x.took.2.oe = x.oe := by
  unfold St.took
  split <;> exact ⟨rfl, rfl, rfl, rfl, rfl, rfl, rfl, rfl, rfl, rfl⟩
/-- what stands beside every state -/
structure Se (K : PySem.W.Frag) (F : Hp) (s p : Addr) (ls : List Int) (sz : Int) (fo re ev ke : Nat) : Prop where
  st : SetAt K F s ls sz fo re ev ke
  pk : PackAt K F p s ls sz
  ok : SetOk ls sz fo re ev ke
def St.logd (ev re : Nat) (x : St) : St × List Ev := if x.done % ev % re = 0 then ({ x.took.2 with log := x.took.2.log ++ [x.took.1] }, [.take x.took.1 (.log (x.done % ev / re)), .recd x.took.1 x.done]) else (x, [.recd (x.log.getLast?.getD 0) x.done])
/-- what a store was made with -/
structure Cf where
  s : Addr
  p : Addr
  ls : List Int
  sz : Int
  fo : Nat
  re : Nat
  ev : Nat
  ke : Nat
def parL (f number : Nat) (ns : List (Nat × Nat)) : List (Nat × Nat) := (0, number / f) :: ns.map fun n => (n.1 + 1, n.2 / f)
def St.chg1 (x : St) (n : Nat × Nat) : St := match gtL x.nodes n with
  | some p => x.mark p
  | none => x
def St.chgd (x : St) (f number : Nat) (ns : List (Nat × Nat)) : St := (parL f number ns).foldl St.chg1 x
def St.tk1 (x : St) (n : Nat × Nat) : St := ({ x.took.2 with nodes := x.nodes ++ [(n, x.took.1)] } : St).mark x.took.1
def St.tks : St → List (Nat × Nat) → St × List Ev
  | x, [] => (x, [])
  | x, n :: ns => ((x.tk1 n).tks ns).map id fun es => .take x.took.1 (.node n.1 n.2) :: es
/-- the nodes that begin with a page -/
def BgN (f a b : Nat) (ns : List (Nat × Nat)) : Prop := (a = b ∧ ns = [(0, a / f)]) ∨ (a < b ∧ ∃ L, L ≤ 132 ∧ IsNb f a b a (b - 1) L ∧ ns = nbs f a b a (b - 1) L)
def St.begn (x : St) (ls : List Int) (sz : Int) (f : Nat) (ns : List (Nat × Nat)) : St × List Ev :=
  let y := ({ x.took.2 with heap := x.heap ++ [(x.after, x.took.1)] } : St).tks ns
  (({ y.1 with after := x.after + 1, nb := Pk.st ls sz (x.after + 1) } : St).chgd f x.after ns, .take x.took.1 (.heap x.after) :: y.2)
theorem St.mark_eq (x : St) (p : Nat) : ({ x with changed := if p ∈ x.changed then x.changed else x.changed ++ [p] } : St) = x.mark p := by
  unfold St.mark
  split <;> rfl
theorem St.mark_len (x : St) (p : Nat) : (x.mark p).changed.length ≤ x.changed.length + 1 := by
  unfold St.mark
  split
  · exact Nat.le_succ _
  · simp
theorem tks_snoc (n : Nat × Nat) : ∀ (ns : List (Nat × Nat)) (x : St), x.tks (ns ++ [n]) = ((x.tks ns).1.tk1 n, (x.tks ns).2 ++ [.take (x.tks ns).1.took.1 (.node n.1 n.2)])
  | [], x => rfl
  | m :: ns, x => by
    have ih := tks_snoc n ns (x.tk1 m)
    rw [List.cons_append, St.tks, ih, St.tks]
    rfl
theorem St.mark_at (x : St) (p : Nat) : (x.mark p).log = x.log ∧ (x.mark p).done = x.done ∧ (x.mark p).first = x.first ∧ (x.mark p).after = x.after ∧ (x.mark p).heap = x.heap ∧ (x.mark p).nodes = x.nodes ∧ (x.mark p).waiting = x.waiting ∧ (x.mark p).free = x.free ∧ (x.mark p).size = x.size ∧ (x.mark p).nb = x.nb ∧ (x.mark p).oe = x.oe := by
  unfold St.mark
  split <;> exact ⟨rfl, rfl, rfl, rfl, rfl, rfl, rfl, rfl, rfl, rfl, rfl⟩
theorem tk1_at (x : St) (n : Nat × Nat) : (x.tk1 n).log = x.log ∧ (x.tk1 n).done = x.done ∧ (x.tk1 n).first = x.first ∧ (x.tk1 n).after = x.after ∧ (x.tk1 n).heap = x.heap ∧ (x.tk1 n).nodes = x.nodes ++ [(n, x.took.1)] ∧ (x.tk1 n).waiting = x.waiting ∧ (x.tk1 n).nb = x.nb ∧ (x.tk1 n).oe = x.oe ∧ (x.tk1 n).changed.length ≤ x.changed.length + 1 := by
  obtain ⟨a1, a2, a3, a4, a5, a6, a7, a8, a9, a10⟩ := took_at x
  obtain ⟨b1, b2, b3, b4, b5, b6, b7, b8, b9, b10, b11⟩ := St.mark_at ({ x.took.2 with nodes := x.nodes ++ [(n, x.took.1)] } : St) x.took.1
  refine ⟨b1.trans a1, b2.trans a2, b3.trans a3, b4.trans a4, b5.trans a5, b6, b7.trans a7, b10.trans a9, b11.trans a10, ?_⟩
  have := St.mark_len ({ x.took.2 with nodes := x.nodes ++ [(n, x.took.1)] } : St) x.took.1
  rw [show ({ x.took.2 with nodes := x.nodes ++ [(n, x.took.1)] } : St).changed = x.changed from a8] at this
  exact this
theorem tks_at : ∀ (ns : List (Nat × Nat)) (x : St), (x.tks ns).1.log = x.log ∧ (x.tks ns).1.done = x.done ∧ (x.tks ns).1.first = x.first ∧ (x.tks ns).1.after = x.after ∧ (x.tks ns).1.heap = x.heap ∧ (x.tks ns).1.nodes.map (·.1) = x.nodes.map (·.1) ++ ns ∧ (x.tks ns).1.waiting = x.waiting ∧ (x.tks ns).1.nb = x.nb ∧ (x.tks ns).1.oe = x.oe ∧ (x.tks ns).1.changed.length ≤ x.changed.length + ns.length ∧ (x.tks ns).2.length = ns.length
  | [], x => ⟨rfl, rfl, rfl, rfl, rfl, by rw [List.append_nil]; rfl, rfl, rfl, rfl, Nat.le_refl _, rfl⟩
  | n :: ns, x => by
    obtain ⟨a1, a2, a3, a4, a5, a6, a7, a8, a9, a10⟩ := tk1_at x n
    obtain ⟨b1, b2, b3, b4, b5, b6, b7, b8, b9, b10, b11⟩ := tks_at ns (x.tk1 n)
    refine ⟨b1.trans a1, b2.trans a2, b3.trans a3, b4.trans a4, b5.trans a5, ?_, b7.trans a7, b8.trans a8, b9.trans a9, ?_, ?_⟩
    · refine b6.trans ?_
      rw [a6, List.map_append, List.append_assoc]
      rfl
    · refine Nat.le_trans b10 ?_
      rw [List.length_cons]
      omega
    · show ((x.tk1 n).tks ns).2.length + 1 = ns.length + 1
      rw [b11]
theorem gtL_none {α : Type} [DecidableEq α] (a : α) : ∀ m : List (α × Nat), gtL m a = none ↔ a ∉ m.map (·.1)
  | [] => by simp [gtL]
  | p :: m => by
    rw [gtL_cons]
    by_cases h : p.1 = a
    · rw [if_pos h]
      exact ⟨fun z => (by cases z), fun z => absurd (List.mem_cons.mpr (.inl h.symm)) z⟩
    · rw [if_neg h, gtL_none a m]
      refine ⟨fun z y => ?_, fun z y => z (List.mem_cons_of_mem _ y)⟩
      rcases List.mem_cons.mp y with y | y
      · exact h y.symm
      · exact z y
theorem BgN.nodup {f a b : Nat} {ns : List (Nat × Nat)} (h : BgN f a b ns) (h2 : 2 ≤ f) : ns.Nodup := by
  rcases h with ⟨_, rfl⟩ | ⟨ab, L, _, h, rfl⟩
  · simp
  · exact nbs_nodup (L + 1)
theorem BgN.len {f a b : Nat} {ns : List (Nat × Nat)} (h : BgN f a b ns) : ns.length ≤ 266 := by
  rcases h with ⟨_, rfl⟩ | ⟨_, L, hL, _, rfl⟩
  · exact (by decide : 1 ≤ 266)
  · have := nbs_len (f := f) (a := a) (b := b) (c := a) (d := b - 1) (L + 1)
    unfold nbs
    omega
theorem gtL_snoc {α : Type} [DecidableEq α] (a b : α) (v : Nat) : ∀ m : List (α × Nat), gtL (m ++ [(a, v)]) b = match gtL m b with | some w => some w | none => if a = b then some v else none
  | [] => by
    rw [List.nil_append, gtL_cons]
    rfl
  | p :: m => by
    rw [List.cons_append, gtL_cons, gtL_cons, gtL_snoc a b v m]
    by_cases h : p.1 = b
    · rw [if_pos h, if_pos h]
    · rw [if_neg h, if_neg h]
theorem gtL_drop {α : Type} [DecidableEq α] (a b : α) (h : b ≠ a) : ∀ m : List (α × Nat), gtL (drL m a) b = gtL m b
  | [] => rfl
  | p :: m => by
    have ih := gtL_drop a b h m
    unfold drL at *
    rw [List.filter_cons]
    by_cases e : p.1 = a
    · rw [if_neg (by rw [decide_eq_true_eq]; exact fun z => z e), ih, gtL_cons, if_neg (fun z => h (by rw [← z, e]))]
    · rw [if_pos (by rw [decide_eq_true_eq]; exact e), gtL_cons, gtL_cons, ih]
theorem St.chg1_at (x : St) (n : Nat × Nat) : (x.chg1 n).log = x.log ∧ (x.chg1 n).done = x.done ∧ (x.chg1 n).first = x.first ∧ (x.chg1 n).after = x.after ∧ (x.chg1 n).heap = x.heap ∧ (x.chg1 n).nodes = x.nodes ∧ (x.chg1 n).waiting = x.waiting ∧ (x.chg1 n).free = x.free ∧ (x.chg1 n).size = x.size ∧ (x.chg1 n).nb = x.nb ∧ (x.chg1 n).oe = x.oe ∧ (x.chg1 n).changed.length ≤ x.changed.length + 1 := by
  unfold St.chg1
  split
  · rename_i p _
    obtain ⟨b1, b2, b3, b4, b5, b6, b7, b8, b9, b10, b11⟩ := St.mark_at x p
    exact ⟨b1, b2, b3, b4, b5, b6, b7, b8, b9, b10, b11, x.mark_len p⟩
  · exact ⟨rfl, rfl, rfl, rfl, rfl, rfl, rfl, rfl, rfl, rfl, rfl, Nat.le_succ _⟩
theorem St.chgf_at : ∀ (ns : List (Nat × Nat)) (x : St), (ns.foldl St.chg1 x).log = x.log ∧ (ns.foldl St.chg1 x).done = x.done ∧ (ns.foldl St.chg1 x).first = x.first ∧ (ns.foldl St.chg1 x).after = x.after ∧ (ns.foldl St.chg1 x).heap = x.heap ∧ (ns.foldl St.chg1 x).nodes = x.nodes ∧ (ns.foldl St.chg1 x).waiting = x.waiting ∧ (ns.foldl St.chg1 x).free = x.free ∧ (ns.foldl St.chg1 x).size = x.size ∧ (ns.foldl St.chg1 x).nb = x.nb ∧ (ns.foldl St.chg1 x).oe = x.oe ∧ (ns.foldl St.chg1 x).changed.length ≤ x.changed.length + ns.length
  | [], x => ⟨rfl, rfl, rfl, rfl, rfl, rfl, rfl, rfl, rfl, rfl, rfl, Nat.le_refl _⟩
  | n :: ns, x => by
    obtain ⟨a1, a2, a3, a4, a5, a6, a7, a8, a9, a10, a11, a12⟩ := x.chg1_at n
    obtain ⟨b1, b2, b3, b4, b5, b6, b7, b8, b9, b10, b11, b12⟩ := St.chgf_at ns (x.chg1 n)
    refine ⟨b1.trans a1, b2.trans a2, b3.trans a3, b4.trans a4, b5.trans a5, b6.trans a6, b7.trans a7, b8.trans a8, b9.trans a9, b10.trans a10, b11.trans a11, ?_⟩
    refine Nat.le_trans b12 ?_
    rw [List.length_cons]
    omega
theorem St.begn_at (x : St) (ls : List Int) (sz : Int) (f : Nat) (ns : List (Nat × Nat)) : (x.begn ls sz f ns).1.log = x.log ∧ (x.begn ls sz f ns).1.done = x.done ∧ (x.begn ls sz f ns).1.first = x.first ∧ (x.begn ls sz f ns).1.after = x.after + 1 ∧ (x.begn ls sz f ns).1.heap = x.heap ++ [(x.after, x.took.1)] ∧ (x.begn ls sz f ns).1.nodes.map (·.1) = x.nodes.map (·.1) ++ ns ∧ (x.begn ls sz f ns).1.waiting = x.waiting ∧ (x.begn ls sz f ns).1.nb = Pk.st ls sz (x.after + 1) ∧ (x.begn ls sz f ns).1.oe = x.oe ∧ (x.begn ls sz f ns).1.changed.length ≤ x.changed.length + 2 * ns.length + 1 ∧ (x.begn ls sz f ns).2.length = ns.length + 1 := by
  obtain ⟨a1, a2, a3, a4, a5, a6, a7, a8, a9, a10⟩ := took_at x
  obtain ⟨b1, b2, b3, b4, b5, b6, b7, b8, b9, b10, b11⟩ := tks_at ns ({ x.took.2 with heap := x.heap ++ [(x.after, x.took.1)] } : St)
  obtain ⟨c1, c2, c3, c4, c5, c6, c7, c8, c9, c10, c11, c12⟩ := St.chgf_at (parL f x.after ns) ({ (({ x.took.2 with heap := x.heap ++ [(x.after, x.took.1)] } : St).tks ns).1 with after := x.after + 1, nb := Pk.st ls sz (x.after + 1) } : St)
  refine ⟨c1.trans (b1.trans a1), c2.trans (b2.trans a2), c3.trans (b3.trans a3), c4, c5.trans b5, (congrArg (List.map (·.1)) c6).trans (b6.trans ?_), c7.trans (b7.trans a7), c10, c11.trans (b9.trans a10), ?_, congrArg (· + 1) b11⟩
  · rw [show ({ x.took.2 with heap := x.heap ++ [(x.after, x.took.1)] } : St).nodes = x.nodes from a6]
  · refine Nat.le_trans c12 ?_
    rw [show ({ x.took.2 with heap := x.heap ++ [(x.after, x.took.1)] } : St).changed = x.changed from a8] at b10
    have : (parL f x.after ns).length = ns.length + 1 := by simp [parL]
    dsimp only at *
    omega
/-- a row is put: what comes of it -/
def Put (c : Cf) (x y : St) (es : List Ev) : Prop := (x.done = x.nb ∧ ∃ ns, BgN c.fo x.first x.after ns ∧ y = (x.begn c.ls c.sz c.fo ns).1.mark x.took.1 ∧ es = (x.begn c.ls c.sz c.fo ns).2 ++ [.put x.took.1 x.done]) ∨ (x.done ≠ x.nb ∧ ∃ pg, gtL x.heap (x.after - 1) = some pg ∧ y = x.mark pg ∧ es = [.put pg x.done])
/-- what ends with a page -/
def EdN (f a b : Nat) (ns : List (Nat × Nat)) : Prop := ∃ L, L ≤ 132 ∧ IsNb f a b (a + 1) b L ∧ ns = nbs f a b (a + 1) b L
theorem EdN.nodup {f a b : Nat} {ns : List (Nat × Nat)} (h : EdN f a b ns) : ns.Nodup := by
  obtain ⟨L, _, _, rfl⟩ := h
  exact nbs_nodup (L + 1)
theorem EdN.len {f a b : Nat} {ns : List (Nat × Nat)} (h : EdN f a b ns) : ns.length ≤ 266 := by
  obtain ⟨L, hL, _, rfl⟩ := h
  have := nbs_len (f := f) (a := a) (b := b) (c := a + 1) (d := b) (L + 1)
  unfold nbs
  omega
def pgN (x : St) (n : Nat × Nat) : Nat := (gtL x.nodes n).getD 0
def St.gv1 (x : St) (n : Nat × Nat) : St := ({ x with nodes := drL x.nodes n } : St).gave (pgN x n)
def gvS (r : St × List Ev) (n : Nat × Nat) : St × List Ev := (r.1.gv1 n, r.2 ++ [.give (pgN r.1 n) (.node n.1 n.2)])
def St.gvs (x : St) (ns : List (Nat × Nat)) : St × List Ev := ns.foldl gvS (x, [])
theorem gvs_snoc (x : St) (ns : List (Nat × Nat)) (n : Nat × Nat) : x.gvs (ns ++ [n]) = gvS (x.gvs ns) n := by
  unfold St.gvs
  rw [List.foldl_append]
  rfl
theorem gvS_at : ∀ (ns : List (Nat × Nat)) (r : St × List Ev), (ns.foldl gvS r).1.log = r.1.log ∧ (ns.foldl gvS r).1.done = r.1.done ∧ (ns.foldl gvS r).1.first = r.1.first ∧ (ns.foldl gvS r).1.after = r.1.after ∧ (ns.foldl gvS r).1.heap = r.1.heap ∧ (ns.foldl gvS r).1.nb = r.1.nb ∧ (ns.foldl gvS r).1.oe = r.1.oe ∧ (ns.foldl gvS r).1.free = r.1.free ∧ (ns.foldl gvS r).1.size = r.1.size ∧ (ns.foldl gvS r).1.waiting.length = r.1.waiting.length + ns.length ∧ (ns.foldl gvS r).1.changed.length ≤ r.1.changed.length ∧ (ns.foldl gvS r).2.length = r.2.length + ns.length ∧ ∀ m, m ∉ ns → gtL (ns.foldl gvS r).1.nodes m = gtL r.1.nodes m
  | [], r => ⟨rfl, rfl, rfl, rfl, rfl, rfl, rfl, rfl, rfl, rfl, Nat.le_refl _, rfl, fun _ _ => rfl⟩
  | n :: ns, r => by
    obtain ⟨b1, b2, b3, b4, b5, b6, b7, b8, b9, b10, b11, b12, b13⟩ := gvS_at ns (gvS r n)
    refine ⟨b1, b2, b3, b4, b5, b6, b7, b8, b9, b10.trans ?_, Nat.le_trans b11 (List.length_filter_le _ _), b12.trans ?_, fun m hm => (b13 m fun z => hm (List.mem_cons_of_mem _ z)).trans (gtL_drop _ _ (fun z => hm (by rw [z]; exact List.mem_cons_self)) _)⟩
    · show (r.1.waiting ++ [_]).length + ns.length = r.1.waiting.length + (n :: ns).length
      rw [List.length_append, List.length_cons, List.length_cons]
      simp
      omega
    · show (r.2 ++ [_]).length + ns.length = r.2.length + (n :: ns).length
      rw [List.length_append, List.length_cons, List.length_cons]
      simp
      omega
def St.expd (x : St) (c : Cf) (ns : List (Nat × Nat)) : St × List Ev :=
  let pg := (gtL x.heap x.first).getD 0
  let r := (({ x with heap := drL x.heap x.first } : St).gave pg).gvs ns
  (({ r.1 with first := x.first + 1, oe := Pk.st c.ls c.sz (x.first + 1 + 1) } : St).chgd c.fo x.first ns, .give pg (.heap x.first) :: r.2)
/-- the oldest row goes: what comes of it -/
def Exd (c : Cf) (x y : St) (es : List Ev) : Prop := ((x.done : Int) - c.ke ≠ (x.oe : Int) - 1 ∧ y = x ∧ es = []) ∨ ((x.done : Int) - c.ke = (x.oe : Int) - 1 ∧ ∃ ns, EdN c.fo x.first (x.after - 1) ns ∧ x.expd c ns = (y, es))
def St.chkd (x : St) : St := { x with changed := [], free := x.free ++ (x.waiting ++ x.log), waiting := [], log := [] }
/-- a checkpoint: what comes of it -/
def Chk (x y : St) (es : List Ev) : Prop := y = x.chkd ∧ ∃ ws : List Nat, ws.Perm x.changed ∧ ws.Pairwise (· ≤ ·) ∧ es = ws.map .write ++ (x.waiting ++ x.log).map .free
/-- an event to the end of a new list -/
theorem ev_push {H H2 H3 : Hp} {nd t : Addr} {vs : List V} {evs : List Ev} {ev : Ev} (hnd : H nd = none) (s2 : Same H H2) (e2 : H2 nd = some (.lst vs)) (nl : Paired (EvO H2) vs evs) (s3 : Same H2 H3) (hev : EvO H3 (.ref t) ev) :
    Same H (upd H3 nd (.lst (vs ++ [.ref t]))) ∧ (upd H3 nd (.lst (vs ++ [.ref t]))) nd = some (.lst (vs ++ [.ref t])) ∧ Paired (EvO (upd H3 nd (.lst (vs ++ [.ref t])))) (vs ++ [.ref t]) (evs ++ [ev]) := by
  have e3 := s3 _ _ e2
  have tp : TpS H3 (upd H3 nd (.lst (vs ++ [.ref t]))) := tp_upd e3 (by intro _ z; cases z)
  refine ⟨fun b o e => ?_, upd_same, paired_app (paired_mono (fun v ev w => (w.tp fun b xs e => s3 _ _ e).tp tp) nl) (.cons (hev.tp tp) .nil)⟩
  rw [upd_ne (ne_of_none e hnd)]
  exact s3 _ _ (s2 _ _ e)
section
variable {K : PySem.W.Frag} {F H H' : Hp} {a s p e : Addr} {o : Ow} {x : St}
/-- events to the end -/
theorem EvA.ext {evs es : List Ev} {zs : List V} (h : EvA F H e a o evs) (S : StAt K F H a s p o x) (hv : Paired (EvO H) zs es) : ∃ vs, H e = some (.lst vs) ∧ vs.length = evs.length ∧ EvA F (upd H e (.lst (vs ++ zs))) e a o (evs ++ es) ∧ StAt K F (upd H e (.lst (vs ++ zs))) a s p o x ∧ Mv a e o H o (upd H e (.lst (vs ++ zs))) := by
  obtain ⟨vs, h1, h2⟩ := h.l
  have tp : TpS H (upd H e (.lst (vs ++ zs))) := tp_upd h1 (by intro _ z; cases z)
  have n : ∀ y ∈ a :: o.all, y ≠ e := fun y hy z => h.n (by rw [← z]; exact hy)
  have k : ∀ {y : Addr} {u : HO}, y ∈ a :: o.all → H y = some u → upd H e (.lst (vs ++ zs)) y = some u := fun hy w => by
    rw [upd_ne (n _ hy)]
    exact w
  obtain ⟨dx, ha⟩ := S.at_
  refine ⟨vs, h1, Paired.length h2, ⟨⟨_, upd_same, paired_app (paired_mono (fun v ev w => w.tp tp) h2) (paired_mono (fun v ev w => w.tp tp) hv)⟩, h.n, h.f⟩, ⟨⟨dx, k (by simp) ha⟩, k (by simp [Ow.all]) S.hp, k (by simp [Ow.all]) S.nd, k (by simp [Ow.all]) S.lg, k (by simp [Ow.all]) S.wt, k (by simp [Ow.all]) S.fr, k (by simp [Ow.all]) S.ch, S.ne, fz_upd S.fz h.f, S.own⟩, ⟨fun b u _ _ h3 hb => ?_, fun _ z => .inl z, al_upd, tp⟩⟩
  rw [upd_ne h3]
  exact hb
/-- an attribute gets a new object -/
theorem StAt.new (h : StAt K F H a s p o x) (o' : Ow) (x' : St) (z : Same H H') {dx : Addr} (nw : ∀ y ∈ o'.all, y ∈ o.all ∨ H y = none)
    (hp : H' o'.dh = some (.dK (x'.heap.map hpE))) (nd : H' o'.dn = some (.dT (x'.nodes.map ndE))) (lg : H' o'.lg = some (.lst (x'.log.map nI))) (wt : H' o'.wt = some (.lst (x'.waiting.map nI))) (fr : H' o'.fr = some (.lst (x'.free.map nI))) (ch : H' o'.ch = some (.dK (x'.changed.map chE)))
    (ne : o'.dh ≠ o'.ch ∧ o'.lg ≠ o'.wt ∧ o'.lg ≠ o'.fr ∧ o'.wt ≠ o'.fr) :
    StAt K F (upd H' a (.ins (He.ga K "State") dx (stF s p o' x'))) a s p o' x' ∧ Mv a e o H o' (upd H' a (.ins (He.ga K "State") dx (stF s p o' x'))) := by
  obtain ⟨dy, ha⟩ := h.at_
  have ha' := z _ _ ha
  have n : ∀ {b u}, H' b = some u → (∀ C d fs, u ≠ .ins C d fs) → b ≠ a := fun hb hu w => by rw [w, ha'] at hb; injection hb with hb; exact hu _ _ _ hb.symm
  have fa := h.own _ List.mem_cons_self
  refine ⟨⟨⟨dx, upd_same⟩, ?_, ?_, ?_, ?_, ?_, ?_, ne, fz_upd (fun b u w => z _ _ (h.fz b u w)) fa, fun y hy => ?_⟩, ⟨fun b u h1 _ _ hb => by rw [upd_ne h1]; exact z _ _ hb, nw, fun b w => z.free (al_upd b w), fun b xs w => tp_upd ha' (by intro _ z; cases z) b xs (z _ _ w)⟩⟩
  · rw [upd_ne (n hp (by intro _ _ _ z; cases z))]
    exact hp
  · rw [upd_ne (n nd (by intro _ _ _ z; cases z))]
    exact nd
  · rw [upd_ne (n lg (by intro _ _ _ z; cases z))]
    exact lg
  · rw [upd_ne (n wt (by intro _ _ _ z; cases z))]
    exact wt
  · rw [upd_ne (n fr (by intro _ _ _ z; cases z))]
    exact fr
  · rw [upd_ne (n ch (by intro _ _ _ z; cases z))]
    exact ch
  · rcases List.mem_cons.mp hy with hy | hy
    · rw [hy]
      exact fa
    · rcases nw y hy with w | w
      · exact h.own y (List.mem_cons_of_mem _ w)
      · exact Same.free h.fz w
end
theorem Put.len {c : Cf} {x y : St} {es : List Ev} (h : Put c x y es) : es.length ≤ 268 := by
  rcases h with ⟨_, ns, bg, _, rfl⟩ | ⟨_, pg, _, _, rfl⟩
  · have := (x.begn_at c.ls c.sz c.fo ns).2.2.2.2.2.2.2.2.2.2
    have nl := bg.len
    rw [List.length_append, this, List.length_singleton]
    omega
  · exact (by decide : 1 ≤ 268)
theorem Exd.len {c : Cf} {x y : St} {es : List Ev} (h : Exd c x y es) : es.length ≤ 267 := by
  rcases h with ⟨_, _, rfl⟩ | ⟨_, ns, ed, e⟩
  · exact Nat.zero_le _
  · have := (gvS_at ns ((({ x with heap := drL x.heap x.first } : St).gave ((gtL x.heap x.first).getD 0)), [])).2.2.2.2.2.2.2.2.2.2.2.1
    have nl := ed.len
    unfold St.expd at e
    rw [Prod.mk.injEq] at e
    rw [← e.2]
    rw [List.length_nil] at this
    show (List.foldl gvS _ ns).2.length + 1 ≤ 267
    omega
theorem St.logd_len (x : St) (ev re : Nat) : (x.logd ev re).2.length ≤ 2 := by
  unfold St.logd
  split
  · exact Nat.le_refl _
  · exact (by decide : 1 ≤ 2)
/-- a row: what comes of it -/
def Row (c : Cf) (x y : St) (es : List Ev) : Prop := ∃ x2 e2 x3 e3, Put c (x.logd c.ev c.re).1 x2 e2 ∧ Exd c x2 x3 e3 ∧
  if (x3.done + 1) % c.ev = 0 then ∃ e4, Chk { x3 with done := x3.done + 1 } y e4 ∧ es = (x.logd c.ev c.re).2 ++ e2 ++ e3 ++ e4 else y = { x3 with done := x3.done + 1 } ∧ es = (x.logd c.ev c.re).2 ++ e2 ++ e3
/-- what a row asks of a store -/
structure Rdy (c : Cf) (x : St) : Prop where
  l1 : x.log.length ≤ 40000
  l2 : x.done % c.ev % c.re ≠ 0 → x.log ≠ []
  p0 : (x.logd c.ev c.re).1.heap.length ≤ 40000 ∧ (x.logd c.ev c.re).1.nodes.length ≤ 40000 ∧ (x.logd c.ev c.re).1.changed.length ≤ 40000
  p1 : ∀ x1, x1 = (x.logd c.ev c.re).1 → x1.done = x1.nb → x1.first ≤ x1.after ∧ x1.after < 10 ^ 8 ∧ gtL x1.heap x1.after = none ∧ ∀ ns, BgN c.fo x1.first x1.after ns → ∀ n ∈ ns, gtL x1.nodes n = none
  p2 : ∀ x1, x1 = (x.logd c.ev c.re).1 → x1.done ≠ x1.nb → 0 < x1.after ∧ ∃ pg, gtL x1.heap (x1.after - 1) = some pg
  e : ∀ x2 e2, Put c (x.logd c.ev c.re).1 x2 e2 → x2.waiting.length ≤ 40000 ∧ x2.changed.length ≤ 40000 ∧ ((x2.done : Int) - c.ke = (x2.oe : Int) - 1 → x2.first + 1 < x2.after ∧ x2.after < 10 ^ 8 ∧ (∃ pg, gtL x2.heap x2.first = some pg) ∧ ∀ ns, EdN c.fo x2.first (x2.after - 1) ns → ∀ n ∈ ns, ∃ pg, gtL x2.nodes n = some pg)
  k : ∀ x2 e2 x3 e3, Put c (x.logd c.ev c.re).1 x2 e2 → Exd c x2 x3 e3 → x3.changed.length ≤ 40000 ∧ x3.waiting.length + x3.log.length ≤ 40000 ∧ x3.free.length ≤ 40000
/-- all that stands but one object -/
def frz (H : Hp) (a : Addr) : Hp := fun b => if b = a then none else H b
theorem frz_ne {H : Hp} {a b : Addr} (h : b ≠ a) : frz H a b = H b := if_neg h
theorem PackAt.frz {K : PySem.W.Frag} {H : Hp} {a p s : Addr} {ls : List Int} {sz : Int} (h : PackAt K H p s ls sz) (n : p ≠ a) (m : s ≠ a) (nl : ∀ zs, H a ≠ some (.lst zs)) (nt : ∀ xs, H a ≠ some (.tup xs)) : PackAt K (frz H a) p s ls sz := by
  obtain ⟨dx, lp, j, k, last, F, on, dy, t, fo, re, ev, ke, h1, h2⟩ := h
  have e1 : lp ≠ a := fun z => nl _ (by rw [← z]; exact F.lst)
  have e2 : t ≠ a := fun z => nt _ (by rw [← z]; exact h2)
  exact ⟨dx, lp, j, k, last, { F with at_ := by rw [frz_ne n]; exact F.at_, lst := by rw [frz_ne e1]; exact F.lst }, on, dy, t, fo, re, ev, ke, by rw [frz_ne m]; exact h1, by rw [frz_ne e2]; exact h2⟩
theorem SetAt.frz {K : PySem.W.Frag} {H : Hp} {a s : Addr} {ls : List Int} {sz fo re ev ke : Int} (h : SetAt K H s ls sz fo re ev ke) (m : s ≠ a) (nt : ∀ xs, H a ≠ some (.tup xs)) : SetAt K (frz H a) s ls sz fo re ev ke := by
  obtain ⟨dy, t, h1, h2⟩ := h
  exact ⟨dy, t, by rw [frz_ne m]; exact h1, by rw [frz_ne (fun z => nt _ (by rw [← z]; exact h2))]; exact h2⟩
/-- a store in which no row is -/
def St.nil (ls : List Int) (sz : Int) : St := ⟨0, 0, 0, [], [], [], [], [], [], 0, 0, Pk.st ls sz 1⟩
/-- the object of a store -/
def StoAt (K : PySem.W.Frag) (H : Hp) (w a : Addr) : Prop := ∃ dx, H w = some (.ins (He.ga K "Store") dx [("_state", .ref a)])
theorem StAt.frz {K : PySem.W.Frag} {F H : Hp} {a s p w : Addr} {o : Ow} {x : St} (h : StAt K F H a s p o x) : StAt K (Kw.frz F w) H a s p o x :=
  { h with
    fz := fun b u e => by
      unfold Kw.frz at e
      split at e
      · cases e
      · exact h.fz _ _ e
    own := fun y hy => by
      unfold Kw.frz
      split
      · rfl
      · exact h.own y hy }
theorem StAt.beside {K : PySem.W.Frag} {F H : Hp} {a s p w : Addr} {o : Ow} {x : St} (h : StAt K F H a s p o x) (n : w ∉ a :: o.all) (f : F w = none) (u : HO) : StAt K F (upd H w u) a s p o x := by
  obtain ⟨dx, ha⟩ := h.at_
  have k : ∀ {y : Addr} {v : HO}, y ∈ a :: o.all → H y = some v → upd H w u y = some v := fun hy z => by
    rw [upd_ne (fun e => n (by rw [← e]; exact hy))]
    exact z
  exact ⟨⟨dx, k (by simp) ha⟩, k (by simp [Ow.all]) h.hp, k (by simp [Ow.all]) h.nd, k (by simp [Ow.all]) h.lg, k (by simp [Ow.all]) h.wt, k (by simp [Ow.all]) h.fr, k (by simp [Ow.all]) h.ch, h.ne, fz_upd h.fz f, h.own⟩
theorem prd_at {α β : Type} {F : α → β → Prop} : ∀ {xs : List α} {ys : List β} {j : Nat} {x : α}, Paired F xs ys → xs[j]? = some x → ∃ y, ys[j]? = some y ∧ F x y
  | _, _, _, _, .nil, h => by simp at h
  | _, _, 0, _, .cons f _, h => by
    cases h
    exact ⟨_, rfl, f⟩
  | _, _, j + 1, _, .cons _ t, h => prd_at (j := j) t h
theorem nd_paired {H : Hp} : ∀ {ts : List Addr} {m : List (Nat × Nat)}, Paired (fun (t : Addr) (q : Key × V) => H t = some (.tup [kV q.1, q.2])) ts (m.map hpE) → NdL H (ts.map V.ref) m
  | [], [], .nil => NdL.nil
  | _ :: _, _ :: _, .cons f r => (NdL.one f).app (nd_paired r)
def keyI (m : (Nat × Nat) × Nat) : Int × Int := ((m.1.1 : Int), (m.1.2 : Int))
def leN (a b : (Nat × Nat) × Nat) : Bool := !SrtO.lexB (keyI b) (keyI a)
/-- the nodes in their order -/
def ndl (m : List ((Nat × Nat) × Nat)) : List ((Nat × Nat) × Nat) := m.mergeSort leN
theorem ndl_perm (m : List ((Nat × Nat) × Nat)) : (ndl m).Perm m := List.mergeSort_perm m leN
theorem lexB_tot (a b c : Int × Int) : (SrtO.lexB b a = false → SrtO.lexB c b = false → SrtO.lexB c a = false) ∧ (SrtO.lexB b a = false ∨ SrtO.lexB a b = false) ∧ (SrtO.lexB b a = false → SrtO.lexB a b = false → a = b) := by
  obtain ⟨a1, a2⟩ := a
  obtain ⟨b1, b2⟩ := b
  obtain ⟨c1, c2⟩ := c
  simp only [SrtO.lexB_no, Prod.mk.injEq]
  refine ⟨by omega, by omega, by omega⟩
theorem ndl_keys {m : List ((Nat × Nat) × Nat)} {ns : List (Int × Int)} (pm : ns.Perm (m.map keyI)) (srt : ns.Pairwise (fun x y => SrtO.lexB y x = false)) : ns = (ndl m).map keyI := by
  refine List.Perm.eq_of_pairwise (le := fun x y => SrtO.lexB y x = false) (fun a b _ _ h1 h2 => (lexB_tot a b a).2.2 h1 h2) srt ?_ (pm.trans ((ndl_perm m).map keyI).symm)
  rw [List.pairwise_map]
  have := List.pairwise_mergeSort (le := leN) (fun a b c h1 h2 => by
    unfold leN at *
    rw [Bool.not_eq_true'] at *
    exact (lexB_tot (keyI a) (keyI b) (keyI c)).1 h1 h2) (fun a b => by
    unfold leN
    rcases (lexB_tot (keyI a) (keyI b) (keyI a)).2.1 with h | h <;> rw [h] <;> simp) m
  refine this.imp fun h => ?_
  unfold leN at h
  rw [Bool.not_eq_true'] at h
  exact h
theorem gtL_mem {α : Type} [DecidableEq α] {k : α} {v : Nat} : ∀ {m : List (α × Nat)}, (m.map (·.1)).Nodup → (k, v) ∈ m → gtL m k = some v
  | [], _, h => by cases h
  | p :: m, nd, h => by
    rw [List.map_cons, List.nodup_cons] at nd
    rw [gtL_cons]
    rcases List.mem_cons.mp h with z | z
    · rw [← z, if_pos rfl]
    · rw [if_neg (fun e => nd.1 (List.mem_map.mpr ⟨_, z, e.symm⟩)), gtL_mem nd.2 z]
def trO (m : (Nat × Nat) × Nat) : HO := .tup [.int (m.1.1 : Nat), .int (m.1.2 : Nat), .int (m.2 : Nat)]
def TrL (H : Hp) (vs : List V) (ms : List ((Nat × Nat) × Nat)) : Prop := Paired (fun v m => ∃ t : Addr, v = .ref t ∧ H t = some (trO m)) vs ms
theorem TrL.tp {H H' : Hp} {vs : List V} {ms : List ((Nat × Nat) × Nat)} (h : TrL H vs ms) (z : TpS H H') : TrL H' vs ms := paired_mono (fun v m ⟨t, e1, e2⟩ => ⟨t, e1, z _ _ e2⟩) h
/-- the pages in use, in the order in which they are told -/
def useL (x : St) : List Nat := x.heap.map (·.2) ++ (ndl x.nodes).map (·.2) ++ x.log ++ x.waiting
/-! the pages of a store, without Python -/
/-- all pages that a store tells of -/
def pgs (x : St) : List Nat := x.heap.map (·.2) ++ (x.nodes.map (·.2) ++ (x.log ++ (x.waiting ++ x.free)))
structure Gd (x : St) : Prop where
  nd : (pgs x).Nodup
  lt : ∀ p ∈ pgs x, p < x.size
  cn : x.changed.Nodup
  cl : ∀ p ∈ x.changed, p < x.size
theorem nodup_le : ∀ (n : Nat) {l : List Nat}, l.Nodup → (∀ p ∈ l, p < n) → l.length ≤ n
  | 0, l, _, h => by
    cases l with
    | nil => exact Nat.le_refl _
    | cons p _ => exact absurd (h p List.mem_cons_self) (Nat.not_lt_zero _)
  | n + 1, l, nd, h => by
    by_cases e : n ∈ l
    · have ih := nodup_le n (nd.erase n) fun p hp => by
        obtain ⟨h1, h2⟩ := nd.mem_erase_iff.mp hp
        have := h p h2
        omega
      rw [List.length_erase_of_mem e] at ih
      omega
    · exact Nat.le_succ_of_le (nodup_le n nd fun p hp => by
        have := h p hp
        have : p ≠ n := fun z => e (by rw [← z]; exact hp)
        omega)
theorem took_size (x : St) : x.size ≤ x.took.2.size ∧ x.took.2.size ≤ x.size + 1 := by
  unfold St.took
  split
  · exact ⟨Nat.le_refl _, Nat.le_succ _⟩
  · exact ⟨Nat.le_succ _, Nat.le_refl _⟩
theorem took_pm (x : St) : (x.took.1 :: pgs x.took.2).Perm (if x.free = [] then x.size :: pgs x else pgs x) := by
  by_cases h : x.free = []
  · rw [if_pos h]
    have e : x.took = (x.size, { x with size := x.size + 1 }) := by rw [St.took, h]; rfl
    rw [e]
    exact List.Perm.refl _
  · rw [if_neg h]
    have e : x.took = (x.free.getLast h, { x with free := x.free.dropLast }) := by rw [St.took, List.getLast?_eq_some_getLast h]
    rw [e]
    have k : (x.free).Perm (x.free.getLast h :: x.free.dropLast) := by
      have := (List.dropLast_concat_getLast h)
      have p : (x.free.dropLast ++ [x.free.getLast h]).Perm (x.free.getLast h :: x.free.dropLast) := List.perm_append_singleton _ _
      rw [this] at p
      exact p
    show (x.free.getLast h :: (x.heap.map (·.2) ++ (x.nodes.map (·.2) ++ (x.log ++ (x.waiting ++ x.free.dropLast))))).Perm (x.heap.map (·.2) ++ (x.nodes.map (·.2) ++ (x.log ++ (x.waiting ++ x.free))))
    have k1 : ∀ A B C D : List Nat, (A ++ (B ++ (C ++ (D ++ (x.free.getLast h :: x.free.dropLast))))).Perm (x.free.getLast h :: (A ++ (B ++ (C ++ (D ++ x.free.dropLast))))) := fun A B C D => by
      have := (List.perm_middle (a := x.free.getLast h) (l₁ := A ++ B ++ C ++ D) (l₂ := x.free.dropLast))
      simpa [List.append_assoc] using this
    exact (k1 _ _ _ _).symm.trans (((((k.symm.append_left _).append_left _).append_left _).append_left _))
theorem Gd.took {x : St} (h : Gd x) : (x.took.1 :: pgs x.took.2).Nodup ∧ ∀ p ∈ x.took.1 :: pgs x.took.2, p < x.took.2.size := by
  have pm := took_pm x
  by_cases e : x.free = []
  · rw [if_pos e] at pm
    have sz : x.took.2.size = x.size + 1 := by rw [St.took, e]; rfl
    refine ⟨pm.nodup_iff.mpr (List.nodup_cons.mpr ⟨fun z => Nat.lt_irrefl _ (h.lt _ z), h.nd⟩), fun p hp => ?_⟩
    rw [sz]
    rcases List.mem_cons.mp (pm.mem_iff.mp hp) with z | z
    · omega
    · exact Nat.lt_succ_of_lt (h.lt p z)
  · rw [if_neg e] at pm
    exact ⟨pm.nodup_iff.mpr h.nd, fun p hp => Nat.lt_of_lt_of_le (h.lt p (pm.mem_iff.mp hp)) (took_size x).1⟩
/-- a taken page is given a place -/
theorem Gd.place {x z : St} (h : Gd x) (pm : (pgs z).Perm (x.took.1 :: pgs x.took.2)) (sz : z.size = x.took.2.size) (c : z.changed = x.changed) : Gd z := by
  obtain ⟨h1, h2⟩ := h.took
  refine ⟨pm.nodup_iff.mpr h1, fun p hp => ?_, by rw [c]; exact h.cn, fun p hp => ?_⟩
  · rw [sz]
    exact h2 p (pm.mem_iff.mp hp)
  · rw [sz]
    exact Nat.lt_of_lt_of_le (h.cl p (by rw [← c]; exact hp)) (took_size x).1
theorem Gd.mark {x : St} (h : Gd x) {p : Nat} (hp : p < x.size) : Gd (x.mark p) := by
  unfold St.mark
  split
  · exact h
  · rename_i n
    refine ⟨h.nd, h.lt, ?_, fun q hq => ?_⟩
    · exact (List.perm_append_singleton _ _).nodup_iff.mpr (List.nodup_cons.mpr ⟨n, h.cn⟩)
    · rcases List.mem_append.mp hq with z | z
      · exact h.cl q z
      · rw [List.mem_singleton.mp z]
        exact hp
theorem gtL_in {α : Type} [DecidableEq α] {a : α} {v : Nat} : ∀ {m : List (α × Nat)}, gtL m a = some v → (a, v) ∈ m
  | [], h => by cases h
  | p :: m, h => by
    rw [gtL_cons] at h
    split at h
    · rename_i e
      cases h
      exact List.mem_cons.mpr (.inl (by rw [← e]))
    · exact List.mem_cons_of_mem _ (gtL_in h)
theorem Gd.chg1 {x : St} (h : Gd x) (n : Nat × Nat) : Gd (x.chg1 n) := by
  unfold St.chg1
  split
  · rename_i p e
    exact h.mark (h.lt p (List.mem_append_right _ (List.mem_append_left _ (List.mem_map.mpr ⟨_, gtL_in e, rfl⟩))))
  · exact h
theorem Gd.chgf : ∀ (ns : List (Nat × Nat)) {x : St}, Gd x → Gd (ns.foldl St.chg1 x)
  | [], _, h => h
  | n :: ns, _, h => Gd.chgf ns (h.chg1 n)
/-- fields that pages do not stand in -/
theorem Gd.fld {x : St} (h : Gd x) (d a b c e : Nat) : Gd { x with done := d, first := a, after := b, nb := c, oe := e } := ⟨h.nd, h.lt, h.cn, h.cl⟩
theorem Gd.tk1 {x : St} (h : Gd x) (n : Nat × Nat) : Gd (x.tk1 n) ∧ (x.tk1 n).size ≤ x.size + 1 := by
  have ta := took_at x
  have g : Gd ({ x.took.2 with nodes := x.nodes ++ [(n, x.took.1)] } : St) := by
    refine h.place ?_ rfl ta.2.2.2.2.2.2.2.1
    unfold pgs
    rw [List.map_append, ← ta.2.2.2.2.2.1]
    show (_ ++ ((_ ++ [x.took.1]) ++ _)).Perm _
    have := (List.perm_middle (a := x.took.1) (l₁ := x.took.2.heap.map (·.2) ++ x.took.2.nodes.map (·.2)) (l₂ := x.took.2.log ++ (x.took.2.waiting ++ x.took.2.free)))
    simpa [List.append_assoc] using this
  refine ⟨g.mark ?_, ?_⟩
  · exact h.took.2 _ List.mem_cons_self
  · show (St.mark _ _).size ≤ _
    rw [(St.mark_at _ _).2.2.2.2.2.2.2.2.1]
    exact (took_size x).2
theorem Gd.tks : ∀ (ns : List (Nat × Nat)) {x : St}, Gd x → Gd (x.tks ns).1 ∧ (x.tks ns).1.size ≤ x.size + ns.length
  | [], _, h => ⟨h, Nat.le_refl _⟩
  | n :: ns, x, h => by
    obtain ⟨h1, h2⟩ := h.tk1 n
    obtain ⟨h3, h4⟩ := Gd.tks ns h1
    refine ⟨h3, Nat.le_trans h4 ?_⟩
    rw [List.length_cons]
    omega
theorem Gd.begn {x : St} (h : Gd x) (ls : List Int) (sz : Int) (f : Nat) (ns : List (Nat × Nat)) : Gd (x.begn ls sz f ns).1 ∧ (x.begn ls sz f ns).1.size ≤ x.size + 1 + ns.length := by
  have ta := took_at x
  have g : Gd ({ x.took.2 with heap := x.heap ++ [(x.after, x.took.1)] } : St) := by
    refine h.place ?_ rfl ta.2.2.2.2.2.2.2.1
    unfold pgs
    rw [List.map_append, ← ta.2.2.2.2.1]
    show ((_ ++ [x.took.1]) ++ _).Perm _
    have := (List.perm_middle (a := x.took.1) (l₁ := x.took.2.heap.map (·.2)) (l₂ := x.took.2.nodes.map (·.2) ++ (x.took.2.log ++ (x.took.2.waiting ++ x.took.2.free))))
    simpa [List.append_assoc] using this
  obtain ⟨h1, h2⟩ := Gd.tks ns g
  have h2' : (St.tks ({ x.took.2 with heap := x.heap ++ [(x.after, x.took.1)] } : St) ns).1.size ≤ x.took.2.size + ns.length := h2
  refine ⟨Gd.chgf _ (h1.fld _ _ (x.after + 1) (Pk.st ls sz (x.after + 1)) _), ?_⟩
  unfold St.begn St.chgd
  rw [(St.chgf_at _ _).2.2.2.2.2.2.2.2.1]
  have := (took_size x).2
  dsimp only at h2' ⊢
  omega
theorem Gd.logd {x : St} (h : Gd x) (ev re : Nat) : Gd (x.logd ev re).1 ∧ (x.logd ev re).1.size ≤ x.size + 1 := by
  unfold St.logd
  split
  · refine ⟨h.place ?_ rfl (took_at x).2.2.2.2.2.2.2.1, (took_size x).2⟩
    unfold pgs
    have := (List.perm_middle (a := x.took.1) (l₁ := x.took.2.heap.map (·.2) ++ x.took.2.nodes.map (·.2) ++ x.took.2.log) (l₂ := (x.took.2.waiting ++ x.took.2.free)))
    simpa [List.append_assoc] using this
  · exact ⟨h, Nat.le_succ _⟩
theorem drL_pm {α : Type} [DecidableEq α] {a : α} {v : Nat} : ∀ {m : List (α × Nat)}, (m.map (·.1)).Nodup → gtL m a = some v → (m.map (·.2)).Perm (v :: (drL m a).map (·.2))
  | [], _, h => by cases h
  | p :: m, nd, h => by
    rw [List.map_cons, List.nodup_cons] at nd
    rw [gtL_cons] at h
    unfold drL
    by_cases e : p.1 = a
    · rw [if_pos e] at h
      cases h
      rw [List.filter_cons, if_neg (by rw [decide_eq_true_eq]; exact fun z => z e), List.map_cons]
      rw [List.filter_eq_self.mpr fun q hq => by
        rw [decide_eq_true_eq]
        exact fun z => nd.1 (List.mem_map.mpr ⟨q, hq, by rw [z, e]⟩)]
    · rw [if_neg e] at h
      rw [List.filter_cons, if_pos (by rw [decide_eq_true_eq]; exact e), List.map_cons, List.map_cons]
      exact ((drL_pm nd.2 h).cons _).trans (List.Perm.swap _ _ _)
/-- a page is given back -/
theorem Gd.gave {x : St} (p : Nat) (nd : (p :: pgs x).Nodup) (lt : ∀ q ∈ p :: pgs x, q < x.size) (cn : x.changed.Nodup) (cl : ∀ p ∈ x.changed, p < x.size) : Gd (x.gave p) := by
  have pm : (pgs (x.gave p)).Perm (p :: pgs x) := by
    unfold pgs St.gave
    have := (List.perm_middle (a := p) (l₁ := x.heap.map (·.2) ++ x.nodes.map (·.2) ++ x.log ++ x.waiting) (l₂ := x.free))
    simpa [List.append_assoc] using this
  exact ⟨pm.nodup_iff.mpr nd, fun q hq => lt q (pm.mem_iff.mp hq), cn.filter _, fun q hq => cl q (List.mem_filter.mp hq).1⟩
theorem Gd.gv1 {x : St} (h : Gd x) {n : Nat × Nat} (nn : (x.nodes.map (·.1)).Nodup) {p : Nat} (hp : gtL x.nodes n = some p) : Gd (x.gv1 n) := by
  have e : pgN x n = p := by rw [pgN, hp]; rfl
  have pm : (p :: pgs ({ x with nodes := drL x.nodes n } : St)).Perm (pgs x) := by
    unfold pgs
    have k := drL_pm nn hp
    have := (List.perm_middle (a := p) (l₁ := x.heap.map (·.2)) (l₂ := (drL x.nodes n).map (·.2) ++ (x.log ++ (x.waiting ++ x.free))))
    refine this.symm.trans ?_
    exact ((k.symm.append_right _).append_left _)
  unfold St.gv1
  rw [e]
  exact Gd.gave p (pm.nodup_iff.mpr h.nd) (fun q hq => h.lt q (pm.mem_iff.mp hq)) h.cn h.cl
theorem drL_keys {α : Type} [DecidableEq α] (m : List (α × Nat)) (a : α) : (drL m a).map (·.1) = (m.map (·.1)).filter fun k => decide (k ≠ a) := by
  unfold drL
  rw [List.filter_map]
  rfl
theorem gtL_some {α : Type} [DecidableEq α] {a : α} {m : List (α × Nat)} (h : a ∈ m.map (·.1)) : ∃ v, gtL m a = some v := by
  cases e : gtL m a with
  | none => exact absurd h ((gtL_none a m).mp e)
  | some v => exact ⟨v, rfl⟩
/-- nodes given back, one behind the other -/
theorem Gd.gvs : ∀ (ns : List (Nat × Nat)) (r : St × List Ev), Gd r.1 → (r.1.nodes.map (·.1)).Nodup → ns.Nodup → (∀ n ∈ ns, n ∈ r.1.nodes.map (·.1)) → Gd (ns.foldl gvS r).1 ∧ ((ns.foldl gvS r).1.nodes.map (·.1)).Nodup ∧ ∀ m, m ∈ (ns.foldl gvS r).1.nodes.map (·.1) ↔ m ∈ r.1.nodes.map (·.1) ∧ m ∉ ns
  | [], r, h, nn, _, _ => ⟨h, nn, fun m => ⟨fun z => ⟨z, fun y => by cases y⟩, fun z => z.1⟩⟩
  | n :: ns, r, h, nn, nd, hm => by
    obtain ⟨p, hp⟩ := gtL_some (hm n List.mem_cons_self)
    have ky : (gvS r n).1.nodes.map (·.1) = (r.1.nodes.map (·.1)).filter fun k => decide (k ≠ n) := drL_keys _ _
    rw [List.nodup_cons] at nd
    obtain ⟨a1, a2, a3⟩ := Gd.gvs ns (gvS r n) (h.gv1 nn hp) (by rw [ky]; exact nn.filter _) nd.2 (fun m z => by
      rw [ky, List.mem_filter, decide_eq_true_eq]
      exact ⟨hm m (List.mem_cons_of_mem _ z), fun e => nd.1 (by rw [← e]; exact z)⟩)
    refine ⟨a1, a2, fun m => (a3 m).trans ?_⟩
    rw [ky, List.mem_filter, decide_eq_true_eq, List.mem_cons]
    exact ⟨fun z => ⟨z.1.1, fun e => by rcases e with e | e; exact z.1.2 e; exact z.2 e⟩, fun z => ⟨⟨z.1, fun e => z.2 (.inl e)⟩, fun e => z.2 (.inr e)⟩⟩
theorem Gd.expd {x : St} (h : Gd x) (c : Cf) (ns : List (Nat × Nat)) (hn : (x.heap.map (·.1)).Nodup) (hf : x.first ∈ x.heap.map (·.1)) (nn : (x.nodes.map (·.1)).Nodup) (nd : ns.Nodup) (hm : ∀ n ∈ ns, n ∈ x.nodes.map (·.1)) :
    Gd (x.expd c ns).1 ∧ ((x.expd c ns).1.nodes.map (·.1)).Nodup ∧ (∀ m, m ∈ (x.expd c ns).1.nodes.map (·.1) ↔ m ∈ x.nodes.map (·.1) ∧ m ∉ ns) ∧ (x.expd c ns).1.heap = drL x.heap x.first ∧ (x.expd c ns).1.first = x.first + 1 ∧ (x.expd c ns).1.after = x.after ∧ (x.expd c ns).1.done = x.done ∧ (x.expd c ns).1.nb = x.nb ∧ (x.expd c ns).1.oe = Pk.st c.ls c.sz (x.first + 1 + 1) ∧ (x.expd c ns).1.log = x.log ∧ (x.expd c ns).1.size = x.size := by
  obtain ⟨p, hp⟩ := gtL_some hf
  have pm : (p :: pgs ({ x with heap := drL x.heap x.first } : St)).Perm (pgs x) := by
    unfold pgs
    exact ((drL_pm hn hp).symm.append_right _)
  have g0 : Gd (({ x with heap := drL x.heap x.first } : St).gave p) := Gd.gave p (pm.nodup_iff.mpr h.nd) (fun q hq => h.lt q (pm.mem_iff.mp hq)) h.cn h.cl
  have hp' : (gtL x.heap x.first).getD 0 = p := by rw [hp]; rfl
  obtain ⟨a1, a2, a3⟩ := Gd.gvs ns (({ x with heap := drL x.heap x.first } : St).gave p, []) g0 nn nd hm
  obtain ⟨b1, b2, b3, b4, b5, b6, b7, b8, b9, _⟩ := gvS_at ns (({ x with heap := drL x.heap x.first } : St).gave p, [])
  obtain ⟨R, hR⟩ : ∃ R, R = List.foldl gvS (({ x with heap := drL x.heap x.first } : St).gave p, []) ns := ⟨_, rfl⟩
  have e : (x.expd c ns).1 = ({ R.1 with first := x.first + 1, oe := Pk.st c.ls c.sz (x.first + 1 + 1) } : St).chgd c.fo x.first ns := by
    unfold St.expd
    rw [hp', hR]
    rfl
  rw [e]
  rw [← hR] at a1 a2 a3 b1 b2 b3 b4 b5 b6 b7 b8 b9
  obtain ⟨c1, c2, c3, c4, c5, c6, c7, c8, c9, c10, c11, c12⟩ := St.chgf_at (parL c.fo x.first ns) ({ R.1 with first := x.first + 1, oe := Pk.st c.ls c.sz (x.first + 1 + 1) } : St)
  refine ⟨Gd.chgf _ (a1.fld _ (x.first + 1) _ _ (Pk.st c.ls c.sz (x.first + 1 + 1))), ?_, fun m => ?_, c5.trans b5, c3, c4.trans b4, c2.trans b2, c10.trans b6, c11, c1.trans b1, c9.trans b9⟩
  · show (List.map (·.1) (List.foldl St.chg1 _ _).nodes).Nodup
    rw [c6]
    exact a2
  · show m ∈ List.map (·.1) (List.foldl St.chg1 _ _).nodes ↔ _
    rw [c6]
    exact a3 m
theorem Gd.chkd {x : St} (h : Gd x) : Gd x.chkd := by
  have pm : (pgs x.chkd).Perm (pgs x) := by
    unfold pgs St.chkd
    refine (List.Perm.append_left _ (List.Perm.append_left _ ?_))
    show (x.free ++ (x.waiting ++ x.log)).Perm (x.log ++ (x.waiting ++ x.free))
    exact (List.perm_append_comm.trans (List.perm_append_comm.append_right _)).trans (by rw [List.append_assoc])
  exact ⟨pm.nodup_iff.mpr h.nd, fun p hp => h.lt p (pm.mem_iff.mp hp), List.nodup_nil, fun p hp => by cases hp⟩
/-! the rows and the nodes of a store -/
structure Ky (c : Cf) (x : St) : Prop where
  gd : Gd x
  fa : x.first ≤ x.after
  hk : x.heap.map (·.1) = List.range' x.first (x.after - x.first)
  nn : (x.nodes.map (·.1)).Nodup
  nk : ∀ m, m ∈ x.nodes.map (·.1) ↔ x.first < x.after ∧ InTr c.fo x.first (x.after - 1) m
structure Rw (c : Cf) (d e : Nat) (x : St) : Prop where
  nb : x.nb = Pk.st c.ls c.sz x.after
  oe : x.oe = Pk.st c.ls c.sz (x.first + 1)
  fr : Pk.On c.ls c.sz x.first (e - c.ke)
  af : (d = 0 ∧ x.after = 0) ∨ (0 < d ∧ 0 < x.after ∧ Pk.On c.ls c.sz (x.after - 1) (d - 1))
/-- what the settings of a store are -/
structure CfOk (c : Cf) : Prop where
  o : Pk.Ok c.ls c.sz
  fo : 2 ≤ c.fo
  ke : 1 ≤ c.ke
theorem InTr.mono {f a b c d : Nat} (h2 : 2 ≤ f) (ac : a ≤ c) (db : d ≤ b) (cd : c ≤ d) {m : Nat × Nat} (h : InTr f c d m) : InTr f a b m := by
  obtain ⟨M, hM, l1, l2, l3⟩ := h
  obtain ⟨L, hL⟩ := rl_any (a := a) (b := b) h2
  have le : M ≤ L := by
    rcases Nat.lt_or_ge L M with z | z
    · have k1 := hM.2 L z
      have k2 := hL.1
      have a1 := Nat.div_le_div_right (c := f ^ (L + 1)) ac
      have a2 := Nat.div_le_div_right (c := f ^ (L + 1)) cd
      have a3 := Nat.div_le_div_right (c := f ^ (L + 1)) db
      omega
    · exact z
  exact ⟨L, hL, Nat.le_trans l1 le, Nat.le_trans (Nat.div_le_div_right ac) l2, Nat.le_trans l3 (Nat.div_le_div_right db)⟩
theorem InTr.one {f a : Nat} {m : Nat × Nat} : InTr f a a m ↔ m = (0, a / f) := by
  constructor
  · rintro ⟨L, hL, l1, l2, l3⟩
    have : L = 0 := by
      rcases Nat.eq_zero_or_pos L with z | z
      · exact z
      · exact absurd rfl (hL.2 0 z)
    subst this
    obtain ⟨m1, m2⟩ := m
    have e1 : m1 = 0 := Nat.le_zero.mp l1
    subst e1
    rw [Nat.zero_add, Nat.pow_one] at l2 l3
    rw [show m2 = a / f from Nat.le_antisymm l3 l2]
  · rintro rfl
    exact ⟨0, ⟨rfl, fun l h => absurd h (Nat.not_lt_zero _)⟩, Nat.le_refl _, by rw [Nat.zero_add, Nat.pow_one]; exact Nat.le_refl _, by rw [Nat.zero_add, Nat.pow_one]; exact Nat.le_refl _⟩
theorem BgN.mem {f a b : Nat} (h2 : 2 ≤ f) {ns : List (Nat × Nat)} (h : BgN f a b ns) (m : Nat × Nat) : m ∈ ns ↔ InTr f a b m ∧ ¬ (a < b ∧ InTr f a (b - 1) m) := by
  rcases h with ⟨rfl, rfl⟩ | ⟨ab, L, _, nb, rfl⟩
  · rw [List.mem_singleton, InTr.one]
    exact ⟨fun z => ⟨z, fun y => absurd y.1 (Nat.lt_irrefl _)⟩, fun z => z.1⟩
  · rw [nb_mem ⟨by omega, by omega, by omega, .inl rfl⟩ h2 nb m]
    exact ⟨fun z => ⟨z.1, fun y => z.2 y.2⟩, fun z => ⟨z.1, fun y => z.2 ⟨ab, y⟩⟩⟩
theorem EdN.mem {f a b : Nat} (h2 : 2 ≤ f) (ab : a < b) {ns : List (Nat × Nat)} (h : EdN f a b ns) (m : Nat × Nat) : m ∈ ns ↔ InTr f a b m ∧ ¬ InTr f (a + 1) b m := by
  obtain ⟨L, _, nb, rfl⟩ := h
  exact nb_mem ⟨by omega, by omega, by omega, .inr rfl⟩ h2 nb m
theorem BgN.len2 {f a b : Nat} (h2 : 2 ≤ f) (hb : b < 512) (ab : a ≤ b) {ns : List (Nat × Nat)} (h : BgN f a b ns) : ns.length ≤ 18 := by
  rcases h with ⟨_, rfl⟩ | ⟨_, L, _, nb, rfl⟩
  · exact (by decide : 1 ≤ 18)
  · have hL : L ≤ 8 := by
      rcases Nat.lt_or_ge 8 L with z | z
      · have := (nb.2 8 z).1
        have p : 512 ≤ f ^ (8 + 1) := Nat.le_trans (by decide : 512 ≤ 2 ^ 9) (Nat.pow_le_pow_left h2 9)
        rw [Nat.div_eq_of_lt (by omega), Nat.div_eq_of_lt (by omega)] at this
        exact absurd rfl this
      · exact z
    have := nbs_len (f := f) (a := a) (b := b) (c := a) (d := b - 1) (L + 1)
    unfold nbs
    omega
theorem Ky.none {c : Cf} {x : St} (h : Ky c x) : gtL x.heap x.after = none := by
  rw [gtL_none, h.hk, List.mem_range'_1]
  have := h.fa
  omega
theorem Ky.some {c : Cf} {x : St} (h : Ky c x) {k : Nat} (h1 : x.first ≤ k) (h2 : k < x.after) : k ∈ x.heap.map (·.1) := by
  rw [h.hk, List.mem_range'_1]
  omega
theorem Ky.new {c : Cf} {x : St} (h : Ky c x) (k : CfOk c) {ns : List (Nat × Nat)} (bg : BgN c.fo x.first x.after ns) : ∀ n ∈ ns, gtL x.nodes n = Option.none := fun n hn => by
  rw [gtL_none, h.nk]
  exact ((bg.mem k.fo n).mp hn).2
theorem Ky.begn {c : Cf} {x : St} (h : Ky c x) (k : CfOk c) {ns : List (Nat × Nat)} (bg : BgN c.fo x.first x.after ns) : Ky c (x.begn c.ls c.sz c.fo ns).1 := by
  obtain ⟨b1, b2, b3, b4, b5, b6, b7, b8, b9, b10, b11⟩ := x.begn_at c.ls c.sz c.fo ns
  have fa := h.fa
  refine ⟨(h.gd.begn _ _ _ _).1, by omega, ?_, ?_, fun m => ?_⟩
  · rw [b5, b3, b4, List.map_append, h.hk, show x.after + 1 - x.first = (x.after - x.first) + 1 by omega, List.range'_1_concat, show x.first + (x.after - x.first) = x.after by omega]
    rfl
  · rw [b6, List.nodup_append]
    refine ⟨h.nn, bg.nodup k.fo, fun a ha b hb e => ?_⟩
    subst e
    exact ((gtL_none _ _).mp (h.new k bg a hb)) ha
  · rw [b6, b3, b4, List.mem_append, h.nk, bg.mem k.fo, Nat.add_sub_cancel]
    constructor
    · rintro (z | z)
      · exact ⟨by omega, z.2.mono k.fo (Nat.le_refl _) (Nat.sub_le _ _) (by omega)⟩
      · exact ⟨by omega, z.1⟩
    · rintro ⟨_, z⟩
      by_cases e : x.first < x.after ∧ InTr c.fo x.first (x.after - 1) m
      · exact .inl e
      · exact .inr ⟨z, e⟩
theorem Ky.mark {c : Cf} {x : St} (h : Ky c x) {p : Nat} (hp : p < x.size) : Ky c (x.mark p) := by
  obtain ⟨b1, b2, b3, b4, b5, b6, b7, b8, b9, b10, b11⟩ := x.mark_at p
  exact ⟨h.gd.mark hp, by rw [b3, b4]; exact h.fa, by rw [b5, b3, b4]; exact h.hk, by rw [b6]; exact h.nn, by rw [b6, b3, b4]; exact h.nk⟩
theorem Rw.mark {c : Cf} {d e : Nat} {x : St} (h : Rw c d e x) (p : Nat) : Rw c d e (x.mark p) := by
  obtain ⟨b1, b2, b3, b4, b5, b6, b7, b8, b9, b10, b11⟩ := x.mark_at p
  exact ⟨by rw [b10, b4]; exact h.nb, by rw [b11, b3]; exact h.oe, by rw [b3]; exact h.fr, by rw [b4]; exact h.af⟩
theorem Ky.pgsize {c : Cf} {x : St} (h : Ky c x) {k p : Nat} (e : gtL x.heap k = Option.some p) : p < x.size := h.gd.lt p (List.mem_append_left _ (List.mem_map.mpr ⟨_, gtL_in e, rfl⟩))
/-- the log apart, a store stays what it is -/
theorem Ky.logd {c : Cf} {x : St} (h : Ky c x) (ev re : Nat) : Ky c (x.logd ev re).1 ∧ (x.logd ev re).1.done = x.done ∧ (∀ d e, Rw c d e x → Rw c d e (x.logd ev re).1) ∧ (x.logd ev re).1.size ≤ x.size + 1 ∧ ((x.done % ev % re ≠ 0 → x.log ≠ []) → (x.logd ev re).1.log ≠ []) := by
  have g := h.gd.logd ev re
  obtain ⟨t1, t2, t3, t4, t5, t6, t7, t8, t9, t10⟩ := took_at x
  unfold St.logd at *
  split
  · rename_i z
    rw [if_pos z] at g
    refine ⟨⟨g.1, ?_, ?_, ?_, ?_⟩, t2, fun d e r => ⟨?_, ?_, ?_, ?_⟩, g.2, fun _ y => ?_⟩
    · show x.took.2.first ≤ x.took.2.after
      rw [t3, t4]
      exact h.fa
    · show x.took.2.heap.map (·.1) = List.range' x.took.2.first (x.took.2.after - x.took.2.first)
      rw [t5, t3, t4]
      exact h.hk
    · show (x.took.2.nodes.map (·.1)).Nodup
      rw [t6]
      exact h.nn
    · show ∀ m, m ∈ x.took.2.nodes.map (·.1) ↔ x.took.2.first < x.took.2.after ∧ InTr c.fo x.took.2.first (x.took.2.after - 1) m
      rw [t6, t3, t4]
      exact h.nk
    · show x.took.2.nb = Pk.st c.ls c.sz x.took.2.after
      rw [t9, t4]
      exact r.nb
    · show x.took.2.oe = Pk.st c.ls c.sz (x.took.2.first + 1)
      rw [t10, t3]
      exact r.oe
    · show Pk.On c.ls c.sz x.took.2.first (e - c.ke)
      rw [t3]
      exact r.fr
    · show (d = 0 ∧ x.took.2.after = 0) ∨ (0 < d ∧ 0 < x.took.2.after ∧ Pk.On c.ls c.sz (x.took.2.after - 1) (d - 1))
      rw [t4]
      exact r.af
    · exact absurd y (by simp)
  · rename_i z
    exact ⟨h, rfl, fun _ _ r => r, Nat.le_succ _, fun y => y z⟩
theorem Rw.first_le {c : Cf} {d e : Nat} {x : St} (r : Rw c d e x) (k : CfOk c) (de : e ≤ d) (d0 : 0 < d) : x.first + 1 ≤ x.after := by
  rcases r.af with ⟨z, _⟩ | ⟨_, a0, on⟩
  · omega
  · have := r.fr.mono k.o on (by have := k.ke; omega)
    omega
theorem Rw.after_le {c : Cf} {d e : Nat} {x : St} (r : Rw c d e x) (k : CfOk c) : x.after ≤ d := by
  rcases r.af with ⟨_, z⟩ | ⟨d0, a0, on⟩
  · omega
  · have := Pk.st_ge k.o (x.after - 1)
    have := on.1
    omega
/-- a row is put -/
theorem put_ok {c : Cf} {d : Nat} {x y : St} {es : List Ev} (k : CfOk c) (h : Ky c x) (r : Rw c d d x) (hd : x.done = d) (d510 : d < 510) (p : Put c x y es) : Ky c y ∧ Rw c (d + 1) d y ∧ y.done = d ∧ y.size ≤ x.size + 19 ∧ y.log = x.log := by
  have af := r.after_le k
  have fa := h.fa
  rcases p with ⟨z, ns, bg, rfl, _⟩ | ⟨z, pg, hg, rfl, _⟩
  · obtain ⟨b1, b2, b3, b4, b5, b6, b7, b8, b9, b10, b11⟩ := x.begn_at c.ls c.sz c.fo ns
    have kb := h.begn k bg
    have sz := (h.gd.begn c.ls c.sz c.fo ns).2
    have nl := bg.len2 k.fo (by omega) fa
    have hp : x.took.1 < (x.begn c.ls c.sz c.fo ns).1.size := kb.pgsize (k := x.after) (by rw [b5, gtL_snoc, h.none]; exact if_pos rfl)
    have rb : Rw c (d + 1) d (x.begn c.ls c.sz c.fo ns).1 := by
      have e1 : Pk.st c.ls c.sz x.after = d := by rw [← r.nb, ← z, hd]
      have e2 := Pk.st_lt k.o x.after
      refine ⟨by rw [b8, b4], by rw [b9, b3]; exact r.oe, by rw [b3]; exact r.fr, .inr ⟨by omega, by rw [b4]; omega, ?_⟩⟩
      rw [b4, Nat.add_sub_cancel, Nat.add_sub_cancel]
      exact ⟨by omega, by omega⟩
    obtain ⟨m1, m2, m3, m4, m5, m6, m7, m8, m9, m10, m11⟩ := St.mark_at (x.begn c.ls c.sz c.fo ns).1 x.took.1
    exact ⟨kb.mark hp, rb.mark _, by rw [m2, b2]; exact hd, by rw [m9]; omega, by rw [m1, b1]⟩
  · obtain ⟨m1, m2, m3, m4, m5, m6, m7, m8, m9, m10, m11⟩ := St.mark_at x pg
    have rb : Rw c (d + 1) d x := by
      refine ⟨r.nb, r.oe, r.fr, .inr ?_⟩
      rcases r.af with ⟨z1, z2⟩ | ⟨d0, a0, on⟩
      · exfalso
        refine z ?_
        have := Pk.st_ge k.o 0
        rw [r.nb, z2, hd, z1]
        rfl
      · refine ⟨by omega, a0, ?_⟩
        have e1 := on.1
        have e2 := on.2
        have e3 := r.nb
        rw [show x.after - 1 + 1 = x.after by omega] at e2
        rw [hd, e3] at z
        refine ⟨by omega, ?_⟩
        rw [show x.after - 1 + 1 = x.after by omega]
        omega
    exact ⟨h.mark (h.pgsize hg), rb.mark _, by rw [m2]; exact hd, by rw [m9]; omega, m1⟩
theorem exd_pre {c : Cf} {d : Nat} {x : St} (k : CfOk c) (h : Ky c x) (r : Rw c (d + 1) d x) (hd : x.done = d) (z : (x.done : Int) - c.ke = (x.oe : Int) - 1) : x.first + 1 < x.after ∧ Pk.On c.ls c.sz (x.first + 1) (d + 1 - c.ke) := by
  have e1 := Pk.st_lt k.o (x.first + 1)
  have e2 := Pk.st_lt k.o x.first
  have ke := k.ke
  rw [r.oe, hd] at z
  have e3 : d + 1 - c.ke = Pk.st c.ls c.sz (x.first + 1) := by omega
  have on : Pk.On c.ls c.sz (x.first + 1) (d + 1 - c.ke) := ⟨by omega, by omega⟩
  refine ⟨?_, on⟩
  rcases r.af with ⟨q, _⟩ | ⟨_, a0, oa⟩
  · omega
  · have := on.mono k.o oa (by omega)
    omega
/-- the oldest row goes -/
theorem exd_ok {c : Cf} {d : Nat} {x y : St} {es : List Ev} (k : CfOk c) (h : Ky c x) (r : Rw c (d + 1) d x) (hd : x.done = d) (p : Exd c x y es) : Ky c y ∧ Rw c (d + 1) (d + 1) y ∧ y.done = d ∧ y.size = x.size ∧ y.log = x.log := by
  have ke := k.ke
  rcases p with ⟨z, rfl, _⟩ | ⟨z, ns, ed, e⟩
  · refine ⟨h, ⟨r.nb, r.oe, ?_, r.af⟩, hd, rfl, rfl⟩
    obtain ⟨f1, f2⟩ := r.fr
    rw [r.oe, hd] at z
    by_cases q : d + 1 ≤ c.ke
    · rw [show d + 1 - c.ke = d - c.ke by omega]
      exact ⟨f1, f2⟩
    · exact ⟨by omega, by omega⟩
  · obtain ⟨fa, on⟩ := exd_pre k h r hd z
    have hn : (x.heap.map (·.1)).Nodup := by rw [h.hk]; exact List.nodup_range' 1
    obtain ⟨g1, g2, g3, g4, g5, g6, g7, g8, g9, g10, g11⟩ := h.gd.expd c ns hn (h.some (Nat.le_refl _) (by omega)) h.nn ed.nodup fun n hn => (h.nk n).mpr ⟨by omega, ((ed.mem k.fo (by omega) n).mp hn).1⟩
    rw [e] at g1 g2 g3 g4 g5 g6 g7 g8 g9 g10 g11
    dsimp only at g1 g2 g3 g4 g5 g6 g7 g8 g9 g10 g11
    refine ⟨⟨g1, by omega, ?_, g2, fun m => ?_⟩, ⟨by rw [g8, g6]; exact r.nb, by rw [g9, g5], by rw [g5]; exact on, by rw [g6]; exact r.af⟩, by rw [g7]; exact hd, g11, g10⟩
    · rw [g4, drL_keys, h.hk, g5, g6, show x.after - x.first = (x.after - (x.first + 1)) + 1 by omega, List.range'_succ, List.filter_cons, if_neg (by simp)]
      refine List.filter_eq_self.mpr fun q hq => ?_
      rw [decide_eq_true_eq]
      have := (List.mem_range'_1.mp hq).1
      omega
    · rw [g3, h.nk, ed.mem k.fo (by omega), g5, g6]
      constructor
      · rintro ⟨⟨_, z1⟩, z2⟩
        refine ⟨fa, ?_⟩
        by_cases q : InTr c.fo (x.first + 1) (x.after - 1) m
        · exact q
        · exact absurd ⟨z1, q⟩ z2
      · rintro ⟨_, z1⟩
        exact ⟨⟨by omega, z1.mono k.fo (Nat.le_succ _) (Nat.le_refl _) (by omega)⟩, fun y => y.2 z1⟩
/-- a store behind a row -/
structure Iv (c : Cf) (x : St) : Prop where
  ky : Ky c x
  rw_ : Rw c x.done x.done x
  lg : x.done % c.ev ≠ 0 → x.log ≠ []
  sz : x.size ≤ 20 * x.done
theorem Iv.nil (c : Cf) (k : CfOk c) : Iv c (St.nil c.ls c.sz) := by
  refine ⟨⟨⟨List.nodup_nil, fun _ h => (nomatch h), List.nodup_nil, fun _ h => (nomatch h)⟩, Nat.le_refl _, rfl, List.nodup_nil, fun m => ⟨fun h => (nomatch h), fun h => absurd h.1 (Nat.lt_irrefl _)⟩⟩, ⟨rfl, rfl, ?_, .inl ⟨rfl, rfl⟩⟩, fun h => absurd (Nat.zero_mod _) h, Nat.le_refl _⟩
  show Pk.On c.ls c.sz 0 (0 - c.ke)
  rw [Nat.zero_sub]
  exact ⟨Nat.le_refl _, Pk.st_lt k.o 0⟩
theorem Gd.lens {x : St} (h : Gd x) : x.heap.length + x.nodes.length + x.log.length + x.waiting.length + x.free.length ≤ x.size ∧ x.changed.length ≤ x.size := by
  have h1 := nodup_le _ h.nd h.lt
  unfold pgs at h1
  simp only [List.length_append, List.length_map] at h1
  exact ⟨by omega, nodup_le _ h.cn h.cl⟩
theorem mod_mod_ne {d ev re : Nat} (h : d % ev % re ≠ 0) : d % ev ≠ 0 := fun z => h (by rw [z, Nat.zero_mod])
theorem Iv.rdy {c : Cf} {x : St} (k : CfOk c) (h : Iv c x) (d509 : x.done < 509) : Rdy c x := by
  obtain ⟨l1, l2, l3, l4, l5⟩ := h.ky.logd c.ev c.re
  have sz := h.sz
  have r1 := l3 _ _ h.rw_
  have ls0 := h.ky.gd.lens
  have ls1 := l1.gd.lens
  have lo : x.done % c.ev % c.re ≠ 0 → x.log ≠ [] := fun z => h.lg (mod_mod_ne z)
  refine ⟨by omega, lo, ⟨by omega, by omega, by omega⟩, ?_, ?_, ?_, ?_⟩
  · rintro x1 rfl _
    exact ⟨l1.fa, Nat.lt_of_le_of_lt (r1.after_le k) (by omega), l1.none, fun ns bg => l1.new k bg⟩
  · rintro x1 rfl z
    have d0 : 0 < x.done := by
      rcases r1.af with ⟨q1, q2⟩ | ⟨q, _⟩
      · exfalso
        refine z ?_
        rw [l2, r1.nb, q2, q1]
        rfl
      · exact q
    have := r1.first_le k (Nat.le_refl _) d0
    exact ⟨by omega, gtL_some (l1.some (by omega) (by omega))⟩
  · intro x2 e2 pt
    obtain ⟨p1, p2, p3, p4, p5⟩ := put_ok k l1 r1 l2 (by omega) pt
    have ls2 := p1.gd.lens
    refine ⟨by omega, by omega, fun z => ?_⟩
    obtain ⟨fa, on⟩ := exd_pre k p1 p2 p3 z
    refine ⟨fa, Nat.lt_of_le_of_lt (p2.after_le k) (by omega), gtL_some (p1.some (Nat.le_refl _) (by omega)), fun ns ed n hn => gtL_some ((p1.nk n).mpr ⟨by omega, ((ed.mem k.fo (by omega) n).mp hn).1⟩)⟩
  · intro x2 e2 x3 e3 pt ed
    obtain ⟨p1, p2, p3, p4, p5⟩ := put_ok k l1 r1 l2 (by omega) pt
    obtain ⟨q1, q2, q3, q4, q5⟩ := exd_ok k p1 p2 p3 ed
    have ls3 := q1.gd.lens
    exact ⟨by omega, by omega, by omega⟩
theorem Iv.row {c : Cf} {x y : St} {es : List Ev} (k : CfOk c) (h : Iv c x) (d509 : x.done < 509) (r : Row c x y es) : Iv c y ∧ y.done = x.done + 1 := by
  obtain ⟨l1, l2, l3, l4, l5⟩ := h.ky.logd c.ev c.re
  have sz := h.sz
  have r1 := l3 _ _ h.rw_
  have lo := l5 fun z => h.lg (mod_mod_ne z)
  obtain ⟨x2, e2, x3, e3, pt, ed, cas⟩ := r
  obtain ⟨p1, p2, p3, p4, p5⟩ := put_ok k l1 r1 l2 (by omega) pt
  obtain ⟨q1, q2, q3, q4, q5⟩ := exd_ok k p1 p2 p3 ed
  have ky4 : Ky c { x3 with done := x3.done + 1 } := ⟨⟨q1.gd.nd, q1.gd.lt, q1.gd.cn, q1.gd.cl⟩, q1.fa, q1.hk, q1.nn, q1.nk⟩
  have rw4 : Rw c (x3.done + 1) (x3.done + 1) { x3 with done := x3.done + 1 } := by
    rw [q3]
    exact ⟨q2.nb, q2.oe, q2.fr, q2.af⟩
  have sz4 : x3.size ≤ 20 * (x3.done + 1) := by omega
  split at cas
  · rename_i z
    obtain ⟨e4, ⟨rfl, _⟩, _⟩ := cas
    exact ⟨⟨⟨ky4.gd.chkd, q1.fa, q1.hk, q1.nn, q1.nk⟩, ⟨rw4.nb, rw4.oe, rw4.fr, rw4.af⟩, fun y => absurd z y, sz4⟩, congrArg (· + 1) q3⟩
  · rename_i z
    obtain ⟨rfl, _⟩ := cas
    exact ⟨⟨ky4, rw4, fun _ => by rw [show ({ x3 with done := x3.done + 1 } : St).log = x3.log from rfl, q5, p5]; exact lo, sz4⟩, congrArg (· + 1) q3⟩
/-- the pages in use, each once -/
theorem Gd.use {x : St} (h : Gd x) : (useL x).Nodup := by
  have pm : (pgs x).Perm (useL x ++ x.free) := by
    unfold pgs useL
    have := ((ndl_perm x.nodes).map (·.2)).symm
    rw [List.append_assoc, List.append_assoc, List.append_assoc]
    exact (this.append_right _).append_left _
  exact (List.nodup_append.mp (pm.nodup_iff.mp h.nd)).1
theorem StAt.ns {K : PySem.W.Frag} {F H : Hp} {a s p w : Addr} {o : Ow} {x : St} (S : StAt K F H a s p o x) (W : StoAt K H w a) : w ∉ a :: o.all := fun z => by
  obtain ⟨dx, ha⟩ := S.at_
  obtain ⟨dw, hw⟩ := W
  simp only [Ow.all, List.mem_cons, List.not_mem_nil, or_false] at z
  rcases z with z | z | z | z | z | z | z
  · rw [z, ha] at hw
    injection hw with hw
    injection hw with _ _ h3
    simp [stF] at h3
  · rw [z, S.hp] at hw; cases hw
  · rw [z, S.nd] at hw; cases hw
  · rw [z, S.lg] at hw; cases hw
  · rw [z, S.wt] at hw; cases hw
  · rw [z, S.fr] at hw; cases hw
  · rw [z, S.ch] at hw; cases hw
theorem Row.len {c : Cf} {x y : St} {es : List Ev} (R : Rdy c x) (r : Row c x y es) : es.length ≤ 90000 := by
  obtain ⟨x2, e2, x3, e3, pt, ed, cas⟩ := r
  have l1 := x.logd_len c.ev c.re
  have l2 := pt.len
  have l3 := ed.len
  obtain ⟨k1, k2, k3⟩ := R.k x2 e2 x3 e3 pt ed
  split at cas
  · obtain ⟨e4, ⟨_, ws, pm, _, rfl⟩, rfl⟩ := cas
    have := pm.length_eq
    simp only [List.length_append, List.length_map] at this ⊢
    omega
  · obtain ⟨_, rfl⟩ := cas
    simp only [List.length_append]
    omega
theorem at_m1 {α : Type} {xs : List α} {i : Nat} {x : α} (h : xs.length = i + 1) (e : xs[i]? = some x) : atI xs (-1) = some x := by
  have hn : xs ≠ [] := fun z => by rw [z] at h; cases h
  have k : xs = xs.dropLast ++ [x] := by
    have := (List.dropLast_concat_getLast hn).symm
    rw [List.getLast_eq_getElem] at this
    obtain ⟨h1, h2⟩ := List.getElem?_eq_some_iff.mp e
    rw [← h2]
    simpa [h] using this
  rw [k]
  exact atI_last _ _
theorem TrL.last {H : Hp} {us : List V} {ms : List ((Nat × Nat) × Nat)} (h : TrL H us ms) (n : ms ≠ []) : ∃ m t, ms.getLast? = some m ∧ atI us (-1) = some (.ref t) ∧ H t = some (trO m) := by
  have l := Paired.length h
  have lp := List.length_pos_iff.mpr n
  obtain ⟨m, hm⟩ : ∃ m, ms[ms.length - 1]? = some m := ⟨_, List.getElem?_eq_getElem (by omega)⟩
  obtain ⟨v, hv⟩ : ∃ v, us[ms.length - 1]? = some v := ⟨_, List.getElem?_eq_getElem (by omega)⟩
  obtain ⟨m', hm', t, rfl, e⟩ := prd_at h hv
  rw [hm] at hm'
  cases hm'
  exact ⟨m, t, by rw [List.getLast?_eq_getElem?]; exact hm, at_m1 (by omega) hv, e⟩
/-! the nodes of a store in their order are those of the tree -/
def lexN (x y : Nat × Nat) : Prop := x.1 < y.1 ∨ (x.1 = y.1 ∧ x.2 < y.2)
theorem nds_at {f A B L : Nat} (m : Nat × Nat) : m ∈ nds f A B L ↔ m.1 ≤ L ∧ A / f ^ (m.1 + 1) ≤ m.2 ∧ m.2 < A / f ^ (m.1 + 1) + lvN f A B m.1 := by
  unfold nds lvR
  rw [List.mem_flatMap]
  constructor
  · rintro ⟨j, hj, hm⟩
    obtain ⟨k, hk, rfl⟩ := List.mem_map.mp hm
    have h1 := List.mem_range.mp hj
    have h2 := List.mem_range.mp hk
    exact ⟨Nat.le_of_lt_succ h1, Nat.le_add_right _ _, Nat.add_lt_add_left h2 _⟩
  · rintro ⟨h1, h2, h3⟩
    refine ⟨m.1, List.mem_range.mpr (Nat.lt_succ_of_le h1), List.mem_map.mpr ⟨m.2 - A / f ^ (m.1 + 1), List.mem_range.mpr (by omega), ?_⟩⟩
    rw [Nat.add_sub_cancel' h2]
theorem nds_srt (f A B L : Nat) : (nds f A B L).Pairwise lexN := by
  unfold nds
  rw [List.pairwise_flatMap]
  refine ⟨fun l _ => ?_, List.pairwise_lt_range.imp fun h x hx y hy => ?_⟩
  · unfold lvR
    rw [List.pairwise_map]
    exact List.pairwise_lt_range.imp fun h => .inr ⟨rfl, Nat.add_lt_add_left h _⟩
  · obtain ⟨k, _, rfl⟩ := List.mem_map.mp hx
    obtain ⟨k', _, rfl⟩ := List.mem_map.mp hy
    exact .inl h
theorem ndl_srt (m : List ((Nat × Nat) × Nat)) : ((ndl m).map (·.1)).Pairwise (fun x y => lexN x y ∨ x = y) := by
  rw [List.pairwise_map]
  have := List.pairwise_mergeSort (le := leN) (fun a b c h1 h2 => by
    unfold leN at *
    rw [Bool.not_eq_true'] at *
    exact (lexB_tot (keyI a) (keyI b) (keyI c)).1 h1 h2) (fun a b => by
    unfold leN
    rcases (lexB_tot (keyI a) (keyI b) (keyI a)).2.1 with h | h <;> rw [h] <;> simp) m
  refine this.imp fun {a b} h => ?_
  unfold leN at h
  rw [Bool.not_eq_true', SrtO.lexB_no] at h
  obtain ⟨⟨a1, a2⟩, _⟩ := a
  obtain ⟨⟨b1, b2⟩, _⟩ := b
  simp only [keyI, lexN, Prod.mk.injEq] at h ⊢
  omega
theorem lexN_as {x y : Nat × Nat} (h : lexN x y ∨ x = y) (g : lexN y x ∨ y = x) : x = y := by
  rcases h with h | h
  · rcases g with g | g
    · unfold lexN at *
      omega
    · exact g.symm
  · exact h
theorem ndl_nds {c : Cf} {x : St} (h : Ky c x) (lt : x.first < x.after) {L : Nat} (hr : IsRl c.fo x.first (x.after - 1) L) : (ndl x.nodes).map (·.1) = nds c.fo x.first (x.after - 1) L := by
  have s2 := nds_srt c.fo x.first (x.after - 1) L
  refine List.Perm.eq_of_pairwise (le := fun x y => lexN x y ∨ x = y) (fun a b _ _ h1 h2 => lexN_as h1 h2) (ndl_srt _) (s2.imp .inl) ?_
  refine (List.perm_ext_iff_of_nodup (((ndl_perm x.nodes).map (·.1)).nodup_iff.mpr h.nn) (s2.imp fun z e => ?_)).mpr fun m => ?_
  · subst e
    unfold lexN at z
    omega
  rw [((ndl_perm x.nodes).map (·.1)).mem_iff, h.nk, nds_at]
  constructor
  · rintro ⟨_, M, hM, l1, l2, l3⟩
    have := hM.inj hr
    subst this
    refine ⟨l1, l2, ?_⟩
    unfold lvN
    have := Nat.div_le_div_right (c := c.fo ^ (m.1 + 1)) (show x.first ≤ x.after - 1 by omega)
    omega
  · rintro ⟨l1, l2, l3⟩
    refine ⟨lt, L, hr, l1, l2, ?_⟩
    unfold lvN at l3
    have := Nat.div_le_div_right (c := c.fo ^ (m.1 + 1)) (show x.first ≤ x.after - 1 by omega)
    omega
theorem nds_last {f A B L : Nat} (hr : IsRl f A B L) : (nds f A B L).getLast? = some (L, A / f ^ (L + 1)) := by
  unfold nds
  rw [List.range_succ, List.flatMap_append, List.flatMap_singleton]
  have : lvR f A B L = [(L, A / f ^ (L + 1))] := by
    unfold lvR lvN
    rw [← hr.1, Nat.add_sub_cancel_left]
    rfl
  rw [this, List.getLast?_append]
  rfl
/-- what begins, what ends: of one kind -/
theorem IsNb.one {f a b c d K M : Nat} (h : IsNb f a b c d K) (g : IsNb f a b c d M) : K = M := by
  rcases Nat.lt_trichotomy K M with z | z | z
  · obtain ⟨g1, g2⟩ := g.2 K z
    rcases h.1 with e | e
    · exact absurd e g1
    · exact absurd e g2
  · exact z
  · obtain ⟨g1, g2⟩ := h.2 M z
    rcases g.1 with e | e
    · exact absurd e g1
    · exact absurd e g2
theorem BgN.one {f a b : Nat} {ns ms : List (Nat × Nat)} (h : BgN f a b ns) (g : BgN f a b ms) : ns = ms := by
  rcases h with ⟨e, rfl⟩ | ⟨l, L, _, i, rfl⟩
  · rcases g with ⟨_, rfl⟩ | ⟨l, _⟩
    · rfl
    · omega
  · rcases g with ⟨e, _⟩ | ⟨_, M, _, j, rfl⟩
    · omega
    · rw [i.one j]
theorem EdN.one {f a b : Nat} {ns ms : List (Nat × Nat)} (h : EdN f a b ns) (g : EdN f a b ms) : ns = ms := by
  obtain ⟨L, _, i, rfl⟩ := h
  obtain ⟨M, _, j, rfl⟩ := g
  rw [i.one j]
/-! what begins and ends with a row, told by its events -/
def evN : Ev → Option (Bool × Rl)
  | .take _ (.log _) => none
  | .take _ r => some (true, r)
  | .give _ (.log _) => none
  | .give _ r => some (false, r)
  | _ => none
def ndR (b : Bool) (n : Nat × Nat) : Bool × Rl := (b, .node n.1 n.2)
def PutN (c : Cf) (x : St) (l : List (Bool × Rl)) : Prop := (x.done = x.nb ∧ ∃ ns, BgN c.fo x.first x.after ns ∧ l = (true, .heap x.after) :: ns.map (ndR true)) ∨ (x.done ≠ x.nb ∧ l = [])
def ExdN (c : Cf) (x : St) (l : List (Bool × Rl)) : Prop := ((x.done : Int) - c.ke ≠ (x.oe : Int) - 1 ∧ l = []) ∨ ((x.done : Int) - c.ke = (x.oe : Int) - 1 ∧ ∃ ns, EdN c.fo x.first (x.after - 1) ns ∧ l = (false, .heap x.first) :: ns.map (ndR false))
theorem tks_evN : ∀ (ns : List (Nat × Nat)) (x : St), (x.tks ns).2.filterMap evN = ns.map (ndR true)
  | [], _ => rfl
  | n :: ns, x => by
    have ih := tks_evN ns (x.tk1 n)
    show List.filterMap evN (.take x.took.1 (.node n.1 n.2) :: ((x.tk1 n).tks ns).2) = _
    rw [List.filterMap_cons, ih]
    rfl
theorem gvs_evN : ∀ (ns : List (Nat × Nat)) (r : St × List Ev), (ns.foldl gvS r).2.filterMap evN = r.2.filterMap evN ++ ns.map (ndR false)
  | [], r => by simp
  | n :: ns, r => by
    have ih := gvs_evN ns (gvS r n)
    rw [List.foldl_cons, ih]
    show List.filterMap evN (r.2 ++ [_]) ++ _ = _
    rw [List.filterMap_append, List.append_assoc]
    rfl
theorem put_evN {c : Cf} {x y : St} {es : List Ev} (p : Put c x y es) : PutN c x (es.filterMap evN) := by
  rcases p with ⟨z, ns, bg, _, rfl⟩ | ⟨z, pg, _, _, rfl⟩
  · refine .inl ⟨z, ns, bg, ?_⟩
    rw [List.filterMap_append]
    show List.filterMap evN (.take x.took.1 (.heap x.after) :: (St.tks _ ns).2) ++ [] = _
    rw [List.append_nil, List.filterMap_cons, tks_evN]
    rfl
  · exact .inr ⟨z, rfl⟩
theorem exd_evN {c : Cf} {x y : St} {es : List Ev} (p : Exd c x y es) : ExdN c x (es.filterMap evN) := by
  rcases p with ⟨z, _, rfl⟩ | ⟨z, ns, ed, e⟩
  · exact .inl ⟨z, rfl⟩
  · refine .inr ⟨z, ns, ed, ?_⟩
    have e2 : es = .give ((gtL x.heap x.first).getD 0) (.heap x.first) :: ((({ x with heap := drL x.heap x.first } : St).gave ((gtL x.heap x.first).getD 0)).gvs ns).2 := by
      unfold St.expd at e
      rw [Prod.mk.injEq] at e
      exact e.2.symm
    rw [e2, List.filterMap_cons]
    unfold St.gvs
    rw [gvs_evN]
    rfl
theorem row_evN {c : Cf} {x y : St} {es : List Ev} (r : Row c x y es) : ∃ x2 e2 l1 l2, Put c (x.logd c.ev c.re).1 x2 e2 ∧ PutN c (x.logd c.ev c.re).1 l1 ∧ ExdN c x2 l2 ∧ es.filterMap evN = l1 ++ l2 := by
  obtain ⟨x2, e2, x3, e3, pt, ed, cas⟩ := r
  have lg : (x.logd c.ev c.re).2.filterMap evN = [] := by
    unfold St.logd
    split <;> rfl
  refine ⟨x2, e2, _, _, pt, put_evN pt, exd_evN ed, ?_⟩
  split at cas
  · obtain ⟨e4, ⟨_, ws, _, _, rfl⟩, rfl⟩ := cas
    have w1 : (ws.map Ev.write).filterMap evN = [] := by
      rw [List.filterMap_map]
      exact List.filterMap_eq_nil_iff.mpr fun _ _ => rfl
    have w2 : ∀ l : List Nat, (l.map Ev.free).filterMap evN = [] := fun l => by
      rw [List.filterMap_map]
      exact List.filterMap_eq_nil_iff.mpr fun _ _ => rfl
    rw [List.filterMap_append, List.filterMap_append, List.filterMap_append, List.filterMap_append, lg, w1, w2]
    simp
  · obtain ⟨_, rfl⟩ := cas
    rw [List.filterMap_append, List.filterMap_append, lg]
    simp
/-- what a row begins, asked by the page it is on -/
theorem putN_at {c : Cf} {x : St} (k : CfOk c) (h : Ky c x) (r : Rw c x.done x.done x) {l : List (Bool × Rl)} (p : PutN c x l) {m : Nat} (on : Pk.On c.ls c.sz m x.done) :
    (Pk.st c.ls c.sz m < x.done → l = []) ∧ (Pk.st c.ls c.sz m = x.done → ∀ fi, Pk.On c.ls c.sz fi (x.done - c.ke) → ∀ ns, BgN c.fo fi m ns → l = (true, .heap m) :: ns.map (ndR true)) := by
  have nb := r.nb
  have one : x.done = x.nb → m = x.after := fun z => on.inj k.o ⟨by omega, by have := Pk.st_lt k.o x.after; omega⟩
  rcases p with ⟨z, ns, bg, rfl⟩ | ⟨z, rfl⟩
  · refine ⟨fun y => ?_, fun y fi hfi ms bm => ?_⟩
    · exfalso
      rw [one z, ← nb, ← z] at y
      exact Nat.lt_irrefl _ y
    · have e1 := hfi.inj k.o r.fr
      rw [e1, one z] at bm
      rw [bg.one bm, one z]
  · refine ⟨fun _ => rfl, fun y => ?_⟩
    exfalso
    refine z ?_
    rw [nb, ← y]
    rcases r.af with ⟨z1, z2⟩ | ⟨d0, a0, oa⟩
    · have e0 : m = 0 := by
        have := Pk.st_ge k.o m
        omega
      rw [e0, z2]
    · have l1 := oa.mono k.o on (Nat.sub_le _ _)
      have l2 : m ≠ x.after - 1 := fun e => by
        have := oa.1
        rw [← e] at this
        omega
      have l3 : m ≤ x.after := by
        rcases Nat.lt_or_ge x.after m with q | q
        · have := Pk.st_mono k.o q
          have := oa.2
          rw [show x.after - 1 + 1 = x.after by omega] at this
          have := Pk.st_mono k.o (show x.after - 1 < x.after by omega)
          omega
        · exact q
      rw [show m = x.after by omega]
theorem exdN_at {c : Cf} {x : St} {d : Nat} (k : CfOk c) (h : Ky c x) (r : Rw c (d + 1) d x) (hd : x.done = d) {l : List (Bool × Rl)} (p : ExdN c x l) :
    (d < c.ke → l = []) ∧ (c.ke ≤ d → ∀ m n, Pk.On c.ls c.sz m (d - c.ke) → Pk.On c.ls c.sz n (d - c.ke + 1) → (m = n → l = []) ∧ (m ≠ n → ∀ la, Pk.On c.ls c.sz la d → ∀ ns, EdN c.fo m la ns → l = (false, .heap m) :: ns.map (ndR false))) := by
  have oe := r.oe
  have fr := r.fr
  have up := Pk.st_lt k.o (x.first + 1)
  rcases p with ⟨z, rfl⟩ | ⟨z, ns, ed, rfl⟩
  · refine ⟨fun _ => rfl, fun le m n hm hn => ⟨fun _ => rfl, fun mn => ?_⟩⟩
    exfalso
    have e1 := hm.inj k.o fr
    subst e1
    refine mn (Pk.On.inj k.o (r := d - c.ke + 1) ⟨?_, ?_⟩ hn)
    · have := hm.1
      omega
    · have := hm.2
      omega
  · refine ⟨fun y => ?_, fun le m n hm hn => ?_⟩
    · exfalso
      have := fr.2
      have := Pk.st_ge k.o (x.first + 1)
      omega
    · have e1 := hm.inj k.o fr
      subst e1
      have e2 : Pk.On c.ls c.sz (x.first + 1) (d - c.ke + 1) := by
        have := fr.2
        exact ⟨by omega, by omega⟩
      have e3 := hn.inj k.o e2
      refine ⟨fun y => ?_, fun _ la hla ms em => ?_⟩
      · omega
      · have af : la = x.after - 1 := by
          rcases r.af with ⟨q, _⟩ | ⟨_, _, oa⟩
          · omega
          · rw [Nat.add_sub_cancel] at oa
            exact hla.inj k.o oa
        rw [af] at em
        rw [ed.one em]
/-! a row, as one sees it who looks at its events alone (no Python) -/
def useP (x : St) : List Nat := x.heap.map (·.2) ++ (x.nodes.map (·.2) ++ (x.log ++ x.waiting))
theorem pgs_use (x : St) : pgs x = useP x ++ x.free := by
  unfold pgs useP
  simp only [List.append_assoc]
theorem useL_perm (x : St) : (useL x).Perm (useP x) := by
  unfold useL useP
  rw [List.append_assoc, List.append_assoc]
  exact (((ndl_perm x.nodes).map (·.2)).append_right _).append_left _
/-- the pages in use, the size, the list, what was written -/
structure Ob where
  bs : List Nat
  sz : Nat
  fr : List Nat
  wr : List Nat
def addW (w : List Nat) (p : Nat) : List Nat := if p ∈ w then w else w ++ [p]
theorem addW_mem {w : List Nat} {p q : Nat} : q ∈ addW w p ↔ q ∈ w ∨ q = p := by
  unfold addW
  split
  · rename_i h
    exact ⟨.inl, fun z => z.elim id fun e => by rw [e]; exact h⟩
  · rw [List.mem_append, List.mem_singleton]
theorem addW_nd {w : List Nat} (p : Nat) (h : w.Nodup) : (addW w p).Nodup := by
  unfold addW
  split
  · exact h
  · rename_i n
    exact (List.perm_append_singleton _ _).nodup_iff.mpr (List.nodup_cons.mpr ⟨n, h⟩)
def See (o : Ob) : Ev → Ob → Prop
  | .take p _, o' => p ∉ o.wr ∧ ((o.fr = [] ∧ p = o.sz ∧ o' = { o with bs := o.bs ++ [p], sz := o.sz + 1 }) ∨ (∃ fr, o.fr = p :: fr ∧ p ≠ o.sz ∧ o' = { o with bs := o.bs ++ [p], fr := fr }))
  | .give p _, o' => p ∈ o.bs ∧ o' = o
  | .recd p _, o' => p ∈ o.bs ∧ o' = o
  | .put p _, o' => p ∈ o.bs ∧ o' = o
  | .write p, o' => o' = { o with wr := addW o.wr p }
  | .free p, o' => p ∈ o.bs ∧ o' = { o with bs := o.bs.erase p, wr := o.wr.filter fun q => decide (q ≠ p) }
def Sees : List Ev → Ob → Ob → Prop
  | [], o, o' => o' = o
  | e :: es, o, o' => ∃ o1, See o e o1 ∧ Sees es o1 o'
theorem Sees.app : ∀ {es fs : List Ev} {o o1 o2 : Ob}, Sees es o o1 → Sees fs o1 o2 → Sees (es ++ fs) o o2
  | [], _, _, _, _, h, g => by
    cases h
    exact g
  | _ :: _, _, _, _, _, ⟨o3, h1, h2⟩, g => ⟨o3, h1, h2.app g⟩
theorem Sees.one {e : Ev} {o o1 : Ob} (h : See o e o1) : Sees [e] o o1 := ⟨o1, h, rfl⟩
/-- what is seen fits to a store -/
structure ObR (x : St) (o : Ob) : Prop where
  bs : o.bs.Perm (useP x)
  sz : o.sz = x.size
  fr : o.fr = x.free.reverse
  wr : ∀ p ∈ o.wr, p ∈ useP x
  wn : o.wr.Nodup
  fl : o.bs.length + o.fr.length = o.sz
  mx : o.sz ≤ max 1000 o.bs.length
theorem ObR.mv {x z : St} {o : Ob} (h : ObR x o) (pm : (useP z).Perm (useP x)) (f : z.free = x.free) (s : z.size = x.size) : ObR z o :=
  ⟨h.bs.trans pm.symm, h.sz.trans s.symm, by rw [f]; exact h.fr, fun p hp => pm.mem_iff.mpr (h.wr p hp), h.wn, h.fl, h.mx⟩
theorem ObR.fld {x : St} {o : Ob} (h : ObR x o) (d a b c e : Nat) : ObR { x with done := d, first := a, after := b, nb := c, oe := e } o := ⟨h.bs, h.sz, h.fr, h.wr, h.wn, h.fl, h.mx⟩
theorem use_lt {x : St} (g : Gd x) {p : Nat} (h : p ∈ useP x) : p < x.size := g.lt p (by rw [pgs_use]; exact List.mem_append_left _ h)
theorem use_nf {x : St} (g : Gd x) {p : Nat} (h : p ∈ useP x) : p ∉ x.free := fun z => by
  have := g.nd
  rw [pgs_use, List.nodup_append] at this
  exact this.2.2 p h p z rfl
/-- a page is taken -/
theorem ObR.take {x z : St} {o : Ob} (g : Gd x) (h : ObR x o) (r : Rl) (pm : (useP z).Perm (x.took.1 :: useP x)) (f : z.free = x.took.2.free) (s : z.size = x.took.2.size) : ∃ o1, See o (.take x.took.1 r) o1 ∧ ObR z o1 ∧ o.sz ≤ o1.sz := by
  have fl := h.fl
  have mx := h.mx
  have sz := h.sz
  have hfr := h.fr
  by_cases e : x.free = []
  · have et : x.took = (x.size, { x with size := x.size + 1 }) := by rw [St.took, e]; rfl
    rw [et] at pm f s ⊢
    rw [e] at hfr f
    have hfr : o.fr = [] := hfr
    rw [hfr] at fl
    refine ⟨{ o with bs := o.bs ++ [x.size], sz := o.sz + 1 }, ⟨fun hp => Nat.lt_irrefl _ (use_lt g (h.wr _ hp)), .inl ⟨hfr, sz.symm, rfl⟩⟩, ⟨?_, ?_, ?_, fun p hp => pm.mem_iff.mpr (List.mem_cons_of_mem _ (h.wr p hp)), h.wn, ?_, ?_⟩, Nat.le_succ _⟩
    · exact (List.perm_append_singleton _ _).trans ((h.bs.cons _).trans pm.symm)
    · rw [s]
      show o.sz + 1 = x.size + 1
      rw [sz]
    · rw [f]
      exact hfr
    · show (o.bs ++ [x.size]).length + o.fr.length = o.sz + 1
      rw [hfr, List.length_append]
      simp only [List.length_nil, List.length_cons] at fl ⊢
      omega
    · show o.sz + 1 ≤ max 1000 (o.bs ++ [x.size]).length
      rw [List.length_append]
      simp only [List.length_nil, List.length_cons] at fl ⊢
      omega
  · have et : x.took = (x.free.getLast e, { x with free := x.free.dropLast }) := by rw [St.took, List.getLast?_eq_some_getLast e]
    rw [et] at pm f s ⊢
    have el : x.free = x.free.dropLast ++ [x.free.getLast e] := (List.dropLast_concat_getLast e).symm
    have hl : x.free.getLast e ∈ x.free := List.getLast_mem e
    generalize x.free.getLast e = p at *
    have hfr2 : o.fr = p :: x.free.dropLast.reverse := by
      rw [hfr, el]
      simp
    have plt : p < x.size := g.lt p (by rw [pgs_use]; exact List.mem_append_right _ hl)
    refine ⟨{ o with bs := o.bs ++ [p], fr := x.free.dropLast.reverse }, ⟨fun hp => use_nf g (h.wr _ hp) hl, .inr ⟨_, hfr2, by omega, rfl⟩⟩, ⟨?_, ?_, ?_, fun q hq => pm.mem_iff.mpr (List.mem_cons_of_mem _ (h.wr q hq)), h.wn, ?_, ?_⟩, Nat.le_refl _⟩
    · exact (List.perm_append_singleton _ _).trans ((h.bs.cons _).trans pm.symm)
    · rw [s]
      exact sz
    · rw [f]
    · show (o.bs ++ [p]).length + x.free.dropLast.reverse.length = o.sz
      rw [hfr2] at fl
      rw [List.length_append]
      simp only [List.length_nil, List.length_cons] at fl ⊢
      omega
    · show o.sz ≤ max 1000 (o.bs ++ [p]).length
      rw [List.length_append]
      simp only [List.length_nil, List.length_cons]
      omega
/-- the nodes that begin are taken -/
theorem ObR.tk1 {x : St} {o : Ob} (g : Gd x) (h : ObR x o) (n : Nat × Nat) (r : Rl) : ∃ o1, See o (.take x.took.1 r) o1 ∧ ObR (x.tk1 n) o1 ∧ o.sz ≤ o1.sz := by
  have ta := took_at x
  obtain ⟨b1, b2, b3, b4, b5, b6, b7, b8, b9, b10, b11⟩ := St.mark_at ({ x.took.2 with nodes := x.nodes ++ [(n, x.took.1)] } : St) x.took.1
  refine h.take g r ?_ b8 b9
  unfold useP
  rw [show (x.tk1 n).heap = _ from b5, show (x.tk1 n).nodes = _ from b6, show (x.tk1 n).log = _ from b1, show (x.tk1 n).waiting = _ from b7]
  show (x.took.2.heap.map (·.2) ++ ((x.nodes ++ [(n, x.took.1)]).map (·.2) ++ (x.took.2.log ++ x.took.2.waiting))).Perm _
  rw [ta.1, ta.2.2.2.2.1, ta.2.2.2.2.2.2.1, List.map_append]
  have := (List.perm_middle (a := x.took.1) (l₁ := x.heap.map (·.2) ++ x.nodes.map (·.2)) (l₂ := x.log ++ x.waiting))
  simpa [List.append_assoc] using this
theorem ObR.tks : ∀ (ns : List (Nat × Nat)) {x : St} {o : Ob}, Gd x → ObR x o → ∃ o1, Sees (x.tks ns).2 o o1 ∧ ObR (x.tks ns).1 o1 ∧ o.sz ≤ o1.sz
  | [], _, o, _, h => ⟨o, rfl, h, Nat.le_refl _⟩
  | n :: ns, x, o, g, h => by
    obtain ⟨o1, h1, h2, h3⟩ := h.tk1 g n (.node n.1 n.2)
    obtain ⟨o2, h4, h5, h6⟩ := ObR.tks ns (g.tk1 n).1 h2
    exact ⟨o2, ⟨o1, h1, h4⟩, h5, Nat.le_trans h3 h6⟩
theorem ObR.chgd {x : St} {o : Ob} (h : ObR x o) (f m : Nat) (ns : List (Nat × Nat)) : ObR (x.chgd f m ns) o := by
  obtain ⟨c1, c2, c3, c4, c5, c6, c7, c8, c9, c10, c11, c12⟩ := St.chgf_at (parL f m ns) x
  refine h.mv ?_ c8 c9
  unfold useP St.chgd
  rw [c1, c5, c6, c7]
theorem ObR.mark {x : St} {o : Ob} (h : ObR x o) (p : Nat) : ObR (x.mark p) o := by
  obtain ⟨b1, b2, b3, b4, b5, b6, b7, b8, b9, b10, b11⟩ := x.mark_at p
  refine h.mv ?_ b8 b9
  unfold useP
  rw [b1, b5, b6, b7]
theorem ObR.begn {x : St} {o : Ob} (g : Gd x) (h : ObR x o) (ls : List Int) (sz : Int) (f : Nat) (ns : List (Nat × Nat)) : ∃ o1, Sees (x.begn ls sz f ns).2 o o1 ∧ ObR (x.begn ls sz f ns).1 o1 ∧ o.sz ≤ o1.sz := by
  have ta := took_at x
  have g0 : Gd ({ x.took.2 with heap := x.heap ++ [(x.after, x.took.1)] } : St) := by
    refine g.place ?_ rfl ta.2.2.2.2.2.2.2.1
    unfold pgs
    rw [List.map_append, ← ta.2.2.2.2.1]
    show ((_ ++ [x.took.1]) ++ _).Perm _
    have := (List.perm_middle (a := x.took.1) (l₁ := x.took.2.heap.map (·.2)) (l₂ := x.took.2.nodes.map (·.2) ++ (x.took.2.log ++ (x.took.2.waiting ++ x.took.2.free))))
    simpa [List.append_assoc] using this
  obtain ⟨o1, h1, h2, h3⟩ := h.take (z := ({ x.took.2 with heap := x.heap ++ [(x.after, x.took.1)] } : St)) g (.heap x.after) (by
    unfold useP
    show ((x.heap ++ [(x.after, x.took.1)]).map (·.2) ++ (x.took.2.nodes.map (·.2) ++ (x.took.2.log ++ x.took.2.waiting))).Perm _
    rw [ta.1, ta.2.2.2.2.2.1, ta.2.2.2.2.2.2.1, List.map_append]
    have := (List.perm_middle (a := x.took.1) (l₁ := x.heap.map (·.2)) (l₂ := x.nodes.map (·.2) ++ (x.log ++ x.waiting)))
    simpa [List.append_assoc] using this) rfl rfl
  obtain ⟨o2, h4, h5, h6⟩ := ObR.tks ns g0 h2
  refine ⟨o2, ⟨o1, h1, h4⟩, ?_, Nat.le_trans h3 h6⟩
  exact ObR.chgd (h5.fld _ _ (x.after + 1) (Pk.st ls sz (x.after + 1)) _) _ _ _
theorem ObR.logd {x : St} {o : Ob} (g : Gd x) (h : ObR x o) (ev re : Nat) (lo : x.done % ev % re ≠ 0 → x.log ≠ []) : ∃ o1, Sees (x.logd ev re).2 o o1 ∧ ObR (x.logd ev re).1 o1 ∧ o.sz ≤ o1.sz := by
  have ta := took_at x
  unfold St.logd
  split
  · obtain ⟨o1, h1, h2, h3⟩ := h.take (z := ({ x.took.2 with log := x.took.2.log ++ [x.took.1] } : St)) g (.log (x.done % ev / re)) (by
      unfold useP
      show (x.took.2.heap.map (·.2) ++ (x.took.2.nodes.map (·.2) ++ ((x.took.2.log ++ [x.took.1]) ++ x.took.2.waiting))).Perm _
      rw [ta.1, ta.2.2.2.2.1, ta.2.2.2.2.2.1, ta.2.2.2.2.2.2.1]
      have := (List.perm_middle (a := x.took.1) (l₁ := x.heap.map (·.2) ++ x.nodes.map (·.2) ++ x.log) (l₂ := x.waiting))
      simpa [List.append_assoc] using this) rfl rfl
    refine ⟨o1, ⟨o1, h1, o1, ⟨h2.bs.mem_iff.mpr ?_, rfl⟩, rfl⟩, h2, h3⟩
    unfold useP
    simp
  · rename_i z
    have ne := lo z
    refine ⟨o, ⟨o, ⟨h.bs.mem_iff.mpr ?_, rfl⟩, rfl⟩, h, Nat.le_refl _⟩
    rw [List.getLast?_eq_some_getLast ne]
    have := List.getLast_mem ne
    unfold useP
    simp only [List.mem_append, Option.getD_some]
    exact .inr (.inr (.inl this))
theorem ObR.put {c : Cf} {x y : St} {o : Ob} {es : List Ev} (g : Gd x) (h : ObR x o) (p : Put c x y es) : ∃ o1, Sees es o o1 ∧ ObR y o1 ∧ o.sz ≤ o1.sz := by
  rcases p with ⟨z, ns, bg, rfl, rfl⟩ | ⟨z, pg, hg, rfl, rfl⟩
  · obtain ⟨o1, h1, h2, h3⟩ := h.begn g c.ls c.sz c.fo ns
    obtain ⟨b1, b2, b3, b4, b5, b6, b7, b8, b9, b10, b11⟩ := x.begn_at c.ls c.sz c.fo ns
    refine ⟨o1, h1.app (.one ⟨h2.bs.mem_iff.mpr ?_, rfl⟩), h2.mark _, h3⟩
    unfold useP
    rw [b5]
    simp
  · refine ⟨o, .one ⟨h.bs.mem_iff.mpr ?_, rfl⟩, h.mark _, Nat.le_refl _⟩
    unfold useP
    exact List.mem_append_left _ (List.mem_map.mpr ⟨_, gtL_in hg, rfl⟩)
/-- a page is given back -/
theorem ObR.gv1 {x : St} {o : Ob} (h : ObR x o) {n : Nat × Nat} (nn : (x.nodes.map (·.1)).Nodup) {p : Nat} (hp : gtL x.nodes n = some p) : p ∈ o.bs ∧ ObR (x.gv1 n) o := by
  have e : pgN x n = p := by rw [pgN, hp]; rfl
  have k := drL_pm nn hp
  refine ⟨h.bs.mem_iff.mpr ?_, h.mv ?_ rfl rfl⟩
  · unfold useP
    simp only [List.mem_append]
    exact .inr (.inl (List.mem_map.mpr ⟨_, gtL_in hp, rfl⟩))
  · unfold St.gv1
    rw [e]
    unfold useP St.gave
    show (x.heap.map (·.2) ++ ((drL x.nodes n).map (·.2) ++ (x.log ++ (x.waiting ++ [p])))).Perm _
    have k1 := (List.perm_middle (a := p) (l₁ := x.heap.map (·.2) ++ (drL x.nodes n).map (·.2) ++ x.log ++ x.waiting) (l₂ := []))
    have k2 := (List.perm_middle (a := p) (l₁ := x.heap.map (·.2)) (l₂ := (drL x.nodes n).map (·.2) ++ (x.log ++ x.waiting)))
    simp only [List.append_assoc, List.append_nil] at k1 k2
    exact k1.trans (k2.symm.trans ((k.symm.append_right _).append_left _))
theorem ObR.gvs : ∀ (ns : List (Nat × Nat)) (r : St × List Ev) (o : Ob), ObR r.1 o → (r.1.nodes.map (·.1)).Nodup → ns.Nodup → (∀ n ∈ ns, n ∈ r.1.nodes.map (·.1)) → ∃ es, (ns.foldl gvS r).2 = r.2 ++ es ∧ Sees es o o ∧ ObR (ns.foldl gvS r).1 o
  | [], r, o, h, _, _, _ => ⟨[], (List.append_nil _).symm, rfl, h⟩
  | n :: ns, r, o, h, nn, nd, hm => by
    obtain ⟨p, hp⟩ := gtL_some (hm n List.mem_cons_self)
    have ky : (gvS r n).1.nodes.map (·.1) = (r.1.nodes.map (·.1)).filter fun k => decide (k ≠ n) := drL_keys _ _
    rw [List.nodup_cons] at nd
    obtain ⟨h1, h2⟩ := h.gv1 nn hp
    obtain ⟨es, a1, a2, a3⟩ := ObR.gvs ns (gvS r n) o h2 (by rw [ky]; exact nn.filter _) nd.2 (fun m z => by
      rw [ky, List.mem_filter, decide_eq_true_eq]
      exact ⟨hm m (List.mem_cons_of_mem _ z), fun e => nd.1 (by rw [← e]; exact z)⟩)
    refine ⟨.give (pgN r.1 n) (.node n.1 n.2) :: es, ?_, ⟨o, ⟨?_, rfl⟩, a2⟩, a3⟩
    · rw [List.foldl_cons, a1]
      show (r.2 ++ [_]) ++ es = _
      rw [List.append_assoc]
      rfl
    · rw [pgN, hp]
      exact h1
theorem ObR.exd {c : Cf} {d : Nat} {x y : St} {o : Ob} {es : List Ev} (k : CfOk c) (ky : Ky c x) (r : Rw c (d + 1) d x) (hd : x.done = d) (h : ObR x o) (p : Exd c x y es) : Sees es o o ∧ ObR y o := by
  rcases p with ⟨z, rfl, rfl⟩ | ⟨z, ns, ed, e⟩
  · exact ⟨rfl, h⟩
  · obtain ⟨fa, on⟩ := exd_pre k ky r hd z
    have hn : (x.heap.map (·.1)).Nodup := by rw [ky.hk]; exact List.nodup_range' 1
    obtain ⟨p, hp⟩ := gtL_some (ky.some (Nat.le_refl _) (by omega))
    have hp' : (gtL x.heap x.first).getD 0 = p := by rw [hp]; rfl
    have dm := drL_pm hn hp
    have h0 : ObR (({ x with heap := drL x.heap x.first } : St).gave p) o := by
      refine h.mv ?_ rfl rfl
      unfold useP St.gave
      show ((drL x.heap x.first).map (·.2) ++ (x.nodes.map (·.2) ++ (x.log ++ (x.waiting ++ [p])))).Perm _
      have k1 := (List.perm_middle (a := p) (l₁ := (drL x.heap x.first).map (·.2) ++ x.nodes.map (·.2) ++ x.log ++ x.waiting) (l₂ := []))
      simp only [List.append_assoc, List.append_nil] at k1
      exact k1.trans (dm.symm.append_right _)
    obtain ⟨es2, a1, a2, a3⟩ := ObR.gvs ns (({ x with heap := drL x.heap x.first } : St).gave p, []) o h0 ky.nn ed.nodup (fun n hn => (ky.nk n).mpr ⟨by omega, ((ed.mem k.fo (by omega) n).mp hn).1⟩)
    have e2 : es = .give p (.heap x.first) :: es2 := by
      rw [show es = (x.expd c ns).2 by rw [e]]
      unfold St.expd St.gvs
      rw [hp']
      show _ :: (List.foldl gvS _ ns).2 = _
      rw [a1]
      rfl
    have e3 : y = (({ (List.foldl gvS (({ x with heap := drL x.heap x.first } : St).gave p, []) ns).1 with first := x.first + 1, oe := Pk.st c.ls c.sz (x.first + 1 + 1) } : St).chgd c.fo x.first ns) := by
      rw [show y = (x.expd c ns).1 by rw [e]]
      unfold St.expd St.gvs
      rw [hp']
    rw [e2, e3]
    refine ⟨⟨o, ⟨h.bs.mem_iff.mpr ?_, rfl⟩, a2⟩, ObR.chgd (a3.fld _ (x.first + 1) _ _ (Pk.st c.ls c.sz (x.first + 1 + 1))) _ _ _⟩
    unfold useP
    exact List.mem_append_left _ (List.mem_map.mpr ⟨_, gtL_in hp, rfl⟩)
/-! what is changed stands -/
def Cg (x : St) : Prop := ∀ p ∈ x.changed, p ∈ x.heap.map (·.2) ∨ p ∈ x.nodes.map (·.2)
theorem Cg.mark {x : St} (h : Cg x) {p : Nat} (hp : p ∈ x.heap.map (·.2) ∨ p ∈ x.nodes.map (·.2)) : Cg (x.mark p) := by
  unfold St.mark
  split
  · exact h
  · intro q hq
    rcases List.mem_append.mp hq with z | z
    · exact h q z
    · rw [List.mem_singleton.mp z]
      exact hp
theorem Cg.chg1 {x : St} (h : Cg x) (n : Nat × Nat) : Cg (x.chg1 n) := by
  unfold St.chg1
  split
  · rename_i p e
    exact h.mark (.inr (List.mem_map.mpr ⟨_, gtL_in e, rfl⟩))
  · exact h
theorem Cg.chgf : ∀ (ns : List (Nat × Nat)) {x : St}, Cg x → Cg (ns.foldl St.chg1 x)
  | [], _, h => h
  | n :: ns, _, h => Cg.chgf ns (h.chg1 n)
theorem Cg.mono {x z : St} (h : Cg x) (c : z.changed = x.changed) (a : ∀ p, p ∈ x.heap.map (·.2) → p ∈ z.heap.map (·.2)) (b : ∀ p, p ∈ x.nodes.map (·.2) → p ∈ z.nodes.map (·.2)) : Cg z := fun p hp => by
  rw [c] at hp
  exact (h p hp).imp (a p) (b p)
theorem Cg.logd {x : St} (h : Cg x) (ev re : Nat) : Cg (x.logd ev re).1 := by
  have ta := took_at x
  unfold St.logd
  split
  · refine h.mono ta.2.2.2.2.2.2.2.1 (fun p hp => ?_) (fun p hp => ?_)
    · show p ∈ x.took.2.heap.map (·.2)
      rw [ta.2.2.2.2.1]
      exact hp
    · show p ∈ x.took.2.nodes.map (·.2)
      rw [ta.2.2.2.2.2.1]
      exact hp
  · exact h
theorem Cg.tk1 {x : St} (h : Cg x) (n : Nat × Nat) : Cg (x.tk1 n) := by
  have ta := took_at x
  refine Cg.mark (x := ({ x.took.2 with nodes := x.nodes ++ [(n, x.took.1)] } : St)) (h.mono ta.2.2.2.2.2.2.2.1 (fun p hp => ?_) (fun p hp => ?_)) ?_
  · show p ∈ x.took.2.heap.map (·.2)
    rw [ta.2.2.2.2.1]
    exact hp
  · show p ∈ (x.nodes ++ [(n, x.took.1)]).map (·.2)
    rw [List.map_append]
    exact List.mem_append_left _ hp
  · refine .inr ?_
    show _ ∈ (x.nodes ++ [(n, x.took.1)]).map (·.2)
    rw [List.map_append]
    exact List.mem_append_right _ (List.mem_singleton.mpr rfl)
theorem Cg.tks : ∀ (ns : List (Nat × Nat)) {x : St}, Cg x → Cg (x.tks ns).1
  | [], _, h => h
  | n :: ns, _, h => Cg.tks ns (h.tk1 n)
theorem Cg.begn {x : St} (h : Cg x) (ls : List Int) (sz : Int) (f : Nat) (ns : List (Nat × Nat)) : Cg (x.begn ls sz f ns).1 := by
  have ta := took_at x
  have g : Cg ({ x.took.2 with heap := x.heap ++ [(x.after, x.took.1)] } : St) := by
    refine h.mono ta.2.2.2.2.2.2.2.1 (fun p hp => ?_) (fun p hp => ?_)
    · show p ∈ (x.heap ++ [(x.after, x.took.1)]).map (·.2)
      rw [List.map_append]
      exact List.mem_append_left _ hp
    · show p ∈ x.took.2.nodes.map (·.2)
      rw [ta.2.2.2.2.2.1]
      exact hp
  have g2 := Cg.tks ns g
  refine Cg.chgf _ (x := ({ (({ x.took.2 with heap := x.heap ++ [(x.after, x.took.1)] } : St).tks ns).1 with after := x.after + 1, nb := Pk.st ls sz (x.after + 1) } : St)) ?_
  exact g2
theorem Cg.put {c : Cf} {x y : St} {es : List Ev} (h : Cg x) (p : Put c x y es) : Cg y := by
  rcases p with ⟨z, ns, bg, rfl, rfl⟩ | ⟨z, pg, hg, rfl, rfl⟩
  · refine (h.begn c.ls c.sz c.fo ns).mark (.inl ?_)
    rw [(x.begn_at c.ls c.sz c.fo ns).2.2.2.2.1, List.map_append]
    exact List.mem_append_right _ (List.mem_singleton.mpr rfl)
  · exact h.mark (.inl (List.mem_map.mpr ⟨_, gtL_in hg, rfl⟩))
theorem Cg.gv1 {x : St} (h : Cg x) {n : Nat × Nat} (nn : (x.nodes.map (·.1)).Nodup) {p : Nat} (hp : gtL x.nodes n = some p) : Cg (x.gv1 n) := by
  have e : pgN x n = p := by rw [pgN, hp]; rfl
  have k := drL_pm nn hp
  intro q hq
  have hq : q ∈ x.changed.filter fun q => decide (q ≠ pgN x n) := hq
  rw [List.mem_filter, decide_eq_true_eq, e] at hq
  rcases h q hq.1 with z | z
  · exact .inl z
  · rcases List.mem_cons.mp (k.mem_iff.mp z) with y | y
    · exact absurd y hq.2
    · exact .inr y
theorem Cg.gvs : ∀ (ns : List (Nat × Nat)) (r : St × List Ev), Cg r.1 → (r.1.nodes.map (·.1)).Nodup → ns.Nodup → (∀ n ∈ ns, n ∈ r.1.nodes.map (·.1)) → Cg (ns.foldl gvS r).1
  | [], _, h, _, _, _ => h
  | n :: ns, r, h, nn, nd, hm => by
    obtain ⟨p, hp⟩ := gtL_some (hm n List.mem_cons_self)
    have ky : (gvS r n).1.nodes.map (·.1) = (r.1.nodes.map (·.1)).filter fun k => decide (k ≠ n) := drL_keys _ _
    rw [List.nodup_cons] at nd
    exact Cg.gvs ns (gvS r n) (h.gv1 nn hp) (by rw [ky]; exact nn.filter _) nd.2 (fun m z => by
      rw [ky, List.mem_filter, decide_eq_true_eq]
      exact ⟨hm m (List.mem_cons_of_mem _ z), fun e => nd.1 (by rw [← e]; exact z)⟩)
theorem Cg.exd {c : Cf} {d : Nat} {x y : St} {es : List Ev} (k : CfOk c) (ky : Ky c x) (r : Rw c (d + 1) d x) (hd : x.done = d) (h : Cg x) (p : Exd c x y es) : Cg y := by
  rcases p with ⟨z, rfl, rfl⟩ | ⟨z, ns, ed, e⟩
  · exact h
  · obtain ⟨fa, on⟩ := exd_pre k ky r hd z
    have hn : (x.heap.map (·.1)).Nodup := by rw [ky.hk]; exact List.nodup_range' 1
    obtain ⟨p, hp⟩ := gtL_some (ky.some (Nat.le_refl _) (by omega))
    have hp' : (gtL x.heap x.first).getD 0 = p := by rw [hp]; rfl
    have dm := drL_pm hn hp
    have h0 : Cg (({ x with heap := drL x.heap x.first } : St).gave p) := by
      intro q hq
      have hq : q ∈ x.changed.filter fun q => decide (q ≠ p) := hq
      rw [List.mem_filter, decide_eq_true_eq] at hq
      rcases h q hq.1 with z | z
      · rcases List.mem_cons.mp (dm.mem_iff.mp z) with y | y
        · exact absurd y hq.2
        · exact .inl y
      · exact .inr z
    have h1 := Cg.gvs ns (({ x with heap := drL x.heap x.first } : St).gave p, []) h0 ky.nn ed.nodup (fun n hn => (ky.nk n).mpr ⟨by omega, ((ed.mem k.fo (by omega) n).mp hn).1⟩)
    rw [show y = (x.expd c ns).1 by rw [e]]
    unfold St.expd St.gvs
    rw [hp']
    refine Cg.chgf _ ?_
    exact h1
/-! a checkpoint -/
theorem sees_writes : ∀ (ws : List Nat) (o : Ob), ∃ w, Sees (ws.map .write) o { o with wr := w } ∧ (∀ p, p ∈ w ↔ p ∈ o.wr ∨ p ∈ ws) ∧ (o.wr.Nodup → w.Nodup)
  | [], o => ⟨o.wr, rfl, fun p => by simp, id⟩
  | p :: ws, o => by
    obtain ⟨w, h1, h2, h3⟩ := sees_writes ws { o with wr := addW o.wr p }
    refine ⟨w, ⟨_, rfl, h1⟩, fun q => (h2 q).trans ?_, fun n => h3 (addW_nd p n)⟩
    show q ∈ addW o.wr p ∨ _ ↔ _
    rw [addW_mem, List.mem_cons, or_assoc]
theorem sees_frees : ∀ (fs : List Nat) (A : List Nat) (o : Ob), o.bs.Perm (A ++ fs) → ∃ b w, Sees (fs.map .free) o { o with bs := b, wr := w } ∧ b.Perm A ∧ (∀ p, p ∈ w ↔ p ∈ o.wr ∧ p ∉ fs) ∧ (o.wr.Nodup → w.Nodup)
  | [], A, o, h => ⟨o.bs, o.wr, rfl, by rw [List.append_nil] at h; exact h, fun p => by simp, id⟩
  | p :: fs, A, o, h => by
    have h' := h.trans List.perm_middle
    have he := h'.erase p
    rw [List.erase_cons_head] at he
    obtain ⟨b, w, h1, h2, h3, h4⟩ := sees_frees fs A { o with bs := o.bs.erase p, wr := o.wr.filter fun q => decide (q ≠ p) } he
    refine ⟨b, w, ⟨_, ⟨h'.mem_iff.mpr List.mem_cons_self, rfl⟩, h1⟩, h2, fun q => (h3 q).trans ?_, fun n => h4 (n.filter _)⟩
    show q ∈ o.wr.filter _ ∧ _ ↔ _
    rw [List.mem_filter, decide_eq_true_eq, List.mem_cons, not_or, and_assoc]
/-! how many pages there are -/
theorem div_add_le {a b w : Nat} (h : 0 < w) : (a + b) / w ≤ a / w + b / w + 1 := by
  have h1 := Nat.div_add_mod a w
  have h2 := Nat.mod_lt a h
  have h3 := Nat.div_add_mod b w
  have h4 := Nat.mod_lt b h
  have : (a + b) / w < a / w + b / w + 2 := Nat.div_lt_of_lt_mul (by
    rw [Nat.mul_add, Nat.mul_add]
    omega)
  omega
theorem mod_succ {d e : Nat} (he : 0 < e) (h : (d + 1) % e ≠ 0) : (d + 1) % e = d % e + 1 := by
  have h1 := Nat.div_add_mod d e
  have h2 := Nat.mod_lt d he
  rcases Nat.lt_or_ge (d % e + 1) e with z | z
  · have : (d + 1) % e = ((d % e + 1) + e * (d / e)) % e := congrArg (· % e) (by omega)
    rw [this, Nat.add_mul_mod_self_left, Nat.mod_eq_of_lt z]
  · exfalso
    refine h ?_
    have : (d + 1) % e = (e + e * (d / e)) % e := congrArg (· % e) (by omega)
    rw [this, Nat.add_mul_mod_self_left, Nat.mod_self]
theorem lvN_2 {f a b l : Nat} (h2 : 2 ≤ f) (h : b ≤ a + 100) : lvN f a b l ≤ (if l = 0 then 52 else 27) := by
  have p1 : f ^ 1 ≤ f ^ (l + 1) := Nat.pow_le_pow_right (by omega) (by omega)
  rw [Nat.pow_one] at p1
  have hw : 0 < f ^ (l + 1) := by omega
  have hd := Nat.div_le_div_right (c := f ^ (l + 1)) h
  have ha := div_add_le (a := a) (b := 100) hw
  unfold lvN
  split
  · have : 100 / f ^ (l + 1) ≤ 100 / 2 := Nat.div_le_div_left (by omega) (by omega)
    omega
  · have p2 : f ^ 2 ≤ f ^ (l + 1) := Nat.pow_le_pow_right (by omega) (by omega)
    have p3 : 2 ^ 2 ≤ f ^ 2 := Nat.pow_le_pow_left h2 2
    have : 100 / f ^ (l + 1) ≤ 100 / 4 := Nat.div_le_div_left (by omega) (by omega)
    omega
theorem flat_2 {f a b : Nat} (h2 : 2 ≤ f) (h : b ≤ a + 100) : ∀ i, ((List.range i).flatMap (lvR f a b)).length ≤ 25 + 27 * i
  | 0 => by simp
  | i + 1 => by
    have ih := flat_2 h2 h i
    have hl := lvN_2 (l := i) h2 h
    rw [flat_succ, List.length_append]
    have : (lvR f a b i).length = lvN f a b i := by
      unfold lvR
      rw [List.length_map, List.length_range]
    rw [this]
    split at hl
    · rename_i z
      subst z
      simp
      omega
    · omega
theorem Ky.nlen {c : Cf} {x : St} (h : Ky c x) (k : CfOk c) (lt : x.first < x.after) (near : x.after - 1 ≤ x.first + 100) (b : x.after ≤ 512) : x.nodes.length ≤ 268 := by
  obtain ⟨L, hL⟩ := rl_any (a := x.first) (b := x.after - 1) k.fo
  have e := congrArg List.length (ndl_nds h lt hL)
  rw [List.length_map, (ndl_perm x.nodes).length_eq] at e
  have l8 : L ≤ 8 := by
    rcases Nat.lt_or_ge 8 L with z | z
    · have := hL.2 8 z
      have p : 512 ≤ c.fo ^ (8 + 1) := Nat.le_trans (by decide : 512 ≤ 2 ^ 9) (Nat.pow_le_pow_left k.fo 9)
      rw [Nat.div_eq_of_lt (by omega), Nat.div_eq_of_lt (by omega)] at this
      exact absurd rfl this
    · exact z
  have := flat_2 k.fo near (L + 1)
  rw [e]
  unfold nds
  omega
theorem Rw.near {c : Cf} {d : Nat} {x : St} (k : CfOk c) (r : Rw c d d x) (d0 : d ≠ 0) : x.first < x.after ∧ x.after - 1 ≤ x.first + c.ke := by
  have lt := r.first_le k (Nat.le_refl _) (Nat.pos_of_ne_zero d0)
  refine ⟨lt, ?_⟩
  have h := lv_near (ls := c.ls) (sz := c.sz) (ke := (c.ke : Int)) (by have := k.ke; omega) d0
  unfold lvA lvZ at h
  rw [if_neg d0, if_neg d0, Int.toNat_natCast, pg_is k.o r.fr] at h
  rcases r.af with ⟨z, _⟩ | ⟨_, a0, on⟩
  · exact absurd z d0
  · rw [pg_is k.o on] at h
    omega
theorem EdN.len2 {f a b : Nat} (h2 : 2 ≤ f) (hb : b < 512) (ab : a ≤ b) {ns : List (Nat × Nat)} (h : EdN f a b ns) : ns.length ≤ 18 := by
  obtain ⟨L, _, nb, rfl⟩ := h
  have hL : L ≤ 8 := by
    rcases Nat.lt_or_ge 8 L with z | z
    · have := (nb.2 8 z).1
      have p : 512 ≤ f ^ (8 + 1) := Nat.le_trans (by decide : 512 ≤ 2 ^ 9) (Nat.pow_le_pow_left h2 9)
      rw [Nat.div_eq_of_lt (by omega), Nat.div_eq_of_lt (by omega)] at this
      exact absurd rfl this
    · exact z
  have := nbs_len (f := f) (a := a) (b := b) (c := a + 1) (d := b) (L + 1)
  unfold nbs
  omega
theorem div_nx {f a l : Nat} (h2 : 2 ≤ f) (n : (a + 1) % f ≠ 0) : (a + 1) / f ^ (l + 1) = a / f ^ (l + 1) := by
  have hw : 0 < f ^ (l + 1) := Nat.pos_of_ne_zero (by
    have := Nat.pow_le_pow_left h2 (l + 1)
    have := Nat.one_le_two_pow (n := l + 1)
    omega)
  have m : (a + 1) % f ^ (l + 1) ≠ 0 := fun z => n (by
    have d : f ∣ f ^ (l + 1) := ⟨f ^ l, by rw [Nat.pow_succ, Nat.mul_comm]⟩
    exact Nat.mod_eq_zero_of_dvd (Nat.dvd_trans d (Nat.dvd_of_mod_eq_zero z)))
  have e := mod_succ hw m
  have h1 := Nat.div_add_mod (a + 1) (f ^ (l + 1))
  have h2 := Nat.div_add_mod a (f ^ (l + 1))
  have : f ^ (l + 1) * ((a + 1) / f ^ (l + 1)) = f ^ (l + 1) * (a / f ^ (l + 1)) := by omega
  exact Nat.eq_of_mul_eq_mul_left hw this
theorem EdN.none {f a b : Nat} (h2 : 2 ≤ f) (ab : a < b) {ns : List (Nat × Nat)} (h : EdN f a b ns) (n : (a + 1) % f ≠ 0) : ns = [] := by
  refine List.eq_nil_iff_forall_not_mem.mpr fun m hm => ?_
  obtain ⟨⟨L, hL, l1, l2, l3⟩, no⟩ := (h.mem h2 ab m).mp hm
  refine no ⟨L, ⟨?_, fun l hl => ?_⟩, l1, ?_, l3⟩
  · rw [div_nx h2 n]
    exact hL.1
  · rw [div_nx h2 n]
    exact hL.2 l hl
  · rw [div_nx h2 n]
    exact l2
theorem logd_wt (x : St) (ev re : Nat) : (x.logd ev re).1.waiting = x.waiting ∧ (x.logd ev re).1.first = x.first ∧ (x.logd ev re).1.log.length ≤ x.log.length + 1 := by
  have ta := took_at x
  unfold St.logd
  split
  · refine ⟨ta.2.2.2.2.2.2.1, ta.2.2.1, ?_⟩
    show (x.took.2.log ++ [x.took.1]).length ≤ _
    rw [ta.1, List.length_append]
    exact Nat.le_refl _
  · exact ⟨rfl, rfl, Nat.le_succ _⟩
theorem put_wt {c : Cf} {x y : St} {es : List Ev} (p : Put c x y es) : y.waiting = x.waiting ∧ y.first = x.first := by
  rcases p with ⟨z, ns, bg, rfl, rfl⟩ | ⟨z, pg, hg, rfl, rfl⟩
  · obtain ⟨b1, b2, b3, b4, b5, b6, b7, b8, b9, b10, b11⟩ := x.begn_at c.ls c.sz c.fo ns
    obtain ⟨m1, m2, m3, m4, m5, m6, m7, m8, m9, m10, m11⟩ := St.mark_at (x.begn c.ls c.sz c.fo ns).1 x.took.1
    exact ⟨m7.trans b7, m3.trans b3⟩
  · obtain ⟨m1, m2, m3, m4, m5, m6, m7, m8, m9, m10, m11⟩ := St.mark_at x pg
    exact ⟨m7, m3⟩
theorem exd_wt {c : Cf} {x y : St} {es : List Ev} (p : Exd c x y es) : (y.first = x.first ∧ y.waiting = x.waiting) ∨ (y.first = x.first + 1 ∧ (x.done : Int) - c.ke = (x.oe : Int) - 1 ∧ ∃ ns, EdN c.fo x.first (x.after - 1) ns ∧ y.waiting.length = x.waiting.length + 1 + ns.length) := by
  rcases p with ⟨z, rfl, rfl⟩ | ⟨z, ns, ed, e⟩
  · exact .inl ⟨rfl, rfl⟩
  · obtain ⟨p, hp⟩ : ∃ p, p = (gtL x.heap x.first).getD 0 := ⟨_, rfl⟩
    obtain ⟨b1, b2, b3, b4, b5, b6, b7, b8, b9, b10, _⟩ := gvS_at ns (({ x with heap := drL x.heap x.first } : St).gave p, [])
    obtain ⟨R, hR⟩ : ∃ R, R = List.foldl gvS (({ x with heap := drL x.heap x.first } : St).gave p, []) ns := ⟨_, rfl⟩
    have e2 : y = ({ R.1 with first := x.first + 1, oe := Pk.st c.ls c.sz (x.first + 1 + 1) } : St).chgd c.fo x.first ns := by
      rw [show y = (x.expd c ns).1 by rw [e]]
      unfold St.expd
      rw [hR, hp]
      rfl
    obtain ⟨c1, c2, c3, c4, c5, c6, c7, c8, c9, c10, c11, c12⟩ := St.chgf_at (parL c.fo x.first ns) ({ R.1 with first := x.first + 1, oe := Pk.st c.ls c.sz (x.first + 1 + 1) } : St)
    refine .inr ⟨by rw [e2]; exact c3, z, ns, ed, ?_⟩
    rw [e2]
    refine (congrArg List.length c7).trans ?_
    show R.1.waiting.length = _
    rw [hR, b10]
    show (x.waiting ++ [p]).length + _ = _
    rw [List.length_append]
    rfl
/-! a store behind a row, and what was written -/
structure Iw (c : Cf) (x : St) (w : List Nat) : Prop where
  iv : Iv c x
  cg : Cg x
  fl : (pgs x).length = x.size
  mx : x.size ≤ 1000
  lg : x.log.length ≤ x.done % c.ev
  wt : ∃ g, g ≤ x.done % c.ev ∧ g ≤ x.first ∧ x.waiting.length ≤ g + 18 * (x.first / c.fo - (x.first - g) / c.fo)
  wr : ∀ p ∈ w, p ∈ useP x
  wn : w.Nodup
theorem Iw.nil (c : Cf) (k : CfOk c) : Iw c (St.nil c.ls c.sz) [] :=
  ⟨Iv.nil c k, fun p h => (nomatch h), rfl, Nat.zero_le _, Nat.zero_le _, ⟨0, Nat.zero_le _, Nat.zero_le _, Nat.zero_le _⟩, fun p h => (nomatch h), List.nodup_nil⟩
theorem use_len (x : St) : (useP x).length = x.heap.length + x.nodes.length + x.log.length + x.waiting.length := by
  unfold useP
  simp only [List.length_append, List.length_map]
  omega
theorem pgs_len (x : St) : (pgs x).length = (useP x).length + x.free.length := by rw [pgs_use, List.length_append]
theorem chkd_len (x : St) : (pgs x.chkd).length = (pgs x).length := by
  unfold pgs St.chkd
  simp only [List.length_append, List.length_map, List.length_nil]
  omega
theorem Iw.ob {c : Cf} {x : St} {w : List Nat} (h : Iw c x w) : ObR x ⟨useL x, x.size, x.free.reverse, w⟩ := by
  have pl := pgs_len x
  have fl := h.fl
  have ul := (useL_perm x).length_eq
  have mx := h.mx
  refine ⟨useL_perm x, rfl, rfl, h.wr, h.wn, ?_, ?_⟩
  · show (useL x).length + x.free.reverse.length = x.size
    rw [List.length_reverse]
    omega
  · show x.size ≤ max 1000 _
    omega
theorem Iw.row {c : Cf} {x y : St} {es : List Ev} {w : List Nat} (k : CfOk c) (kk : c.ke ≤ 100) (ke1 : 1 ≤ c.ev) (ke2 : c.ev ≤ 40) (h : Iw c x w) (d : x.done < 505) (R : Row c x y es) :
    ∃ o, Sees es ⟨useL x, x.size, x.free.reverse, w⟩ o ∧ Iw c y o.wr ∧ o.bs.Perm (useP y) ∧ o.sz = y.size ∧ x.size ≤ y.size := by
  obtain ⟨l1, l2, l3, l4, l5⟩ := h.iv.ky.logd c.ev c.re
  have lo : x.done % c.ev % c.re ≠ 0 → x.log ≠ [] := fun z => h.iv.lg (mod_mod_ne z)
  have r1 := l3 _ _ h.iv.rw_
  obtain ⟨ivy, dny⟩ := h.iv.row k (by omega) R
  obtain ⟨x2, e2, x3, e3, pt, ed, cas⟩ := R
  obtain ⟨p1, p2, p3, p4, p5⟩ := put_ok k l1 r1 l2 (by omega) pt
  obtain ⟨q1, q2, q3, q4, q5⟩ := exd_ok k p1 p2 p3 ed
  obtain ⟨o1, s1, h1, z1⟩ := h.ob.logd h.iv.ky.gd c.ev c.re lo
  obtain ⟨o2, s2, h2, z2⟩ := h1.put l1.gd pt
  obtain ⟨s3, h3⟩ := ObR.exd k p1 p2 p3 h2 ed
  have cg3 : Cg x3 := ((h.cg.logd c.ev c.re).put pt).exd k p1 p2 p3 ed
  obtain ⟨w1, w2, w3⟩ := logd_wt x c.ev c.re
  obtain ⟨w4, w5⟩ := put_wt pt
  have hm := Nat.mod_lt x.done ke1
  have lg3 : x3.log.length ≤ x.done % c.ev + 1 := by
    rw [q5, p5]
    have := h.lg
    omega
  have wt3 : ∃ g, g ≤ x.done % c.ev + 1 ∧ g ≤ x3.first ∧ x3.waiting.length ≤ g + 18 * (x3.first / c.fo - (x3.first - g) / c.fo) := by
    obtain ⟨g, g1, g2, g3⟩ := h.wt
    rcases exd_wt ed with ⟨e1, e2⟩ | ⟨e1, ez, ns, edn, el⟩
    · exact ⟨g, by omega, by rw [e1, w5, w2]; exact g2, by rw [e1, e2, w4, w1, w5, w2]; exact g3⟩
    · obtain ⟨fa, _⟩ := exd_pre k p1 p2 p3 ez
      have af := p2.after_le k
      refine ⟨g + 1, by omega, by rw [e1, w5, w2]; omega, ?_⟩
      rw [el, e1, w4, w1, w5, w2, show x.first + 1 - (g + 1) = x.first - g by omega]
      rw [w5, w2] at edn fa
      have dm := Nat.div_le_div_right (c := c.fo) (show x.first ≤ x.first + 1 by omega)
      have dn := Nat.div_le_div_right (c := c.fo) (show x.first - g ≤ x.first by omega)
      have nl := edn.len2 k.fo (by omega) (by omega)
      by_cases z : (x.first + 1) % c.fo = 0
      · have h1 := Nat.div_add_mod (x.first + 1) c.fo
        rw [z] at h1
        have : x.first / c.fo < (x.first + 1) / c.fo := Nat.div_lt_of_lt_mul (by omega)
        omega
      · rw [edn.none k.fo (by omega) z] at nl ⊢
        simp only [List.length_nil]
        omega
  obtain ⟨nr1, nr2⟩ := q2.near k (by omega)
  have af3 := q2.after_le k
  have hl3 : x3.heap.length ≤ 101 := by
    have := congrArg List.length q1.hk
    rw [List.length_map, List.length_range'] at this
    omega
  have nl3 := q1.nlen k nr1 (by omega) (by omega)
  have wl3 : x3.waiting.length ≤ 418 := by
    obtain ⟨g, g1, g2, g3⟩ := wt3
    have f0 : 0 < c.fo := by have := k.fo; omega
    have a1 := div_add_le (a := x3.first - g) (b := g) f0
    rw [Nat.sub_add_cancel g2] at a1
    have a2 : g / c.fo ≤ g / 2 := Nat.div_le_div_left k.fo (by omega)
    omega
  have ul3 := use_len x3
  have b3 := h3.bs.length_eq
  have fl3 : (pgs x3).length = x3.size := by
    have e1 := h3.fl
    have e2 := h3.fr
    have e3 := h3.sz
    rw [e2, List.length_reverse] at e1
    rw [pgs_len]
    omega
  have mx3 : x3.size ≤ 1000 := by
    have := h3.mx
    have := h3.sz
    omega
  have zz : x.size ≤ x3.size := by
    have e3 := h3.sz
    have z1 : x.size ≤ o1.sz := z1
    omega
  split at cas
  · rename_i zc
    obtain ⟨e4, ⟨rfl, ws, pm, _, rfl⟩, rfl⟩ := cas
    obtain ⟨wa, a1, a2, a3⟩ := sees_writes ws o2
    obtain ⟨b, wb, b1, b2, b3, b4⟩ := sees_frees (x3.waiting ++ x3.log) (x3.heap.map (·.2) ++ x3.nodes.map (·.2)) { o2 with wr := wa } (by
      refine h3.bs.trans ?_
      unfold useP
      rw [List.append_assoc]
      exact (List.perm_append_comm.append_left _).append_left _)
    have uy : useP ({ x3 with done := x3.done + 1 } : St).chkd = x3.heap.map (·.2) ++ x3.nodes.map (·.2) := by
      unfold useP St.chkd
      simp
    refine ⟨_, ((s1.app s2).app s3).app (a1.app b1), ⟨ivy, fun p hp => (nomatch hp), (chkd_len _).trans fl3, mx3, Nat.zero_le _, ⟨0, Nat.zero_le _, Nat.zero_le _, Nat.zero_le _⟩, fun p hp => ?_, b4 (a3 h3.wn)⟩, by rw [uy]; exact b2, h3.sz, zz⟩
    rw [uy]
    obtain ⟨c1, c2⟩ := (b3 p).mp hp
    rw [List.mem_append, not_or] at c2
    rw [List.mem_append]
    rcases (a2 p).mp c1 with y | y
    · have := h3.wr p y
      unfold useP at this
      simp only [List.mem_append] at this
      rcases this with y | y | y | y
      · exact .inl y
      · exact .inr y
      · exact absurd y c2.2
      · exact absurd y c2.1
    · exact cg3 p (pm.mem_iff.mp y)
  · rename_i zc
    obtain ⟨rfl, rfl⟩ := cas
    have ms : (x.done + 1) % c.ev = x.done % c.ev + 1 := mod_succ ke1 (by rw [q3] at zc; exact zc)
    refine ⟨o2, (s1.app s2).app s3, ⟨ivy, cg3, fl3, mx3, ?_, ?_, h3.wr, h3.wn⟩, h3.bs, h3.sz, zz⟩
    · show x3.log.length ≤ (x3.done + 1) % c.ev
      rw [q3, ms]
      exact lg3
    · obtain ⟨g, g1, g2, g3⟩ := wt3
      refine ⟨g, ?_, g2, g3⟩
      show g ≤ (x3.done + 1) % c.ev
      rw [q3, ms]
      exact g1
def sp_is_from (K : PySem.W.Frag) : Sp := fun vs H Q _ => ∃ n a : Int, vs = [.int n, .int a] ∧ Q (.bl (decide (a ≤ n))) H
def sp_is_within (K : PySem.W.Frag) : Sp := fun vs H Q _ => ∃ n a b : Int, vs = [.int n, .int a, .int b] ∧ Q (.bl (decide (a ≤ n ∧ n ≤ b))) H
def sp_check_number (K : PySem.W.Frag) : Sp := fun vs H Q _ => ∃ n a b : Int, vs = [.int n, .int a, .int b] ∧ a ≤ n ∧ n ≤ b ∧ Q .non H
def sp_check_moment (K : PySem.W.Frag) : Sp := fun vs H Q _ => ∃ r : Nat, vs = [.int r] ∧ r ≤ 10 ^ 30 ∧ Q .non H
def sp_nodes_beyond (K : PySem.W.Frag) : Sp := fun vs H Q _ => ∃ (f a b c : Nat) (d : Int), vs = [.int f, .int a, .int b, .int c, .int d] ∧ 2 ≤ f ∧ f ≤ 8 ∧ a ≤ b ∧ b < 10 ^ 9 ∧
  ((a = b ∧ d < c ∧ ∀ (t : Addr) (vs : List V) (H' : Hp), Same H H' → H t = none → H' t = some (.lst vs) → NdL H' vs [(0, a / f)] → Q (.ref t) H') ∨
   (∃ e : Nat, d = e ∧ Nbr a b c e ∧ ∀ (L : Nat) (t : Addr) (vs : List V) (H' : Hp), L ≤ 132 → IsNb f a b c e L → Same H H' → H t = none → H' t = some (.lst vs) → NdL H' vs (nbs f a b c e L) → Q (.ref t) H'))
/-- nodes_beyond, asked for what begins -/
theorem sp_beyond_bg {K : PySem.W.Frag} {H : Hp} {Q : VK} {E : XK} {f a b : Nat} (f2 : 2 ≤ f) (f8 : f ≤ 8) (ab : a ≤ b) (hb : b < 10 ^ 9) (q : ∀ (ns : List (Nat × Nat)) (t : Addr) (vs : List V) (H' : Hp), BgN f a b ns → Same H H' → H t = none → H' t = some (.lst vs) → NdL H' vs ns → Q (.ref t) H') : sp_nodes_beyond K [.int f, .int a, .int b, .int a, .int ((b : Int) - 1)] H Q E := by
  refine ⟨f, a, b, a, _, rfl, f2, f8, ab, hb, ?_⟩
  rcases Nat.lt_or_eq_of_le ab with z | z
  · exact .inr ⟨b - 1, by omega, ⟨by omega, by omega, by omega, .inl rfl⟩, fun L t vs H' l i s n e d => q _ t vs H' (.inr ⟨z, L, l, i, rfl⟩) s n e d⟩
  · exact .inl ⟨z, by omega, fun t vs H' s n e d => q _ t vs H' (.inl ⟨z, rfl⟩) s n e d⟩
/-- nodes_beyond, asked for what ends -/
theorem sp_beyond_ed {K : PySem.W.Frag} {H : Hp} {Q : VK} {E : XK} {f a b : Nat} (f2 : 2 ≤ f) (f8 : f ≤ 8) (ab : a < b) (hb : b < 10 ^ 9) (q : ∀ (ns : List (Nat × Nat)) (t : Addr) (vs : List V) (H' : Hp), EdN f a b ns → Same H H' → H t = none → H' t = some (.lst vs) → NdL H' vs ns → Q (.ref t) H') : sp_nodes_beyond K [.int f, .int a, .int b, .int ((a : Int) + 1), .int b] H Q E :=
  ⟨f, a, b, a + 1, _, rfl, f2, f8, Nat.le_of_lt ab, hb, .inr ⟨b, rfl, ⟨by omega, by omega, by omega, .inr rfl⟩, fun L t vs H' l i s n e d => q _ t vs H' ⟨L, l, i, rfl⟩ s n e d⟩⟩
def sp_heap_list (K : PySem.W.Frag) : Sp := fun vs H Q _ => ∃ (F : Hp) (a s p : Addr) (o : Ow) (x : St), vs = [.ref a] ∧ StAt K F H a s p o x ∧ ∀ t us H', Same H H' → H t = none → H' t = some (.lst us) → NdL H' us x.heap → Q (.ref t) H'
def sp_node_list (K : PySem.W.Frag) : Sp := fun vs H Q _ => ∃ (F : Hp) (a s p : Addr) (o : Ow) (x : St), vs = [.ref a] ∧ StAt K F H a s p o x ∧ (x.nodes.map (·.1)).Nodup ∧ x.nodes.length ≤ 40000 ∧ ∀ t us H', Same H H' → H t = none → H' t = some (.lst us) → TrL H' us (ndl x.nodes) → Q (.ref t) H'
def sp_root_of (K : PySem.W.Frag) : Sp := fun vs H Q _ => ∃ (F : Hp) (a s p : Addr) (o : Ow) (x : St), vs = [.ref a] ∧ StAt K F H a s p o x ∧ (x.nodes.map (·.1)).Nodup ∧ x.nodes.length ≤ 40000 ∧ (x.nodes = [] → Q .non H) ∧ ∀ m, (ndl x.nodes).getLast? = some m → ∀ t H', Same H H' → H' t = some (trO m) → Q (.ref t) H'
theorem cut_all {xs : List V} {n : Nat} (h : n = xs.length) : cutV xs none (some (n : Int)) = xs := by
  unfold cutV
  rw [HT.sIx_nat, h, Nat.min_self]
  show (xs.drop 0).take (xs.length - 0) = xs
  rw [List.drop_zero, Nat.sub_zero, List.take_length]
def sp_free_list (K : PySem.W.Frag) : Sp := fun vs H Q _ => ∃ (F : Hp) (a s p : Addr) (o : Ow) (x : St) (n : Nat), vs = [.ref a, .int (n : Nat)] ∧ StAt K F H a s p o x ∧ n = x.free.length ∧ n ≤ 1000 ∧ ∀ t H', Same H H' → H t = none → H' t = some (.lst (x.free.reverse.map nI)) → Q (.ref t) H'
def sp_are_lengths (K : PySem.W.Frag) : Sp := fun vs H Q _ => ∃ (p : Addr) (ls : List Int), vs = [.ref p] ∧ H p = some (.lst (ls.map V.int)) ∧ LensOk ls 64 ∧ ∀ H', Same H H' → Q (.bl true) H'
def sp_bounds_behind (K : PySem.W.Frag) : Sp := fun vs H Q _ => ∃ (p : Addr) (ls : List Int), vs = [.ref p] ∧ H p = some (.lst (ls.map V.int)) ∧ 1 ≤ ls.length ∧ ls.length ≤ 6 ∧
  ∀ (m : Int) (L : Addr) (H' : Hp), m ∈ ls → (∀ y ∈ ls, y ≤ m) → Same H H' → Bnds H' L m → Q (.ref L) H'
def sp_Settings___init__ (K : PySem.W.Frag) : Sp := fun vs H Q _ => ∃ (a dx p : Addr) (ls : List Int) (sz fo re ev ke : Int), vs = [.ref a, .ref p, .int sz, .int fo, .int re, .int ev, .int ke] ∧ H a = some (.ins (He.ga K "Settings") dx []) ∧
  H p = some (.lst (ls.map V.int)) ∧ SetOk ls sz fo re ev ke ∧ ∀ (t : Addr) (H' : Hp), (∀ b o, b ≠ a → H b = some o → H' b = some o) → H' a = some (.ins (He.ga K "Settings") dx (setF t sz fo re ev ke)) → H' t = some (.tup (ls.map V.int)) → Q .non H'
def sp_check_settings (K : PySem.W.Frag) : Sp := fun vs H Q _ => ∃ (a dx : Addr) (fs : List (Str × V)), vs = [.ref a] ∧ H a = some (.ins (He.ga K "Settings") dx fs) ∧ Q .non H
def sp_rows_from (K : PySem.W.Frag) : Sp := fun vs H Q _ => ∃ (s : Addr) (r : Nat) (ls : List Int) (sz fo re ev ke : Int), vs = [.ref s, .int r] ∧ SetAt K H s ls sz fo re ev ke ∧ LensOk ls sz ∧ Q (.int (Pk.cnt ls sz r : Nat)) H
def sp_Packing_page_with (K : PySem.W.Frag) : Sp := fun vs H Q _ => ∃ (a lp dx : Addr) (ls : List Int) (sz : Int) (j k r : Nat) (fs : List (Str × V)), vs = [.ref a, .int r] ∧ PkF K H a ls sz j k lp dx fs ∧ r < 10 ^ 40 ∧ ∀ m, Pk.On ls sz m r → Q (.int (m : Nat)) H
def sp_Packing___init__ (K : PySem.W.Frag) : Sp := fun vs H Q _ => ∃ (a s dx : Addr) (ls : List Int) (sz fo re ev ke : Int), vs = [.ref a, .ref s] ∧ H a = some (.ins (He.ga K "Packing") dx []) ∧ SetAt K H s ls sz fo re ev ke ∧ LensOk ls sz ∧
  ∀ H', (∀ b o, b ≠ a → H b = some o → H' b = some o) → PackAt K H' a s ls sz → (∀ c zs H2, H c = some (.lst zs) → But c H' H2 → PackAt K H2 a s ls sz) → Q .non H'
def sp_Packing_begun (K : PySem.W.Frag) : Sp := fun vs H Q _ => ∃ (a s : Addr) (ls : List Int) (sz : Int) (r : Nat), vs = [.ref a, .int r] ∧ PackAt K H a s ls sz ∧ r ≤ 10 ^ 30 ∧ (r = 0 → Q (.int 0) H) ∧ ∀ m, 0 < r → Pk.On ls sz m (r - 1) → Q (.int (m + 1 : Nat)) H
theorem begun_one {K : PySem.W.Frag} {vs : List V} {H : Hp} {Q : VK} {E : XK} (h : ∃ (a s : Addr) (ls : List Int) (sz : Int) (r b : Nat), vs = [.ref a, .int r] ∧ PackAt K H a s ls sz ∧ r ≤ 10 ^ 30 ∧ Bg ls sz r b ∧ Q (.int b) H) : sp_Packing_begun K vs H Q E := by
  obtain ⟨a, s, ls, sz, r, b, rfl, PA, h30, hb, q⟩ := h
  obtain ⟨dx, lp, j, k, last, F, -, -⟩ := id PA
  refine ⟨a, s, ls, sz, r, rfl, PA, h30, fun e => ?_, fun m h om => ?_⟩
  · rcases hb with ⟨-, rfl⟩ | ⟨h, -⟩
    · exact q
    · omega
  · rcases hb with ⟨e, -⟩ | ⟨-, m2, om2, rfl⟩
    · omega
    · rw [Pk.On.inj F.ok.pk om om2]
      exact q
def sp_Packing_start_of (K : PySem.W.Frag) : Sp := fun vs H Q _ => ∃ (a s : Addr) (ls : List Int) (sz : Int) (m : Nat), vs = [.ref a, .int m] ∧ PackAt K H a s ls sz ∧ m < 10 ^ 120 ∧ Q (.int (Pk.st ls sz m : Nat)) H
def sp_State___init__ (K : PySem.W.Frag) : Sp := fun vs H Q _ => ∃ (a s dx : Addr) (ls : List Int) (sz : Int) (fo re ev ke : Nat), vs = [.ref a, .ref s] ∧ H a = some (.ins (He.ga K "State") dx []) ∧ SetAt K H s ls sz fo re ev ke ∧ SetOk ls sz fo re ev ke ∧
  ∀ (F : Hp) (p : Addr) (o : Ow) (H' : Hp), Se K F s p ls sz fo re ev ke → StAt K F H' a s p o (St.nil ls sz) → (∀ b u, b ≠ a → H b = some u → F b = some u) → (∀ y ∈ o.all, H y = none) → Q .non H'
def sp_do_checkpoint (K : PySem.W.Frag) : Sp := fun vs H Q _ => ∃ (F : Hp) (a s p e : Addr) (o : Ow) (x : St) (evs : List Ev), vs = [.ref a, .ref e] ∧ StAt K F H a s p o x ∧ EvA F H e a o evs ∧ evs.length ≤ 2000 ∧ x.changed.length ≤ 40000 ∧ x.waiting.length + x.log.length ≤ 40000 ∧ x.free.length ≤ 40000 ∧
  ∀ y es o' H', Chk x y es → StAt K F H' a s p o' y → EvA F H' e a o' (evs ++ es) → Mv a e o H o' H' → Q .non H'
def sp_change_parents (K : PySem.W.Frag) : Sp := fun vs H Q _ => ∃ (F : Hp) (a l e : Addr) (o : Ow) (x : St) (c : Cf) (m : Nat) (us : List V) (ns : List (Nat × Nat)) (evs : List Ev), vs = [.ref a, .int (m : Nat), .ref l] ∧ Se K F c.s c.p c.ls c.sz c.fo c.re c.ev c.ke ∧ StAt K F H a c.s c.p o x ∧ EvA F H e a o evs ∧ H l = some (.lst us) ∧ NdL H us ns ∧ ns.length ≤ 1000 ∧ l ∉ a :: o.all ∧ x.changed.length ≤ 50000 ∧
  ∀ H', StAt K F H' a c.s c.p o (x.chgd c.fo m ns) → EvA F H' e a o evs → Mv a e o H o H' → Q .non H'
def sp_give_back (K : PySem.W.Frag) : Sp := fun vs H Q _ => ∃ (F : Hp) (a s p r e : Addr) (o : Ow) (x : St) (rl : Rl) (pg : Nat) (evs : List Ev), vs = [.ref a, .int (pg : Nat), .ref r, .ref e] ∧ StAt K F H a s p o x ∧ EvA F H e a o evs ∧ H r = some (.tup (rlT rl)) ∧ evs.length ≤ 90000 ∧ x.waiting.length ≤ 90000 ∧
  ∀ H', StAt K F H' a s p o (x.gave pg) → EvA F H' e a o (evs ++ [.give pg rl]) → Mv a e o H o H' → Q .non H'
def sp_expire (K : PySem.W.Frag) : Sp := fun vs H Q _ => ∃ (F : Hp) (a e : Addr) (o : Ow) (x : St) (c : Cf) (evs : List Ev), vs = [.ref a, .ref e] ∧ Se K F c.s c.p c.ls c.sz c.fo c.re c.ev c.ke ∧ StAt K F H a c.s c.p o x ∧ EvA F H e a o evs ∧ x.waiting.length ≤ 40000 ∧ x.changed.length ≤ 40000 ∧ evs.length ≤ 41000 ∧
  ((x.done : Int) - c.ke = (x.oe : Int) - 1 → x.first + 1 < x.after ∧ x.after < 10 ^ 8 ∧ (∃ pg, gtL x.heap x.first = some pg) ∧ ∀ ns, EdN c.fo x.first (x.after - 1) ns → ∀ n ∈ ns, ∃ pg, gtL x.nodes n = some pg) ∧
  ∀ y es H', Exd c x y es → StAt K F H' a c.s c.p o y → EvA F H' e a o (evs ++ es) → Mv a e o H o H' → Q .non H'
def sp_take_page (K : PySem.W.Frag) : Sp := fun vs H Q _ => ∃ (F : Hp) (a s p r e : Addr) (o : Ow) (x : St) (rl : Rl) (evs : List Ev), vs = [.ref a, .ref r, .ref e] ∧ StAt K F H a s p o x ∧ EvA F H e a o evs ∧ H r = some (.tup (rlT rl)) ∧ evs.length ≤ 90000 ∧
  ∀ H', StAt K F H' a s p o x.took.2 → EvA F H' e a o (evs ++ [.take x.took.1 rl]) → Mv a e o H o H' → Q (.int (x.took.1 : Nat)) H'
def sp_begin_heap_page (K : PySem.W.Frag) : Sp := fun vs H Q _ => ∃ (F : Hp) (a e : Addr) (o : Ow) (x : St) (c : Cf) (evs : List Ev), vs = [.ref a, .ref e] ∧ Se K F c.s c.p c.ls c.sz c.fo c.re c.ev c.ke ∧ StAt K F H a c.s c.p o x ∧ EvA F H e a o evs ∧ x.first ≤ x.after ∧ x.after < 10 ^ 8 ∧ gtL x.heap x.after = none ∧ x.heap.length ≤ 40000 ∧ x.nodes.length ≤ 40000 ∧ x.changed.length ≤ 40000 ∧ evs.length ≤ 40000 ∧
  (∀ ns, BgN c.fo x.first x.after ns → ∀ n ∈ ns, gtL x.nodes n = none) ∧
  ∀ ns H', BgN c.fo x.first x.after ns → StAt K F H' a c.s c.p o (x.begn c.ls c.sz c.fo ns).1 → EvA F H' e a o (evs ++ (x.begn c.ls c.sz c.fo ns).2) → Mv a e o H o H' → Q .non H'
def sp_put_row (K : PySem.W.Frag) : Sp := fun vs H Q _ => ∃ (F : Hp) (a e : Addr) (o : Ow) (x : St) (c : Cf) (evs : List Ev), vs = [.ref a, .ref e] ∧ Se K F c.s c.p c.ls c.sz c.fo c.re c.ev c.ke ∧ StAt K F H a c.s c.p o x ∧ EvA F H e a o evs ∧ x.heap.length ≤ 40000 ∧ x.nodes.length ≤ 40000 ∧ x.changed.length ≤ 40000 ∧ evs.length ≤ 40000 ∧
  (x.done = x.nb → x.first ≤ x.after ∧ x.after < 10 ^ 8 ∧ gtL x.heap x.after = none ∧ ∀ ns, BgN c.fo x.first x.after ns → ∀ n ∈ ns, gtL x.nodes n = none) ∧
  (x.done ≠ x.nb → 0 < x.after ∧ ∃ pg, gtL x.heap (x.after - 1) = some pg) ∧
  ∀ y es H', Put c x y es → StAt K F H' a c.s c.p o y → EvA F H' e a o (evs ++ es) → Mv a e o H o H' → Q .non H'
def sp_write_to_log (K : PySem.W.Frag) : Sp := fun vs H Q _ => ∃ (F : Hp) (a s p e : Addr) (o : Ow) (x : St) (ls : List Int) (sz : Int) (fo re ev ke : Nat) (evs : List Ev), vs = [.ref a, .ref e] ∧ Se K F s p ls sz fo re ev ke ∧ StAt K F H a s p o x ∧ EvA F H e a o evs ∧ evs.length ≤ 80000 ∧ x.log.length ≤ 90000 ∧ (x.done % ev % re ≠ 0 → x.log ≠ []) ∧
  ∀ H', StAt K F H' a s p o (x.logd ev re).1 → EvA F H' e a o (evs ++ (x.logd ev re).2) → Mv a e o H o H' → Q .non H'
def sp_do_row (K : PySem.W.Frag) : Sp := fun vs H Q _ => ∃ (F : Hp) (a : Addr) (o : Ow) (x : St) (c : Cf), vs = [.ref a] ∧ Se K F c.s c.p c.ls c.sz c.fo c.re c.ev c.ke ∧ StAt K F H a c.s c.p o x ∧ Rdy c x ∧
  ∀ (e : Addr) (y : St) (es : List Ev) (o' : Ow) (H' : Hp), Row c x y es → H e = none → StAt K F H' a c.s c.p o' y → EvA F H' e a o' es → (∀ b u, b ≠ a → b ∉ o.all → H b = some u → H' b = some u) → (∀ b ∈ o'.all, b ∈ o.all ∨ H b = none) → Q (.ref e) H'
def sp_Store___init__ (K : PySem.W.Frag) : Sp := fun vs H Q _ => ∃ (w s dx : Addr) (ls : List Int) (sz : Int) (fo re ev ke : Nat), vs = [.ref w, .ref s] ∧ H w = some (.ins (He.ga K "Store") dx []) ∧ SetAt K H s ls sz fo re ev ke ∧ SetOk ls sz fo re ev ke ∧
  ∀ (F : Hp) (a p : Addr) (o : Ow) (H' : Hp), Se K F s p ls sz fo re ev ke → StAt K F H' a s p o (St.nil ls sz) → StoAt K H' w a → F w = none → (∀ b u, b ≠ w → H b = some u → F b = some u) → (∀ y ∈ a :: o.all, H y = none) → Q .non H'
def sp_Store_step (K : PySem.W.Frag) : Sp := fun vs H Q _ => ∃ (F : Hp) (w a : Addr) (o : Ow) (x : St) (c : Cf), vs = [.ref w] ∧ StoAt K H w a ∧ Se K F c.s c.p c.ls c.sz c.fo c.re c.ev c.ke ∧ StAt K F H a c.s c.p o x ∧ Rdy c x ∧
  ∀ (e : Addr) (y : St) (es : List Ev) (o' : Ow) (H' : Hp), Row c x y es → H e = none → StAt K F H' a c.s c.p o' y → EvA F H' e a o' es → (∀ b u, b ≠ a → b ∉ o.all → H b = some u → H' b = some u) → (∀ b ∈ o'.all, b ∈ o.all ∨ H b = none) → Q (.ref e) H'
def sp_Store_heap_pages (K : PySem.W.Frag) : Sp := fun vs H Q _ => ∃ (F : Hp) (w a s p : Addr) (o : Ow) (x : St), vs = [.ref w] ∧ StoAt K H w a ∧ StAt K F H a s p o x ∧ ∀ t us H', Same H H' → H t = none → H' t = some (.lst us) → NdL H' us x.heap → Q (.ref t) H'
def sp_Store_node_pages (K : PySem.W.Frag) : Sp := fun vs H Q _ => ∃ (F : Hp) (w a s p : Addr) (o : Ow) (x : St), vs = [.ref w] ∧ StoAt K H w a ∧ StAt K F H a s p o x ∧ (x.nodes.map (·.1)).Nodup ∧ x.nodes.length ≤ 40000 ∧ ∀ t us H', Same H H' → H t = none → H' t = some (.lst us) → TrL H' us (ndl x.nodes) → Q (.ref t) H'
def sp_Store_root (K : PySem.W.Frag) : Sp := fun vs H Q _ => ∃ (F : Hp) (w a s p : Addr) (o : Ow) (x : St), vs = [.ref w] ∧ StoAt K H w a ∧ StAt K F H a s p o x ∧ (x.nodes.map (·.1)).Nodup ∧ x.nodes.length ≤ 40000 ∧ (x.nodes = [] → Q .non H) ∧ ∀ m, (ndl x.nodes).getLast? = some m → ∀ t H', Same H H' → H' t = some (trO m) → Q (.ref t) H'
def sp_Store_log_pages (K : PySem.W.Frag) : Sp := fun vs H Q _ => ∃ (F : Hp) (w a s p : Addr) (o : Ow) (x : St), vs = [.ref w] ∧ StoAt K H w a ∧ StAt K F H a s p o x ∧ ∀ t H', Same H H' → H t = none → H' t = some (.lst (x.log.map nI)) → Q (.ref t) H'
def sp_Store_waiting_pages (K : PySem.W.Frag) : Sp := fun vs H Q _ => ∃ (F : Hp) (w a s p : Addr) (o : Ow) (x : St), vs = [.ref w] ∧ StoAt K H w a ∧ StAt K F H a s p o x ∧ ∀ t H', Same H H' → H t = none → H' t = some (.lst (x.waiting.map nI)) → Q (.ref t) H'
def sp_Store_free_pages (K : PySem.W.Frag) : Sp := fun vs H Q _ => ∃ (F : Hp) (w a s p : Addr) (o : Ow) (x : St) (n : Nat), vs = [.ref w, .int (n : Nat)] ∧ StoAt K H w a ∧ StAt K F H a s p o x ∧ n = x.free.length ∧ n ≤ 1000 ∧ ∀ t H', Same H H' → H t = none → H' t = some (.lst (x.free.reverse.map nI)) → Q (.ref t) H'
def sp_Store_file_size (K : PySem.W.Frag) : Sp := fun vs H Q _ => ∃ (F : Hp) (w a s p : Addr) (o : Ow) (x : St), vs = [.ref w] ∧ StoAt K H w a ∧ StAt K F H a s p o x ∧ Q (.int (x.size : Nat)) H
def sp__law_digits (K : PySem.W.Frag) : Sp := fun vs H Q _ => ∃ (c : Int), vs = [.int c, .int 40] ∧ ∀ (p : Addr) (H' : Hp) (ds : List Int), Same H H' → H p = none → Dg H' p ds → Q (.ref p) H'
def sp__law_parts (K : PySem.W.Frag) : Sp := fun vs H Q _ => ∃ (d : Addr) (ds : List Int), vs = [.ref d] ∧ Dg H d ds ∧
  ∀ (p q : Addr) (ls : List Int) (sz fo re ev ke : Int) (H' : Hp), Same H H' → H p = none → H q = none → PD H' p q ls sz fo re ev ke → SetOk ls sz fo re ev ke → sz ≤ 6 → ls.length ≤ 3 → Q (.ref p) H'
def sp__law_settings (K : PySem.W.Frag) : Sp := fun vs H Q _ => ∃ (p q : Addr) (ls : List Int) (sz fo re ev ke : Int), vs = [.ref p] ∧ PD H p q ls sz fo re ev ke ∧ SetOk ls sz fo re ev ke ∧
  ∀ (a : Addr) (H' : Hp), Same H H' → H a = none → SetAt K H' a ls sz fo re ev ke → Q (.ref a) H'
def sp__law_busy (K : PySem.W.Frag) : Sp := fun vs H Q _ => ∃ (F : Hp) (w a s p : Addr) (o : Ow) (x : St), vs = [.ref w] ∧ StoAt K H w a ∧ StAt K F H a s p o x ∧ (x.nodes.map (·.1)).Nodup ∧ (useL x).length ≤ 1000 ∧ ∀ t H', Same H H' → H t = none → H' t = some (.lst ((useL x).map nI)) → Q (.ref t) H'
def nat (l : List Nat) : List Int := l.map fun n : Nat => (n : Int)
theorem nI_eq (l : List Nat) : l.map nI = (nat l).map V.int := by
  unfold nat
  rw [List.map_map]
  rfl
theorem nat_perm {a b : List Nat} (h : a.Perm b) : (nat a).Perm (nat b) := h.map _
theorem srt_eq {a b : List Int} (h : a.Perm b) (h1 : a.Pairwise (· ≤ ·)) (h2 : b.Pairwise (· ≤ ·)) : a = b := h.eq_of_pairwise (le := (· ≤ ·)) (fun x y _ _ h1 h2 => Int.le_antisymm h1 h2) h1 h2
theorem rg_perm {n : Nat} {l : List Nat} (nd : l.Nodup) (lt : ∀ p ∈ l, p < n) (len : l.length = n) : l.Perm (List.range n) := by
  refine (List.perm_ext_iff_of_nodup nd List.nodup_range).mpr fun p => ⟨fun h => List.mem_range.mpr (lt p h), fun h => ?_⟩
  refine Classical.byContradiction fun z => ?_
  have := nodup_le n (List.nodup_cons.mpr ⟨z, nd⟩) fun q hq => by
    rcases List.mem_cons.mp hq with e | e
    · rw [e]
      exact List.mem_range.mp h
    · exact lt q e
  rw [List.length_cons] at this
  omega
theorem rgV_nat (n : Nat) : rgV 0 (n : Int) = (nat (List.range n)).map V.int := by
  unfold rgV nat
  rw [List.map_map, show ((n : Int) - 0).toNat = n by omega]
  refine List.map_congr_left fun i _ => ?_
  show V.int (0 + (i : Int)) = V.int (i : Int)
  rw [Int.zero_add]
theorem nat_srt (n : Nat) : (nat (List.range n)).Pairwise (· ≤ ·) := by
  unfold nat
  rw [List.pairwise_map]
  exact List.pairwise_lt_range.imp fun h => by omega
theorem erase_at {p : Nat} : ∀ {l : List Nat}, p ∈ l → ∃ j, (nat l)[j]? = some (p : Int) ∧ (∀ m : Nat, m < j → (nat l)[m]? ≠ some (p : Int)) ∧ (nat l).eraseIdx j = nat (l.erase p)
  | [], h => (nomatch h)
  | q :: l, h => by
    by_cases e : q = p
    · subst e
      exact ⟨0, rfl, fun m hm => absurd hm (Nat.not_lt_zero _), by rw [List.erase_cons_head]; rfl⟩
    · have hp : p ∈ l := by
        rcases List.mem_cons.mp h with z | z
        · exact absurd z.symm e
        · exact z
      obtain ⟨j, h1, h2, h3⟩ := erase_at hp
      refine ⟨j + 1, h1, fun m hm => ?_, ?_⟩
      · cases m with
        | zero =>
          intro z
          have : (q : Int) = (p : Int) := Option.some.inj z
          exact e (by omega)
        | succ m => exact h2 m (by omega)
      · rw [List.erase_cons_tail (by simpa using e)]
        show (q : Int) :: (nat l).eraseIdx j = _
        rw [h3]
        rfl
theorem inV_nI (p : Nat) (l : List Nat) : inV (.int (p : Nat)) (l.map nI) = decide (p ∈ l) := by
  induction l with
  | nil => rfl
  | cons q l ih =>
    have : inV (.int (p : Nat)) (nI q :: l.map nI) = (decide ((q : Int) = (p : Int)) || inV (.int (p : Nat)) (l.map nI)) := rfl
    rw [List.map_cons, this, ih, Bool.eq_iff_iff, Bool.or_eq_true, decide_eq_true_eq, decide_eq_true_eq, decide_eq_true_eq, List.mem_cons]
    constructor
    · rintro (z | z)
      · exact .inl (by omega)
      · exact .inr z
    · rintro (z | z)
      · exact .inl (by omega)
      · exact .inr z
theorem flat_nI (l : List Nat) : (l.map nI).all flatV = true := by
  rw [List.all_map, List.all_eq_true]
  intro p _
  rfl
theorem r_inN {K : PySem.W.Frag} {neg : Bool} {p : Nat} {b : Addr} {l : List Nat} {H : Hp} {Q : VK} (h : H b = some (.lst (l.map nI))) (q : Q (.bl (if neg then !decide (p ∈ l) else decide (p ∈ l))) H) : rIn K neg (.int (p : Nat)) (.ref b) H Q :=
  ⟨b, _, rfl, .inl (.of h), rfl, flat_nI l, by rw [inV_nI]; exact q⟩
theorem StAt.kept2 {K : PySem.W.Frag} {F H G : Hp} {a s p v w : Addr} {o : Ow} {x : St} (h : StAt K F H a s p o x) (n1 : v ∉ a :: o.all) (n2 : w ∉ a :: o.all) (f1 : F v = none) (f2 : F w = none) (k : ∀ b u, b ≠ v → b ≠ w → H b = some u → G b = some u) : StAt K F G a s p o x := by
  obtain ⟨dx, ha⟩ := h.at_
  have k' : ∀ {y : Addr} {u : HO}, y ∈ a :: o.all → H y = some u → G y = some u := fun hy z => k _ _ (fun e => n1 (by rw [← e]; exact hy)) (fun e => n2 (by rw [← e]; exact hy)) z
  exact ⟨⟨dx, k' (by simp) ha⟩, k' (by simp [Ow.all]) h.hp, k' (by simp [Ow.all]) h.nd, k' (by simp [Ow.all]) h.lg, k' (by simp [Ow.all]) h.wt, k' (by simp [Ow.all]) h.fr, k' (by simp [Ow.all]) h.ch, h.ne, fun b u z => k _ _ (ne_of_none z f1) (ne_of_none z f2) (h.fz _ _ z), h.own⟩
def sp__law_row_right (K : PySem.W.Frag) : Sp := fun vs H Q _ => ∃ (F : Hp) (w a wl : Addr) (o : Ow) (x : St) (c : Cf) (wr : List Nat), vs = [.ref w, .ref wl] ∧ StoAt K H w a ∧ Se K F c.s c.p c.ls c.sz c.fo c.re c.ev c.ke ∧ StAt K F H a c.s c.p o x ∧ H wl = some (.lst (wr.map nI)) ∧ wl ∉ a :: o.all ∧ CfOk c ∧ c.ke ≤ 100 ∧ 1 ≤ c.ev ∧ c.ev ≤ 40 ∧ Iw c x wr ∧ x.done < 505 ∧
  ∀ (t : Addr) (y : St) (o' : Ow) (wr' : List Nat) (H' : Hp), Iw c y wr' → y.done = x.done + 1 → x.size ≤ y.size → StAt K F H' a c.s c.p o' y → StoAt K H' w a → H' t = some (.lst (wr'.map nI)) → t ∉ a :: o'.all → Q (.ref t) H'
def sp_law (K : PySem.W.Frag) : Sp := fun vs H Q _ => ∃ (a : Addr) (ns : List Int), vs = [.ref a] ∧ SqL K H a (ns.map V.int) ∧ ns.length ≤ 63 ∧ ∀ H', Q (.bl true) H'
local macro_rules | `(tactic| walk_at "side") => `(tactic| first
  | assumption
  | decide
  | exact ⟨by decide, by decide⟩
  | exact ⟨by decide, by decide, by decide⟩
  | exact Or.inl ⟨by decide, by decide⟩
  | exact Or.inr ⟨by decide, by decide⟩
  | omega
  | exact ⟨by omega, by omega⟩
  | exact Or.inl ⟨by omega, by omega⟩
  | exact Or.inr ⟨by omega, by omega⟩)
local macro_rules | `(tactic| walk_at "seq") => `(tactic| first
  | assumption
  | exact SqL.of (by assumption)
  | exact SqT.of (by assumption)
  | exact SqL.of upd_same
  | exact SqT.of upd_same)
local macro_rules | `(tactic| walk_at "var") => `(tactic| first
  | with_reducible refine r_v0 ?_
  | with_reducible refine r_v1 ?_
  | with_reducible refine r_v2 ?_
  | with_reducible refine r_v3 ?_
  | with_reducible refine r_v4 ?_
  | with_reducible refine r_v5 ?_
  | with_reducible refine r_v6 ?_
  | with_reducible refine r_v7 ?_
  | with_reducible refine r_v8 ?_
  | with_reducible refine r_v9 ?_
  | with_reducible refine r_v10 ?_
  | with_reducible refine r_v11 ?_
  | with_reducible refine r_v12 ?_
  | with_reducible refine r_v13 ?_
  | with_reducible refine r_v14 ?_
  | with_reducible refine r_v15 ?_
  | with_reducible refine r_v16 ?_
  | with_reducible refine r_v17 ?_
  | with_reducible refine r_v18 ?_
  | with_reducible refine r_v19 ?_
  | with_reducible refine r_v20 ?_
  | with_reducible refine r_v21 ?_)
local macro_rules | `(tactic| walk_at "nam") => `(tactic| first
  | with_reducible refine r_g0 ?_
  | with_reducible refine r_g1 ?_
  | with_reducible refine r_g2 ?_
  | with_reducible refine r_g3 ?_
  | with_reducible refine r_g4 ?_
  | with_reducible refine r_g5 ?_
  | with_reducible refine r_g6 ?_
  | with_reducible refine r_g7 ?_
  | with_reducible refine r_g8 ?_
  | with_reducible refine r_g9 ?_
  | with_reducible refine r_g10 ?_
  | with_reducible refine r_g11 ?_
  | with_reducible refine r_g12 ?_
  | with_reducible refine r_g13 ?_
  | with_reducible refine r_g14 ?_
  | with_reducible refine r_g15 ?_
  | with_reducible refine r_g16 ?_
  | with_reducible refine r_g17 ?_
  | with_reducible refine r_g18 ?_
  | with_reducible refine r_g19 ?_
  | with_reducible refine r_g20 ?_
  | with_reducible refine r_g21 ?_)
local macro_rules | `(tactic| walk_at "aug") => `(tactic| first
  | with_reducible refine r_aug0 ?_
  | with_reducible refine r_aug1 ?_
  | with_reducible refine r_aug2 ?_
  | with_reducible refine r_aug3 ?_
  | with_reducible refine r_aug4 ?_
  | with_reducible refine r_aug5 ?_
  | with_reducible refine r_aug6 ?_
  | with_reducible refine r_aug7 ?_
  | with_reducible refine r_aug8 ?_
  | with_reducible refine r_aug9 ?_
  | with_reducible refine r_aug10 ?_
  | with_reducible refine r_aug11 ?_
  | with_reducible refine r_aug12 ?_
  | with_reducible refine r_aug13 ?_
  | with_reducible refine r_aug14 ?_
  | with_reducible refine r_aug15 ?_
  | with_reducible refine r_aug16 ?_
  | with_reducible refine r_aug17 ?_
  | with_reducible refine r_aug18 ?_
  | with_reducible refine r_aug19 ?_
  | with_reducible refine r_aug20 ?_
  | with_reducible refine r_aug21 ?_)
local macro_rules | `(tactic| walk_at "s") => `(tactic| first
  | walk_at "var"
  | with_reducible refine r_seq ?_
  | with_reducible refine r_asg ?_
  | with_reducible refine r_tC ?_
  | with_reducible refine r_op ?_
  | with_reducible refine r_cons ?_
  | with_reducible refine r_nil ?_
  | with_reducible refine r_CB ?_
  | with_reducible refine r_I0 ?_
  | with_reducible refine r_ret ?_
  | with_reducible refine r_call ?_
  | with_reducible refine r_ifS ?_
  | with_reducible refine r_test ?_
  | with_reducible refine r_tB ?_
  | with_reducible refine r_bl ?_
  | with_reducible refine r_int1 ?_
  | with_reducible refine r_max2 ?_
  | with_reducible refine r_min2 ?_
  | with_reducible refine r_and ?_
  | with_reducible refine r_or ?_
  | with_reducible refine r_not ?_
  | with_reducible refine r_andV ?_
  | with_reducible refine r_orV ?_
  | with_reducible refine r_notV ?_
  | with_reducible refine r_if ?_
  | with_reducible refine r_drop ?_
  | with_reducible refine r_next ?_
  | with_reducible refine r_gSub ?_
  | with_reducible refine r_gCons ?_
  | with_reducible refine r_gNil ?_
  | with_reducible refine r_tup ?_
  | with_reducible refine r_lst ?_
  | with_reducible refine r_un ?_
  | with_reducible refine r_U ?_
  | with_reducible refine r_chain ?_
  | with_reducible refine r_fld ?_
  | with_reducible refine r_sFld ?_
  | with_reducible refine r_meth ?_
  | with_reducible refine r_mkK ?_
  | with_reducible refine r_mk ?_
  | with_reducible refine r_sl ?_
  | with_reducible refine r_part ?_
  | with_reducible refine r_po ?_
  | with_reducible refine r_nopart ?_
  | with_reducible refine r_BM ?_
  | with_reducible refine r_tru ?_
  | with_reducible refine r_lc ?_
  | with_reducible refine r_dnotin ?_
  | with_reducible refine r_din ?_
  | with_reducible refine r_dget ?_
  | with_reducible refine r_dput ?_
  | with_reducible refine r_dnew ?_
  | with_reducible refine r_for ?_
  | with_reducible refine r_list ?_
  | with_reducible refine r_tupI ?_
  | with_reducible refine r_rng1 ?_
  | with_reducible refine r_rng2 ?_
  | with_reducible refine r_yes ?_
  | with_reducible refine r_par ?_
  | with_reducible refine r_two ?_
  | with_reducible refine r_par3 ?_
  | with_reducible refine r_tri ?_
  | with_reducible refine r_enum ?_
  | with_reducible refine r_ip ?_
  | with_reducible refine r_eqI ?_
  | with_reducible refine r_neI ?_
  | with_reducible refine r_eqS ?_
  | with_reducible refine r_neS ?_
  | with_reducible refine r_neB ?_
  | with_reducible refine r_eqB ?_
  | with_reducible refine r_BM0 ?_
  | with_reducible refine r_lstRg ?_
  | with_reducible refine r_rgA ?_
  | with_reducible refine iteT ?_
  | with_reducible refine iteF ?_
  | with_reducible refine iteNt ?_
  | with_reducible refine iteNf ?_
  | ((with_reducible refine' r_I ?k1 ?_); (case k1 => walk_at "side"))
  | ((with_reducible refine' r_ixL ?k1 ?k2 ?_); (case k1 => walk_at "seq"); (case k2 => rfl))
  | ((with_reducible refine' r_ixT ?k1 ?k2 ?_); (case k1 => walk_at "seq"); (case k2 => rfl))
  | ((with_reducible refine' r_lenL ?k1 ?_); (case k1 => walk_at "seq"))
  | ((with_reducible refine' r_lenT ?k1 ?_); (case k1 => walk_at "seq"))
  | ((with_reducible refine' r_sum ?k1 ?_); (case k1 => walk_at "seq"))
  | ((with_reducible refine' r_sumT ?k1 ?_); (case k1 => walk_at "seq"))
  | ((with_reducible refine' r_tupOf ?k1 ?_); (case k1 => walk_at "seq"))
  | ((with_reducible refine' r_listOf ?k1 ?_); (case k1 => walk_at "seq"))
  | ((with_reducible refine' r_slL ?k1 ?_); (case k1 => walk_at "seq"))
  | ((with_reducible refine' r_sq ?k1 ?_); (case k1 => walk_at "seq"))
  | ((with_reducible refine' r_sqT ?k1 ?_); (case k1 => walk_at "seq"))
  | ((with_reducible refine' r_en ?k1 ?_); (case k1 => walk_at "seq"))
  | ((with_reducible refine' r_tyL ?k1 ?_); (case k1 => walk_at "seq"))
  | ((with_reducible refine' r_gTup ?k1 ?k2 ?_); (case k1 => walk_at "seq"); (case k2 => rfl))
  | ((with_reducible refine' r_setL ?k1 ?k2 ?_); (case k1 => assumption); (case k2 => rfl))
  | ((with_reducible refine' r_fd ?k1 ?k2 ?k3 ?k4 ?_); (case k1 => assumption); (case k2 => assumption); (case k3 => assumption); (case k4 => first | rfl | assumption))
  | ((with_reducible refine' r_obj ?k1 ?k2 ?_); (case k1 => assumption); (case k2 => rfl))
  | ((with_reducible refine' r_rg1 ?k1 ?_); (case k1 => walk_at "side"))
  | ((with_reducible refine' r_rg2 ?k1 ?_); (case k1 => walk_at "side"))
  | ((with_reducible refine' r_sz ?k1 ?_); (case k1 => (show _ ≤ _; simp)))
  | walk_at "nam"
  | walk_at "aug")
local macro_rules | `(tactic| walk_at "ss") => `(tactic| repeat walk_at "s")
local macro_rules | `(tactic| walk_at "sj") => `(tactic| repeat ((fail_if_success (with_reducible refine r_if ?_)); walk_at "s"))

theorem ok_is_from {P : Program} {w : World} {K : PySem.W.Frag} {mg : Str → Option Value} {base : Heap} {f : Addr} {fd : FuncData} (F : FunD K "is_from" "is_from" (defArgs s_is_from) (defBody s_is_from) (defScope s_is_from) [] [] f fd) (n_bool : mg "bool" = none) (n_int : mg "int" = none) (n_isinstance : mg "isinstance" = none) : FnOk P w K mg base CX0 1 f fd ["number", "least"] (sp_is_from K) := by
  refine F.ok sc_is_from (fun vs H Q E h => by first | (obtain ⟨rfl, _⟩ := h; rfl) | (obtain ⟨_, rfl, _⟩ := h; rfl) | (obtain ⟨_, _, rfl, _⟩ := h; rfl) | (obtain ⟨_, _, _, rfl, _⟩ := h; rfl) | (obtain ⟨_, _, _, _, rfl, _⟩ := h; rfl) | (obtain ⟨_, _, _, _, _, rfl, _⟩ := h; rfl) | (obtain ⟨_, _, _, _, _, _, rfl, _⟩ := h; rfl) | (obtain ⟨_, _, _, _, _, _, _, rfl, _⟩ := h; rfl) | (obtain ⟨_, _, _, _, _, _, _, _, rfl, _⟩ := h; rfl) | (obtain ⟨_, _, _, _, _, _, _, _, _, rfl, _⟩ := h; rfl) | (obtain ⟨_, _, _, _, _, _, _, _, _, _, rfl, _⟩ := h; rfl) | (obtain ⟨_, _, _, _, _, _, _, _, _, _, _, rfl, _⟩ := h; rfl) | (obtain ⟨_, _, _, _, _, _, _, _, _, _, _, _, rfl, _⟩ := h; rfl) | (obtain ⟨_, _, _, _, _, _, _, _, _, _, _, _, _, rfl, _⟩ := h; rfl) | (obtain ⟨_, _, _, _, _, _, _, _, _, _, _, _, _, _, rfl, _⟩ := h; rfl) | (obtain ⟨_, _, _, _, _, _, _, _, _, _, _, _, _, _, _, rfl, _⟩ := h; rfl) | (obtain ⟨_, _, _, _, _, _, _, _, _, _, _, _, _, _, _, _, rfl, _⟩ := h; rfl) | (obtain ⟨_, _, _, _, _, _, _, _, _, _, _, _, _, _, _, _, _, rfl, _⟩ := h; rfl)) (fun cdv A outer s H vs Q E hr h => ?_)
  · have hu := hu_of hr
    obtain ⟨n, a, rfl, q⟩ := h
    refine ⟨_, PSs.nox (pss_one (ps_ret (pe_and (pe_callB (id := "isinstance") call_isi rfl n_isinstance (by decide +kernel) (pa_cons (pv 0) (pa_cons (Kr.pe_bty (T := "int") n_int) pa_nil))) (pe_and (pe_not (pe_callB (id := "isinstance") call_isi rfl n_isinstance (by decide +kernel) (pa_cons (pv 0) (pa_cons (Kr.pe_bty (T := "bool") n_bool) pa_nil)))) (pe_one (pe_cmpR op_le (pv 1) (pv 0) (nomark _))))))), ?_⟩
    rw [st_is_from]
    walk_at "ss"
    refine r_isiT (.base (.int n)) (b := true) (by decide +kernel) ?_
    walk_at "ss"
    refine r_isiT (.base (.int n)) (b := false) (by decide +kernel) ?_
    walk_at "ss"
    exact q
theorem ok_is_within {P : Program} {w : World} {K : PySem.W.Frag} {mg : Str → Option Value} {base : Heap} {f : Addr} {fd : FuncData} (F : FunD K "is_within" "is_within" (defArgs s_is_within) (defBody s_is_within) (defScope s_is_within) [] [] f fd) (h_is_from : Kr.FnH P w K mg base CX0 1 "is_from" ["number", "least"] (sp_is_from K)) : FnOk P w K mg base CX0 2 f fd ["number", "least", "most"] (sp_is_within K) := by
  refine F.ok sc_is_within (fun vs H Q E h => by first | (obtain ⟨rfl, _⟩ := h; rfl) | (obtain ⟨_, rfl, _⟩ := h; rfl) | (obtain ⟨_, _, rfl, _⟩ := h; rfl) | (obtain ⟨_, _, _, rfl, _⟩ := h; rfl) | (obtain ⟨_, _, _, _, rfl, _⟩ := h; rfl) | (obtain ⟨_, _, _, _, _, rfl, _⟩ := h; rfl) | (obtain ⟨_, _, _, _, _, _, rfl, _⟩ := h; rfl) | (obtain ⟨_, _, _, _, _, _, _, rfl, _⟩ := h; rfl) | (obtain ⟨_, _, _, _, _, _, _, _, rfl, _⟩ := h; rfl) | (obtain ⟨_, _, _, _, _, _, _, _, _, rfl, _⟩ := h; rfl) | (obtain ⟨_, _, _, _, _, _, _, _, _, _, rfl, _⟩ := h; rfl) | (obtain ⟨_, _, _, _, _, _, _, _, _, _, _, rfl, _⟩ := h; rfl) | (obtain ⟨_, _, _, _, _, _, _, _, _, _, _, _, rfl, _⟩ := h; rfl) | (obtain ⟨_, _, _, _, _, _, _, _, _, _, _, _, _, rfl, _⟩ := h; rfl) | (obtain ⟨_, _, _, _, _, _, _, _, _, _, _, _, _, _, rfl, _⟩ := h; rfl) | (obtain ⟨_, _, _, _, _, _, _, _, _, _, _, _, _, _, _, rfl, _⟩ := h; rfl) | (obtain ⟨_, _, _, _, _, _, _, _, _, _, _, _, _, _, _, _, rfl, _⟩ := h; rfl) | (obtain ⟨_, _, _, _, _, _, _, _, _, _, _, _, _, _, _, _, _, rfl, _⟩ := h; rfl)) (fun cdv A outer s H vs Q E hr h => ?_)
  · have hu := hu_of hr
    obtain ⟨n, a, b, rfl, q⟩ := h
    refine ⟨_, PSs.nox (pss_one (ps_ret (pe_and (Kr.pe_cl h_is_from (hr.mono (by decide)) (pa_cons (pv 0) (pa_cons (pv 1) pa_nil))) (pe_one (pe_cmpR op_le (pv 0) (pv 2) (nomark _)))))), ?_⟩
    rw [st_is_within]
    walk_at "ss"
    refine ⟨_, _, rfl, ?_⟩
    walk_at "ss"
    refine r_dec (fun h1 => ?_) fun h1 => ?_
    · walk_at "ss"
      have e : decide (n ≤ b) = decide (a ≤ n ∧ n ≤ b) := by simp [h1]
      rw [e]
      exact q
    · have e : false = decide (a ≤ n ∧ n ≤ b) := by simp [h1]
      rw [e]
      exact q
theorem ok_check_number {P : Program} {w : World} {K : PySem.W.Frag} {mg : Str → Option Value} {base : Heap} {f : Addr} {fd : FuncData} (F : FunD K "check_number" "check_number" (defArgs s_check_number) (defBody s_check_number) (defScope s_check_number) [] [] f fd) (h_is_within : Kr.FnH P w K mg base CX0 2 "is_within" ["number", "least", "most"] (sp_is_within K)) : FnOk P w K mg base CX0 3 f fd ["number", "least", "most"] (sp_check_number K) := by
  refine F.ok sc_check_number (fun vs H Q E h => by first | (obtain ⟨rfl, _⟩ := h; rfl) | (obtain ⟨_, rfl, _⟩ := h; rfl) | (obtain ⟨_, _, rfl, _⟩ := h; rfl) | (obtain ⟨_, _, _, rfl, _⟩ := h; rfl) | (obtain ⟨_, _, _, _, rfl, _⟩ := h; rfl) | (obtain ⟨_, _, _, _, _, rfl, _⟩ := h; rfl) | (obtain ⟨_, _, _, _, _, _, rfl, _⟩ := h; rfl) | (obtain ⟨_, _, _, _, _, _, _, rfl, _⟩ := h; rfl) | (obtain ⟨_, _, _, _, _, _, _, _, rfl, _⟩ := h; rfl) | (obtain ⟨_, _, _, _, _, _, _, _, _, rfl, _⟩ := h; rfl) | (obtain ⟨_, _, _, _, _, _, _, _, _, _, rfl, _⟩ := h; rfl) | (obtain ⟨_, _, _, _, _, _, _, _, _, _, _, rfl, _⟩ := h; rfl) | (obtain ⟨_, _, _, _, _, _, _, _, _, _, _, _, rfl, _⟩ := h; rfl) | (obtain ⟨_, _, _, _, _, _, _, _, _, _, _, _, _, rfl, _⟩ := h; rfl) | (obtain ⟨_, _, _, _, _, _, _, _, _, _, _, _, _, _, rfl, _⟩ := h; rfl) | (obtain ⟨_, _, _, _, _, _, _, _, _, _, _, _, _, _, _, rfl, _⟩ := h; rfl) | (obtain ⟨_, _, _, _, _, _, _, _, _, _, _, _, _, _, _, _, rfl, _⟩ := h; rfl) | (obtain ⟨_, _, _, _, _, _, _, _, _, _, _, _, _, _, _, _, _, rfl, _⟩ := h; rfl)) (fun cdv A outer s H vs Q E hr h => ?_)
  · have hu := hu_of hr
    obtain ⟨n, a, b, rfl, h1, h2, q⟩ := h
    refine ⟨_, PSs.nox (pss_one (ps_if (pt_not (pt_val (Kr.pe_cl h_is_within (hr.mono (by decide)) (pa_cons (pv 0) (pa_cons (pv 1) (pa_cons (pv 2) pa_nil)))))) (pss_one ps_never) pss_nil)), ?_⟩
    rw [st_check_number]
    walk_at "ss"
    refine ⟨_, _, _, rfl, ?_⟩
    walk_at "ss"
    refine r_decN (fun ne => absurd ⟨h1, h2⟩ ne) fun _ => ?_
    walk_at "ss"
    exact q
theorem ok_check_moment {P : Program} {w : World} {K : PySem.W.Frag} {mg : Str → Option Value} {base : Heap} {f : Addr} {fd : FuncData} (F : FunD K "check_moment" "check_moment" (defArgs s_check_moment) (defBody s_check_moment) (defScope s_check_moment) [] [] f fd) (g_ROWS : ∃ t, mg "ROWS" = some (.int 1000000000000000000000000000000 t)) (h_check_number : Kr.FnH P w K mg base CX0 3 "check_number" ["number", "least", "most"] (sp_check_number K)) : FnOk P w K mg base CX0 4 f fd ["moment"] (sp_check_moment K) := by
  refine F.ok sc_check_moment (fun vs H Q E h => by first | (obtain ⟨rfl, _⟩ := h; rfl) | (obtain ⟨_, rfl, _⟩ := h; rfl) | (obtain ⟨_, _, rfl, _⟩ := h; rfl) | (obtain ⟨_, _, _, rfl, _⟩ := h; rfl) | (obtain ⟨_, _, _, _, rfl, _⟩ := h; rfl) | (obtain ⟨_, _, _, _, _, rfl, _⟩ := h; rfl) | (obtain ⟨_, _, _, _, _, _, rfl, _⟩ := h; rfl) | (obtain ⟨_, _, _, _, _, _, _, rfl, _⟩ := h; rfl) | (obtain ⟨_, _, _, _, _, _, _, _, rfl, _⟩ := h; rfl) | (obtain ⟨_, _, _, _, _, _, _, _, _, rfl, _⟩ := h; rfl) | (obtain ⟨_, _, _, _, _, _, _, _, _, _, rfl, _⟩ := h; rfl) | (obtain ⟨_, _, _, _, _, _, _, _, _, _, _, rfl, _⟩ := h; rfl) | (obtain ⟨_, _, _, _, _, _, _, _, _, _, _, _, rfl, _⟩ := h; rfl) | (obtain ⟨_, _, _, _, _, _, _, _, _, _, _, _, _, rfl, _⟩ := h; rfl) | (obtain ⟨_, _, _, _, _, _, _, _, _, _, _, _, _, _, rfl, _⟩ := h; rfl) | (obtain ⟨_, _, _, _, _, _, _, _, _, _, _, _, _, _, _, rfl, _⟩ := h; rfl) | (obtain ⟨_, _, _, _, _, _, _, _, _, _, _, _, _, _, _, _, rfl, _⟩ := h; rfl) | (obtain ⟨_, _, _, _, _, _, _, _, _, _, _, _, _, _, _, _, _, rfl, _⟩ := h; rfl)) (fun cdv A outer s H vs Q E hr h => ?_)
  · have hu := hu_of hr
    obtain ⟨r, rfl, h30, q⟩ := h
    refine ⟨_, PSs.nox (pss_one (ps_expr (Kr.pe_cl h_check_number (hr.mono (by decide)) (pa_cons (pv 0) (pa_cons pe_int (pa_cons (Kr.pe_gint g_ROWS) pa_nil)))))), ?_⟩
    rw [st_check_moment]
    walk_at "ss"
    refine ⟨_, _, _, rfl, by omega, by omega, ?_⟩
    walk_at "ss"
    exact q
theorem ok_nodes_beyond {P : Program} {w : World} {K : PySem.W.Frag} {mg : Str → Option Value} {base : Heap} {f : Addr} {fd : FuncData} (F : FunD K "nodes_beyond" "nodes_beyond" (defArgs s_nodes_beyond) (defBody s_nodes_beyond) (defScope s_nodes_beyond) [] [] f fd) (n_len : mg "len" = none) : FnOk P w K mg base CX0 1 f fd ["fanout", "first", "last", "low", "high"] (sp_nodes_beyond K) := by
  refine F.ok sc_nodes_beyond (fun vs H Q E h => by first | (obtain ⟨rfl, _⟩ := h; rfl) | (obtain ⟨_, rfl, _⟩ := h; rfl) | (obtain ⟨_, _, rfl, _⟩ := h; rfl) | (obtain ⟨_, _, _, rfl, _⟩ := h; rfl) | (obtain ⟨_, _, _, _, rfl, _⟩ := h; rfl) | (obtain ⟨_, _, _, _, _, rfl, _⟩ := h; rfl) | (obtain ⟨_, _, _, _, _, _, rfl, _⟩ := h; rfl) | (obtain ⟨_, _, _, _, _, _, _, rfl, _⟩ := h; rfl) | (obtain ⟨_, _, _, _, _, _, _, _, rfl, _⟩ := h; rfl) | (obtain ⟨_, _, _, _, _, _, _, _, _, rfl, _⟩ := h; rfl) | (obtain ⟨_, _, _, _, _, _, _, _, _, _, rfl, _⟩ := h; rfl) | (obtain ⟨_, _, _, _, _, _, _, _, _, _, _, rfl, _⟩ := h; rfl) | (obtain ⟨_, _, _, _, _, _, _, _, _, _, _, _, rfl, _⟩ := h; rfl) | (obtain ⟨_, _, _, _, _, _, _, _, _, _, _, _, _, rfl, _⟩ := h; rfl) | (obtain ⟨_, _, _, _, _, _, _, _, _, _, _, _, _, _, rfl, _⟩ := h; rfl) | (obtain ⟨_, _, _, _, _, _, _, _, _, _, _, _, _, _, _, rfl, _⟩ := h; rfl) | (obtain ⟨_, _, _, _, _, _, _, _, _, _, _, _, _, _, _, _, rfl, _⟩ := h; rfl) | (obtain ⟨_, _, _, _, _, _, _, _, _, _, _, _, _, _, _, _, _, rfl, _⟩ := h; rfl)) (fun cdv A outer s H vs Q E hr h => ?_)
  · have hu := hu_of hr
    obtain ⟨f, a, b, c, d, rfl, f2, f8, ab, hb, cas⟩ := h
    refine ⟨_, PSs.nox (pss_cons (ps_set (i := 5) sc_nodes_beyond.nd rfl (.inl rfl) (pe_lst pa_nil)) (pss_cons (ps_set (i := 6) sc_nodes_beyond.nd rfl (.inl rfl) pe_int) (pss_cons (ps_set (i := 7) sc_nodes_beyond.nd rfl (.inl rfl) (pv 0)) (pss_cons (ps_set (i := 8) sc_nodes_beyond.nd rfl (.inl rfl) (pe_cmpR op_gt (pv 3) (pv 4) (nomark _))) (pss_one (ps_while PassesOwn.never (pt_val pe_bl) (pss_cons (ps_set (i := 9) sc_nodes_beyond.nd rfl (.inl rfl) (pe_callB (id := "len") Kr.c_len rfl n_len (by decide +kernel) (pa_cons (pv 5) pa_nil))) (pss_cons (ps_set (i := 10) sc_nodes_beyond.nd rfl (.inl rfl) (pe_op op_fdivW (pv 1) (pv 7))) (pss_cons (ps_set (i := 11) sc_nodes_beyond.nd rfl (.inl rfl) (pe_op op_fdivW (pv 2) (pv 7))) (C8.pss_cut (ps_if (PW.pt (pw_or (pt_val (pv 8)) (pw_or1 (pt_cmpR op_lt (pv 10) (pe_op op_fdivW (pv 3) (pv 7)) (nomark _))))) (pss_one (ps_expr (pe_bm PySem.F.plainAttrs_list PySem.F.slot_list_append PySem.F.type_list_append mt_append (pv 5) (pa_cons (pe_tup (pa_cons (pv 6) (pa_cons (pv 10) pa_nil))) pa_nil)))) pss_nil) (C8.pss_cut (ps_if (PW.pt (pw_and (pt_cmpR op_lt (pv 10) (pv 11) (nomark _)) (pw_and1 (PW.pt (pw_or (pt_val (pv 8)) (pw_or1 (pt_cmpR op_lt (pe_op op_fdivW (pv 4) (pv 7)) (pv 11) (nomark _)))))))) (pss_one (ps_expr (pe_bm PySem.F.plainAttrs_list PySem.F.slot_list_append PySem.F.type_list_append mt_append (pv 5) (pa_cons (pe_tup (pa_cons (pv 6) (pa_cons (pv 11) pa_nil))) pa_nil)))) pss_nil) (pss_cons (ps_if (PW.pt (pw_or (pt_cmpR op_eq (pv 10) (pv 11) (nomark _)) (pw_or1 (pt_cmpR op_eq (pe_callB (id := "len") Kr.c_len rfl n_len (by decide +kernel) (pa_cons (pv 5) pa_nil)) (pv 9) (nomark _))))) (pss_one (ps_ret (pv 5))) pss_nil) (pss_cons (ps_set (i := 8) sc_nodes_beyond.nd rfl (.inl rfl) (pe_or (pv 8) (pe_one (pe_cmpR op_eq (pe_op op_fdivW (pv 3) (pv 7)) (pe_op op_fdivW (pv 4) (pv 7)) (nomark _))))) (pss_cons (ps_aug (i := 6) sc_nodes_beyond.nd rfl (.inl rfl) pe_int ip_add) (pss_one (ps_aug (i := 7) sc_nodes_beyond.nd rfl (.inl rfl) (pv 0) Kr.ip_mul)))))))))))))))), ?_⟩
    rw [st_nodes_beyond]
    walk_at "ss"
    refine r_newS fun nd H1 hnd s1 e1 => ?_
    walk_at "ss"
    rcases cas with ⟨rfl, dc, q⟩ | ⟨e, rfl, nb, q⟩
    · rw [decide_eq_true dc]
      have cf : CDivW (a : Int) (f : Int) := wide_div (b := 64) (by omega) (by omega) (by decide) (by decide)
      walk_at "ss"
      refine r_while (fun m σ H' => m = 0 ∧ H' = H1 ∧ σ = [some (.int f), some (.int a), some (.int a), some (.int c), some (.int d), some (.ref nd), some (.int 0), some (.int f), some (.bl true), none, none, none]) 0 ⟨rfl, rfl, rfl⟩ ?_
      rintro m σ H' ⟨rfl, rfl, rfl⟩
      walk_at "ss"
      refine r_whT ?_
      walk_at "ss"
      refine ⟨fun σ' H2 => ∃ t vs, Same H H2 ∧ H2 nd = some (.lst vs) ∧ NdL H2 vs [(0, a / f)] ∧ σ' = [some (.int f), some (.int a), some (.int a), some (.int c), some (.int d), some (.ref nd), some (.int 0), some (.int f), some (.bl true), some (.int 0), some t, some t] ∧ t = .int (a / f : Nat), ?_, ?_⟩
      · walk_at "ss"
        refine r_newS fun t H2 ht s2 e2 => ?_
        walk_at "ss"
        refine r_append (s2 _ _ e1) (by decide) ?_
        walk_at "ss"
        have tn : t ≠ nd := (ne_of_none e1 ht).symm
        refine ⟨_, _, fun b o e => ?_, upd_same, NdL.one ?_, rfl, rfl⟩
        · rw [upd_ne (ne_of_none e hnd)]
          exact s2 _ _ (s1 _ _ e)
        · rw [upd_ne tn, e2]
          rfl
      rintro σ' H2 ⟨t, vs, s2, e2, nl, rfl, rfl⟩
      have vl := nl.len
      refine ⟨fun σ' H3 => H3 = H2 ∧ σ' = [some (.int f), some (.int a), some (.int a), some (.int c), some (.int d), some (.ref nd), some (.int 0), some (.int f), some (.bl true), some (.int 0), some (.int (a / f : Nat)), some (.int (a / f : Nat))], ?_, ?_⟩
      · walk_at "ss"
        rw [decide_eq_false (Int.lt_irrefl _)]
        walk_at "ss"
        exact ⟨rfl, rfl⟩
      rintro σ' H3 ⟨rfl, rfl⟩
      walk_at "ss"
      rw [decide_eq_true rfl]
      walk_at "ss"
      exact q nd vs _ s2 hnd e2 nl
    · obtain ⟨L, hL, hr⟩ := nb_ex (c := c) (d := e) f2 ab (Nat.lt_trans hb (by decide))
      rw [decide_eq_false (show ¬ (e : Int) < (c : Int) by have := nb.cd; omega)]
      walk_at "ss"
      refine r_while (fun m σ H' => ∃ (l : Nat) (vs : List V) (x9 x10 x11 : Option V), m = 133 - l ∧ l ≤ L ∧ Same H H' ∧ H' nd = some (.lst vs) ∧ NdL H' vs ((List.range l).flatMap (nbL f a b c e)) ∧ σ = [some (.int f), some (.int a), some (.int b), some (.int c), some (.int e), some (.ref nd), some (.int l), some (.int (f ^ (l + 1) : Nat)), some (.bl (abF f c e l)), x9, x10, x11]) _
        ⟨0, [], none, none, none, rfl, by omega, s1, e1, NdL.nil, by rw [Nat.zero_add, Nat.pow_one]; rfl⟩ ?_
      rintro m σ H2 ⟨l, vs, x9, x10, x11, rfl, hl, s2, e2, nl, rfl⟩
      have vl := nl.len
      have fl := nbs_len (f := f) (a := a) (b := b) (c := c) (d := e) l
      have w0 := wd_pos (f := f) (l := l + 1) f2
      have cd := wd_div (f := f) (l := l + 1) f2 f8 (by omega)
      obtain ⟨ab', hab⟩ : ∃ x, x = abF f c e l := ⟨_, rfl⟩
      have habs : abF f c e (l + 1) = (ab' || decide (c / f ^ (l + 1) = e / f ^ (l + 1))) := by rw [hab]; rfl
      have hp1 : nbL f a b c e l = (if ab' = true ∨ a / f ^ (l + 1) < c / f ^ (l + 1) then [(l, a / f ^ (l + 1))] else []) ++ (if a / f ^ (l + 1) < b / f ^ (l + 1) ∧ (ab' = true ∨ e / f ^ (l + 1) < b / f ^ (l + 1)) then [(l, b / f ^ (l + 1))] else []) := by rw [hab]; rfl
      have hr1 := hr.1
      have hr2 := hr.2 l
      have fs : (List.range (l + 1)).flatMap (nbL f a b c e) = (List.range l).flatMap (nbL f a b c e) ++ nbL f a b c e l := by rw [List.range_succ, List.flatMap_append, List.flatMap_singleton]
      have wS : f ^ (l + 1 + 1) = f ^ (l + 1) * f := Nat.pow_succ f (l + 1)
      have hlog := pw_log (b := f) (i := l + 1) f8 (by omega)
      rw [← hab]
      have hstop : (a / f ^ (l + 1) = b / f ^ (l + 1) ∨ nbL f a b c e l = []) → l = L := fun z => Classical.byContradiction fun y => by
        have h3 := hr2 (by omega)
        rcases z with z | z
        · exact h3.1 z
        · exact h3.2 z
      obtain ⟨W, hW⟩ : ∃ W, W = f ^ (l + 1) := ⟨_, rfl⟩
      rw [← hW] at w0 cd habs hp1 wS hlog hstop ⊢
      walk_at "ss"
      refine r_whT ?_
      walk_at "ss"
      rw [show (a : Int) / (W : Int) = ((a / W : Nat) : Int) from rfl, show (b : Int) / (W : Int) = ((b / W : Nat) : Int) from rfl]
      obtain ⟨A, hA⟩ : ∃ A, A = a / W := ⟨_, rfl⟩
      obtain ⟨B, hB⟩ : ∃ B, B = b / W := ⟨_, rfl⟩
      obtain ⟨C, hC⟩ : ∃ C, C = c / W := ⟨_, rfl⟩
      obtain ⟨E', hE⟩ : ∃ E', E' = e / W := ⟨_, rfl⟩
      rw [← hA, ← hB, ← hC, ← hE] at hp1
      rw [← hA, ← hB] at hstop ⊢
      rw [← hC, ← hE] at habs
      have dC : (c : Int) / (W : Int) = (C : Int) := by rw [hC]; rfl
      have dE : (e : Int) / (W : Int) = (E' : Int) := by rw [hE]; rfl
      refine ⟨fun σ' H3 => ∃ vs1, Same H H3 ∧ H3 nd = some (.lst vs1) ∧ NdL H3 vs1 ((List.range l).flatMap (nbL f a b c e) ++ if ab' = true ∨ A < C then [(l, A)] else []) ∧ σ' = [some (.int f), some (.int a), some (.int b), some (.int c), some (.int e), some (.ref nd), some (.int l), some (.int W), some (.bl ab'), some (.int vs.length), some (.int A), some (.int B)], ?_, ?_⟩
      · walk_at "ss"
        cases ab' with
        | true =>
          walk_at "ss"
          refine r_newS fun t H3 ht s3 et => ?_
          have e3 := s3 _ _ e2
          walk_at "ss"
          refine r_append e3 (by omega) ?_
          walk_at "ss"
          obtain ⟨k1, k2, k3⟩ := nd_push (n := (l, A)) hnd s2 e2 nl ht s3 et
          exact ⟨_, k1, k2, by rw [if_pos (.inl rfl)]; exact k3, rfl⟩
        | false =>
          walk_at "ss"
          rw [dC]
          refine r_dec (fun lt => ?_) fun lt => ?_
          · walk_at "ss"
            refine r_newS fun t H3 ht s3 et => ?_
            have e3 := s3 _ _ e2
            walk_at "ss"
            refine r_append e3 (by omega) ?_
            walk_at "ss"
            obtain ⟨k1, k2, k3⟩ := nd_push (n := (l, A)) hnd s2 e2 nl ht s3 et
            exact ⟨_, k1, k2, by rw [if_pos (.inr (by omega))]; exact k3, rfl⟩
          · walk_at "ss"
            exact ⟨_, s2, e2, by rw [if_neg (by simp; omega), List.append_nil]; exact nl, rfl⟩
      rintro σ' H3 ⟨vs1, s3, e3, nl1, rfl⟩
      have v1 := nl1.len
      have v1b : vs1.length ≤ vs.length + 1 := by
        rw [v1, List.length_append, vl]
        split <;> simp
      refine ⟨fun σ' H4 => ∃ vs2, Same H H4 ∧ H4 nd = some (.lst vs2) ∧ NdL H4 vs2 ((List.range (l + 1)).flatMap (nbL f a b c e)) ∧ σ' = [some (.int f), some (.int a), some (.int b), some (.int c), some (.int e), some (.ref nd), some (.int l), some (.int W), some (.bl ab'), some (.int vs.length), some (.int A), some (.int B)], ?_, ?_⟩
      · rw [fs, hp1, ← List.append_assoc]
        have skip : ¬ (A < B ∧ (ab' = true ∨ E' < B)) → NdL H3 vs1 (((List.range l).flatMap (nbL f a b c e) ++ if ab' = true ∨ A < C then [(l, A)] else []) ++ if A < B ∧ (ab' = true ∨ E' < B) then [(l, B)] else []) := fun z => by rw [if_neg z, List.append_nil]; exact nl1
        walk_at "ss"
        refine r_dec (fun lt => ?_) fun lt => ?_
        · cases ab' with
          | true =>
            walk_at "ss"
            refine r_newS fun t H4 ht s4 et => ?_
            have e4 := s4 _ _ e3
            walk_at "ss"
            refine r_append e4 (by omega) ?_
            walk_at "ss"
            obtain ⟨k1, k2, k3⟩ := nd_push (n := (l, B)) hnd s3 e3 nl1 ht s4 et
            exact ⟨_, k1, k2, by rw [if_pos (show A < B ∧ _ from ⟨by omega, .inl rfl⟩)]; exact k3, rfl⟩
          | false =>
            walk_at "ss"
            rw [dE]
            refine r_dec (fun lt2 => ?_) fun lt2 => ?_
            · walk_at "ss"
              refine r_newS fun t H4 ht s4 et => ?_
              have e4 := s4 _ _ e3
              walk_at "ss"
              refine r_append e4 (by omega) ?_
              walk_at "ss"
              obtain ⟨k1, k2, k3⟩ := nd_push (n := (l, B)) hnd s3 e3 nl1 ht s4 et
              exact ⟨_, k1, k2, by rw [if_pos (show A < B ∧ _ from ⟨by omega, .inr (by omega)⟩)]; exact k3, rfl⟩
            · walk_at "ss"
              exact ⟨_, s3, e3, skip (by simp; omega), rfl⟩
        · walk_at "ss"
          exact ⟨_, s3, e3, skip (by omega), rfl⟩
      rintro σ' H4 ⟨vs2, s4, e4, nl2, rfl⟩
      have v2 := nl2.len
      have v2e : vs2.length = vs.length + (nbL f a b c e l).length := by rw [v2, fs, List.length_append, vl]
      have fin : (A = B ∨ nbL f a b c e l = []) → Q (.ref nd) H4 := fun z => by
        have lL := hstop z
        subst lL
        exact q l nd vs2 H4 hL hr s4 hnd e4 nl2
      walk_at "ss"
      refine r_dec (fun eq => ?_) fun eq => ?_
      · walk_at "ss"
        exact fin (.inl (by omega))
      walk_at "ss"
      refine r_dec (fun eq2 => ?_) fun eq2 => ?_
      · walk_at "ss"
        exact fin (.inr (List.eq_nil_of_length_eq_zero (by omega)))
      have lt : l < L := Nat.lt_of_le_of_ne hl fun z => by
        rw [z] at hW
        rcases hr1 with y | y
        · rw [← hW, ← hA, ← hB] at y
          omega
        · rw [← z] at y
          rw [y] at v2e
          exact eq2 (by rw [v2e]; rfl)
      have next : ∀ x9 x10 x11 : Option V, (∃ m', m' < 133 - l ∧ ∃ (l' : Nat) (vs : List V) (y9 y10 y11 : Option V), m' = 133 - l' ∧ l' ≤ L ∧ Same H H4 ∧ H4 nd = some (.lst vs) ∧ NdL H4 vs ((List.range l').flatMap (nbL f a b c e)) ∧ ([some (.int f), some (.int a), some (.int b), some (.int c), some (.int e), some (.ref nd), some (.int (l + 1 : Nat)), some (.int (f ^ (l + 1 + 1) : Nat)), some (.bl (abF f c e (l + 1))), x9, x10, x11] : L2.St) = [some (.int f), some (.int a), some (.int b), some (.int c), some (.int e), some (.ref nd), some (.int l'), some (.int (f ^ (l' + 1) : Nat)), some (.bl (abF f c e l')), y9, y10, y11]) := fun x9 x10 x11 => ⟨_, by omega, l + 1, vs2, x9, x10, x11, rfl, by omega, s4, e4, nl2, rfl⟩
      have hm : ((W : Nat) : Int) * (f : Int) = ((f ^ (l + 1 + 1) : Nat) : Int) := by rw [wS, Int.natCast_mul]
      have cm : CMulW (W : Int) (f : Int) := by
        have h2 := pw_log (b := f) (i := 1) f8 (by omega)
        rw [Nat.pow_one] at h2
        show _ + _ < 1000000
        omega
      walk_at "ss"
      cases ab' with
      | true =>
        walk_at "ss"
        refine r_ipM cm ?_
        walk_at "ss"
        rw [hm]
        have n := next (some (.int vs.length)) (some (.int A)) (some (.int B))
        rw [habs] at n
        exact n
      | false =>
        walk_at "ss"
        rw [dC, dE]
        walk_at "ss"
        refine r_ipM cm ?_
        walk_at "ss"
        rw [hm]
        have n := next (some (.int vs.length)) (some (.int A)) (some (.int B))
        rw [habs] at n
        rw [show decide ((C : Int) = (E' : Int)) = (false || decide (C = E')) by rw [Bool.false_or]; exact decide_eq_decide.mpr (by omega)]
        exact n
theorem ok_heap_list {P : Program} {w : World} {K : PySem.W.Frag} {mg : Str → Option Value} {base : Heap} {f : Addr} {fd : FuncData} (F : FunD K "heap_list" "heap_list" (defArgs s_heap_list) (defBody s_heap_list) (defScope s_heap_list) [] [] f fd) (a_State_heap : NoAttr K (He.ga K "State") "heap") (c_State : Cls K (He.ga K "State")) (n_list : mg "list" = none) : FnOk P w K mg base CX0 1 f fd ["state"] (sp_heap_list K) := by
  refine F.ok sc_heap_list (fun vs H Q E h => by first | (obtain ⟨rfl, _⟩ := h; rfl) | (obtain ⟨_, rfl, _⟩ := h; rfl) | (obtain ⟨_, _, rfl, _⟩ := h; rfl) | (obtain ⟨_, _, _, rfl, _⟩ := h; rfl) | (obtain ⟨_, _, _, _, rfl, _⟩ := h; rfl) | (obtain ⟨_, _, _, _, _, rfl, _⟩ := h; rfl) | (obtain ⟨_, _, _, _, _, _, rfl, _⟩ := h; rfl) | (obtain ⟨_, _, _, _, _, _, _, rfl, _⟩ := h; rfl) | (obtain ⟨_, _, _, _, _, _, _, _, rfl, _⟩ := h; rfl) | (obtain ⟨_, _, _, _, _, _, _, _, _, rfl, _⟩ := h; rfl) | (obtain ⟨_, _, _, _, _, _, _, _, _, _, rfl, _⟩ := h; rfl) | (obtain ⟨_, _, _, _, _, _, _, _, _, _, _, rfl, _⟩ := h; rfl) | (obtain ⟨_, _, _, _, _, _, _, _, _, _, _, _, rfl, _⟩ := h; rfl) | (obtain ⟨_, _, _, _, _, _, _, _, _, _, _, _, _, rfl, _⟩ := h; rfl) | (obtain ⟨_, _, _, _, _, _, _, _, _, _, _, _, _, _, rfl, _⟩ := h; rfl) | (obtain ⟨_, _, _, _, _, _, _, _, _, _, _, _, _, _, _, rfl, _⟩ := h; rfl) | (obtain ⟨_, _, _, _, _, _, _, _, _, _, _, _, _, _, _, _, rfl, _⟩ := h; rfl) | (obtain ⟨_, _, _, _, _, _, _, _, _, _, _, _, _, _, _, _, _, rfl, _⟩ := h; rfl)) (fun cdv A outer s H vs Q E hr h => ?_)
  · have hu := hu_of hr
    obtain ⟨F, a, s1, p, o, x, rfl, S, q⟩ := h
    obtain ⟨dy, ha⟩ := S.at_
    have cs := c_State
    have n2 := a_State_heap
    have fl := S.hp
    refine ⟨_, PSs.nox (pss_one (ps_ret (LiI.pe_listItems rfl (pe_fld (pv 0) rfl) rfl n_list (by decide +kernel)))), ?_⟩
    rw [st_heap_list]
    walk_at "ss"
    refine KrD.r_listItems ?_
    walk_at "ss"
    exact KrD.r_itemsL fl fun H' t ts s2 ht _ et pr => q t _ H' s2 ht et (nd_paired pr)
theorem ok_node_list {P : Program} {w : World} {K : PySem.W.Frag} {mg : Str → Option Value} {base : Heap} {f : Addr} {fd : FuncData} (F : FunD K "node_list" "node_list" (defArgs s_node_list) (defBody s_node_list) (defScope s_node_list) [] [] f fd) (a_State_nodes : NoAttr K (He.ga K "State") "nodes") (c_State : Cls K (He.ga K "State")) (n_sorted : mg "sorted" = none) : FnOk P w K mg base CX0 1 f fd ["state"] (sp_node_list K) := by
  refine F.ok sc_node_list (fun vs H Q E h => by first | (obtain ⟨rfl, _⟩ := h; rfl) | (obtain ⟨_, rfl, _⟩ := h; rfl) | (obtain ⟨_, _, rfl, _⟩ := h; rfl) | (obtain ⟨_, _, _, rfl, _⟩ := h; rfl) | (obtain ⟨_, _, _, _, rfl, _⟩ := h; rfl) | (obtain ⟨_, _, _, _, _, rfl, _⟩ := h; rfl) | (obtain ⟨_, _, _, _, _, _, rfl, _⟩ := h; rfl) | (obtain ⟨_, _, _, _, _, _, _, rfl, _⟩ := h; rfl) | (obtain ⟨_, _, _, _, _, _, _, _, rfl, _⟩ := h; rfl) | (obtain ⟨_, _, _, _, _, _, _, _, _, rfl, _⟩ := h; rfl) | (obtain ⟨_, _, _, _, _, _, _, _, _, _, rfl, _⟩ := h; rfl) | (obtain ⟨_, _, _, _, _, _, _, _, _, _, _, rfl, _⟩ := h; rfl) | (obtain ⟨_, _, _, _, _, _, _, _, _, _, _, _, rfl, _⟩ := h; rfl) | (obtain ⟨_, _, _, _, _, _, _, _, _, _, _, _, _, rfl, _⟩ := h; rfl) | (obtain ⟨_, _, _, _, _, _, _, _, _, _, _, _, _, _, rfl, _⟩ := h; rfl) | (obtain ⟨_, _, _, _, _, _, _, _, _, _, _, _, _, _, _, rfl, _⟩ := h; rfl) | (obtain ⟨_, _, _, _, _, _, _, _, _, _, _, _, _, _, _, _, rfl, _⟩ := h; rfl) | (obtain ⟨_, _, _, _, _, _, _, _, _, _, _, _, _, _, _, _, _, rfl, _⟩ := h; rfl)) (fun cdv A outer s H vs Q E hr h => ?_)
  · have hu := hu_of hr
    obtain ⟨F, a, s1, p, o, x, rfl, S, nn, bn, q⟩ := h
    obtain ⟨dy, ha⟩ := S.at_
    have cs := c_State
    have n2 := a_State_nodes
    have fl := S.nd
    refine ⟨_, PSs.nox (pss_one (ps_ret (pe_lc (own := [("level", 1), ("index", 2)]) rfl sc_node_list.nd (pi_list (pe_callB (id := "sorted") (KrD.cr_srtDT rfl) rfl n_sorted (by decide +kernel) (pa_cons (pe_fld (pv 0) rfl) pa_nil))) (blkOk_by (own := [("level", 1), ("index", 2)]) (N := N_node_list) (sc := defScope s_node_list) (by decide +kernel)) (fun _ _ _ _ _ => (Kr.pg_tupK (K := K) (n := 2) rfl rfl (pgs_cons (pg_name (i := 1) sc_node_list.nd rfl (.inl rfl)) (pgs_cons (pg_name (i := 2) sc_node_list.nd rfl (.inl rfl)) pgs_nil)))) (fun _ _ _ _ _ => pts_nil) (fun _ _ _ _ _ => (pe_tup (pa_cons (pv 1) (pa_cons (pv 2) (pa_cons (pe_dget hu (KrD.pe_fldK (K := K) rfl (pv 0) rfl) (pe_tup (pa_cons (pv 1) (pa_cons (pv 2) pa_nil))) (fun _ _ => rfl)) pa_nil)))))))), ?_⟩
    rw [st_node_list]
    walk_at "ss"
    refine KrD.r_srtDT (ks := x.nodes.map keyI) fl (by rw [List.map_map, List.map_map]; rfl) fun bs ns pa H2 pm srt hpa s2 pr epa => ?_
    have pm := ndl_keys pm srt
    subst pm
    have S2 := S.same s2
    have fl2 := S2.nd
    obtain ⟨dy2, ha2⟩ := S2.at_
    have lbs := Paired.length pr
    rw [List.length_map] at lbs
    have lnd := (ndl_perm x.nodes).length_eq
    walk_at "ss"
    intro D hD
    refine lc_listS (xs := bs.map V.ref) [some (.ref a), none, none] rfl (fun k H5 => Same H2 H5 ∧ ∃ us, H5 D = some (.lst us) ∧ TrL H5 us ((ndl x.nodes).take k)) ⟨same_new hD, [], upd_same, .nil⟩ (fun k H5 _ z => .of (z.1 _ _ epa)) ?_ ?_
    · rintro k v H5 hv ⟨s5, us, e5, tl⟩
      rw [List.getElem?_map] at hv
      obtain ⟨b, hb, rfl⟩ := Option.map_eq_some_iff.mp hv
      obtain ⟨ky, hk1, hk2⟩ := prd_at pr hb
      rw [List.getElem?_map] at hk1
      obtain ⟨m, hm, rfl⟩ := Option.map_eq_some_iff.mp hk1
      have hk : k < (ndl x.nodes).length := (List.getElem?_eq_some_iff.mp hm).1
      have h2' : H5 b = some (.tup [.int (m.1.1 : Nat), .int (m.1.2 : Nat)]) := s5 _ _ (s2 _ _ hk2)
      have ul := Paired.length tl
      have tk : ((ndl x.nodes).take k).length ≤ (ndl x.nodes).length := by rw [List.length_take]; omega
      have fl5 := s5 _ _ fl2
      have ha5 := s5 _ _ ha2
      have gm : gtL x.nodes m.1 = some m.2 := gtL_mem nn ((ndl_perm x.nodes).mem_iff.mp (List.mem_of_getElem? hm))
      have hv7 : valV (x.nodes.map ndE) (ndK m.1) = some (.int (m.2 : Nat)) := by
        rw [show x.nodes.map ndE = x.nodes.map (eE ndK) from rfl, eE_get ndK_inj, gm]
        rfl
      walk_at "ss"
      refine ⟨rfl, ?_⟩
      walk_at "ss"
      refine r_newS fun q8 H8 hq8 s8 eq8 => ?_
      have eq8' : H8 q8 = some (.tup ((ndK m.1).map kV)) := eq8
      refine KrD.r_dgT (s8 _ _ fl5) eq8' hv7 ?_
      walk_at "ss"
      refine r_newS fun t H9 ht9 s9 et => ?_
      have s59 := s8.trans s9
      have e9 := s59 _ _ e5
      have tp : TpS H9 (upd H9 D (.lst (us ++ [.ref t]))) := tp_upd e9 (by intro _ z; cases z)
      refine ⟨_, e9, szl (by omega), fun b' o e => ?_, us ++ [.ref t], upd_same, ?_⟩
      · rw [upd_ne (ne_of_none e hD)]
        exact s59 _ _ (s5 _ _ e)
      · rw [List.take_add_one, hm]
        exact paired_app ((tl.tp fun b xs z => s59 _ _ z).tp tp) (.cons ⟨t, rfl, tp _ _ et⟩ .nil)
    rintro H5 ⟨s5, us, e5, tl⟩
    rw [List.length_map, lbs, List.take_length] at tl
    walk_at "ss"
    exact q D us H5 (s2.trans s5) (s2.free hD) e5 tl
theorem ok_root_of {P : Program} {w : World} {K : PySem.W.Frag} {mg : Str → Option Value} {base : Heap} {f : Addr} {fd : FuncData} (F : FunD K "root_of" "root_of" (defArgs s_root_of) (defBody s_root_of) (defScope s_root_of) [] [] f fd) (a_State_nodes : NoAttr K (He.ga K "State") "nodes") (c_State : Cls K (He.ga K "State")) (h_node_list : Kr.FnH P w K mg base CX0 1 "node_list" ["state"] (sp_node_list K)) : FnOk P w K mg base CX0 2 f fd ["state"] (sp_root_of K) := by
  refine F.ok sc_root_of (fun vs H Q E h => by first | (obtain ⟨rfl, _⟩ := h; rfl) | (obtain ⟨_, rfl, _⟩ := h; rfl) | (obtain ⟨_, _, rfl, _⟩ := h; rfl) | (obtain ⟨_, _, _, rfl, _⟩ := h; rfl) | (obtain ⟨_, _, _, _, rfl, _⟩ := h; rfl) | (obtain ⟨_, _, _, _, _, rfl, _⟩ := h; rfl) | (obtain ⟨_, _, _, _, _, _, rfl, _⟩ := h; rfl) | (obtain ⟨_, _, _, _, _, _, _, rfl, _⟩ := h; rfl) | (obtain ⟨_, _, _, _, _, _, _, _, rfl, _⟩ := h; rfl) | (obtain ⟨_, _, _, _, _, _, _, _, _, rfl, _⟩ := h; rfl) | (obtain ⟨_, _, _, _, _, _, _, _, _, _, rfl, _⟩ := h; rfl) | (obtain ⟨_, _, _, _, _, _, _, _, _, _, _, rfl, _⟩ := h; rfl) | (obtain ⟨_, _, _, _, _, _, _, _, _, _, _, _, rfl, _⟩ := h; rfl) | (obtain ⟨_, _, _, _, _, _, _, _, _, _, _, _, _, rfl, _⟩ := h; rfl) | (obtain ⟨_, _, _, _, _, _, _, _, _, _, _, _, _, _, rfl, _⟩ := h; rfl) | (obtain ⟨_, _, _, _, _, _, _, _, _, _, _, _, _, _, _, rfl, _⟩ := h; rfl) | (obtain ⟨_, _, _, _, _, _, _, _, _, _, _, _, _, _, _, _, rfl, _⟩ := h; rfl) | (obtain ⟨_, _, _, _, _, _, _, _, _, _, _, _, _, _, _, _, _, rfl, _⟩ := h; rfl)) (fun cdv A outer s H vs Q E hr h => ?_)
  · have hu := hu_of hr
    obtain ⟨F, a, s1, p, o, x, rfl, S, nn, bn, q1, q2⟩ := h
    obtain ⟨dy, ha⟩ := S.at_
    have cs := c_State
    have n2 := a_State_nodes
    have fl := S.nd
    refine ⟨_, PSs.nox (pss_cons (ps_if (pt_not (KrD.p_truT (pe_fld (pv 0) rfl) (by intro _; rfl))) (pss_one (ps_ret pe_non)) pss_nil) (pss_one (ps_ret (pe_ix ix_list (Kr.pe_cl h_node_list (hr.mono (by decide)) (pa_cons (pv 0) pa_nil)) (pe_un un_neg pe_int) (fun _ _ => rfl))))), ?_⟩
    rw [st_root_of]
    walk_at "ss"
    refine KrD.r_truT ?_
    walk_at "ss"
    refine ⟨_, _, rfl, fl, ?_⟩
    by_cases e : x.nodes = []
    · rw [e]
      rw [show (!(!(List.map ndE ([] : List ((Nat × Nat) × Nat))).isEmpty)) = true from rfl]
      walk_at "ss"
      exact q1 e
    · rw [show (!(!(List.map ndE x.nodes).isEmpty)) = false by cases h : x.nodes with | nil => exact absurd h e | cons _ _ => rfl]
      walk_at "ss"
      refine ⟨F, a, s1, p, o, x, rfl, S, nn, bn, fun t us H' s2 ht et tl => ?_⟩
      have en : ndl x.nodes ≠ [] := fun z => e (by
        have := (ndl_perm x.nodes).length_eq
        rw [z] at this
        exact List.length_eq_zero_iff.mp this.symm)
      obtain ⟨m, tm, hm, ha', ht'⟩ := tl.last en
      walk_at "ss"
      refine r_ixL (.of et) (i := -1) ha' ?_
      exact q2 m hm tm H' s2 ht'
theorem ok_free_list {P : Program} {w : World} {K : PySem.W.Frag} {mg : Str → Option Value} {base : Heap} {f : Addr} {fd : FuncData} (F : FunD K "free_list" "free_list" (defArgs s_free_list) (defBody s_free_list) (defScope s_free_list) [] [] f fd) (a_State_free : NoAttr K (He.ga K "State") "free") (a_State_size : NoAttr K (He.ga K "State") "size") (c_State : Cls K (He.ga K "State")) (g_MOST_FREE : ∃ t, mg "MOST_FREE" = some (.int 1000 t)) (h_check_number : Kr.FnH P w K mg base CX0 3 "check_number" ["number", "least", "most"] (sp_check_number K)) (n_len : mg "len" = none) (n_list : mg "list" = none) (n_max : mg "max" = none) (n_range : mg "range" = none) : FnOk P w K mg base CX0 4 f fd ["state", "count"] (sp_free_list K) := by
  refine F.ok sc_free_list (fun vs H Q E h => by first | (obtain ⟨rfl, _⟩ := h; rfl) | (obtain ⟨_, rfl, _⟩ := h; rfl) | (obtain ⟨_, _, rfl, _⟩ := h; rfl) | (obtain ⟨_, _, _, rfl, _⟩ := h; rfl) | (obtain ⟨_, _, _, _, rfl, _⟩ := h; rfl) | (obtain ⟨_, _, _, _, _, rfl, _⟩ := h; rfl) | (obtain ⟨_, _, _, _, _, _, rfl, _⟩ := h; rfl) | (obtain ⟨_, _, _, _, _, _, _, rfl, _⟩ := h; rfl) | (obtain ⟨_, _, _, _, _, _, _, _, rfl, _⟩ := h; rfl) | (obtain ⟨_, _, _, _, _, _, _, _, _, rfl, _⟩ := h; rfl) | (obtain ⟨_, _, _, _, _, _, _, _, _, _, rfl, _⟩ := h; rfl) | (obtain ⟨_, _, _, _, _, _, _, _, _, _, _, rfl, _⟩ := h; rfl) | (obtain ⟨_, _, _, _, _, _, _, _, _, _, _, _, rfl, _⟩ := h; rfl) | (obtain ⟨_, _, _, _, _, _, _, _, _, _, _, _, _, rfl, _⟩ := h; rfl) | (obtain ⟨_, _, _, _, _, _, _, _, _, _, _, _, _, _, rfl, _⟩ := h; rfl) | (obtain ⟨_, _, _, _, _, _, _, _, _, _, _, _, _, _, _, rfl, _⟩ := h; rfl) | (obtain ⟨_, _, _, _, _, _, _, _, _, _, _, _, _, _, _, _, rfl, _⟩ := h; rfl) | (obtain ⟨_, _, _, _, _, _, _, _, _, _, _, _, _, _, _, _, _, rfl, _⟩ := h; rfl)) (fun cdv A outer s H vs Q E hr h => ?_)
  · have hu := hu_of hr
    obtain ⟨F, a, s1, p, o, x, n, rfl, S, hn, hz, q⟩ := h
    obtain ⟨dy, ha⟩ := S.at_
    have cs := c_State
    have n1 := a_State_free
    have n2 := a_State_size
    have fl := S.fr
    refine ⟨_, PSs.nox (pss_cons (ps_expr (Kr.pe_cl h_check_number (hr.mono (by decide)) (pa_cons (pv 1) (pa_cons pe_int (pa_cons (Kr.pe_gint g_MOST_FREE) pa_nil))))) (pss_cons (ps_set (i := 2) sc_free_list.nd rfl (.inl rfl) (pe_callB (id := "max") (Kr.c_max2 rfl) rfl n_max (by decide +kernel) (pa_cons pe_int (pa_cons (pe_op op_sub (pv 1) (pe_callB (id := "len") Kr.c_len rfl n_len (by decide +kernel) (pa_cons (pe_fld (pv 0) rfl) pa_nil))) pa_nil)))) (pss_one (ps_ret (pe_op Kr.op_catS (pe_slice sl_list (pe_revL (pe_fld (pv 0) rfl)) po_none (po_some (pv 1))) (Kr.pe_listRgW rfl rfl n_list (prg_2 rfl n_range (pe_fld (pv 0) rfl) (pe_op op_add (pe_fld (pv 0) rfl) (pv 2))))))))), ?_⟩
    rw [st_free_list]
    walk_at "ss"
    refine ⟨n, 0, 1000, rfl, by omega, by omega, ?_⟩
    walk_at "ss"
    rw [List.length_map]
    rw [show (if (n : Int) - (x.free.length : Int) > 0 then (n : Int) - (x.free.length : Int) else 0) = 0 by rw [if_neg (by omega)]]
    walk_at "ss"
    refine KrT.r_revL ?_
    walk_at "ss"
    refine ⟨_, _, rfl, .of fl, fun t1 ht1 => ?_⟩
    have s1' : Same H (upd H t1 (.lst (List.map nI x.free).reverse)) := same_new ht1
    have e1 : upd H t1 (.lst (List.map nI x.free).reverse) t1 = some (.lst (List.map nI x.free).reverse) := upd_same
    generalize upd H t1 (.lst (List.map nI x.free).reverse) = H1 at s1' e1 ⊢
    have ha1 := s1' _ _ ha
    walk_at "ss"
    refine r_newS fun t2 H2 ht2 s2' e2 => ?_
    have ha2 := s2' _ _ ha1
    rw [cut_all (by rw [List.length_reverse, List.length_map]; exact hn), ← List.map_reverse] at e2
    refine r_lstRgW (r_tRg2 ?_)
    walk_at "ss"
    refine r_rg2P ?_
    refine r_rgW2 (by omega) ?_
    refine r_newS fun t3 H3 ht3 s3' e3 => ?_
    rw [show rgV (x.size : Int) ((x.size : Int) + 0) = [] from List.length_eq_zero_iff.mp (by rw [rgV_length]; omega)] at e3
    refine r_catS (.of (s3' _ _ e2)) (.of e3) (by rw [List.length_map, List.length_reverse]; simp; omega) ?_
    refine r_newS fun t4 H4 ht4 s4' e4 => ?_
    rw [List.append_nil] at e4
    exact q t4 H4 (s1'.trans (s2'.trans (s3'.trans s4'))) ((s1'.trans (s2'.trans s3')).free ht4) e4
theorem ok_are_lengths {P : Program} {w : World} {K : PySem.W.Frag} {mg : Str → Option Value} {base : Heap} {f : Addr} {fd : FuncData} (F : FunD K "are_lengths" "are_lengths" (defArgs s_are_lengths) (defBody s_are_lengths) (defScope s_are_lengths) [] [] f fd) (g_MOST_LENGTHS : ∃ t, mg "MOST_LENGTHS" = some (.int 6 t)) (g_MOST_UNITS : ∃ t, mg "MOST_UNITS" = some (.int 64 t)) (h_is_within : Kr.FnH P w K mg base CX0 2 "is_within" ["number", "least", "most"] (sp_is_within K)) (n_all : mg "all" = none) (n_isinstance : mg "isinstance" = none) (n_len : mg "len" = none) (n_list : mg "list" = none) : FnOk P w K mg base CX0 3 f fd ["lengths"] (sp_are_lengths K) := by
  refine F.ok sc_are_lengths (fun vs H Q E h => by first | (obtain ⟨rfl, _⟩ := h; rfl) | (obtain ⟨_, rfl, _⟩ := h; rfl) | (obtain ⟨_, _, rfl, _⟩ := h; rfl) | (obtain ⟨_, _, _, rfl, _⟩ := h; rfl) | (obtain ⟨_, _, _, _, rfl, _⟩ := h; rfl) | (obtain ⟨_, _, _, _, _, rfl, _⟩ := h; rfl) | (obtain ⟨_, _, _, _, _, _, rfl, _⟩ := h; rfl) | (obtain ⟨_, _, _, _, _, _, _, rfl, _⟩ := h; rfl) | (obtain ⟨_, _, _, _, _, _, _, _, rfl, _⟩ := h; rfl) | (obtain ⟨_, _, _, _, _, _, _, _, _, rfl, _⟩ := h; rfl) | (obtain ⟨_, _, _, _, _, _, _, _, _, _, rfl, _⟩ := h; rfl) | (obtain ⟨_, _, _, _, _, _, _, _, _, _, _, rfl, _⟩ := h; rfl) | (obtain ⟨_, _, _, _, _, _, _, _, _, _, _, _, rfl, _⟩ := h; rfl) | (obtain ⟨_, _, _, _, _, _, _, _, _, _, _, _, _, rfl, _⟩ := h; rfl) | (obtain ⟨_, _, _, _, _, _, _, _, _, _, _, _, _, _, rfl, _⟩ := h; rfl) | (obtain ⟨_, _, _, _, _, _, _, _, _, _, _, _, _, _, _, rfl, _⟩ := h; rfl) | (obtain ⟨_, _, _, _, _, _, _, _, _, _, _, _, _, _, _, _, rfl, _⟩ := h; rfl) | (obtain ⟨_, _, _, _, _, _, _, _, _, _, _, _, _, _, _, _, _, rfl, _⟩ := h; rfl)) (fun cdv A outer s H vs Q E hr h => ?_)
  · have hu := hu_of hr
    obtain ⟨p, ls, rfl, hp, ok, q⟩ := h
    have l1 := ok.l1
    have l6 := ok.l6
    have hl : (ls.map V.int).length = ls.length := List.length_map ..
    refine ⟨_, PSs.nox (pss_cons (ps_if (PW.pt (pw_or (pt_not (pt_val (pe_callB (id := "isinstance") call_isi rfl n_isinstance (by decide +kernel) (pa_cons (pv 0) (pa_cons (Kr.pe_bty (T := "list") n_list) pa_nil))))) (pw_or1 (pt_not (pt_chain op_le op_le pe_int (pe_callB (id := "len") Kr.c_len rfl n_len (by decide +kernel) (pa_cons (pv 0) pa_nil)) (Kr.pe_gint g_MOST_LENGTHS)))))) (pss_one (ps_ret pe_bl)) pss_nil) (pss_one (ps_ret (pe_callB (id := "all") (cr_all rfl) rfl n_all (by decide +kernel) (pa_cons (pe_lc (own := [("length", 1)]) rfl sc_are_lengths.nd (pi_list (pv 0)) (blkOk_by (own := [("length", 1)]) (N := N_are_lengths) (sc := defScope s_are_lengths) (by decide +kernel)) (fun _ _ _ _ _ => (pg_name (i := 1) sc_are_lengths.nd rfl (.inl rfl))) (fun _ _ _ _ _ => pts_nil) (fun _ _ _ _ _ => (Kr.pe_cl h_is_within (hr.mono (by decide)) (pa_cons (pv 1) (pa_cons pe_int (pa_cons (Kr.pe_gint g_MOST_UNITS) pa_nil)))))) pa_nil))))), ?_⟩
    rw [st_are_lengths]
    walk_at "ss"
    refine r_isiT (.base (.lst hp)) (b := true) (by decide +kernel) ?_
    walk_at "ss"
    rw [hl]
    refine r_dec (fun _ => ?_) fun z => absurd (show (1 : Int) ≤ ls.length by omega) z
    walk_at "ss"
    refine r_decN (fun z => absurd (show (ls.length : Int) ≤ 6 by omega) z) fun _ => ?_
    walk_at "ss"
    intro D hD
    refine lc_listS (xs := ls.map V.int) [some (.ref p), none] rfl (fun i H5 => H5 D = some (.lst ((List.replicate i true).map V.bl)) ∧ Same H H5) ⟨upd_same, same_new hD⟩ (fun i H5 _ hh => hh.2.seq (SqL.of hp)) ?_ ?_
    · rintro i x H5 hx ⟨h5, s5⟩
      obtain ⟨l, hm, rfl⟩ : ∃ l, l ∈ ls ∧ x = V.int l := by
        rw [List.getElem?_map] at hx
        obtain ⟨l, h1, h2⟩ := Option.map_eq_some_iff.mp hx
        exact ⟨l, List.mem_of_getElem? h1, h2.symm⟩
      have hi : i < ls.length := by
        have := (List.getElem?_eq_some_iff.mp hx).1
        omega
      obtain ⟨b1, b2⟩ := ok.all l hm
      walk_at "ss"
      refine ⟨rfl, ?_⟩
      walk_at "ss"
      refine ⟨_, _, _, rfl, ?_⟩
      rw [decide_eq_true (⟨b1, b2⟩ : 1 ≤ l ∧ l ≤ 64)]
      refine ⟨_, h5, by rw [List.length_map, List.length_replicate]; exact szl (by omega), ?_, fun b o e => ?_⟩
      · rw [upd_same, List.replicate_succ', List.map_append]
        rfl
      · rw [upd_ne (ne_of_none e hD)]
        exact s5 b o e
    · rintro H5 ⟨h5, s5⟩
      walk_at "ss"
      refine r_all (SqL.of h5) ?_
      rw [take_map_bl (fun b hb => (List.mem_replicate.mp hb).2)]
      walk_at "ss"
      exact q _ s5
theorem ok_bounds_behind {P : Program} {w : World} {K : PySem.W.Frag} {mg : Str → Option Value} {base : Heap} {f : Addr} {fd : FuncData} (F : FunD K "bounds_behind" "bounds_behind" (defArgs s_bounds_behind) (defBody s_bounds_behind) (defScope s_bounds_behind) [] [] f fd) (g_MOST_UNITS : ∃ t, mg "MOST_UNITS" = some (.int 64 t)) (n_max : mg "max" = none) : FnOk P w K mg base CX0 1 f fd ["lengths"] (sp_bounds_behind K) := by
  refine F.ok sc_bounds_behind (fun vs H Q E h => by first | (obtain ⟨rfl, _⟩ := h; rfl) | (obtain ⟨_, rfl, _⟩ := h; rfl) | (obtain ⟨_, _, rfl, _⟩ := h; rfl) | (obtain ⟨_, _, _, rfl, _⟩ := h; rfl) | (obtain ⟨_, _, _, _, rfl, _⟩ := h; rfl) | (obtain ⟨_, _, _, _, _, rfl, _⟩ := h; rfl) | (obtain ⟨_, _, _, _, _, _, rfl, _⟩ := h; rfl) | (obtain ⟨_, _, _, _, _, _, _, rfl, _⟩ := h; rfl) | (obtain ⟨_, _, _, _, _, _, _, _, rfl, _⟩ := h; rfl) | (obtain ⟨_, _, _, _, _, _, _, _, _, rfl, _⟩ := h; rfl) | (obtain ⟨_, _, _, _, _, _, _, _, _, _, rfl, _⟩ := h; rfl) | (obtain ⟨_, _, _, _, _, _, _, _, _, _, _, rfl, _⟩ := h; rfl) | (obtain ⟨_, _, _, _, _, _, _, _, _, _, _, _, rfl, _⟩ := h; rfl) | (obtain ⟨_, _, _, _, _, _, _, _, _, _, _, _, _, rfl, _⟩ := h; rfl) | (obtain ⟨_, _, _, _, _, _, _, _, _, _, _, _, _, _, rfl, _⟩ := h; rfl) | (obtain ⟨_, _, _, _, _, _, _, _, _, _, _, _, _, _, _, rfl, _⟩ := h; rfl) | (obtain ⟨_, _, _, _, _, _, _, _, _, _, _, _, _, _, _, _, rfl, _⟩ := h; rfl) | (obtain ⟨_, _, _, _, _, _, _, _, _, _, _, _, _, _, _, _, _, rfl, _⟩ := h; rfl)) (fun cdv A outer s H vs Q E hr h => ?_)
  · have hu := hu_of hr
    obtain ⟨p, ls, rfl, hp, l1, l6, q⟩ := h
    refine ⟨_, PSs.nox (pss_one (ps_ret (pe_lst (pa_cons (pe_tup (pa_cons pe_str (pa_cons (pe_callB (id := "max") (cr_max rfl) rfl n_max (by decide +kernel) (pa_cons (pv 0) pa_nil)) (pa_cons (Kr.pe_gint g_MOST_UNITS) pa_nil)))) (pa_cons (pe_tup (pa_cons pe_str (pa_cons pe_int (pa_cons pe_int pa_nil)))) (pa_cons (pe_tup (pa_cons pe_str (pa_cons pe_int (pa_cons pe_int pa_nil)))) (pa_cons (pe_tup (pa_cons pe_str (pa_cons pe_int (pa_cons pe_int pa_nil)))) (pa_cons (pe_tup (pa_cons pe_str (pa_cons pe_int (pa_cons pe_int pa_nil)))) pa_nil)))))))), ?_⟩
    rw [st_bounds_behind]
    walk_at "ss"
    refine r_max (SqL.of hp) l1 fun m hm hmx => ?_
    walk_at "ss"
    refine r_newS fun t1 G1 _ u1 e1 => ?_
    walk_at "ss"
    refine r_newS fun t2 G2 _ u2 e2 => ?_
    walk_at "ss"
    refine r_newS fun t3 G3 _ u3 e3 => ?_
    walk_at "ss"
    refine r_newS fun t4 G4 _ u4 e4 => ?_
    walk_at "ss"
    refine r_newS fun t5 G5 _ u5 e5 => ?_
    walk_at "ss"
    refine r_newS fun L G6 _ u6 e6 => ?_
    have f5 := u6 _ _ e5
    have f4 := u6 _ _ (u5 _ _ e4)
    have f3 := u6 _ _ (u5 _ _ (u4 _ _ e3))
    have f2 := u6 _ _ (u5 _ _ (u4 _ _ (u3 _ _ e2)))
    have f1 := u6 _ _ (u5 _ _ (u4 _ _ (u3 _ _ (u2 _ _ e1))))
    exact q m L G6 hm hmx (((((u1.trans u2).trans u3).trans u4).trans u5).trans u6) ⟨_, _, _, _, _, e6, f1, f2, f3, f4, f5⟩
theorem ok_Settings___init__ {P : Program} {w : World} {K : PySem.W.Frag} {mg : Str → Option Value} {base : Heap} {f : Addr} {fd : FuncData} (F : FunD K "__init__" "Settings.__init__" (defArgs s_Settings___init__) (defBody s_Settings___init__) (defScope s_Settings___init__) [] [] f fd) (a_Settings_every : NoAttr K (He.ga K "Settings") "every") (a_Settings_fanout : NoAttr K (He.ga K "Settings") "fanout") (a_Settings_keep : NoAttr K (He.ga K "Settings") "keep") (a_Settings_lengths : NoAttr K (He.ga K "Settings") "lengths") (a_Settings_records : NoAttr K (He.ga K "Settings") "records") (a_Settings_size : NoAttr K (He.ga K "Settings") "size") (c_Settings : Cls K (He.ga K "Settings")) (h_are_lengths : Kr.FnH P w K mg base CX0 3 "are_lengths" ["lengths"] (sp_are_lengths K)) (h_bounds_behind : Kr.FnH P w K mg base CX0 1 "bounds_behind" ["lengths"] (sp_bounds_behind K)) (h_is_within : Kr.FnH P w K mg base CX0 2 "is_within" ["number", "least", "most"] (sp_is_within K)) (n_tuple : mg "tuple" = none) : FnOk P w K mg base CX0 4 f fd ["self", "lengths", "size", "fanout", "records", "every", "keep"] (sp_Settings___init__ K) := by
  refine F.ok sc_Settings___init__ (fun vs H Q E h => by first | (obtain ⟨rfl, _⟩ := h; rfl) | (obtain ⟨_, rfl, _⟩ := h; rfl) | (obtain ⟨_, _, rfl, _⟩ := h; rfl) | (obtain ⟨_, _, _, rfl, _⟩ := h; rfl) | (obtain ⟨_, _, _, _, rfl, _⟩ := h; rfl) | (obtain ⟨_, _, _, _, _, rfl, _⟩ := h; rfl) | (obtain ⟨_, _, _, _, _, _, rfl, _⟩ := h; rfl) | (obtain ⟨_, _, _, _, _, _, _, rfl, _⟩ := h; rfl) | (obtain ⟨_, _, _, _, _, _, _, _, rfl, _⟩ := h; rfl) | (obtain ⟨_, _, _, _, _, _, _, _, _, rfl, _⟩ := h; rfl) | (obtain ⟨_, _, _, _, _, _, _, _, _, _, rfl, _⟩ := h; rfl) | (obtain ⟨_, _, _, _, _, _, _, _, _, _, _, rfl, _⟩ := h; rfl) | (obtain ⟨_, _, _, _, _, _, _, _, _, _, _, _, rfl, _⟩ := h; rfl) | (obtain ⟨_, _, _, _, _, _, _, _, _, _, _, _, _, rfl, _⟩ := h; rfl) | (obtain ⟨_, _, _, _, _, _, _, _, _, _, _, _, _, _, rfl, _⟩ := h; rfl) | (obtain ⟨_, _, _, _, _, _, _, _, _, _, _, _, _, _, _, rfl, _⟩ := h; rfl) | (obtain ⟨_, _, _, _, _, _, _, _, _, _, _, _, _, _, _, _, rfl, _⟩ := h; rfl) | (obtain ⟨_, _, _, _, _, _, _, _, _, _, _, _, _, _, _, _, _, rfl, _⟩ := h; rfl)) (fun cdv A outer s H vs Q E hr h => ?_)
  · have hu := hu_of hr
    obtain ⟨a, dx, p, ls, sz, fo, re, ev, ke, rfl, ha, hp, ok, q⟩ := h
    have l1 := ok.l1
    have l6 := ok.l6
    have r64 := ok.r64
    have cc := c_Settings
    have n1 := a_Settings_lengths
    have n2 := a_Settings_size
    have n3 := a_Settings_fanout
    have n4 := a_Settings_records
    have n5 := a_Settings_every
    have n6 := a_Settings_keep
    refine ⟨_, PSs.nox (pss_cons (ps_if (pt_not (pt_val (Kr.pe_cl h_are_lengths (hr.mono (by decide)) (pa_cons (pv 1) pa_nil)))) (pss_one ps_never) pss_nil) (pss_cons (ps_set (i := 7) sc_Settings___init__.nd rfl (.inl rfl) (pe_disp (pps_cons pe_str (pv 2) (pps_cons pe_str (pv 3) (pps_cons pe_str (pv 4) (pps_cons pe_str (pv 5) (pps_cons pe_str (pv 6) pps_nil))))) (by rfl) (by rfl) (fun z => by cases z) (by decide))) (pss_cons (ps_for PassesOwn.never rfl (pi_list (Kr.pe_cl h_bounds_behind (hr.mono (by decide)) (pa_cons (pv 1) pa_nil))) (pg_tup rfl (pgs_cons (pg_name (i := 8) sc_Settings___init__.nd rfl (.inl rfl)) (pgs_cons (pg_name (i := 9) sc_Settings___init__.nd rfl (.inl rfl)) (pgs_cons (pg_name (i := 10) sc_Settings___init__.nd rfl (.inl rfl)) pgs_nil)))) (pss_one (ps_if (pt_not (pt_val (Kr.pe_cl h_is_within (hr.mono (by decide)) (pa_cons (pe_dget hu (pv 7) (pv 8) (fun _ _ => rfl)) (pa_cons (pv 9) (pa_cons (pv 10) pa_nil)))))) (pss_one ps_never) pss_nil))) (pss_cons (ps_fld (pv 0) (pe_callTy (T := "tuple") Kr.c_tuple rfl n_tuple (by decide +kernel) (pa_cons (pv 1) pa_nil)) rfl) (pss_cons (ps_fld (pv 0) (pv 2) rfl) (pss_cons (ps_fld (pv 0) (pv 3) rfl) (pss_cons (ps_fld (pv 0) (pv 4) rfl) (pss_cons (ps_fld (pv 0) (pv 5) rfl) (pss_one (ps_fld (pv 0) (pv 6) rfl)))))))))), ?_⟩
    rw [st_Settings___init__]
    walk_at "ss"
    refine ⟨_, _, rfl, hp, ⟨l1, l6, fun l hl => ⟨(ok.all l hl).1, by have := (ok.all l hl).2; omega⟩, by decide⟩, fun H1 s1 => ?_⟩
    have hp1 := s1 _ _ hp
    have ha1 := s1 _ _ ha
    walk_at "ss"
    refine r_disp fun g hg => ?_
    refine r_pairs ?_
    walk_at "ss"
    refine r_pairs ?_
    walk_at "ss"
    refine r_pairs ?_
    walk_at "ss"
    refine r_pairs ?_
    walk_at "ss"
    refine r_pairs ?_
    walk_at "ss"
    refine r_pairs0 ?_
    refine r_dispE (givD (.int sz) (.int fo) (.int re) (.int ev) (.int ke)) upd_same rfl (by show 5 ≤ 15; decide) ?_
    rw [upd_upd]
    have s2 : Same H (upd H1 g (.dK (mergeK [] (givD (.int sz) (.int fo) (.int re) (.int ev) (.int ke))))) := s1.trans (same_new hg)
    have e2 : upd H1 g (.dK (mergeK [] (givD (.int sz) (.int fo) (.int re) (.int ev) (.int ke)))) g = some (.dK (givD (.int sz) (.int fo) (.int re) (.int ev) (.int ke))) := upd_same
    generalize upd H1 g (.dK (mergeK [] (givD (.int sz) (.int fo) (.int re) (.int ev) (.int ke)))) = H2 at s2 e2 ⊢
    walk_at "ss"
    refine ⟨p, ls, rfl, s2 _ _ hp, l1, l6, fun m L G6 hm _ s3 hB => ?_⟩
    have hmz := (ok.all m hm).2
    have hm1 := (ok.all m hm).1
    obtain ⟨t1, t2, t3, t4, t5, e6, f1, f2, f3, f4, f5⟩ := hB
    have s6 : Same H G6 := s2.trans s3
    have eg := s3 _ _ e2
    walk_at "ss"
    refine r_forL (xs := [.ref t1, .ref t2, .ref t3, .ref t4, .ref t5]) (fun i σ H' => H' = G6 ∧ ∃ y1 y2 y3 : Option V, σ = [some (.ref a), some (.ref p), some (.int sz), some (.int fo), some (.int re), some (.int ev), some (.int ke), some (.ref g), y1, y2, y3])
      ⟨rfl, _, _, _, rfl⟩ (fun i σ H' _ hh => by obtain ⟨rfl, _⟩ := hh; exact SqL.of e6) ?_ ?_
    · rintro i x σ H' hx ⟨rfl, y1, y2, y3, rfl⟩
      obtain ⟨t, w, n, lo, hi, rfl, ht, hv, hlo, hhi⟩ : ∃ (t : Addr) (w : Str) (n lo hi : Int), x = .ref t ∧ H' t = some (.tup [.str w, .int lo, .int hi]) ∧ valV (givD (.int sz) (.int fo) (.int re) (.int ev) (.int ke)) (Sum.inr w) = some (.int n) ∧ lo ≤ n ∧ n ≤ hi := by
        rcases i with _ | _ | _ | _ | _ | i
        · cases hx
          exact ⟨_, _, _, _, _, rfl, f1, rfl, hmz, r64⟩
        · cases hx
          exact ⟨_, _, _, _, _, rfl, f2, rfl, ok.fo.1, ok.fo.2⟩
        · cases hx
          exact ⟨_, _, _, _, _, rfl, f3, rfl, ok.re.1, ok.re.2⟩
        · cases hx
          exact ⟨_, _, _, _, _, rfl, f4, rfl, ok.ev.1, ok.ev.2⟩
        · cases hx
          exact ⟨_, _, _, _, _, rfl, f5, rfl, ok.ke.1, ok.ke.2⟩
        · cases hx
      walk_at "ss"
      refine r_dgS eg hv ?_
      walk_at "ss"
      refine ⟨_, _, _, rfl, ?_⟩
      rw [decide_eq_true (⟨hlo, hhi⟩ : lo ≤ n ∧ n ≤ hi)]
      walk_at "ss"
      exact ⟨rfl, _, _, _, rfl⟩
    · rintro σ H' ⟨rfl, y1, y2, y3, rfl⟩
      have hp6 := s6 _ _ hp
      have ha6 := s6 _ _ ha
      walk_at "ss"
      refine r_new fun t ht => ?_
      have nta : t ≠ a := (ne_of_none ha6 ht).symm
      walk_at "ss"
      refine r_st (upd_free ha6 ht) cc n1 (by decide) rfl ?_
      walk_at "ss"
      refine r_st upd_same cc n2 (by show 1 < 1000; decide) rfl ?_
      walk_at "ss"
      refine r_st upd_same cc n3 (by show 2 < 1000; decide) rfl ?_
      walk_at "ss"
      refine r_st upd_same cc n4 (by show 3 < 1000; decide) rfl ?_
      walk_at "ss"
      refine r_st upd_same cc n5 (by show 4 < 1000; decide) rfl ?_
      walk_at "ss"
      refine r_st upd_same cc n6 (by show 5 < 1000; decide) rfl ?_
      simp only [upd_upd]
      refine q t _ (fun b o n e => ?_) upd_same ?_
      · rw [upd_ne n]
        exact upd_free (s6 b o e) ht
      · rw [upd_ne nta]
        exact upd_same
theorem ok_check_settings {P : Program} {w : World} {K : PySem.W.Frag} {mg : Str → Option Value} {base : Heap} {f : Addr} {fd : FuncData} (F : FunD K "check_settings" "check_settings" (defArgs s_check_settings) (defBody s_check_settings) (defScope s_check_settings) [] [] f fd) (i_Settings : Kr.InsI K (He.ga K "Settings")) (k_Settings : mg "Settings" = some (.ref (He.ga K "Settings"))) (n_isinstance : mg "isinstance" = none) : FnOk P w K mg base CX0 1 f fd ["settings"] (sp_check_settings K) := by
  refine F.ok sc_check_settings (fun vs H Q E h => by first | (obtain ⟨rfl, _⟩ := h; rfl) | (obtain ⟨_, rfl, _⟩ := h; rfl) | (obtain ⟨_, _, rfl, _⟩ := h; rfl) | (obtain ⟨_, _, _, rfl, _⟩ := h; rfl) | (obtain ⟨_, _, _, _, rfl, _⟩ := h; rfl) | (obtain ⟨_, _, _, _, _, rfl, _⟩ := h; rfl) | (obtain ⟨_, _, _, _, _, _, rfl, _⟩ := h; rfl) | (obtain ⟨_, _, _, _, _, _, _, rfl, _⟩ := h; rfl) | (obtain ⟨_, _, _, _, _, _, _, _, rfl, _⟩ := h; rfl) | (obtain ⟨_, _, _, _, _, _, _, _, _, rfl, _⟩ := h; rfl) | (obtain ⟨_, _, _, _, _, _, _, _, _, _, rfl, _⟩ := h; rfl) | (obtain ⟨_, _, _, _, _, _, _, _, _, _, _, rfl, _⟩ := h; rfl) | (obtain ⟨_, _, _, _, _, _, _, _, _, _, _, _, rfl, _⟩ := h; rfl) | (obtain ⟨_, _, _, _, _, _, _, _, _, _, _, _, _, rfl, _⟩ := h; rfl) | (obtain ⟨_, _, _, _, _, _, _, _, _, _, _, _, _, _, rfl, _⟩ := h; rfl) | (obtain ⟨_, _, _, _, _, _, _, _, _, _, _, _, _, _, _, rfl, _⟩ := h; rfl) | (obtain ⟨_, _, _, _, _, _, _, _, _, _, _, _, _, _, _, _, rfl, _⟩ := h; rfl) | (obtain ⟨_, _, _, _, _, _, _, _, _, _, _, _, _, _, _, _, _, rfl, _⟩ := h; rfl)) (fun cdv A outer s H vs Q E hr h => ?_)
  · have hu := hu_of hr
    obtain ⟨a, dx, fs, rfl, ha, q⟩ := h
    refine ⟨_, PSs.nox (pss_one (ps_if (pt_not (pt_val (pe_callB (id := "isinstance") call_isi rfl n_isinstance (by decide +kernel) (pa_cons (pv 0) (pa_cons (Kr.pe_gcls k_Settings) pa_nil))))) (pss_one ps_never) pss_nil)), ?_⟩
    rw [st_check_settings]
    walk_at "ss"
    refine r_isiC i_Settings ha ?_
    walk_at "ss"
    exact q
theorem ok_rows_from {P : Program} {w : World} {K : PySem.W.Frag} {mg : Str → Option Value} {base : Heap} {f : Addr} {fd : FuncData} (F : FunD K "rows_from" "rows_from" (defArgs s_rows_from) (defBody s_rows_from) (defScope s_rows_from) [] [] f fd) (a_Settings_lengths : NoAttr K (He.ga K "Settings") "lengths") (a_Settings_size : NoAttr K (He.ga K "Settings") "size") (c_Settings : Cls K (He.ga K "Settings")) (n_len : mg "len" = none) (n_sum : mg "sum" = none) : FnOk P w K mg base CX0 1 f fd ["settings", "row"] (sp_rows_from K) := by
  refine F.ok sc_rows_from (fun vs H Q E h => by first | (obtain ⟨rfl, _⟩ := h; rfl) | (obtain ⟨_, rfl, _⟩ := h; rfl) | (obtain ⟨_, _, rfl, _⟩ := h; rfl) | (obtain ⟨_, _, _, rfl, _⟩ := h; rfl) | (obtain ⟨_, _, _, _, rfl, _⟩ := h; rfl) | (obtain ⟨_, _, _, _, _, rfl, _⟩ := h; rfl) | (obtain ⟨_, _, _, _, _, _, rfl, _⟩ := h; rfl) | (obtain ⟨_, _, _, _, _, _, _, rfl, _⟩ := h; rfl) | (obtain ⟨_, _, _, _, _, _, _, _, rfl, _⟩ := h; rfl) | (obtain ⟨_, _, _, _, _, _, _, _, _, rfl, _⟩ := h; rfl) | (obtain ⟨_, _, _, _, _, _, _, _, _, _, rfl, _⟩ := h; rfl) | (obtain ⟨_, _, _, _, _, _, _, _, _, _, _, rfl, _⟩ := h; rfl) | (obtain ⟨_, _, _, _, _, _, _, _, _, _, _, _, rfl, _⟩ := h; rfl) | (obtain ⟨_, _, _, _, _, _, _, _, _, _, _, _, _, rfl, _⟩ := h; rfl) | (obtain ⟨_, _, _, _, _, _, _, _, _, _, _, _, _, _, rfl, _⟩ := h; rfl) | (obtain ⟨_, _, _, _, _, _, _, _, _, _, _, _, _, _, _, rfl, _⟩ := h; rfl) | (obtain ⟨_, _, _, _, _, _, _, _, _, _, _, _, _, _, _, _, rfl, _⟩ := h; rfl) | (obtain ⟨_, _, _, _, _, _, _, _, _, _, _, _, _, _, _, _, _, rfl, _⟩ := h; rfl)) (fun cdv A outer s H vs Q E hr h => ?_)
  · have hu := hu_of hr
    obtain ⟨s1, r, ls, sz, fo, re, ev, ke, rfl, ⟨dx, t, hs, ht⟩, ok, q⟩ := h
    have cc := c_Settings
    have n1 := a_Settings_lengths
    have n2 := a_Settings_size
    have o := ok.pk
    have l1 := ok.l1
    have l6 := ok.l6
    have hl : (ls.map V.int).length = ls.length := List.length_map ..
    have hsum : ls.sum = Pk.pre ls 0 ls.length := sum_round ls
    have hpos : (ls.length : Int) ≤ ls.sum := by rw [hsum]; exact Pk.pre_ge o 0 _
    have hsz : 1 ≤ sz := by
      have := Pk.len_pos o 0
      omega
    have r64 := ok.r64
    have hsm : ls.sum ≤ 6 * sz := by
      rw [hsum]
      have key : ∀ k : Nat, Pk.pre ls 0 k ≤ k * sz := by
        intro k
        induction k with
        | zero => simp [Pk.pre]
        | succ k ih =>
          have := (Pk.len_pos o (0 + k)).2
          have e : ((k + 1 : Nat) : Int) * sz = k * sz + sz := by rw [Int.natCast_add, Int.add_mul]; simp
          show Pk.pre ls 0 k + Pk.lenAt ls (0 + k) ≤ _
          rw [e]
          omega
      have h1 := key ls.length
      have h2 : (ls.length : Int) * sz ≤ 6 * sz := Int.mul_le_mul_of_nonneg_right (by omega) (by omega)
      omega
    have hs1 : 0 < ls.sum := by omega
    have q0 : 0 ≤ sz / ls.sum := Int.ediv_nonneg (by omega) (by omega)
    have q1 : sz / ls.sum ≤ sz := Int.ediv_le_self _ (by omega)
    obtain ⟨n, hn⟩ := Int.eq_ofNat_of_zero_le q0
    have hm := Int.emod_nonneg sz (show ls.sum ≠ 0 by omega)
    have hdm := Int.emod_add_mul_ediv sz ls.sum
    have hat : ∀ k : Nat, atI (ls.map V.int) (((r : Int) + (k : Int)) % ((ls.map V.int).length : Int)) = some (V.int (Pk.lenAt ls (r + k))) := fun k => by
      refine at_of (j := (r + k) % ls.length) (by rw [hl]; push_cast; rfl) ?_
      rw [List.getElem?_map, Pk.len_at o (r + k)]
      rfl
    refine ⟨_, PSs.nox (pss_cons (ps_set (i := 2) sc_rows_from.nd rfl (.inl rfl) (pe_fld (pv 0) rfl)) (pss_cons (ps_set (i := 3) sc_rows_from.nd rfl (.inl rfl) (pe_op op_mul (pe_op op_fdivW (pe_fld (pv 0) rfl) (pe_callB (id := "sum") (Kr.c_sumT rfl) rfl n_sum (by decide +kernel) (pa_cons (pv 2) pa_nil))) (pe_callB (id := "len") Kr.c_len rfl n_len (by decide +kernel) (pa_cons (pv 2) pa_nil)))) (pss_cons (ps_set (i := 4) sc_rows_from.nd rfl (.inl rfl) (pe_op op_mod (pe_fld (pv 0) rfl) (pe_callB (id := "sum") (Kr.c_sumT rfl) rfl n_sum (by decide +kernel) (pa_cons (pv 2) pa_nil)))) (pss_cons (ps_while PassesOwn.never (pt_cmpR op_le (pe_ix ix_tup (pv 2) (pe_op op_mod (pe_op op_add (pv 1) (pv 3)) (pe_callB (id := "len") Kr.c_len rfl n_len (by decide +kernel) (pa_cons (pv 2) pa_nil))) (fun _ _ => rfl)) (pv 4) (nomark _)) (pss_cons (ps_aug (i := 4) sc_rows_from.nd rfl (.inl rfl) (pe_ix ix_tup (pv 2) (pe_op op_mod (pe_op op_add (pv 1) (pv 3)) (pe_callB (id := "len") Kr.c_len rfl n_len (by decide +kernel) (pa_cons (pv 2) pa_nil))) (fun _ _ => rfl)) ip_sub) (pss_one (ps_aug (i := 3) sc_rows_from.nd rfl (.inl rfl) pe_int ip_add)))) (pss_one (ps_ret (pv 3))))))), ?_⟩
    rw [st_rows_from]
    walk_at "ss"
    refine r_I (wide_div (b := 64) hs1 (by omega) (by decide) (by decide)) ?_
    walk_at "ss"
    rw [hn, hl]
    refine r_while (fun m σ H' => H' = H ∧ ∃ (k : Nat) (left : Int), m = left.toNat ∧ σ = [some (.ref s1), some (.int r), some (.ref t), some (.int k), some (.int left)] ∧ Pk.pre ls r k + left = sz ∧ 0 ≤ left) _
      ⟨rfl, n * ls.length, sz % ls.sum, rfl, by rw [Int.natCast_mul], ?_, hm⟩ ?_
    · rw [rounds]
      rw [hn] at hdm
      have e : (n : Int) * ls.sum = ls.sum * n := Int.mul_comm _ _
      omega
    rintro m σ H' ⟨rfl, k, left, rfl, rfl, hpre, hleft⟩
    walk_at "ss"
    refine r_ixT (SqT.of ht) (hat k) ?_
    walk_at "ss"
    have lp := Pk.len_pos o (r + k)
    refine r_whD (fun hle => ?_) fun hle => ?_
    · walk_at "ss"
      refine r_ixT (SqT.of ht) (hat k) ?_
      walk_at "ss"
      refine ⟨_, ?_, rfl, k + 1, left - Pk.lenAt ls (r + k), rfl, rfl, ?_, by omega⟩
      · omega
      · show Pk.pre ls r k + Pk.lenAt ls (r + k) + _ = sz
        omega
    · walk_at "ss"
      have e : Pk.cnt ls sz r = k := Pk.cnt_is o ⟨by omega, by
        show sz < Pk.pre ls r k + Pk.lenAt ls (r + k)
        omega⟩
      rw [e] at q
      exact q
theorem ok_Packing_page_with {P : Program} {w : World} {K : PySem.W.Frag} {mg : Str → Option Value} {base : Heap} {f : Addr} {fd : FuncData} (F : FunD K "page_with" "Packing.page_with" (defArgs s_Packing_page_with) (defBody s_Packing_page_with) (defScope s_Packing_page_with) [] [] f fd) (a_Packing__first : NoAttr K (He.ga K "Packing") "_first") (a_Packing__pages : NoAttr K (He.ga K "Packing") "_pages") (a_Packing__rows : NoAttr K (He.ga K "Packing") "_rows") (a_Packing__starts : NoAttr K (He.ga K "Packing") "_starts") (c_Packing : Cls K (He.ga K "Packing")) (n_max : mg "max" = none) : FnOk P w K mg base CX0 1 f fd ["self", "row"] (sp_Packing_page_with K) := by
  refine F.ok sc_Packing_page_with (fun vs H Q E h => by first | (obtain ⟨rfl, _⟩ := h; rfl) | (obtain ⟨_, rfl, _⟩ := h; rfl) | (obtain ⟨_, _, rfl, _⟩ := h; rfl) | (obtain ⟨_, _, _, rfl, _⟩ := h; rfl) | (obtain ⟨_, _, _, _, rfl, _⟩ := h; rfl) | (obtain ⟨_, _, _, _, _, rfl, _⟩ := h; rfl) | (obtain ⟨_, _, _, _, _, _, rfl, _⟩ := h; rfl) | (obtain ⟨_, _, _, _, _, _, _, rfl, _⟩ := h; rfl) | (obtain ⟨_, _, _, _, _, _, _, _, rfl, _⟩ := h; rfl) | (obtain ⟨_, _, _, _, _, _, _, _, _, rfl, _⟩ := h; rfl) | (obtain ⟨_, _, _, _, _, _, _, _, _, _, rfl, _⟩ := h; rfl) | (obtain ⟨_, _, _, _, _, _, _, _, _, _, _, rfl, _⟩ := h; rfl) | (obtain ⟨_, _, _, _, _, _, _, _, _, _, _, _, rfl, _⟩ := h; rfl) | (obtain ⟨_, _, _, _, _, _, _, _, _, _, _, _, _, rfl, _⟩ := h; rfl) | (obtain ⟨_, _, _, _, _, _, _, _, _, _, _, _, _, _, rfl, _⟩ := h; rfl) | (obtain ⟨_, _, _, _, _, _, _, _, _, _, _, _, _, _, _, rfl, _⟩ := h; rfl) | (obtain ⟨_, _, _, _, _, _, _, _, _, _, _, _, _, _, _, _, rfl, _⟩ := h; rfl) | (obtain ⟨_, _, _, _, _, _, _, _, _, _, _, _, _, _, _, _, _, rfl, _⟩ := h; rfl)) (fun cdv A outer s H vs Q E hr h => ?_)
  · have hu := hu_of hr
    obtain ⟨a, lp, dx, ls, sz, j, k, r, fs, rfl, F, hr40, q⟩ := h
    have cc := c_Packing
    have n1 := a_Packing__starts
    have n2 := a_Packing__first
    have n3 := a_Packing__pages
    have n4 := a_Packing__rows
    have h0 := F.at_
    have h1 := F.l1
    have h2 := F.l2
    have h3 := F.l3
    have h4 := F.l4
    have h5 := F.lst
    have o := F.ok.pk
    have cr := F.cyc.rows o
    have clt := F.cyc.lt
    obtain ⟨k6, st400⟩ := F.small
    have rle : Pk.rws ls sz j k ≤ 400 := by unfold Pk.rws; omega
    have ht : ∀ {i : Nat} {z : Int}, z = (i : Int) → i < k + 1 → atI (tabL (stV ls sz) (k + 1)) z = some (V.int (Pk.st ls sz i : Nat)) := fun e h => tabL_at (stV ls sz) e h
    obtain ⟨t, et, t1, t2, t3, t4⟩ := F.cyc.turns o r
    have rc : CDivW 0 ((Pk.rws ls sz j k : Nat) : Int) := wide_div (b := 64) (by omega) (by omega) (by decide) (by decide)
    refine ⟨_, PSs.nox (pss_cons (ps_set (i := 2) sc_Packing_page_with.nd rfl (.inl rfl) (pe_callB (id := "max") (Kr.c_max2 rfl) rfl n_max (by decide +kernel) (pa_cons pe_int (pa_cons (pe_op op_fdivW (pe_op op_sub (pv 1) (pe_ix ix_list (pe_fld (pv 0) rfl) (pe_fld (pv 0) rfl) (fun _ _ => rfl))) (pe_fld (pv 0) rfl)) pa_nil)))) (pss_cons (ps_set (i := 3) sc_Packing_page_with.nd rfl (.inl rfl) (pe_op op_sub (pv 1) (pe_op op_mul (pv 2) (pe_fld (pv 0) rfl)))) (pss_cons (ps_set (i := 4) sc_Packing_page_with.nd rfl (.inl rfl) pe_int) (pss_cons (ps_while PassesOwn.never (pt_cmpR op_le (pe_ix ix_list (pe_fld (pv 0) rfl) (pe_op op_add (pv 4) pe_int) (fun _ _ => rfl)) (pv 3) (nomark _)) (pss_one (ps_aug (i := 4) sc_Packing_page_with.nd rfl (.inl rfl) pe_int ip_add))) (pss_one (ps_ret (pe_op op_add (pv 4) (pe_op op_mul (pv 2) (pe_fld (pv 0) rfl))))))))), ?_⟩
    rw [st_Packing_page_with]
    walk_at "ss"
    refine r_ixL (SqL.of h5) (ht rfl (by omega)) ?_
    walk_at "ss"
    rw [et]
    walk_at "ss"
    refine r_while (fun m σ H' => H' = H ∧ ∃ p : Nat, m = k - p ∧ p < k ∧ Pk.st ls sz p ≤ r - t * Pk.rws ls sz j k ∧ σ = [some (.ref a), some (.int r), some (.int t), some (.int (r - t * (Pk.rws ls sz j k : Nat))), some (.int p)]) _ ⟨rfl, 0, rfl, by omega, Nat.zero_le _, rfl⟩ ?_
    rintro m σ H' ⟨rfl, p, rfl, hp, hle, rfl⟩
    walk_at "ss"
    refine r_ixL (SqL.of h5) (ht (i := p + 1) rfl (by omega)) ?_
    walk_at "ss"
    have en : (r : Int) - t * (Pk.rws ls sz j k : Nat) = ((r - t * Pk.rws ls sz j k : Nat) : Int) := by
      rw [Int.ofNat_sub t1, Int.natCast_mul]
    refine r_whD (fun hle2 => ?_) fun hlt => ?_
    · have hle3 : Pk.st ls sz (p + 1) ≤ r - t * Pk.rws ls sz j k := by
        rw [en] at hle2
        omega
      have hpk : p + 1 < k := by
        rcases Nat.lt_or_ge (p + 1) k with z | z
        · exact z
        · have e : p + 1 = k := by omega
          rw [e] at hle3
          omega
      walk_at "ss"
      exact ⟨_, by omega, rfl, p + 1, rfl, hpk, hle3, rfl⟩
    · have hlt3 : r - t * Pk.rws ls sz j k < Pk.st ls sz (p + 1) := by
        rw [en] at hlt
        omega
      walk_at "ss"
      have e : (p : Int) + t * ((k - j : Nat) : Int) = ((p + t * (k - j) : Nat) : Int) := by
        rw [Int.natCast_add, Int.natCast_mul]
      rw [e]
      exact q _ (F.cyc.on o t1 t2 ⟨hle, hlt3⟩)
theorem ok_Packing___init__ {P : Program} {w : World} {K : PySem.W.Frag} {mg : Str → Option Value} {base : Heap} {f : Addr} {fd : FuncData} (F : FunD K "__init__" "Packing.__init__" (defArgs s_Packing___init__) (defBody s_Packing___init__) (defScope s_Packing___init__) [] [] f fd) (a_Packing__first : NoAttr K (He.ga K "Packing") "_first") (a_Packing__last : NoAttr K (He.ga K "Packing") "_last") (a_Packing__pages : NoAttr K (He.ga K "Packing") "_pages") (a_Packing__rows : NoAttr K (He.ga K "Packing") "_rows") (a_Packing__settings : NoAttr K (He.ga K "Packing") "_settings") (a_Packing__starts : NoAttr K (He.ga K "Packing") "_starts") (a_Settings_lengths : NoAttr K (He.ga K "Settings") "lengths") (c_Packing : Cls K (He.ga K "Packing")) (c_Settings : Cls K (He.ga K "Settings")) (g_ROWS : ∃ t, mg "ROWS" = some (.int 1000000000000000000000000000000 t)) (h_check_settings : Kr.FnH P w K mg base CX0 1 "check_settings" ["settings"] (sp_check_settings K)) (h_rows_from : Kr.FnH P w K mg base CX0 1 "rows_from" ["settings", "row"] (sp_rows_from K)) (m_Packing_page_with : Kr.MtH P w K mg base CX0 1 (He.ga K "Packing") "page_with" ["self", "row"] (sp_Packing_page_with K)) (n_len : mg "len" = none) : FnOk P w K mg base CX0 2 f fd ["self", "settings"] (sp_Packing___init__ K) := by
  refine F.ok sc_Packing___init__ (fun vs H Q E h => by first | (obtain ⟨rfl, _⟩ := h; rfl) | (obtain ⟨_, rfl, _⟩ := h; rfl) | (obtain ⟨_, _, rfl, _⟩ := h; rfl) | (obtain ⟨_, _, _, rfl, _⟩ := h; rfl) | (obtain ⟨_, _, _, _, rfl, _⟩ := h; rfl) | (obtain ⟨_, _, _, _, _, rfl, _⟩ := h; rfl) | (obtain ⟨_, _, _, _, _, _, rfl, _⟩ := h; rfl) | (obtain ⟨_, _, _, _, _, _, _, rfl, _⟩ := h; rfl) | (obtain ⟨_, _, _, _, _, _, _, _, rfl, _⟩ := h; rfl) | (obtain ⟨_, _, _, _, _, _, _, _, _, rfl, _⟩ := h; rfl) | (obtain ⟨_, _, _, _, _, _, _, _, _, _, rfl, _⟩ := h; rfl) | (obtain ⟨_, _, _, _, _, _, _, _, _, _, _, rfl, _⟩ := h; rfl) | (obtain ⟨_, _, _, _, _, _, _, _, _, _, _, _, rfl, _⟩ := h; rfl) | (obtain ⟨_, _, _, _, _, _, _, _, _, _, _, _, _, rfl, _⟩ := h; rfl) | (obtain ⟨_, _, _, _, _, _, _, _, _, _, _, _, _, _, rfl, _⟩ := h; rfl) | (obtain ⟨_, _, _, _, _, _, _, _, _, _, _, _, _, _, _, rfl, _⟩ := h; rfl) | (obtain ⟨_, _, _, _, _, _, _, _, _, _, _, _, _, _, _, _, rfl, _⟩ := h; rfl) | (obtain ⟨_, _, _, _, _, _, _, _, _, _, _, _, _, _, _, _, _, rfl, _⟩ := h; rfl)) (fun cdv A outer s H vs Q E hr h => ?_)
  · have hu := hu_of hr
    obtain ⟨a, s1, dx, ls, sz, fo, re, ev, ke, rfl, ha, S, ok, q⟩ := h
    obtain ⟨dy, t, hs, ht⟩ := id S
    have cs := c_Settings
    have cc := c_Packing
    have m1 := a_Settings_lengths
    have n0 := a_Packing__settings
    have n1 := a_Packing__starts
    have n2 := a_Packing__first
    have n3 := a_Packing__pages
    have n4 := a_Packing__rows
    have n5 := a_Packing__last
    have o := ok.pk
    have l1 := ok.l1
    have l6 := ok.l6
    have hl : (ls.map V.int).length = ls.length := List.length_map ..
    have nsa : s1 ≠ a := fun e => by
      rw [e, ha] at hs
      injection hs with hs
      injection hs with _ _ h3
      exact absurd h3 (by simp [setF])
    refine ⟨_, PSs.nox (pss_cons (ps_expr (Kr.pe_cl h_check_settings (hr.mono (by decide)) (pa_cons (pv 1) pa_nil))) (pss_cons (ps_set (i := 2) sc_Packing___init__.nd rfl (.inl rfl) (pe_callB (id := "len") Kr.c_len rfl n_len (by decide +kernel) (pa_cons (pe_fld (pv 1) rfl) pa_nil))) (pss_cons (ps_set (i := 3) sc_Packing___init__.nd rfl (.inl rfl) (pe_lst (pa_cons pe_int pa_nil))) (pss_cons (ps_set (i := 4) sc_Packing___init__.nd rfl (.inl rfl) pe_dnewK) (pss_cons (ps_while PassesOwn.never (pt_cmp (pc_dnotin hu (pe_op op_mod (pe_ix ix_list (pv 3) (pe_un un_neg pe_int) (fun _ _ => rfl)) (pv 2)) (pv 4))) (pss_cons (ps_dput hu (pv 4) (pe_op op_mod (pe_ix ix_list (pv 3) (pe_un un_neg pe_int) (fun _ _ => rfl)) (pv 2)) (pe_op op_sub (pe_callB (id := "len") Kr.c_len rfl n_len (by decide +kernel) (pa_cons (pv 3) pa_nil)) pe_int) rfl) (pss_one (ps_expr (pe_bm PySem.F.plainAttrs_list PySem.F.slot_list_append PySem.F.type_list_append mt_append (pv 3) (pa_cons (pe_op op_add (pe_ix ix_list (pv 3) (pe_un un_neg pe_int) (fun _ _ => rfl)) (Kr.pe_cl h_rows_from (hr.mono (by decide)) (pa_cons (pv 1) (pa_cons (pe_ix ix_list (pv 3) (pe_un un_neg pe_int) (fun _ _ => rfl)) pa_nil)))) pa_nil)))))) (pss_cons (ps_fld (pv 0) (pv 1) rfl) (pss_cons (ps_fld (pv 0) (pv 3) rfl) (pss_cons (ps_fld (pv 0) (pe_dget hu (pv 4) (pe_op op_mod (pe_ix ix_list (pv 3) (pe_un un_neg pe_int) (fun _ _ => rfl)) (pv 2)) (fun _ _ => rfl)) rfl) (pss_cons (ps_fld (pv 0) (pe_op op_sub (pe_op op_sub (pe_callB (id := "len") Kr.c_len rfl n_len (by decide +kernel) (pa_cons (pv 3) pa_nil)) pe_int) (pe_fld (pv 0) rfl)) rfl) (pss_cons (ps_fld (pv 0) (pe_op op_sub (pe_ix ix_list (pv 3) (pe_un un_neg pe_int) (fun _ _ => rfl)) (pe_ix ix_list (pv 3) (pe_fld (pv 0) rfl) (fun _ _ => rfl))) rfl) (pss_one (ps_fld (pv 0) (Kr.pe_mt m_Packing_page_with c_Packing (hr.mono (by decide)) (pv 0) (pa_cons (pe_op op_sub (Kr.pe_gint g_ROWS) pe_int) pa_nil)) rfl)))))))))))), ?_⟩
    rw [st_Packing___init__]
    walk_at "ss"
    refine ⟨_, _, _, rfl, hs, ?_⟩
    walk_at "ss"
    refine r_newS fun L H1 hL s1' eL => ?_
    walk_at "ss"
    refine r_newS fun d H2 hd s2 ed => ?_
    have s02 := s1'.trans s2
    have nLd : L ≠ d := ne_of (s2 _ _ eL) ed (by intro z; cases z)
    have nLa : a ≠ L := ne_of_none ha hL
    have hda : H d = none := s1'.free hd
    have nda : a ≠ d := ne_of_none ha hda
    have nLs : s1 ≠ L := ne_of_none hs hL
    have nds : s1 ≠ d := ne_of_none hs hda
    have hst := fun (H' : Hp) (e : ∀ b o, H b = some o → H' b = some o) => e _ _ hs
    have hz1 : tabL (stV ls sz) 1 = [V.int 0] := rfl
    walk_at "ss"
    rw [hl]
    refine r_while (fun m σ H' => ∃ (c : Nat) (kvs : List (Key × V)), m = ls.length + 1 - c ∧ σ = [some (.ref a), some (.ref s1), some (.int ls.length), some (.ref L), some (.ref d)] ∧ (∀ b o, H b = some o → H' b = some o) ∧
        H' L = some (.lst (tabL (stV ls sz) (c + 1))) ∧ H' d = some (.dK kvs) ∧ kvs.length ≤ c ∧ c ≤ ls.length ∧ (∀ i, i < c → valV kvs (Sum.inl ((Pk.st ls sz i % ls.length : Nat) : Int)) = some (.int i)) ∧
        (∀ p : Nat, (∀ i, i < c → Pk.st ls sz i % ls.length ≠ p) → valV kvs (Sum.inl ((p : Nat) : Int)) = none) ∧ (∀ x y, x < y → y < c → Pk.st ls sz x % ls.length ≠ Pk.st ls sz y % ls.length)) _
      ⟨0, [], rfl, rfl, s02, by rw [hz1]; exact s2 _ _ eL, ed, Nat.le_refl _, Nat.zero_le _, fun i h => absurd h (by omega), fun p _ => rfl, fun x y _ h => absurd h (by omega)⟩ ?_
    rintro m σ H3 ⟨c, kvs, rfl, rfl, s3, e3L, e3d, hkl, hc, hin, hout, hdis⟩
    have l3 : atI (tabL (stV ls sz) (c + 1)) (-1) = some (V.int (Pk.st ls sz c : Nat)) := tabL_last _ _
    have em : ((Pk.st ls sz c : Nat) : Int) % (ls.length : Int) = ((Pk.st ls sz c % ls.length : Nat) : Int) := by push_cast; rfl
    walk_at "ss"
    refine r_ixL (SqL.of e3L) l3 ?_
    walk_at "ss"
    rw [em]
    refine r_dk e3d ?_
    walk_at "ss"
    by_cases hx : ∃ i, i < c ∧ Pk.st ls sz i % ls.length = Pk.st ls sz c % ls.length
    · obtain ⟨j, hj, ej⟩ := hx
      have v := hin j hj
      rw [ej] at v
      have cyc : Pk.Cyc ls sz j c := ⟨hj, ej, hdis⟩
      have c6 := cyc.le o
      have st4 := Pk.st_mono o hj
      rw [v]
      refine r_whF ?_
      have ha3 := s3 _ _ ha
      have nad : d ≠ a := Ne.symm nda
      have naL : L ≠ a := Ne.symm nLa
      walk_at "ss"
      refine r_st ha3 cc n0 (by decide) rfl ?_
      walk_at "ss"
      refine r_st upd_same cc n1 (by show 1 < 1000; decide) rfl ?_
      rw [upd_upd]
      walk_at "ss"
      have f1 : ∀ x, (upd H3 a x) L = some (.lst (tabL (stV ls sz) (c + 1))) := fun x => by rw [upd_ne naL]; exact e3L
      have f2 : ∀ x, (upd H3 a x) d = some (.dK kvs) := fun x => by rw [upd_ne nad]; exact e3d
      refine r_ixL (SqL.of (f1 _)) l3 ?_
      walk_at "ss"
      rw [em]
      refine r_dg (f2 _) v ?_
      walk_at "ss"
      refine r_st upd_same cc n2 (by show 2 < 1000; decide) rfl ?_
      rw [upd_upd]
      walk_at "ss"
      refine r_lenL (SqL.of (f1 _)) ?_
      walk_at "ss"
      refine r_fd upd_same cc n2 rfl ?_
      walk_at "ss"
      rw [show (((tabL (stV ls sz) (c + 1)).length : Nat) : Int) - 1 - (j : Int) = ((c - j : Nat) : Int) by rw [tabL_len]; omega]
      refine r_st upd_same cc n3 (by show 3 < 1000; decide) rfl ?_
      rw [upd_upd]
      walk_at "ss"
      refine r_ixL (SqL.of (f1 _)) l3 ?_
      walk_at "ss"
      refine r_fd upd_same cc n2 rfl ?_
      refine r_ixL (SqL.of (f1 _)) (tabL_at (stV ls sz) rfl (by omega)) ?_
      walk_at "ss"
      walk_at "ss"
      rw [show ((Pk.st ls sz c : Nat) : Int) - ((Pk.st ls sz j : Nat) : Int) = ((Pk.rws ls sz j c : Nat) : Int) by unfold Pk.rws; omega]
      refine r_st upd_same cc n4 (by show 4 < 1000; decide) rfl ?_
      rw [upd_upd]
      walk_at "ss"
      refine r_obj upd_same rfl ?_
      walk_at "ss"
      have F4 : PkF K (upd H3 a (.ins (He.ga K "Packing") dx [("_settings", .ref s1), ("_starts", .ref L), ("_first", .int j), ("_pages", .int (c - j : Nat)), ("_rows", .int (Pk.rws ls sz j c : Nat))])) a ls sz j c L dx [("_settings", .ref s1), ("_starts", .ref L), ("_first", .int j), ("_pages", .int (c - j : Nat)), ("_rows", .int (Pk.rws ls sz j c : Nat))] :=
        ⟨upd_same, rfl, rfl, rfl, rfl, rfl, rfl, f1 _, cyc, ok⟩
      refine ⟨a, L, dx, ls, sz, j, c, 10 ^ 30 - 1, _, rfl, F4, by decide, fun m hm => ?_⟩
      walk_at "ss"
      refine r_st upd_same cc n5 (by show 5 < 1000; decide) rfl ?_
      rw [upd_upd]
      have nta : t ≠ a := fun e => by
        rw [e, ha] at ht
        cases ht
      have made : ∀ H2 : Hp, H2 a = some (.ins (He.ga K "Packing") dx [("_settings", .ref s1), ("_starts", .ref L), ("_first", .int j), ("_pages", .int (c - j : Nat)), ("_rows", .int (Pk.rws ls sz j c : Nat)), ("_last", .int m)]) → H2 L = some (.lst (tabL (stV ls sz) (c + 1))) →
          H2 s1 = some (.ins (He.ga K "Settings") dy (setF t sz fo re ev ke)) → H2 t = some (.tup (ls.map V.int)) → PackAt K H2 a s1 ls sz := fun H2 g1 g2 g3 g4 => ⟨dx, L, j, c, m, ⟨g1, rfl, rfl, rfl, rfl, rfl, rfl, g2, cyc, ok⟩, hm, dy, t, fo, re, ev, ke, g3, g4⟩
      have k3 : ∀ x, (upd H3 a x) s1 = some (.ins (He.ga K "Settings") dy (setF t sz fo re ev ke)) := fun x => by
        rw [upd_ne nsa]
        exact s3 _ _ hs
      have k4 : ∀ x, (upd H3 a x) t = some (.tup (ls.map V.int)) := fun x => by
        rw [upd_ne nta]
        exact s3 _ _ ht
      refine q _ (fun b o n e => ?_) (made _ upd_same (f1 _) (k3 _) (k4 _)) fun b zs H2 hb bt => made H2 (bt a _ (fun e => ?_) upd_same) (bt L _ (Ne.symm (ne_of_none hb hL)) (f1 _)) (bt s1 _ (fun e => ?_) (k3 _)) (bt t _ (fun e => ?_) (k4 _))
      · rw [upd_ne n]
        exact s3 b o e
      · rw [← e, ha] at hb
        cases hb
      · rw [← e, hs] at hb
        cases hb
      · rw [← e, ht] at hb
        cases hb
    · have v := hout (Pk.st ls sz c % ls.length) fun i hi e => hx ⟨i, hi, e⟩
      have cl : c + 1 ≤ ls.length := Pk.dis_le o (k := c + 1) (sz := sz) fun x y hxy hy => by
        rcases Nat.lt_or_ge y c with z | z
        · exact hdis x y hxy z
        · have e : y = c := by omega
          rw [e]
          exact fun e2 => hx ⟨x, by omega, e2⟩
      rw [v]
      refine r_whT ?_
      have ln : (((tabL (stV ls sz) (c + 1)).length : Nat) : Int) - 1 = (c : Int) := by rw [tabL_len]; omega
      walk_at "ss"
      rw [ln]
      walk_at "ss"
      refine r_ixL (SqL.of e3L) l3 ?_
      walk_at "ss"
      rw [em]
      refine r_dp e3d (by omega) ?_
      have g1 : (upd H3 d (.dK (putK kvs (Sum.inl ((Pk.st ls sz c % ls.length : Nat) : Int)) (V.int c)))) L = some (.lst (tabL (stV ls sz) (c + 1))) := by rw [upd_ne nLd]; exact e3L
      have g2 : ∀ b o, H b = some o → (upd H3 d (.dK (putK kvs (Sum.inl ((Pk.st ls sz c % ls.length : Nat) : Int)) (V.int c)))) b = some o := fun b o e => by rw [upd_ne (ne_of_none e hda)]; exact s3 b o e
      walk_at "ss"
      refine r_ixL (SqL.of g1) l3 ?_
      walk_at "ss"
      refine r_ixL (SqL.of g1) l3 ?_
      walk_at "ss"
      refine ⟨s1, Pk.st ls sz c, ls, sz, fo, re, ev, ke, rfl, ⟨dy, t, g2 _ _ hs, g2 _ _ ht⟩, ok, ?_⟩
      walk_at "ss"
      refine r_append g1 (by rw [tabL_len]; omega) ?_
      walk_at "ss"
      refine ⟨_, ?_, c + 1, putK kvs (Sum.inl ((Pk.st ls sz c % ls.length : Nat) : Int)) (V.int c), rfl, rfl, fun b o e => ?_, ?_, ?_, ?_, cl, fun i hi => ?_, fun p hp => ?_, fun x y hxy hy => ?_⟩
      · omega
      · rw [upd_ne (ne_of_none e hL)]
        exact g2 b o e
      · rw [upd_same, tabL_succ _ (c + 1)]
        have e : stV ls sz (c + 1) = V.int ((Pk.st ls sz c : Nat) + (Pk.cnt ls sz (Pk.st ls sz c) : Nat)) := by
          unfold stV
          rw [Pk.st_succ, Int.natCast_add]
        rw [e]
      · rw [upd_ne (Ne.symm nLd), upd_same]
      · have := length_putK kvs (Sum.inl ((Pk.st ls sz c % ls.length : Nat) : Int)) (V.int c)
        omega
      · rw [valV_put]
        rcases Nat.lt_or_ge i c with z | z
        · rw [if_neg (fun e => hx ⟨i, z, by have := Sum.inl.inj e; omega⟩)]
          exact hin i z
        · have e : i = c := by omega
          rw [e, if_pos rfl]
      · rw [valV_put, if_neg (fun e => hp c (by omega) (by have := Sum.inl.inj e; omega))]
        exact hout p fun i hi => hp i (by omega)
      · rcases Nat.lt_or_ge y c with z | z
        · exact hdis x y hxy z
        · have e : y = c := by omega
          rw [e]
          exact fun e2 => hx ⟨x, by omega, e2⟩
theorem ok_Packing_begun {P : Program} {w : World} {K : PySem.W.Frag} {mg : Str → Option Value} {base : Heap} {f : Addr} {fd : FuncData} (F : FunD K "begun" "Packing.begun" (defArgs s_Packing_begun) (defBody s_Packing_begun) (defScope s_Packing_begun) [] [] f fd) (c_Packing : Cls K (He.ga K "Packing")) (h_check_moment : Kr.FnH P w K mg base CX0 4 "check_moment" ["moment"] (sp_check_moment K)) (m_Packing_page_with : Kr.MtH P w K mg base CX0 1 (He.ga K "Packing") "page_with" ["self", "row"] (sp_Packing_page_with K)) : FnOk P w K mg base CX0 5 f fd ["self", "moment"] (sp_Packing_begun K) := by
  refine F.ok sc_Packing_begun (fun vs H Q E h => by first | (obtain ⟨rfl, _⟩ := h; rfl) | (obtain ⟨_, rfl, _⟩ := h; rfl) | (obtain ⟨_, _, rfl, _⟩ := h; rfl) | (obtain ⟨_, _, _, rfl, _⟩ := h; rfl) | (obtain ⟨_, _, _, _, rfl, _⟩ := h; rfl) | (obtain ⟨_, _, _, _, _, rfl, _⟩ := h; rfl) | (obtain ⟨_, _, _, _, _, _, rfl, _⟩ := h; rfl) | (obtain ⟨_, _, _, _, _, _, _, rfl, _⟩ := h; rfl) | (obtain ⟨_, _, _, _, _, _, _, _, rfl, _⟩ := h; rfl) | (obtain ⟨_, _, _, _, _, _, _, _, _, rfl, _⟩ := h; rfl) | (obtain ⟨_, _, _, _, _, _, _, _, _, _, rfl, _⟩ := h; rfl) | (obtain ⟨_, _, _, _, _, _, _, _, _, _, _, rfl, _⟩ := h; rfl) | (obtain ⟨_, _, _, _, _, _, _, _, _, _, _, _, rfl, _⟩ := h; rfl) | (obtain ⟨_, _, _, _, _, _, _, _, _, _, _, _, _, rfl, _⟩ := h; rfl) | (obtain ⟨_, _, _, _, _, _, _, _, _, _, _, _, _, _, rfl, _⟩ := h; rfl) | (obtain ⟨_, _, _, _, _, _, _, _, _, _, _, _, _, _, _, rfl, _⟩ := h; rfl) | (obtain ⟨_, _, _, _, _, _, _, _, _, _, _, _, _, _, _, _, rfl, _⟩ := h; rfl) | (obtain ⟨_, _, _, _, _, _, _, _, _, _, _, _, _, _, _, _, _, rfl, _⟩ := h; rfl)) (fun cdv A outer s H vs Q E hr h => ?_)
  · have hu := hu_of hr
    obtain ⟨a, s1, ls, sz, r, rfl, PA, h30, q0, q⟩ := h
    obtain ⟨dx, lp, j, k, last, F, on, -⟩ := id PA
    have h0 := F.at_
    refine ⟨_, PSs.nox (pss_cons (ps_expr (Kr.pe_cl h_check_moment (hr.mono (by decide)) (pa_cons (pv 1) pa_nil))) (pss_cons (ps_if (pt_cmpR op_eq (pv 1) pe_int (nomark _)) (pss_one (ps_ret pe_int)) pss_nil) (pss_one (ps_ret (pe_op op_add (Kr.pe_mt m_Packing_page_with c_Packing (hr.mono (by decide)) (pv 0) (pa_cons (pe_op op_sub (pv 1) pe_int) pa_nil)) pe_int))))), ?_⟩
    rw [st_Packing_begun]
    walk_at "ss"
    refine ⟨r, rfl, h30, ?_⟩
    walk_at "ss"
    refine r_dec (fun e => ?_) fun e => ?_
    · walk_at "ss"
      exact q0 (by omega)
    · walk_at "ss"
      have er : (r : Int) - 1 = ((r - 1 : Nat) : Int) := by omega
      rw [er]
      refine ⟨a, lp, dx, ls, sz, j, k, r - 1, _, rfl, F, by omega, fun m om => ?_⟩
      walk_at "ss"
      exact q m (by omega) om
theorem ok_Packing_start_of {P : Program} {w : World} {K : PySem.W.Frag} {mg : Str → Option Value} {base : Heap} {f : Addr} {fd : FuncData} (F : FunD K "start_of" "Packing.start_of" (defArgs s_Packing_start_of) (defBody s_Packing_start_of) (defScope s_Packing_start_of) [] [] f fd) (a_Packing__first : NoAttr K (He.ga K "Packing") "_first") (a_Packing__pages : NoAttr K (He.ga K "Packing") "_pages") (a_Packing__rows : NoAttr K (He.ga K "Packing") "_rows") (a_Packing__starts : NoAttr K (He.ga K "Packing") "_starts") (c_Packing : Cls K (He.ga K "Packing")) (n_max : mg "max" = none) : FnOk P w K mg base CX0 1 f fd ["self", "page"] (sp_Packing_start_of K) := by
  refine F.ok sc_Packing_start_of (fun vs H Q E h => by first | (obtain ⟨rfl, _⟩ := h; rfl) | (obtain ⟨_, rfl, _⟩ := h; rfl) | (obtain ⟨_, _, rfl, _⟩ := h; rfl) | (obtain ⟨_, _, _, rfl, _⟩ := h; rfl) | (obtain ⟨_, _, _, _, rfl, _⟩ := h; rfl) | (obtain ⟨_, _, _, _, _, rfl, _⟩ := h; rfl) | (obtain ⟨_, _, _, _, _, _, rfl, _⟩ := h; rfl) | (obtain ⟨_, _, _, _, _, _, _, rfl, _⟩ := h; rfl) | (obtain ⟨_, _, _, _, _, _, _, _, rfl, _⟩ := h; rfl) | (obtain ⟨_, _, _, _, _, _, _, _, _, rfl, _⟩ := h; rfl) | (obtain ⟨_, _, _, _, _, _, _, _, _, _, rfl, _⟩ := h; rfl) | (obtain ⟨_, _, _, _, _, _, _, _, _, _, _, rfl, _⟩ := h; rfl) | (obtain ⟨_, _, _, _, _, _, _, _, _, _, _, _, rfl, _⟩ := h; rfl) | (obtain ⟨_, _, _, _, _, _, _, _, _, _, _, _, _, rfl, _⟩ := h; rfl) | (obtain ⟨_, _, _, _, _, _, _, _, _, _, _, _, _, _, rfl, _⟩ := h; rfl) | (obtain ⟨_, _, _, _, _, _, _, _, _, _, _, _, _, _, _, rfl, _⟩ := h; rfl) | (obtain ⟨_, _, _, _, _, _, _, _, _, _, _, _, _, _, _, _, rfl, _⟩ := h; rfl) | (obtain ⟨_, _, _, _, _, _, _, _, _, _, _, _, _, _, _, _, _, rfl, _⟩ := h; rfl)) (fun cdv A outer s H vs Q E hr h => ?_)
  · have hu := hu_of hr
    obtain ⟨a, s1, ls, sz, m, rfl, ⟨dx, lp, j, k, last, F, on, dy, t, fo, re, ev, ke, hs, ht⟩, h40, q⟩ := h
    have cc := c_Packing
    have n1 := a_Packing__starts
    have n2 := a_Packing__first
    have n3 := a_Packing__pages
    have n4 := a_Packing__rows
    have h0 := F.at_
    have h5 := F.lst
    have o := F.ok.pk
    have clt := F.cyc.lt
    obtain ⟨k6, st400⟩ := F.small
    have pc : CDivW ((m : Int) - (j : Int)) ((k - j : Nat) : Int) := wide_div (b := 64) (by omega) (by omega) (by decide) (by decide)
    obtain ⟨u, eu, u1, u2, u3, u4⟩ := F.cyc.pturns m
    have rle : Pk.rws ls sz j k ≤ 400 := by unfold Pk.rws; omega
    refine ⟨_, PSs.nox (pss_cons (ps_set (i := 2) sc_Packing_start_of.nd rfl (.inl rfl) (pe_callB (id := "max") (Kr.c_max2 rfl) rfl n_max (by decide +kernel) (pa_cons pe_int (pa_cons (pe_op op_fdivW (pe_op op_sub (pv 1) (pe_fld (pv 0) rfl)) (pe_fld (pv 0) rfl)) pa_nil)))) (pss_one (ps_ret (pe_op op_add (pe_ix ix_list (pe_fld (pv 0) rfl) (pe_op op_sub (pv 1) (pe_op op_mul (pv 2) (pe_fld (pv 0) rfl))) (fun _ _ => rfl)) (pe_op op_mul (pv 2) (pe_fld (pv 0) rfl)))))), ?_⟩
    rw [st_Packing_start_of]
    walk_at "ss"
    rw [eu]
    walk_at "ss"
    have ei : (m : Int) - (u : Int) * ((k - j : Nat) : Int) = ((m - u * (k - j) : Nat) : Int) := by
      rw [Int.ofNat_sub u1, Int.natCast_mul]
    refine r_ixL (SqL.of h5) (tabL_at (stV ls sz) ei (by omega)) ?_
    walk_at "ss"
    have es := F.cyc.start o u1 u2
    have e : ((Pk.st ls sz (m - u * (k - j)) : Nat) : Int) + (u : Int) * ((Pk.rws ls sz j k : Nat) : Int) = ((Pk.st ls sz m : Nat) : Int) := by
      rw [es, Int.natCast_add, Int.natCast_mul]
    rw [e]
    exact q
theorem ok_State___init__ {P : Program} {w : World} {K : PySem.W.Frag} {mg : Str → Option Value} {base : Heap} {f : Addr} {fd : FuncData} (F : FunD K "__init__" "State.__init__" (defArgs s_State___init__) (defBody s_State___init__) (defScope s_State___init__) [] [] f fd) (a_State_after : NoAttr K (He.ga K "State") "after") (a_State_changed : NoAttr K (He.ga K "State") "changed") (a_State_done : NoAttr K (He.ga K "State") "done") (a_State_first : NoAttr K (He.ga K "State") "first") (a_State_free : NoAttr K (He.ga K "State") "free") (a_State_heap : NoAttr K (He.ga K "State") "heap") (a_State_log : NoAttr K (He.ga K "State") "log") (a_State_next_begin : NoAttr K (He.ga K "State") "next_begin") (a_State_nodes : NoAttr K (He.ga K "State") "nodes") (a_State_oldest_end : NoAttr K (He.ga K "State") "oldest_end") (a_State_packing : NoAttr K (He.ga K "State") "packing") (a_State_settings : NoAttr K (He.ga K "State") "settings") (a_State_size : NoAttr K (He.ga K "State") "size") (a_State_waiting : NoAttr K (He.ga K "State") "waiting") (c_Packing : Cls K (He.ga K "Packing")) (c_Settings : Cls K (He.ga K "Settings")) (c_State : Cls K (He.ga K "State")) (m_Packing_start_of : Kr.MtH P w K mg base CX0 1 (He.ga K "Packing") "start_of" ["self", "page"] (sp_Packing_start_of K)) (mk_Packing : Kr.MkH P w K mg base CX0 2 "Packing" (He.ga K "Packing") ["self", "settings"] (sp_Packing___init__ K)) : FnOk P w K mg base CX0 4 f fd ["self", "settings"] (sp_State___init__ K) := by
  refine F.ok sc_State___init__ (fun vs H Q E h => by first | (obtain ⟨rfl, _⟩ := h; rfl) | (obtain ⟨_, rfl, _⟩ := h; rfl) | (obtain ⟨_, _, rfl, _⟩ := h; rfl) | (obtain ⟨_, _, _, rfl, _⟩ := h; rfl) | (obtain ⟨_, _, _, _, rfl, _⟩ := h; rfl) | (obtain ⟨_, _, _, _, _, rfl, _⟩ := h; rfl) | (obtain ⟨_, _, _, _, _, _, rfl, _⟩ := h; rfl) | (obtain ⟨_, _, _, _, _, _, _, rfl, _⟩ := h; rfl) | (obtain ⟨_, _, _, _, _, _, _, _, rfl, _⟩ := h; rfl) | (obtain ⟨_, _, _, _, _, _, _, _, _, rfl, _⟩ := h; rfl) | (obtain ⟨_, _, _, _, _, _, _, _, _, _, rfl, _⟩ := h; rfl) | (obtain ⟨_, _, _, _, _, _, _, _, _, _, _, rfl, _⟩ := h; rfl) | (obtain ⟨_, _, _, _, _, _, _, _, _, _, _, _, rfl, _⟩ := h; rfl) | (obtain ⟨_, _, _, _, _, _, _, _, _, _, _, _, _, rfl, _⟩ := h; rfl) | (obtain ⟨_, _, _, _, _, _, _, _, _, _, _, _, _, _, rfl, _⟩ := h; rfl) | (obtain ⟨_, _, _, _, _, _, _, _, _, _, _, _, _, _, _, rfl, _⟩ := h; rfl) | (obtain ⟨_, _, _, _, _, _, _, _, _, _, _, _, _, _, _, _, rfl, _⟩ := h; rfl) | (obtain ⟨_, _, _, _, _, _, _, _, _, _, _, _, _, _, _, _, _, rfl, _⟩ := h; rfl)) (fun cdv A outer s H vs Q E hr h => ?_)
  · have hu := hu_of hr
    obtain ⟨a, s1, dx, ls, sz, fo, re, ev, ke, rfl, ha, S, ok, q⟩ := h
    obtain ⟨dy, t, hs, ht⟩ := id S
    have cc := c_State
    have cs := c_Settings
    have cp := c_Packing
    have n1 := a_State_settings
    have n2 := a_State_packing
    have n3 := a_State_done
    have n4 := a_State_first
    have n5 := a_State_after
    have n6 := a_State_heap
    have n7 := a_State_nodes
    have n8 := a_State_log
    have n9 := a_State_waiting
    have n10 := a_State_free
    have n11 := a_State_changed
    have n12 := a_State_size
    have n13 := a_State_next_begin
    have n14 := a_State_oldest_end
    have nsa : s1 ≠ a := fun e => by
      rw [e, ha] at hs
      injection hs with hs
      injection hs with _ _ h3
      exact absurd h3 (by simp [setF])
    have nta : t ≠ a := fun e => by
      rw [e, ha] at ht
      cases ht
    refine ⟨_, PSs.nox (pss_cons (ps_fld (pv 0) (pv 1) rfl) (pss_cons (ps_fld (pv 0) (Kr.pe_mk mk_Packing (hr.mono (by decide)) (pa_cons (pv 1) pa_nil)) rfl) (pss_cons (ps_fld (pv 0) pe_int rfl) (pss_cons (ps_fld (pv 0) pe_int rfl) (pss_cons (ps_fld (pv 0) pe_int rfl) (pss_cons (ps_fld (pv 0) pe_dnewK rfl) (pss_cons (ps_fld (pv 0) pe_dnewT rfl) (pss_cons (ps_fld (pv 0) (pe_lst pa_nil) rfl) (pss_cons (ps_fld (pv 0) (pe_lst pa_nil) rfl) (pss_cons (ps_fld (pv 0) (pe_lst pa_nil) rfl) (pss_cons (ps_fld (pv 0) pe_dnewK rfl) (pss_cons (ps_fld (pv 0) pe_int rfl) (pss_cons (ps_fld (pv 0) pe_int rfl) (pss_one (ps_fld (pv 0) (Kr.pe_mt m_Packing_start_of c_Packing (hr.mono (by decide)) (pe_fld (pv 0) rfl) (pa_cons pe_int pa_nil)) rfl))))))))))))))), ?_⟩
    rw [st_State___init__]
    walk_at "ss"
    refine r_st (gs := [("settings", .ref s1)]) ha cc n1 (by show (0 : Nat) < 1000; omega) rfl ?_
    have S1 : SetAt K (upd H a (.ins (He.ga K "State") dx [("settings", .ref s1)])) s1 ls sz fo re ev ke := ⟨dy, t, by rw [upd_ne nsa]; exact hs, by rw [upd_ne nta]; exact ht⟩
    have h1 : (upd H a (.ins (He.ga K "State") dx [("settings", .ref s1)])) a = some (.ins (He.ga K "State") dx [("settings", .ref s1)]) := upd_same
    have k1 : ∀ b u, b ≠ a → H b = some u → (upd H a (.ins (He.ga K "State") dx [("settings", .ref s1)])) b = some u := fun b u z w => by
      rw [upd_ne z]
      exact w
    have l1 : ∀ b, (upd H a (.ins (He.ga K "State") dx [("settings", .ref s1)])) b = none → H b = none := al_upd
    generalize upd H a _ = H1 at S1 h1 k1 l1 ⊢
    walk_at "ss"
    intro pa px hpa hpx npx
    have s12 : Same H1 (upd (upd H1 px (.own pa)) pa (.ins (He.ga K "Packing") px [])) := fun b u e => by
      rw [upd_ne (ne_of_none e hpa), upd_ne (ne_of_none e hpx)]
      exact e
    refine ⟨pa, s1, px, ls, sz, fo, re, ev, ke, rfl, upd_same, S1.same s12, ok.toLensOk, fun H2 k2 P2 _ => ?_⟩
    refine ⟨rfl, ?_⟩
    have s2 : Same H1 H2 := fun b u e => k2 b u (ne_of_none e hpa) (s12 _ _ e)
    have h2 := s2 _ _ h1
    have npa : pa ≠ a := fun e => by
      rw [e, h1] at hpa
      cases hpa
    obtain ⟨F, hF⟩ : ∃ F, F = frz H2 a := ⟨_, rfl⟩
    have Fa : F a = none := by rw [hF]; exact if_pos rfl
    have PF : PackAt K F pa s1 ls sz := by
      rw [hF]
      exact P2.frz npa nsa (fun zs z => by rw [h2] at z; cases z) (fun zs z => by rw [h2] at z; cases z)
    have SF : SetAt K F s1 ls sz fo re ev ke := by
      rw [hF]
      exact (S1.same s2).frz nsa (fun zs z => by rw [h2] at z; cases z)
    have kF : ∀ b u, b ≠ a → H b = some u → F b = some u := fun b u z w => by
      rw [hF, frz_ne z]
      exact s2 _ _ (k1 b u z w)
    have sF2 : Same F H2 := fun b u e => by
      rw [hF] at e
      unfold frz at e
      split at e
      · cases e
      · exact e
    have l2 : ∀ b, H2 b = none → H b = none := fun b e => l1 b (s2.free e)
    walk_at "ss"
    refine r_st (gs := [("settings", .ref s1), ("packing", .ref pa)]) h2 cc n2 (by show (1 : Nat) < 1000; omega) rfl ?_
    have h3 : (upd H2 a (.ins (He.ga K "State") dx [("settings", .ref s1), ("packing", .ref pa)])) a = some (.ins (He.ga K "State") dx [("settings", .ref s1), ("packing", .ref pa)]) := upd_same
    have sF3 := fz_upd (u := (.ins (He.ga K "State") dx [("settings", .ref s1), ("packing", .ref pa)])) sF2 Fa
    have l3 : ∀ b, (upd H2 a (.ins (He.ga K "State") dx [("settings", .ref s1), ("packing", .ref pa)])) b = none → H b = none := fun b e => l2 b (al_upd b e)
    generalize upd H2 a _ = H3 at h3 sF3 l3 ⊢
    walk_at "ss"
    refine r_st (gs := [("settings", .ref s1), ("packing", .ref pa), ("done", .int 0)]) h3 cc n3 (by show (2 : Nat) < 1000; omega) rfl ?_
    have h4 : (upd H3 a (.ins (He.ga K "State") dx [("settings", .ref s1), ("packing", .ref pa), ("done", .int 0)])) a = some (.ins (He.ga K "State") dx [("settings", .ref s1), ("packing", .ref pa), ("done", .int 0)]) := upd_same
    have sF4 := fz_upd (u := (.ins (He.ga K "State") dx [("settings", .ref s1), ("packing", .ref pa), ("done", .int 0)])) sF3 Fa
    have l4 : ∀ b, (upd H3 a (.ins (He.ga K "State") dx [("settings", .ref s1), ("packing", .ref pa), ("done", .int 0)])) b = none → H b = none := fun b e => l3 b (al_upd b e)
    generalize upd H3 a _ = H4 at h4 sF4 l4 ⊢
    walk_at "ss"
    refine r_st (gs := [("settings", .ref s1), ("packing", .ref pa), ("done", .int 0), ("first", .int 0)]) h4 cc n4 (by show (3 : Nat) < 1000; omega) rfl ?_
    have h5 : (upd H4 a (.ins (He.ga K "State") dx [("settings", .ref s1), ("packing", .ref pa), ("done", .int 0), ("first", .int 0)])) a = some (.ins (He.ga K "State") dx [("settings", .ref s1), ("packing", .ref pa), ("done", .int 0), ("first", .int 0)]) := upd_same
    have sF5 := fz_upd (u := (.ins (He.ga K "State") dx [("settings", .ref s1), ("packing", .ref pa), ("done", .int 0), ("first", .int 0)])) sF4 Fa
    have l5 : ∀ b, (upd H4 a (.ins (He.ga K "State") dx [("settings", .ref s1), ("packing", .ref pa), ("done", .int 0), ("first", .int 0)])) b = none → H b = none := fun b e => l4 b (al_upd b e)
    generalize upd H4 a _ = H5 at h5 sF5 l5 ⊢
    walk_at "ss"
    refine r_st (gs := [("settings", .ref s1), ("packing", .ref pa), ("done", .int 0), ("first", .int 0), ("after", .int 0)]) h5 cc n5 (by show (4 : Nat) < 1000; omega) rfl ?_
    have h6 : (upd H5 a (.ins (He.ga K "State") dx [("settings", .ref s1), ("packing", .ref pa), ("done", .int 0), ("first", .int 0), ("after", .int 0)])) a = some (.ins (He.ga K "State") dx [("settings", .ref s1), ("packing", .ref pa), ("done", .int 0), ("first", .int 0), ("after", .int 0)]) := upd_same
    have sF6 := fz_upd (u := (.ins (He.ga K "State") dx [("settings", .ref s1), ("packing", .ref pa), ("done", .int 0), ("first", .int 0), ("after", .int 0)])) sF5 Fa
    have l6 : ∀ b, (upd H5 a (.ins (He.ga K "State") dx [("settings", .ref s1), ("packing", .ref pa), ("done", .int 0), ("first", .int 0), ("after", .int 0)])) b = none → H b = none := fun b e => l5 b (al_upd b e)
    generalize upd H5 a _ = H6 at h6 sF6 l6 ⊢
    walk_at "ss"
    refine r_newS fun cdh H7 fcdh s7 ecdh7 => ?_
    have h7 := s7 _ _ h6
    have sF7 : Same F H7 := fun b u e => s7 _ _ (sF6 b u e)
    have l7 : ∀ b, H7 b = none → H b = none := fun b e => l6 b (s7.free e)
    have ncdha : cdh ≠ a := fun z => by
      rw [z, h6] at fcdh
      cases fcdh
    have gcdh : H cdh = none := l6 _ fcdh
    have bcdh : F cdh = none := Same.free sF6 fcdh
    walk_at "ss"
    refine r_st (gs := [("settings", .ref s1), ("packing", .ref pa), ("done", .int 0), ("first", .int 0), ("after", .int 0), ("heap", .ref cdh)]) h7 cc n6 (by show (5 : Nat) < 1000; omega) rfl ?_
    have h8 : (upd H7 a (.ins (He.ga K "State") dx [("settings", .ref s1), ("packing", .ref pa), ("done", .int 0), ("first", .int 0), ("after", .int 0), ("heap", .ref cdh)])) a = some (.ins (He.ga K "State") dx [("settings", .ref s1), ("packing", .ref pa), ("done", .int 0), ("first", .int 0), ("after", .int 0), ("heap", .ref cdh)]) := upd_same
    have sF8 := fz_upd (u := (.ins (He.ga K "State") dx [("settings", .ref s1), ("packing", .ref pa), ("done", .int 0), ("first", .int 0), ("after", .int 0), ("heap", .ref cdh)])) sF7 Fa
    have l8 : ∀ b, (upd H7 a (.ins (He.ga K "State") dx [("settings", .ref s1), ("packing", .ref pa), ("done", .int 0), ("first", .int 0), ("after", .int 0), ("heap", .ref cdh)])) b = none → H b = none := fun b e => l7 b (al_upd b e)
    have ecdh8 : (upd H7 a (.ins (He.ga K "State") dx [("settings", .ref s1), ("packing", .ref pa), ("done", .int 0), ("first", .int 0), ("after", .int 0), ("heap", .ref cdh)])) cdh = some (.dK []) := by rw [upd_ne ncdha]; exact ecdh7
    generalize upd H7 a _ = H8 at h8 sF8 l8 ecdh8 ⊢
    walk_at "ss"
    refine KrD.r_dnewT ?_
    refine r_newS fun cdn H9 fcdn s9 ecdn9 => ?_
    have h9 := s9 _ _ h8
    have sF9 : Same F H9 := fun b u e => s9 _ _ (sF8 b u e)
    have l9 : ∀ b, H9 b = none → H b = none := fun b e => l8 b (s9.free e)
    have ncdna : cdn ≠ a := fun z => by
      rw [z, h8] at fcdn
      cases fcdn
    have gcdn : H cdn = none := l8 _ fcdn
    have bcdn : F cdn = none := Same.free sF8 fcdn
    have ecdh9 := s9 _ _ ecdh8
    have ncdhcdn : cdh ≠ cdn := ne_of_none ecdh8 fcdn
    walk_at "ss"
    refine r_st (gs := [("settings", .ref s1), ("packing", .ref pa), ("done", .int 0), ("first", .int 0), ("after", .int 0), ("heap", .ref cdh), ("nodes", .ref cdn)]) h9 cc n7 (by show (6 : Nat) < 1000; omega) rfl ?_
    have h10 : (upd H9 a (.ins (He.ga K "State") dx [("settings", .ref s1), ("packing", .ref pa), ("done", .int 0), ("first", .int 0), ("after", .int 0), ("heap", .ref cdh), ("nodes", .ref cdn)])) a = some (.ins (He.ga K "State") dx [("settings", .ref s1), ("packing", .ref pa), ("done", .int 0), ("first", .int 0), ("after", .int 0), ("heap", .ref cdh), ("nodes", .ref cdn)]) := upd_same
    have sF10 := fz_upd (u := (.ins (He.ga K "State") dx [("settings", .ref s1), ("packing", .ref pa), ("done", .int 0), ("first", .int 0), ("after", .int 0), ("heap", .ref cdh), ("nodes", .ref cdn)])) sF9 Fa
    have l10 : ∀ b, (upd H9 a (.ins (He.ga K "State") dx [("settings", .ref s1), ("packing", .ref pa), ("done", .int 0), ("first", .int 0), ("after", .int 0), ("heap", .ref cdh), ("nodes", .ref cdn)])) b = none → H b = none := fun b e => l9 b (al_upd b e)
    have ecdh10 : (upd H9 a (.ins (He.ga K "State") dx [("settings", .ref s1), ("packing", .ref pa), ("done", .int 0), ("first", .int 0), ("after", .int 0), ("heap", .ref cdh), ("nodes", .ref cdn)])) cdh = some (.dK []) := by rw [upd_ne ncdha]; exact ecdh9
    have ecdn10 : (upd H9 a (.ins (He.ga K "State") dx [("settings", .ref s1), ("packing", .ref pa), ("done", .int 0), ("first", .int 0), ("after", .int 0), ("heap", .ref cdh), ("nodes", .ref cdn)])) cdn = some (.dT []) := by rw [upd_ne ncdna]; exact ecdn9
    generalize upd H9 a _ = H10 at h10 sF10 l10 ecdh10 ecdn10 ⊢
    walk_at "ss"
    refine r_newS fun clg H11 fclg s11 eclg11 => ?_
    have h11 := s11 _ _ h10
    have sF11 : Same F H11 := fun b u e => s11 _ _ (sF10 b u e)
    have l11 : ∀ b, H11 b = none → H b = none := fun b e => l10 b (s11.free e)
    have nclga : clg ≠ a := fun z => by
      rw [z, h10] at fclg
      cases fclg
    have gclg : H clg = none := l10 _ fclg
    have bclg : F clg = none := Same.free sF10 fclg
    have ecdh11 := s11 _ _ ecdh10
    have ncdhclg : cdh ≠ clg := ne_of_none ecdh10 fclg
    have ecdn11 := s11 _ _ ecdn10
    have ncdnclg : cdn ≠ clg := ne_of_none ecdn10 fclg
    walk_at "ss"
    refine r_st (gs := [("settings", .ref s1), ("packing", .ref pa), ("done", .int 0), ("first", .int 0), ("after", .int 0), ("heap", .ref cdh), ("nodes", .ref cdn), ("log", .ref clg)]) h11 cc n8 (by show (7 : Nat) < 1000; omega) rfl ?_
    have h12 : (upd H11 a (.ins (He.ga K "State") dx [("settings", .ref s1), ("packing", .ref pa), ("done", .int 0), ("first", .int 0), ("after", .int 0), ("heap", .ref cdh), ("nodes", .ref cdn), ("log", .ref clg)])) a = some (.ins (He.ga K "State") dx [("settings", .ref s1), ("packing", .ref pa), ("done", .int 0), ("first", .int 0), ("after", .int 0), ("heap", .ref cdh), ("nodes", .ref cdn), ("log", .ref clg)]) := upd_same
    have sF12 := fz_upd (u := (.ins (He.ga K "State") dx [("settings", .ref s1), ("packing", .ref pa), ("done", .int 0), ("first", .int 0), ("after", .int 0), ("heap", .ref cdh), ("nodes", .ref cdn), ("log", .ref clg)])) sF11 Fa
    have l12 : ∀ b, (upd H11 a (.ins (He.ga K "State") dx [("settings", .ref s1), ("packing", .ref pa), ("done", .int 0), ("first", .int 0), ("after", .int 0), ("heap", .ref cdh), ("nodes", .ref cdn), ("log", .ref clg)])) b = none → H b = none := fun b e => l11 b (al_upd b e)
    have ecdh12 : (upd H11 a (.ins (He.ga K "State") dx [("settings", .ref s1), ("packing", .ref pa), ("done", .int 0), ("first", .int 0), ("after", .int 0), ("heap", .ref cdh), ("nodes", .ref cdn), ("log", .ref clg)])) cdh = some (.dK []) := by rw [upd_ne ncdha]; exact ecdh11
    have ecdn12 : (upd H11 a (.ins (He.ga K "State") dx [("settings", .ref s1), ("packing", .ref pa), ("done", .int 0), ("first", .int 0), ("after", .int 0), ("heap", .ref cdh), ("nodes", .ref cdn), ("log", .ref clg)])) cdn = some (.dT []) := by rw [upd_ne ncdna]; exact ecdn11
    have eclg12 : (upd H11 a (.ins (He.ga K "State") dx [("settings", .ref s1), ("packing", .ref pa), ("done", .int 0), ("first", .int 0), ("after", .int 0), ("heap", .ref cdh), ("nodes", .ref cdn), ("log", .ref clg)])) clg = some (.lst []) := by rw [upd_ne nclga]; exact eclg11
    generalize upd H11 a _ = H12 at h12 sF12 l12 ecdh12 ecdn12 eclg12 ⊢
    walk_at "ss"
    refine r_newS fun cwt H13 fcwt s13 ecwt13 => ?_
    have h13 := s13 _ _ h12
    have sF13 : Same F H13 := fun b u e => s13 _ _ (sF12 b u e)
    have l13 : ∀ b, H13 b = none → H b = none := fun b e => l12 b (s13.free e)
    have ncwta : cwt ≠ a := fun z => by
      rw [z, h12] at fcwt
      cases fcwt
    have gcwt : H cwt = none := l12 _ fcwt
    have bcwt : F cwt = none := Same.free sF12 fcwt
    have ecdh13 := s13 _ _ ecdh12
    have ncdhcwt : cdh ≠ cwt := ne_of_none ecdh12 fcwt
    have ecdn13 := s13 _ _ ecdn12
    have ncdncwt : cdn ≠ cwt := ne_of_none ecdn12 fcwt
    have eclg13 := s13 _ _ eclg12
    have nclgcwt : clg ≠ cwt := ne_of_none eclg12 fcwt
    walk_at "ss"
    refine r_st (gs := [("settings", .ref s1), ("packing", .ref pa), ("done", .int 0), ("first", .int 0), ("after", .int 0), ("heap", .ref cdh), ("nodes", .ref cdn), ("log", .ref clg), ("waiting", .ref cwt)]) h13 cc n9 (by show (8 : Nat) < 1000; omega) rfl ?_
    have h14 : (upd H13 a (.ins (He.ga K "State") dx [("settings", .ref s1), ("packing", .ref pa), ("done", .int 0), ("first", .int 0), ("after", .int 0), ("heap", .ref cdh), ("nodes", .ref cdn), ("log", .ref clg), ("waiting", .ref cwt)])) a = some (.ins (He.ga K "State") dx [("settings", .ref s1), ("packing", .ref pa), ("done", .int 0), ("first", .int 0), ("after", .int 0), ("heap", .ref cdh), ("nodes", .ref cdn), ("log", .ref clg), ("waiting", .ref cwt)]) := upd_same
    have sF14 := fz_upd (u := (.ins (He.ga K "State") dx [("settings", .ref s1), ("packing", .ref pa), ("done", .int 0), ("first", .int 0), ("after", .int 0), ("heap", .ref cdh), ("nodes", .ref cdn), ("log", .ref clg), ("waiting", .ref cwt)])) sF13 Fa
    have l14 : ∀ b, (upd H13 a (.ins (He.ga K "State") dx [("settings", .ref s1), ("packing", .ref pa), ("done", .int 0), ("first", .int 0), ("after", .int 0), ("heap", .ref cdh), ("nodes", .ref cdn), ("log", .ref clg), ("waiting", .ref cwt)])) b = none → H b = none := fun b e => l13 b (al_upd b e)
    have ecdh14 : (upd H13 a (.ins (He.ga K "State") dx [("settings", .ref s1), ("packing", .ref pa), ("done", .int 0), ("first", .int 0), ("after", .int 0), ("heap", .ref cdh), ("nodes", .ref cdn), ("log", .ref clg), ("waiting", .ref cwt)])) cdh = some (.dK []) := by rw [upd_ne ncdha]; exact ecdh13
    have ecdn14 : (upd H13 a (.ins (He.ga K "State") dx [("settings", .ref s1), ("packing", .ref pa), ("done", .int 0), ("first", .int 0), ("after", .int 0), ("heap", .ref cdh), ("nodes", .ref cdn), ("log", .ref clg), ("waiting", .ref cwt)])) cdn = some (.dT []) := by rw [upd_ne ncdna]; exact ecdn13
    have eclg14 : (upd H13 a (.ins (He.ga K "State") dx [("settings", .ref s1), ("packing", .ref pa), ("done", .int 0), ("first", .int 0), ("after", .int 0), ("heap", .ref cdh), ("nodes", .ref cdn), ("log", .ref clg), ("waiting", .ref cwt)])) clg = some (.lst []) := by rw [upd_ne nclga]; exact eclg13
    have ecwt14 : (upd H13 a (.ins (He.ga K "State") dx [("settings", .ref s1), ("packing", .ref pa), ("done", .int 0), ("first", .int 0), ("after", .int 0), ("heap", .ref cdh), ("nodes", .ref cdn), ("log", .ref clg), ("waiting", .ref cwt)])) cwt = some (.lst []) := by rw [upd_ne ncwta]; exact ecwt13
    generalize upd H13 a _ = H14 at h14 sF14 l14 ecdh14 ecdn14 eclg14 ecwt14 ⊢
    walk_at "ss"
    refine r_newS fun cfr H15 fcfr s15 ecfr15 => ?_
    have h15 := s15 _ _ h14
    have sF15 : Same F H15 := fun b u e => s15 _ _ (sF14 b u e)
    have l15 : ∀ b, H15 b = none → H b = none := fun b e => l14 b (s15.free e)
    have ncfra : cfr ≠ a := fun z => by
      rw [z, h14] at fcfr
      cases fcfr
    have gcfr : H cfr = none := l14 _ fcfr
    have bcfr : F cfr = none := Same.free sF14 fcfr
    have ecdh15 := s15 _ _ ecdh14
    have ncdhcfr : cdh ≠ cfr := ne_of_none ecdh14 fcfr
    have ecdn15 := s15 _ _ ecdn14
    have ncdncfr : cdn ≠ cfr := ne_of_none ecdn14 fcfr
    have eclg15 := s15 _ _ eclg14
    have nclgcfr : clg ≠ cfr := ne_of_none eclg14 fcfr
    have ecwt15 := s15 _ _ ecwt14
    have ncwtcfr : cwt ≠ cfr := ne_of_none ecwt14 fcfr
    walk_at "ss"
    refine r_st (gs := [("settings", .ref s1), ("packing", .ref pa), ("done", .int 0), ("first", .int 0), ("after", .int 0), ("heap", .ref cdh), ("nodes", .ref cdn), ("log", .ref clg), ("waiting", .ref cwt), ("free", .ref cfr)]) h15 cc n10 (by show (9 : Nat) < 1000; omega) rfl ?_
    have h16 : (upd H15 a (.ins (He.ga K "State") dx [("settings", .ref s1), ("packing", .ref pa), ("done", .int 0), ("first", .int 0), ("after", .int 0), ("heap", .ref cdh), ("nodes", .ref cdn), ("log", .ref clg), ("waiting", .ref cwt), ("free", .ref cfr)])) a = some (.ins (He.ga K "State") dx [("settings", .ref s1), ("packing", .ref pa), ("done", .int 0), ("first", .int 0), ("after", .int 0), ("heap", .ref cdh), ("nodes", .ref cdn), ("log", .ref clg), ("waiting", .ref cwt), ("free", .ref cfr)]) := upd_same
    have sF16 := fz_upd (u := (.ins (He.ga K "State") dx [("settings", .ref s1), ("packing", .ref pa), ("done", .int 0), ("first", .int 0), ("after", .int 0), ("heap", .ref cdh), ("nodes", .ref cdn), ("log", .ref clg), ("waiting", .ref cwt), ("free", .ref cfr)])) sF15 Fa
    have l16 : ∀ b, (upd H15 a (.ins (He.ga K "State") dx [("settings", .ref s1), ("packing", .ref pa), ("done", .int 0), ("first", .int 0), ("after", .int 0), ("heap", .ref cdh), ("nodes", .ref cdn), ("log", .ref clg), ("waiting", .ref cwt), ("free", .ref cfr)])) b = none → H b = none := fun b e => l15 b (al_upd b e)
    have ecdh16 : (upd H15 a (.ins (He.ga K "State") dx [("settings", .ref s1), ("packing", .ref pa), ("done", .int 0), ("first", .int 0), ("after", .int 0), ("heap", .ref cdh), ("nodes", .ref cdn), ("log", .ref clg), ("waiting", .ref cwt), ("free", .ref cfr)])) cdh = some (.dK []) := by rw [upd_ne ncdha]; exact ecdh15
    have ecdn16 : (upd H15 a (.ins (He.ga K "State") dx [("settings", .ref s1), ("packing", .ref pa), ("done", .int 0), ("first", .int 0), ("after", .int 0), ("heap", .ref cdh), ("nodes", .ref cdn), ("log", .ref clg), ("waiting", .ref cwt), ("free", .ref cfr)])) cdn = some (.dT []) := by rw [upd_ne ncdna]; exact ecdn15
    have eclg16 : (upd H15 a (.ins (He.ga K "State") dx [("settings", .ref s1), ("packing", .ref pa), ("done", .int 0), ("first", .int 0), ("after", .int 0), ("heap", .ref cdh), ("nodes", .ref cdn), ("log", .ref clg), ("waiting", .ref cwt), ("free", .ref cfr)])) clg = some (.lst []) := by rw [upd_ne nclga]; exact eclg15
    have ecwt16 : (upd H15 a (.ins (He.ga K "State") dx [("settings", .ref s1), ("packing", .ref pa), ("done", .int 0), ("first", .int 0), ("after", .int 0), ("heap", .ref cdh), ("nodes", .ref cdn), ("log", .ref clg), ("waiting", .ref cwt), ("free", .ref cfr)])) cwt = some (.lst []) := by rw [upd_ne ncwta]; exact ecwt15
    have ecfr16 : (upd H15 a (.ins (He.ga K "State") dx [("settings", .ref s1), ("packing", .ref pa), ("done", .int 0), ("first", .int 0), ("after", .int 0), ("heap", .ref cdh), ("nodes", .ref cdn), ("log", .ref clg), ("waiting", .ref cwt), ("free", .ref cfr)])) cfr = some (.lst []) := by rw [upd_ne ncfra]; exact ecfr15
    generalize upd H15 a _ = H16 at h16 sF16 l16 ecdh16 ecdn16 eclg16 ecwt16 ecfr16 ⊢
    walk_at "ss"
    refine r_newS fun cch H17 fcch s17 ecch17 => ?_
    have h17 := s17 _ _ h16
    have sF17 : Same F H17 := fun b u e => s17 _ _ (sF16 b u e)
    have l17 : ∀ b, H17 b = none → H b = none := fun b e => l16 b (s17.free e)
    have nccha : cch ≠ a := fun z => by
      rw [z, h16] at fcch
      cases fcch
    have gcch : H cch = none := l16 _ fcch
    have bcch : F cch = none := Same.free sF16 fcch
    have ecdh17 := s17 _ _ ecdh16
    have ncdhcch : cdh ≠ cch := ne_of_none ecdh16 fcch
    have ecdn17 := s17 _ _ ecdn16
    have ncdncch : cdn ≠ cch := ne_of_none ecdn16 fcch
    have eclg17 := s17 _ _ eclg16
    have nclgcch : clg ≠ cch := ne_of_none eclg16 fcch
    have ecwt17 := s17 _ _ ecwt16
    have ncwtcch : cwt ≠ cch := ne_of_none ecwt16 fcch
    have ecfr17 := s17 _ _ ecfr16
    have ncfrcch : cfr ≠ cch := ne_of_none ecfr16 fcch
    walk_at "ss"
    refine r_st (gs := [("settings", .ref s1), ("packing", .ref pa), ("done", .int 0), ("first", .int 0), ("after", .int 0), ("heap", .ref cdh), ("nodes", .ref cdn), ("log", .ref clg), ("waiting", .ref cwt), ("free", .ref cfr), ("changed", .ref cch)]) h17 cc n11 (by show (10 : Nat) < 1000; omega) rfl ?_
    have h18 : (upd H17 a (.ins (He.ga K "State") dx [("settings", .ref s1), ("packing", .ref pa), ("done", .int 0), ("first", .int 0), ("after", .int 0), ("heap", .ref cdh), ("nodes", .ref cdn), ("log", .ref clg), ("waiting", .ref cwt), ("free", .ref cfr), ("changed", .ref cch)])) a = some (.ins (He.ga K "State") dx [("settings", .ref s1), ("packing", .ref pa), ("done", .int 0), ("first", .int 0), ("after", .int 0), ("heap", .ref cdh), ("nodes", .ref cdn), ("log", .ref clg), ("waiting", .ref cwt), ("free", .ref cfr), ("changed", .ref cch)]) := upd_same
    have sF18 := fz_upd (u := (.ins (He.ga K "State") dx [("settings", .ref s1), ("packing", .ref pa), ("done", .int 0), ("first", .int 0), ("after", .int 0), ("heap", .ref cdh), ("nodes", .ref cdn), ("log", .ref clg), ("waiting", .ref cwt), ("free", .ref cfr), ("changed", .ref cch)])) sF17 Fa
    have l18 : ∀ b, (upd H17 a (.ins (He.ga K "State") dx [("settings", .ref s1), ("packing", .ref pa), ("done", .int 0), ("first", .int 0), ("after", .int 0), ("heap", .ref cdh), ("nodes", .ref cdn), ("log", .ref clg), ("waiting", .ref cwt), ("free", .ref cfr), ("changed", .ref cch)])) b = none → H b = none := fun b e => l17 b (al_upd b e)
    have ecdh18 : (upd H17 a (.ins (He.ga K "State") dx [("settings", .ref s1), ("packing", .ref pa), ("done", .int 0), ("first", .int 0), ("after", .int 0), ("heap", .ref cdh), ("nodes", .ref cdn), ("log", .ref clg), ("waiting", .ref cwt), ("free", .ref cfr), ("changed", .ref cch)])) cdh = some (.dK []) := by rw [upd_ne ncdha]; exact ecdh17
    have ecdn18 : (upd H17 a (.ins (He.ga K "State") dx [("settings", .ref s1), ("packing", .ref pa), ("done", .int 0), ("first", .int 0), ("after", .int 0), ("heap", .ref cdh), ("nodes", .ref cdn), ("log", .ref clg), ("waiting", .ref cwt), ("free", .ref cfr), ("changed", .ref cch)])) cdn = some (.dT []) := by rw [upd_ne ncdna]; exact ecdn17
    have eclg18 : (upd H17 a (.ins (He.ga K "State") dx [("settings", .ref s1), ("packing", .ref pa), ("done", .int 0), ("first", .int 0), ("after", .int 0), ("heap", .ref cdh), ("nodes", .ref cdn), ("log", .ref clg), ("waiting", .ref cwt), ("free", .ref cfr), ("changed", .ref cch)])) clg = some (.lst []) := by rw [upd_ne nclga]; exact eclg17
    have ecwt18 : (upd H17 a (.ins (He.ga K "State") dx [("settings", .ref s1), ("packing", .ref pa), ("done", .int 0), ("first", .int 0), ("after", .int 0), ("heap", .ref cdh), ("nodes", .ref cdn), ("log", .ref clg), ("waiting", .ref cwt), ("free", .ref cfr), ("changed", .ref cch)])) cwt = some (.lst []) := by rw [upd_ne ncwta]; exact ecwt17
    have ecfr18 : (upd H17 a (.ins (He.ga K "State") dx [("settings", .ref s1), ("packing", .ref pa), ("done", .int 0), ("first", .int 0), ("after", .int 0), ("heap", .ref cdh), ("nodes", .ref cdn), ("log", .ref clg), ("waiting", .ref cwt), ("free", .ref cfr), ("changed", .ref cch)])) cfr = some (.lst []) := by rw [upd_ne ncfra]; exact ecfr17
    have ecch18 : (upd H17 a (.ins (He.ga K "State") dx [("settings", .ref s1), ("packing", .ref pa), ("done", .int 0), ("first", .int 0), ("after", .int 0), ("heap", .ref cdh), ("nodes", .ref cdn), ("log", .ref clg), ("waiting", .ref cwt), ("free", .ref cfr), ("changed", .ref cch)])) cch = some (.dK []) := by rw [upd_ne nccha]; exact ecch17
    generalize upd H17 a _ = H18 at h18 sF18 l18 ecdh18 ecdn18 eclg18 ecwt18 ecfr18 ecch18 ⊢
    walk_at "ss"
    refine r_st (gs := [("settings", .ref s1), ("packing", .ref pa), ("done", .int 0), ("first", .int 0), ("after", .int 0), ("heap", .ref cdh), ("nodes", .ref cdn), ("log", .ref clg), ("waiting", .ref cwt), ("free", .ref cfr), ("changed", .ref cch), ("size", .int 0)]) h18 cc n12 (by show (11 : Nat) < 1000; omega) rfl ?_
    have h19 : (upd H18 a (.ins (He.ga K "State") dx [("settings", .ref s1), ("packing", .ref pa), ("done", .int 0), ("first", .int 0), ("after", .int 0), ("heap", .ref cdh), ("nodes", .ref cdn), ("log", .ref clg), ("waiting", .ref cwt), ("free", .ref cfr), ("changed", .ref cch), ("size", .int 0)])) a = some (.ins (He.ga K "State") dx [("settings", .ref s1), ("packing", .ref pa), ("done", .int 0), ("first", .int 0), ("after", .int 0), ("heap", .ref cdh), ("nodes", .ref cdn), ("log", .ref clg), ("waiting", .ref cwt), ("free", .ref cfr), ("changed", .ref cch), ("size", .int 0)]) := upd_same
    have sF19 := fz_upd (u := (.ins (He.ga K "State") dx [("settings", .ref s1), ("packing", .ref pa), ("done", .int 0), ("first", .int 0), ("after", .int 0), ("heap", .ref cdh), ("nodes", .ref cdn), ("log", .ref clg), ("waiting", .ref cwt), ("free", .ref cfr), ("changed", .ref cch), ("size", .int 0)])) sF18 Fa
    have l19 : ∀ b, (upd H18 a (.ins (He.ga K "State") dx [("settings", .ref s1), ("packing", .ref pa), ("done", .int 0), ("first", .int 0), ("after", .int 0), ("heap", .ref cdh), ("nodes", .ref cdn), ("log", .ref clg), ("waiting", .ref cwt), ("free", .ref cfr), ("changed", .ref cch), ("size", .int 0)])) b = none → H b = none := fun b e => l18 b (al_upd b e)
    have ecdh19 : (upd H18 a (.ins (He.ga K "State") dx [("settings", .ref s1), ("packing", .ref pa), ("done", .int 0), ("first", .int 0), ("after", .int 0), ("heap", .ref cdh), ("nodes", .ref cdn), ("log", .ref clg), ("waiting", .ref cwt), ("free", .ref cfr), ("changed", .ref cch), ("size", .int 0)])) cdh = some (.dK []) := by rw [upd_ne ncdha]; exact ecdh18
    have ecdn19 : (upd H18 a (.ins (He.ga K "State") dx [("settings", .ref s1), ("packing", .ref pa), ("done", .int 0), ("first", .int 0), ("after", .int 0), ("heap", .ref cdh), ("nodes", .ref cdn), ("log", .ref clg), ("waiting", .ref cwt), ("free", .ref cfr), ("changed", .ref cch), ("size", .int 0)])) cdn = some (.dT []) := by rw [upd_ne ncdna]; exact ecdn18
    have eclg19 : (upd H18 a (.ins (He.ga K "State") dx [("settings", .ref s1), ("packing", .ref pa), ("done", .int 0), ("first", .int 0), ("after", .int 0), ("heap", .ref cdh), ("nodes", .ref cdn), ("log", .ref clg), ("waiting", .ref cwt), ("free", .ref cfr), ("changed", .ref cch), ("size", .int 0)])) clg = some (.lst []) := by rw [upd_ne nclga]; exact eclg18
    have ecwt19 : (upd H18 a (.ins (He.ga K "State") dx [("settings", .ref s1), ("packing", .ref pa), ("done", .int 0), ("first", .int 0), ("after", .int 0), ("heap", .ref cdh), ("nodes", .ref cdn), ("log", .ref clg), ("waiting", .ref cwt), ("free", .ref cfr), ("changed", .ref cch), ("size", .int 0)])) cwt = some (.lst []) := by rw [upd_ne ncwta]; exact ecwt18
    have ecfr19 : (upd H18 a (.ins (He.ga K "State") dx [("settings", .ref s1), ("packing", .ref pa), ("done", .int 0), ("first", .int 0), ("after", .int 0), ("heap", .ref cdh), ("nodes", .ref cdn), ("log", .ref clg), ("waiting", .ref cwt), ("free", .ref cfr), ("changed", .ref cch), ("size", .int 0)])) cfr = some (.lst []) := by rw [upd_ne ncfra]; exact ecfr18
    have ecch19 : (upd H18 a (.ins (He.ga K "State") dx [("settings", .ref s1), ("packing", .ref pa), ("done", .int 0), ("first", .int 0), ("after", .int 0), ("heap", .ref cdh), ("nodes", .ref cdn), ("log", .ref clg), ("waiting", .ref cwt), ("free", .ref cfr), ("changed", .ref cch), ("size", .int 0)])) cch = some (.dK []) := by rw [upd_ne nccha]; exact ecch18
    generalize upd H18 a _ = H19 at h19 sF19 l19 ecdh19 ecdn19 eclg19 ecwt19 ecfr19 ecch19 ⊢
    walk_at "ss"
    refine r_st (gs := [("settings", .ref s1), ("packing", .ref pa), ("done", .int 0), ("first", .int 0), ("after", .int 0), ("heap", .ref cdh), ("nodes", .ref cdn), ("log", .ref clg), ("waiting", .ref cwt), ("free", .ref cfr), ("changed", .ref cch), ("size", .int 0), ("next_begin", .int 0)]) h19 cc n13 (by show (12 : Nat) < 1000; omega) rfl ?_
    have h20 : (upd H19 a (.ins (He.ga K "State") dx [("settings", .ref s1), ("packing", .ref pa), ("done", .int 0), ("first", .int 0), ("after", .int 0), ("heap", .ref cdh), ("nodes", .ref cdn), ("log", .ref clg), ("waiting", .ref cwt), ("free", .ref cfr), ("changed", .ref cch), ("size", .int 0), ("next_begin", .int 0)])) a = some (.ins (He.ga K "State") dx [("settings", .ref s1), ("packing", .ref pa), ("done", .int 0), ("first", .int 0), ("after", .int 0), ("heap", .ref cdh), ("nodes", .ref cdn), ("log", .ref clg), ("waiting", .ref cwt), ("free", .ref cfr), ("changed", .ref cch), ("size", .int 0), ("next_begin", .int 0)]) := upd_same
    have sF20 := fz_upd (u := (.ins (He.ga K "State") dx [("settings", .ref s1), ("packing", .ref pa), ("done", .int 0), ("first", .int 0), ("after", .int 0), ("heap", .ref cdh), ("nodes", .ref cdn), ("log", .ref clg), ("waiting", .ref cwt), ("free", .ref cfr), ("changed", .ref cch), ("size", .int 0), ("next_begin", .int 0)])) sF19 Fa
    have l20 : ∀ b, (upd H19 a (.ins (He.ga K "State") dx [("settings", .ref s1), ("packing", .ref pa), ("done", .int 0), ("first", .int 0), ("after", .int 0), ("heap", .ref cdh), ("nodes", .ref cdn), ("log", .ref clg), ("waiting", .ref cwt), ("free", .ref cfr), ("changed", .ref cch), ("size", .int 0), ("next_begin", .int 0)])) b = none → H b = none := fun b e => l19 b (al_upd b e)
    have ecdh20 : (upd H19 a (.ins (He.ga K "State") dx [("settings", .ref s1), ("packing", .ref pa), ("done", .int 0), ("first", .int 0), ("after", .int 0), ("heap", .ref cdh), ("nodes", .ref cdn), ("log", .ref clg), ("waiting", .ref cwt), ("free", .ref cfr), ("changed", .ref cch), ("size", .int 0), ("next_begin", .int 0)])) cdh = some (.dK []) := by rw [upd_ne ncdha]; exact ecdh19
    have ecdn20 : (upd H19 a (.ins (He.ga K "State") dx [("settings", .ref s1), ("packing", .ref pa), ("done", .int 0), ("first", .int 0), ("after", .int 0), ("heap", .ref cdh), ("nodes", .ref cdn), ("log", .ref clg), ("waiting", .ref cwt), ("free", .ref cfr), ("changed", .ref cch), ("size", .int 0), ("next_begin", .int 0)])) cdn = some (.dT []) := by rw [upd_ne ncdna]; exact ecdn19
    have eclg20 : (upd H19 a (.ins (He.ga K "State") dx [("settings", .ref s1), ("packing", .ref pa), ("done", .int 0), ("first", .int 0), ("after", .int 0), ("heap", .ref cdh), ("nodes", .ref cdn), ("log", .ref clg), ("waiting", .ref cwt), ("free", .ref cfr), ("changed", .ref cch), ("size", .int 0), ("next_begin", .int 0)])) clg = some (.lst []) := by rw [upd_ne nclga]; exact eclg19
    have ecwt20 : (upd H19 a (.ins (He.ga K "State") dx [("settings", .ref s1), ("packing", .ref pa), ("done", .int 0), ("first", .int 0), ("after", .int 0), ("heap", .ref cdh), ("nodes", .ref cdn), ("log", .ref clg), ("waiting", .ref cwt), ("free", .ref cfr), ("changed", .ref cch), ("size", .int 0), ("next_begin", .int 0)])) cwt = some (.lst []) := by rw [upd_ne ncwta]; exact ecwt19
    have ecfr20 : (upd H19 a (.ins (He.ga K "State") dx [("settings", .ref s1), ("packing", .ref pa), ("done", .int 0), ("first", .int 0), ("after", .int 0), ("heap", .ref cdh), ("nodes", .ref cdn), ("log", .ref clg), ("waiting", .ref cwt), ("free", .ref cfr), ("changed", .ref cch), ("size", .int 0), ("next_begin", .int 0)])) cfr = some (.lst []) := by rw [upd_ne ncfra]; exact ecfr19
    have ecch20 : (upd H19 a (.ins (He.ga K "State") dx [("settings", .ref s1), ("packing", .ref pa), ("done", .int 0), ("first", .int 0), ("after", .int 0), ("heap", .ref cdh), ("nodes", .ref cdn), ("log", .ref clg), ("waiting", .ref cwt), ("free", .ref cfr), ("changed", .ref cch), ("size", .int 0), ("next_begin", .int 0)])) cch = some (.dK []) := by rw [upd_ne nccha]; exact ecch19
    generalize upd H19 a _ = H20 at h20 sF20 l20 ecdh20 ecdn20 eclg20 ecwt20 ecfr20 ecch20 ⊢
    have pk := PF.same sF20
    obtain ⟨dpk, _, _, _, _, Fpk, _⟩ := id pk
    have hpk := Fpk.at_
    walk_at "ss"
    refine ⟨pa, s1, ls, sz, 1, rfl, pk, Nat.one_lt_pow (by decide) (by decide), ?_⟩
    walk_at "ss"
    refine r_st (gs := [("settings", .ref s1), ("packing", .ref pa), ("done", .int 0), ("first", .int 0), ("after", .int 0), ("heap", .ref cdh), ("nodes", .ref cdn), ("log", .ref clg), ("waiting", .ref cwt), ("free", .ref cfr), ("changed", .ref cch), ("size", .int 0), ("next_begin", .int 0), ("oldest_end", .int (Pk.st ls sz 1 : Nat))]) h20 cc n14 (by show (13 : Nat) < 1000; omega) rfl ?_
    have h21 : (upd H20 a (.ins (He.ga K "State") dx [("settings", .ref s1), ("packing", .ref pa), ("done", .int 0), ("first", .int 0), ("after", .int 0), ("heap", .ref cdh), ("nodes", .ref cdn), ("log", .ref clg), ("waiting", .ref cwt), ("free", .ref cfr), ("changed", .ref cch), ("size", .int 0), ("next_begin", .int 0), ("oldest_end", .int (Pk.st ls sz 1 : Nat))])) a = some (.ins (He.ga K "State") dx [("settings", .ref s1), ("packing", .ref pa), ("done", .int 0), ("first", .int 0), ("after", .int 0), ("heap", .ref cdh), ("nodes", .ref cdn), ("log", .ref clg), ("waiting", .ref cwt), ("free", .ref cfr), ("changed", .ref cch), ("size", .int 0), ("next_begin", .int 0), ("oldest_end", .int (Pk.st ls sz 1 : Nat))]) := upd_same
    have sF21 := fz_upd (u := (.ins (He.ga K "State") dx [("settings", .ref s1), ("packing", .ref pa), ("done", .int 0), ("first", .int 0), ("after", .int 0), ("heap", .ref cdh), ("nodes", .ref cdn), ("log", .ref clg), ("waiting", .ref cwt), ("free", .ref cfr), ("changed", .ref cch), ("size", .int 0), ("next_begin", .int 0), ("oldest_end", .int (Pk.st ls sz 1 : Nat))])) sF20 Fa
    have l21 : ∀ b, (upd H20 a (.ins (He.ga K "State") dx [("settings", .ref s1), ("packing", .ref pa), ("done", .int 0), ("first", .int 0), ("after", .int 0), ("heap", .ref cdh), ("nodes", .ref cdn), ("log", .ref clg), ("waiting", .ref cwt), ("free", .ref cfr), ("changed", .ref cch), ("size", .int 0), ("next_begin", .int 0), ("oldest_end", .int (Pk.st ls sz 1 : Nat))])) b = none → H b = none := fun b e => l20 b (al_upd b e)
    have ecdh21 : (upd H20 a (.ins (He.ga K "State") dx [("settings", .ref s1), ("packing", .ref pa), ("done", .int 0), ("first", .int 0), ("after", .int 0), ("heap", .ref cdh), ("nodes", .ref cdn), ("log", .ref clg), ("waiting", .ref cwt), ("free", .ref cfr), ("changed", .ref cch), ("size", .int 0), ("next_begin", .int 0), ("oldest_end", .int (Pk.st ls sz 1 : Nat))])) cdh = some (.dK []) := by rw [upd_ne ncdha]; exact ecdh20
    have ecdn21 : (upd H20 a (.ins (He.ga K "State") dx [("settings", .ref s1), ("packing", .ref pa), ("done", .int 0), ("first", .int 0), ("after", .int 0), ("heap", .ref cdh), ("nodes", .ref cdn), ("log", .ref clg), ("waiting", .ref cwt), ("free", .ref cfr), ("changed", .ref cch), ("size", .int 0), ("next_begin", .int 0), ("oldest_end", .int (Pk.st ls sz 1 : Nat))])) cdn = some (.dT []) := by rw [upd_ne ncdna]; exact ecdn20
    have eclg21 : (upd H20 a (.ins (He.ga K "State") dx [("settings", .ref s1), ("packing", .ref pa), ("done", .int 0), ("first", .int 0), ("after", .int 0), ("heap", .ref cdh), ("nodes", .ref cdn), ("log", .ref clg), ("waiting", .ref cwt), ("free", .ref cfr), ("changed", .ref cch), ("size", .int 0), ("next_begin", .int 0), ("oldest_end", .int (Pk.st ls sz 1 : Nat))])) clg = some (.lst []) := by rw [upd_ne nclga]; exact eclg20
    have ecwt21 : (upd H20 a (.ins (He.ga K "State") dx [("settings", .ref s1), ("packing", .ref pa), ("done", .int 0), ("first", .int 0), ("after", .int 0), ("heap", .ref cdh), ("nodes", .ref cdn), ("log", .ref clg), ("waiting", .ref cwt), ("free", .ref cfr), ("changed", .ref cch), ("size", .int 0), ("next_begin", .int 0), ("oldest_end", .int (Pk.st ls sz 1 : Nat))])) cwt = some (.lst []) := by rw [upd_ne ncwta]; exact ecwt20
    have ecfr21 : (upd H20 a (.ins (He.ga K "State") dx [("settings", .ref s1), ("packing", .ref pa), ("done", .int 0), ("first", .int 0), ("after", .int 0), ("heap", .ref cdh), ("nodes", .ref cdn), ("log", .ref clg), ("waiting", .ref cwt), ("free", .ref cfr), ("changed", .ref cch), ("size", .int 0), ("next_begin", .int 0), ("oldest_end", .int (Pk.st ls sz 1 : Nat))])) cfr = some (.lst []) := by rw [upd_ne ncfra]; exact ecfr20
    have ecch21 : (upd H20 a (.ins (He.ga K "State") dx [("settings", .ref s1), ("packing", .ref pa), ("done", .int 0), ("first", .int 0), ("after", .int 0), ("heap", .ref cdh), ("nodes", .ref cdn), ("log", .ref clg), ("waiting", .ref cwt), ("free", .ref cfr), ("changed", .ref cch), ("size", .int 0), ("next_begin", .int 0), ("oldest_end", .int (Pk.st ls sz 1 : Nat))])) cch = some (.dK []) := by rw [upd_ne nccha]; exact ecch20
    generalize upd H20 a _ = H21 at h21 sF21 l21 ecdh21 ecdn21 eclg21 ecwt21 ecfr21 ecch21 ⊢
    walk_at "ss"
    have ownN : ∀ y ∈ (Ow.mk cdh cdn clg cwt cfr cch).all, H y = none := by
      intro y hy
      simp only [Ow.all, List.mem_cons, List.not_mem_nil, or_false] at hy
      rcases hy with z | z | z | z | z | z <;> subst z <;> assumption
    refine q F pa ⟨cdh, cdn, clg, cwt, cfr, cch⟩ _ ⟨SF, PF, ok⟩ ⟨⟨dx, h21⟩, ecdh21, ecdn21, eclg21, ecwt21, ecfr21, ecch21, ⟨ncdhcch, nclgcwt, nclgcfr, ncwtcfr⟩, sF21, fun y hy => ?_⟩ kF ownN
    rcases List.mem_cons.mp hy with z | z
    · rw [z]
      exact Fa
    · simp only [Ow.all, List.mem_cons, List.not_mem_nil, or_false] at z
      rcases z with z | z | z | z | z | z <;> subst z <;> assumption
theorem ok_do_checkpoint {P : Program} {w : World} {K : PySem.W.Frag} {mg : Str → Option Value} {base : Heap} {f : Addr} {fd : FuncData} (F : FunD K "do_checkpoint" "do_checkpoint" (defArgs s_do_checkpoint) (defBody s_do_checkpoint) (defScope s_do_checkpoint) [] [] f fd) (a_State_changed : NoAttr K (He.ga K "State") "changed") (a_State_free : NoAttr K (He.ga K "State") "free") (a_State_log : NoAttr K (He.ga K "State") "log") (a_State_waiting : NoAttr K (He.ga K "State") "waiting") (c_State : Cls K (He.ga K "State")) (n_sorted : mg "sorted" = none) : FnOk P w K mg base CX0 1 f fd ["state", "events"] (sp_do_checkpoint K) := by
  refine F.ok sc_do_checkpoint (fun vs H Q E h => by first | (obtain ⟨rfl, _⟩ := h; rfl) | (obtain ⟨_, rfl, _⟩ := h; rfl) | (obtain ⟨_, _, rfl, _⟩ := h; rfl) | (obtain ⟨_, _, _, rfl, _⟩ := h; rfl) | (obtain ⟨_, _, _, _, rfl, _⟩ := h; rfl) | (obtain ⟨_, _, _, _, _, rfl, _⟩ := h; rfl) | (obtain ⟨_, _, _, _, _, _, rfl, _⟩ := h; rfl) | (obtain ⟨_, _, _, _, _, _, _, rfl, _⟩ := h; rfl) | (obtain ⟨_, _, _, _, _, _, _, _, rfl, _⟩ := h; rfl) | (obtain ⟨_, _, _, _, _, _, _, _, _, rfl, _⟩ := h; rfl) | (obtain ⟨_, _, _, _, _, _, _, _, _, _, rfl, _⟩ := h; rfl) | (obtain ⟨_, _, _, _, _, _, _, _, _, _, _, rfl, _⟩ := h; rfl) | (obtain ⟨_, _, _, _, _, _, _, _, _, _, _, _, rfl, _⟩ := h; rfl) | (obtain ⟨_, _, _, _, _, _, _, _, _, _, _, _, _, rfl, _⟩ := h; rfl) | (obtain ⟨_, _, _, _, _, _, _, _, _, _, _, _, _, _, rfl, _⟩ := h; rfl) | (obtain ⟨_, _, _, _, _, _, _, _, _, _, _, _, _, _, _, rfl, _⟩ := h; rfl) | (obtain ⟨_, _, _, _, _, _, _, _, _, _, _, _, _, _, _, _, rfl, _⟩ := h; rfl) | (obtain ⟨_, _, _, _, _, _, _, _, _, _, _, _, _, _, _, _, _, rfl, _⟩ := h; rfl)) (fun cdv A outer s H vs Q E hr h => ?_)
  · have hu := hu_of hr
    obtain ⟨F, a, s1, p, e, o, x, evs, rfl, S, E, be, bc, bw, bf, q⟩ := h
    obtain ⟨dx, ha⟩ := S.at_
    have cc := c_State
    have n1 := a_State_changed
    have n2 := a_State_waiting
    have n3 := a_State_log
    have n4 := a_State_free
    have ch := S.ch
    refine ⟨_, PSs.nox (pss_cons (ps_aug (i := 1) sc_do_checkpoint.nd rfl (.inl rfl) (pe_lc (own := [("page", 3)]) rfl sc_do_checkpoint.nd (pi_list (pe_callB (id := "sorted") (KrD.cr_srtDK rfl) rfl n_sorted (by decide +kernel) (pa_cons (pe_fld (pv 0) rfl) pa_nil))) (blkOk_by (own := [("page", 3)]) (N := N_do_checkpoint) (sc := defScope s_do_checkpoint) (by decide +kernel)) (fun _ _ _ _ _ => (pg_name (i := 3) sc_do_checkpoint.nd rfl (.inl rfl))) (fun _ _ _ _ _ => pts_nil) (fun _ _ _ _ _ => (pe_tup (pa_cons pe_str (pa_cons (pv 3) pa_nil))))) KrT.ip_ext) (pss_cons (ps_fld (pv 0) pe_dnewK rfl) (pss_cons (ps_set (i := 2) sc_do_checkpoint.nd rfl (.inl rfl) (pe_op Kr.op_catS (pe_fld (pv 0) rfl) (pe_fld (pv 0) rfl))) (pss_cons (ps_aug (i := 1) sc_do_checkpoint.nd rfl (.inl rfl) (pe_lc (own := [("page", 3)]) rfl sc_do_checkpoint.nd (pi_list (pv 2)) (blkOk_by (own := [("page", 3)]) (N := N_do_checkpoint) (sc := defScope s_do_checkpoint) (by decide +kernel)) (fun _ _ _ _ _ => (pg_name (i := 3) sc_do_checkpoint.nd rfl (.inl rfl))) (fun _ _ _ _ _ => pts_nil) (fun _ _ _ _ _ => (pe_tup (pa_cons pe_str (pa_cons (pv 3) pa_nil))))) KrT.ip_ext) (pss_cons (ps_fldaug (pv 0) (pv 2) KrD.in_ext) (pss_cons (ps_fld (pv 0) (pe_lst pa_nil) rfl) (pss_one (ps_fld (pv 0) (pe_lst pa_nil) rfl)))))))), ?_⟩
    rw [st_do_checkpoint]
    walk_at "ss"
    refine KrD.r_srtDK (ks := x.changed.map fun n : Nat => (n : Int)) ch (by rw [List.map_map, List.map_map]; rfl) fun ns pa H2 pm srt hpa s2 epa => ?_
    obtain ⟨ws, hws⟩ : ∃ ws : List Nat, ns = ws.map fun n : Nat => (n : Int) := by
      refine ⟨ns.map Int.toNat, ?_⟩
      rw [List.map_map]
      refine ((List.map_congr_left fun n hn => ?_).trans (List.map_id ns)).symm
      obtain ⟨m, _, rfl⟩ := List.mem_map.mp (pm.mem_iff.mp hn)
      show ((Int.toNat (m : Int) : Nat) : Int) = m
      rw [Int.toNat_natCast]
    subst hws
    have pm' : ws.Perm x.changed := by
      have := pm.map Int.toNat
      rw [List.map_map, List.map_map] at this
      simpa [Function.comp_def] using this
    have srt' : ws.Pairwise (· ≤ ·) := by
      rw [List.pairwise_map] at srt
      exact srt.imp fun h => by omega
    have lw : ws.length ≤ 40000 := by rw [pm'.length_eq]; exact bc
    walk_at "ss"
    intro D hD
    refine lc_listS (xs := (ws.map fun n : Nat => (n : Int)).map V.int) [some (.ref a), some (.ref e), none, none] rfl (fun k H5 => Same H2 H5 ∧ ∃ zs, H5 D = some (.lst zs) ∧ Paired (EvO H5) zs ((ws.take k).map .write)) ⟨same_new hD, [], upd_same, .nil⟩ (fun k H5 _ z => .of (z.1 _ _ epa)) ?_ ?_
    · rintro k v H5 hv ⟨s5, zs, e5, nl5⟩
      rw [List.map_map, List.getElem?_map] at hv
      obtain ⟨n, hn, rfl⟩ := Option.map_eq_some_iff.mp hv
      have wl := Paired.length nl5
      rw [List.length_map] at wl
      have tl : (ws.take k).length ≤ ws.length := by rw [List.length_take]; omega
      dsimp only [Function.comp]
      walk_at "ss"
      refine ⟨rfl, ?_⟩
      walk_at "ss"
      refine r_newS fun t H6 ht s6 et => ?_
      obtain ⟨k1, k2, k3⟩ := ev_push hD s5 e5 nl5 s6 (ev := .write n) ⟨t, rfl, et⟩
      refine ⟨_, s6 _ _ e5, szl (by omega), k1, _, k2, ?_⟩
      rw [List.take_add_one, hn, List.map_append]
      exact k3
    rintro H5 ⟨s5, zs, e5, nl5⟩
    rw [List.length_map, List.length_map, List.take_length] at nl5
    have zl := Paired.length nl5
    rw [List.length_map] at zl
    have s25 := s2.trans s5
    obtain ⟨vs, h1, hl1, E1, S1, m1⟩ := (E.same s25).ext (S.same s25) nl5
    refine KrT.r_ipE h1 e5 (by omega) ?_
    have M1 := ((Mv.refl a e o H).same s25).trans m1
    generalize upd H5 e _ = G1 at S1 m1 E1 M1 ⊢
    obtain ⟨dx1, ha1⟩ := S1.at_
    walk_at "ss"
    refine r_newS fun c2 G2 hc2 s22 ec2 => ?_
    obtain ⟨S3, m3⟩ := S1.new (e := e) { o with ch := c2 } { x with changed := [] } s22 (dx := dx1) (by
      intro y hy
      simp only [Ow.all, List.mem_cons, List.not_mem_nil, or_false] at hy ⊢
      rcases hy with z | z | z | z | z | z <;> simp [z, hc2]) (s22 _ _ S1.hp) (s22 _ _ S1.nd) (s22 _ _ S1.lg) (s22 _ _ S1.wt) (s22 _ _ S1.fr) ec2 ⟨fun z => by
        have := S1.hp
        rw [show o.dh = c2 from z, hc2] at this
        exact (nomatch this), S1.ne.2⟩
    have ha2 := s22 _ _ ha1
    walk_at "ss"
    refine r_st (gs := stF s1 p { o with ch := c2 } { x with changed := [] }) ha2 cc n1 (by show (14 : Nat) < 1000; omega) rfl ?_
    obtain ⟨vs1, h11, _⟩ := E1.l
    have E3 := E1.mv m3 fun vs w => by
      rw [upd_ne (fun z => E1.n (by rw [z]; exact List.mem_cons_self))]
      exact s22 _ _ w
    have M3 := M1.trans m3
    generalize upd G2 a _ = G3 at S3 m3 E3 M3 ⊢
    obtain ⟨dx3, ha3⟩ := S3.at_
    have fw := S3.wt
    have fl := S3.lg
    walk_at "ss"
    refine r_catS (.of fw) (.of fl) (by simp only [List.length_map]; omega) ?_
    refine r_newS fun C G4 hC s4 eC => ?_
    rw [← List.map_append] at eC
    have lC : (x.waiting ++ x.log).length ≤ 40000 := by rw [List.length_append]; omega
    generalize hfr : x.waiting ++ x.log = fr at eC lC
    walk_at "ss"
    intro D2 hD2
    refine lc_listS (xs := fr.map nI) [some (.ref a), some (.ref e), some (.ref C), none] rfl (fun k H5 => Same G4 H5 ∧ ∃ zs, H5 D2 = some (.lst zs) ∧ Paired (EvO H5) zs ((fr.take k).map .free)) ⟨same_new hD2, [], upd_same, .nil⟩ (fun k H5 _ z => .of (z.1 _ _ eC)) ?_ ?_
    · rintro k v H5 hv ⟨s5, zs, e5, nl5⟩
      rw [List.getElem?_map] at hv
      obtain ⟨n, hn, rfl⟩ := Option.map_eq_some_iff.mp hv
      have wl := Paired.length nl5
      rw [List.length_map] at wl
      have tl : (fr.take k).length ≤ fr.length := by rw [List.length_take]; omega
      walk_at "ss"
      refine ⟨rfl, ?_⟩
      walk_at "ss"
      refine r_newS fun t H6 ht s6 et => ?_
      obtain ⟨k1, k2, k3⟩ := ev_push hD2 s5 e5 nl5 s6 (ev := .free n) ⟨t, rfl, et⟩
      refine ⟨_, s6 _ _ e5, szl (by omega), k1, _, k2, ?_⟩
      rw [List.take_add_one, hn, List.map_append]
      exact k3
    rintro G5 ⟨s5', zs2, e5', nl5'⟩
    rw [List.length_map, List.take_length] at nl5'
    have zl2 := Paired.length nl5'
    rw [List.length_map] at zl2
    have s45 := s4.trans s5'
    obtain ⟨vs2, h2, hl2, E4, S4, m4⟩ := (E3.same s45).ext (S3.same s45) nl5'
    refine KrT.r_ipE h2 e5' (by rw [hl2, zl2, List.length_append, List.length_map]; omega) ?_
    have M4 := (M3.same s45).trans m4
    have eC5 := s5' _ _ eC
    have hCe : C ≠ e := fun z => by
      rw [z] at hC
      exact (E3.nw hC) rfl
    have eC6 : upd G5 e (.lst (vs2 ++ zs2)) C = some (.lst (fr.map nI)) := by rw [upd_ne hCe]; exact eC5
    generalize upd G5 e _ = G6 at S4 m4 E4 M4 eC6 ⊢
    obtain ⟨dx4, ha4⟩ := S4.at_
    have ff := S4.fr
    walk_at "ss"
    dsimp only
    refine KrD.r_fldaug ?_
    walk_at "ss"
    refine KrD.r_fa ha4 cc n4 rfl ?_
    walk_at "ss"
    refine KrD.r_ext ff eC6 (by simp only [List.length_map]; omega) ?_
    obtain ⟨S5, m5⟩ := S4.setF (e := e) (x.free ++ fr)
    have E5 := E4.of (show o.fr ∈ a :: ({ o with ch := c2 } : Ow).all by simp [Ow.all]) m5.tp
    rw [show List.map nI ({ x with changed := [] } : St).free ++ List.map nI fr = (x.free ++ fr).map nI by rw [List.map_append]]
    have M5 := M4.trans m5
    generalize upd G6 _ _ = G7 at S5 m5 E5 M5 ⊢
    obtain ⟨dx5, ha5⟩ := S5.at_
    obtain ⟨S6, m6⟩ := S5.setA (e := e) (x' := { x with changed := [], free := x.free ++ fr }) rfl rfl rfl rfl rfl rfl (dx := dx5)
    have E6 := E5.of List.mem_cons_self m6.tp
    refine KrD.r_fb (gs := stF s1 p { o with ch := c2 } { x with changed := [], free := x.free ++ fr }) ha5 (by show (14 : Nat) < 1000; omega) rfl ?_
    have M6 := M5.trans m6
    generalize upd G7 a _ = G8 at S6 m6 E6 M6 ⊢
    obtain ⟨dx6, ha6⟩ := S6.at_
    walk_at "ss"
    refine r_newS fun c7 G9 hc7 s9 ec7 => ?_
    obtain ⟨S7, m7⟩ := S6.new (e := e) { o with ch := c2, wt := c7 } { x with changed := [], free := x.free ++ fr, waiting := [] } s9 (dx := dx6) (by
      intro y hy
      simp only [Ow.all, List.mem_cons, List.not_mem_nil, or_false] at hy ⊢
      rcases hy with z | z | z | z | z | z <;> simp [z, hc7]) (s9 _ _ S6.hp) (s9 _ _ S6.nd) (s9 _ _ S6.lg) ec7 (s9 _ _ S6.fr) (s9 _ _ S6.ch) ⟨S6.ne.1, fun z => by
        have := S6.lg
        rw [show ({ o with ch := c2 } : Ow).lg = c7 from z, hc7] at this
        exact (nomatch this), S6.ne.2.2.1, fun z => by
        have := S6.fr
        rw [show ({ o with ch := c2 } : Ow).fr = c7 from z.symm, hc7] at this
        exact (nomatch this)⟩
    have ha7 := s9 _ _ ha6
    walk_at "ss"
    refine r_st (gs := stF s1 p { o with ch := c2, wt := c7 } { x with changed := [], free := x.free ++ fr, waiting := [] }) ha7 cc n2 (by show (14 : Nat) < 1000; omega) rfl ?_
    have E7 := E6.mv m7 fun vs w => by
      rw [upd_ne (fun z => E6.n (by rw [z]; exact List.mem_cons_self))]
      exact s9 _ _ w
    have M7 := M6.trans m7
    generalize upd G9 a _ = G10 at S7 m7 E7 M7 ⊢
    obtain ⟨dx7, ha8⟩ := S7.at_
    walk_at "ss"
    refine r_newS fun c8 G11 hc8 s11 ec8 => ?_
    obtain ⟨S8, m8⟩ := S7.new (e := e) { o with ch := c2, wt := c7, lg := c8 } { x with changed := [], free := x.free ++ fr, waiting := [], log := [] } s11 (dx := dx7) (by
      intro y hy
      simp only [Ow.all, List.mem_cons, List.not_mem_nil, or_false] at hy ⊢
      rcases hy with z | z | z | z | z | z <;> simp [z, hc8]) (s11 _ _ S7.hp) (s11 _ _ S7.nd) ec8 (s11 _ _ S7.wt) (s11 _ _ S7.fr) (s11 _ _ S7.ch) ⟨S7.ne.1, fun z => by
        have := S7.wt
        rw [show ({ o with ch := c2, wt := c7 } : Ow).wt = c8 from z.symm, hc8] at this
        exact (nomatch this), fun z => by
        have := S7.fr
        rw [show ({ o with ch := c2, wt := c7 } : Ow).fr = c8 from z.symm, hc8] at this
        exact (nomatch this), S7.ne.2.2.2⟩
    have ha9 := s11 _ _ ha8
    walk_at "ss"
    refine r_st (gs := stF s1 p { o with ch := c2, wt := c7, lg := c8 } { x with changed := [], free := x.free ++ fr, waiting := [], log := [] }) ha9 cc n3 (by show (14 : Nat) < 1000; omega) rfl ?_
    have E8 := E7.mv m8 fun vs w => by
      rw [upd_ne (fun z => E7.n (by rw [z]; exact List.mem_cons_self))]
      exact s11 _ _ w
    have M8 := M7.trans m8
    walk_at "ss"
    subst hfr
    rw [List.append_assoc] at E8
    exact q _ _ _ _ ⟨rfl, ws, pm', srt', rfl⟩ S8 E8 M8
theorem ok_change_parents {P : Program} {w : World} {K : PySem.W.Frag} {mg : Str → Option Value} {base : Heap} {f : Addr} {fd : FuncData} (F : FunD K "change_parents" "change_parents" (defArgs s_change_parents) (defBody s_change_parents) (defScope s_change_parents) [] [] f fd) (a_Settings_fanout : NoAttr K (He.ga K "Settings") "fanout") (a_State_changed : NoAttr K (He.ga K "State") "changed") (a_State_nodes : NoAttr K (He.ga K "State") "nodes") (a_State_settings : NoAttr K (He.ga K "State") "settings") (c_Settings : Cls K (He.ga K "Settings")) (c_State : Cls K (He.ga K "State")) : FnOk P w K mg base CX0 1 f fd ["state", "number", "nodes"] (sp_change_parents K) := by
  refine F.ok sc_change_parents (fun vs H Q E h => by first | (obtain ⟨rfl, _⟩ := h; rfl) | (obtain ⟨_, rfl, _⟩ := h; rfl) | (obtain ⟨_, _, rfl, _⟩ := h; rfl) | (obtain ⟨_, _, _, rfl, _⟩ := h; rfl) | (obtain ⟨_, _, _, _, rfl, _⟩ := h; rfl) | (obtain ⟨_, _, _, _, _, rfl, _⟩ := h; rfl) | (obtain ⟨_, _, _, _, _, _, rfl, _⟩ := h; rfl) | (obtain ⟨_, _, _, _, _, _, _, rfl, _⟩ := h; rfl) | (obtain ⟨_, _, _, _, _, _, _, _, rfl, _⟩ := h; rfl) | (obtain ⟨_, _, _, _, _, _, _, _, _, rfl, _⟩ := h; rfl) | (obtain ⟨_, _, _, _, _, _, _, _, _, _, rfl, _⟩ := h; rfl) | (obtain ⟨_, _, _, _, _, _, _, _, _, _, _, rfl, _⟩ := h; rfl) | (obtain ⟨_, _, _, _, _, _, _, _, _, _, _, _, rfl, _⟩ := h; rfl) | (obtain ⟨_, _, _, _, _, _, _, _, _, _, _, _, _, rfl, _⟩ := h; rfl) | (obtain ⟨_, _, _, _, _, _, _, _, _, _, _, _, _, _, rfl, _⟩ := h; rfl) | (obtain ⟨_, _, _, _, _, _, _, _, _, _, _, _, _, _, _, rfl, _⟩ := h; rfl) | (obtain ⟨_, _, _, _, _, _, _, _, _, _, _, _, _, _, _, _, rfl, _⟩ := h; rfl) | (obtain ⟨_, _, _, _, _, _, _, _, _, _, _, _, _, _, _, _, _, rfl, _⟩ := h; rfl)) (fun cdv A outer s H vs Q E hr h => ?_)
  · have hu := hu_of hr
    obtain ⟨F, a, l, e, o, x, ⟨s1, p, ls, sz, fo, re, ev, ke⟩, m, us, ns, evs, rfl, Z, S, E, hl, nl, hn, lo, hc, q⟩ := h
    dsimp only at Z S q
    obtain ⟨dx, ha⟩ := S.at_
    obtain ⟨dy, t, hs, ht⟩ := Z.st.same S.fz
    have cc := c_State
    have cs := c_Settings
    have n1 := a_State_settings
    have n2 := a_State_nodes
    have n3 := a_State_changed
    have n4 := a_Settings_fanout
    have fo0 := Z.ok.fo
    have cd : ∀ z : Int, CDivW z (fo : Int) := fun z => wide_div (b := 64) (by omega) (by omega) (by decide) (by decide)
    have cdm := cd m
    refine ⟨_, PSs.nox (pss_cons (ps_set (i := 3) sc_change_parents.nd rfl (.inr rfl) (pe_fld (pe_fld (pv 0) rfl) rfl)) (pss_cons (ps_set (i := 4) sc_change_parents.nd rfl (.inl rfl) (pe_op Kr.op_catS (pe_lst (pa_cons (pe_tup (pa_cons pe_int (pa_cons (pe_op op_fdivW (pv 1) (pv 3)) pa_nil))) pa_nil)) (pe_lc (own := [("level", 6), ("index", 7)]) rfl sc_change_parents.nd (pi_list (pv 2)) (blkOk_by (own := [("level", 6), ("index", 7)]) (N := N_change_parents) (sc := defScope s_change_parents) (by decide +kernel)) (fun _ _ _ _ _ => (Kr.pg_tupK (K := K) (n := 2) rfl rfl (pgs_cons (pg_name (i := 6) sc_change_parents.nd rfl (.inl rfl)) (pgs_cons (pg_name (i := 7) sc_change_parents.nd rfl (.inl rfl)) pgs_nil)))) (fun _ _ _ _ _ => pts_nil) (fun _ _ _ _ _ => (pe_tup (pa_cons (pe_op op_add (pv 6) pe_int) (pa_cons (pe_op op_fdivW (pv 7) (pv 3)) pa_nil))))))) (pss_one (ps_for PassesOwn.never rfl (pi_list (pv 4)) (pg_name (i := 5) sc_change_parents.nd rfl (.inl rfl)) (pss_one (ps_if (pt_cmp (pc_din hu (pv 5) (pe_fld (pv 0) rfl))) (pss_one (ps_dput hu (pe_fld (pv 0) rfl) (pe_dget hu (pe_fld (pv 0) rfl) (pv 5) (fun _ _ => rfl)) pe_bl rfl)) pss_nil)))))), ?_⟩
    rw [st_change_parents]
    walk_at "ss"
    refine r_newS fun t0 H2 ht2 s2 et0 => ?_
    walk_at "ss"
    refine r_newS fun t1 H3 ht3 s3 et1 => ?_
    have s23 := s2.trans s3
    have hl3 := s23 _ _ hl
    have nl3 := nl.same s23
    walk_at "ss"
    intro D hD
    refine lc_listS [some (.ref a), some (.int m), some (.ref l), some (.int fo), none, none, none, none] rfl (fun k H5 => Same H3 H5 ∧ ∃ ws, H5 D = some (.lst ws) ∧ NdL H5 ws ((ns.take k).map fun n => (n.1 + 1, n.2 / fo))) ⟨same_new hD, [], upd_same, NdL.nil⟩ (fun k H5 _ z => .of (z.1 _ _ hl3)) ?_ ?_
    · rintro k v H5 hv ⟨s5, ws, e5, nl5⟩
      have hk := (List.getElem?_eq_some_iff.mp hv).1
      obtain ⟨n, hn'⟩ : ∃ n, ns[k]? = some n := ⟨_, List.getElem?_eq_getElem (by rw [← nl3.len]; exact hk)⟩
      obtain ⟨tn, h1, h2⟩ := nl3.at_ k n hn'
      rw [hv] at h1
      cases h1
      have h2' : H5 tn = some (.tup [.int (n.1 : Nat), .int (n.2 : Nat)]) := s5 _ _ h2
      have cdn := cd n.2
      have wl := nl5.len
      rw [List.length_map, List.length_take] at wl
      walk_at "ss"
      refine ⟨rfl, ?_⟩
      walk_at "ss"
      refine r_newS fun t6 H6 ht6 s6 et6 => ?_
      have tD : D ≠ t6 := ne_of_none e5 ht6
      refine ⟨_, s6 _ _ e5, szl (by omega), fun b' o e => ?_, ws ++ [.ref t6], upd_same, ?_⟩
      · rw [upd_ne (ne_of_none e hD)]
        exact s6 _ _ (s5 b' o e)
      · rw [List.take_add_one, hn', List.map_append]
        refine (nl5.keep fun b' xs e => ?_).app (NdL.one ?_)
        · rw [upd_ne (fun z => by rw [z, e5] at e; cases e)]
          exact s6 _ _ e
        · rw [upd_ne tD.symm, et6]
          show some (HO.tup [V.int ((n.1 : Int) + 1), V.int ((n.2 : Int) / (fo : Int))]) = some (HO.tup [V.int ((n.1 + 1 : Nat) : Int), V.int ((n.2 / fo : Nat) : Int)])
          rw [Int.natCast_add, Int.natCast_ediv]
          rfl
    rintro H5 ⟨s5, ws, e5, nl5⟩
    rw [nl3.len, List.take_length] at nl5
    have wl := nl5.len
    rw [List.length_map] at wl
    walk_at "ss"
    refine r_catS (.of (s5 _ _ et1)) (.of e5) (by simp only [List.length_cons, List.length_nil]; omega) ?_
    refine r_newS fun C H6 hC s6 eC => ?_
    have s06 := s23.trans (s5.trans s6)
    have nlC : NdL H6 ([.ref t0] ++ ws) (parL fo m ns) := (NdL.one (n := (0, m / fo)) (by
      rw [s6 _ _ (s5 _ _ (s3 _ _ et0))]
      show some (HO.tup [V.int 0, V.int ((m : Int) / (fo : Int))]) = some (HO.tup [V.int 0, V.int ((m / fo : Nat) : Int)])
      rw [Int.natCast_ediv])).app (nl5.same s6)
    have lC := nlC.len
    generalize hP : parL fo m ns = P at nlC lC
    have lP : P.length ≤ 1001 := by rw [← hP]; simp [parL]; omega
    generalize hW : ([.ref t0] ++ ws : List V) = W at nlC lC eC
    walk_at "ss"
    refine r_forL (xs := W) (fun i σ G => ∃ nv y, σ = [some (.ref a), some (.int m), some (.ref l), some (.int fo), some (.ref C), nv, none, none] ∧ (P.take i).foldl St.chg1 x = y ∧ StAt K F G a s1 p o y ∧ EvA F G e a o evs ∧ Mv a e o H o G ∧ G C = some (.lst W) ∧ NdL G W P ∧ y.changed.length ≤ 50000 + i) ⟨none, x, rfl, rfl, S.same s06, E.same s06, (Mv.refl _ _ _ _).same s06, eC, nlC, by omega⟩ (fun i σ G _ z => ?_) ?_ ?_
    · obtain ⟨_, _, _, _, _, _, _, z, _⟩ := z
      exact .of z
    · rintro i v σ G hv ⟨nv, y, rfl, hy, Sy, Ey, my, eC', nlG, hyl⟩
      have hk := (List.getElem?_eq_some_iff.mp hv).1
      obtain ⟨n, hn'⟩ : ∃ n, P[i]? = some n := ⟨_, List.getElem?_eq_getElem (by rw [← nlG.len]; exact hk)⟩
      obtain ⟨tn, h1, h2⟩ := nlG.at_ i n hn'
      rw [hv] at h1
      cases h1
      obtain ⟨dxy, hay⟩ := Sy.at_
      have nd := Sy.nd
      have hch := Sy.ch
      have e1 : (P.take (i + 1)).foldl St.chg1 x = y.chg1 n := by
        rw [List.take_add_one, hn', List.foldl_append, hy]
        rfl
      have hv1 : valV (y.nodes.map ndE) (ndK n) = (gtL y.nodes n).map nI := eE_get ndK_inj n y.nodes
      have htn : G tn = some (.tup ((ndK n).map kV)) := h2
      have evn : ndE = eE ndK := rfl
      walk_at "ss"
      refine KrD.r_dkT nd htn ?_
      rw [hv1]
      cases hg : gtL y.nodes n with
      | none =>
        have e2 : y.chg1 n = y := by rw [St.chg1, hg]
        walk_at "ss"
        exact ⟨_, y, rfl, by rw [e1, e2], Sy, Ey, my, eC', nlG, by omega⟩
      | some pg =>
        have e2 : y.chg1 n = y.mark pg := by rw [St.chg1, hg]
        rw [hg] at hv1
        obtain ⟨S2, m2⟩ := Sy.setC (e := e) (if pg ∈ y.changed then y.changed else y.changed ++ [pg])
        have E2 := Ey.of (show o.ch ∈ a :: o.all by simp [Ow.all]) m2.tp
        have ml := y.mark_len pg
        rw [y.mark_eq] at S2
        rw [← ch_put] at S2 m2 E2
        rw [show (Option.map nI (some pg)).isSome = true from rfl]
        walk_at "ss"
        refine KrD.r_dgT nd htn hv1 ?_
        walk_at "ss"
        refine r_dp hch (by rw [List.length_map]; have := List.length_take_le (i + 1) P; omega) ?_
        exact ⟨_, y.mark pg, rfl, by rw [e1, e2], S2, E2, my.trans m2, by rw [upd_ne (fun z => by rw [z, hch] at eC'; cases eC')]; exact eC', nlG.keep m2.tp, by omega⟩
    rintro σ G ⟨nv, y, rfl, hy, Sy, Ey, my, _⟩
    rw [lC, List.take_length, ← hP] at hy
    subst hy
    exact q _ Sy Ey my
theorem ok_give_back {P : Program} {w : World} {K : PySem.W.Frag} {mg : Str → Option Value} {base : Heap} {f : Addr} {fd : FuncData} (F : FunD K "give_back" "give_back" (defArgs s_give_back) (defBody s_give_back) (defScope s_give_back) [] [] f fd) (a_State_changed : NoAttr K (He.ga K "State") "changed") (a_State_waiting : NoAttr K (He.ga K "State") "waiting") (c_State : Cls K (He.ga K "State")) : FnOk P w K mg base CX0 1 f fd ["state", "page", "role", "events"] (sp_give_back K) := by
  refine F.ok sc_give_back (fun vs H Q E h => by first | (obtain ⟨rfl, _⟩ := h; rfl) | (obtain ⟨_, rfl, _⟩ := h; rfl) | (obtain ⟨_, _, rfl, _⟩ := h; rfl) | (obtain ⟨_, _, _, rfl, _⟩ := h; rfl) | (obtain ⟨_, _, _, _, rfl, _⟩ := h; rfl) | (obtain ⟨_, _, _, _, _, rfl, _⟩ := h; rfl) | (obtain ⟨_, _, _, _, _, _, rfl, _⟩ := h; rfl) | (obtain ⟨_, _, _, _, _, _, _, rfl, _⟩ := h; rfl) | (obtain ⟨_, _, _, _, _, _, _, _, rfl, _⟩ := h; rfl) | (obtain ⟨_, _, _, _, _, _, _, _, _, rfl, _⟩ := h; rfl) | (obtain ⟨_, _, _, _, _, _, _, _, _, _, rfl, _⟩ := h; rfl) | (obtain ⟨_, _, _, _, _, _, _, _, _, _, _, rfl, _⟩ := h; rfl) | (obtain ⟨_, _, _, _, _, _, _, _, _, _, _, _, rfl, _⟩ := h; rfl) | (obtain ⟨_, _, _, _, _, _, _, _, _, _, _, _, _, rfl, _⟩ := h; rfl) | (obtain ⟨_, _, _, _, _, _, _, _, _, _, _, _, _, _, rfl, _⟩ := h; rfl) | (obtain ⟨_, _, _, _, _, _, _, _, _, _, _, _, _, _, _, rfl, _⟩ := h; rfl) | (obtain ⟨_, _, _, _, _, _, _, _, _, _, _, _, _, _, _, _, rfl, _⟩ := h; rfl) | (obtain ⟨_, _, _, _, _, _, _, _, _, _, _, _, _, _, _, _, _, rfl, _⟩ := h; rfl)) (fun cdv A outer s H vs Q E hr h => ?_)
  · have hu := hu_of hr
    obtain ⟨F, a, s1, p, r, e, o, x, rl, pg, evs, rfl, S, E, hr, hz, hw, q⟩ := h
    obtain ⟨dx, ha⟩ := S.at_
    have cc := c_State
    have n1 := a_State_changed
    have n2 := a_State_waiting
    have fc := S.ch
    refine ⟨_, PSs.nox (C8.pss_cut (ps_expr (pe_dpop2 (pe_fld (pv 0) rfl) (pv 1) pe_non ⟨rfl, rfl, rfl, rfl⟩)) (pss_cons (ps_expr (pe_bm PySem.F.plainAttrs_list PySem.F.slot_list_append PySem.F.type_list_append mt_append (pe_fld (pv 0) rfl) (pa_cons (pv 1) pa_nil))) (pss_one (ps_expr (pe_bm PySem.F.plainAttrs_list PySem.F.slot_list_append PySem.F.type_list_append mt_append (pv 3) (pa_cons (pe_tup (pa_cons pe_str (pa_cons (pv 1) (pa_cons (pv 2) pa_nil)))) pa_nil)))))), ?_⟩
    rw [st_give_back]
    refine ⟨fun σ' H' => StAt K F H' a s1 p o { x with changed := x.changed.filter fun q => decide (q ≠ pg) } ∧ EvA F H' e a o evs ∧ Mv a e o H o H' ∧ σ' = [some (.ref a), some (.int (pg : Nat)), some (.ref r), some (.ref e)], ?_, ?_⟩
    · walk_at "ss"
      refine KrD.r_dpop2 ?_
      walk_at "ss"
      refine KrD.r_isDK fc ?_
      walk_at "ss"
      refine KrD.r_popD fc (fun v _ => ?_) (fun hv => ?_)
      · rw [ch_drop]
        obtain ⟨S2, m2⟩ := S.setC (e := e) (x.changed.filter fun q => decide (q ≠ pg))
        exact ⟨S2, E.of (by simp [Ow.all]) m2.tp, m2, rfl⟩
      · rw [chE_get] at hv
        have hn : pg ∉ x.changed := fun z => by
          rw [if_pos z] at hv
          cases hv
        rw [ch_none hn]
        exact ⟨S, E, Mv.refl _ _ _ _, rfl⟩
    rintro σ' H' ⟨S', E', m, rfl⟩
    obtain ⟨dx', ha'⟩ := S'.at_
    have hr' := m.tp _ _ hr
    have fw := S'.wt
    walk_at "ss"
    refine r_append fw (by simp only [List.length_map]; omega) ?_
    obtain ⟨S2, m2⟩ := S'.setW (e := e) (x.waiting ++ [pg])
    have E2 := E'.of (show o.wt ∈ a :: o.all by simp [Ow.all]) m2.tp
    rw [show (List.map nI ({ x with changed := x.changed.filter fun q => decide (q ≠ pg) } : St).waiting ++ [.int (pg : Nat)]) = (x.waiting ++ [pg]).map nI by rw [List.map_append]; rfl]
    obtain ⟨vs0, h0, _⟩ := E2.l
    have hr2 := m2.tp _ _ hr'
    walk_at "ss"
    refine r_newS fun t H2 ht s2 et => ?_
    obtain ⟨vs, h1, hl, E3, S3, m3⟩ := (E2.same s2).push (S2.same s2) (v := .ref t) (ev := .give pg rl) ⟨t, r, rfl, et, s2 _ _ hr2⟩
    walk_at "ss"
    refine r_append h1 (by omega) ?_
    walk_at "ss"
    exact q _ S3 E3 (((m.trans m2).same s2).trans m3)
theorem ok_expire {P : Program} {w : World} {K : PySem.W.Frag} {mg : Str → Option Value} {base : Heap} {f : Addr} {fd : FuncData} (F : FunD K "expire" "expire" (defArgs s_expire) (defBody s_expire) (defScope s_expire) [] [] f fd) (a_Settings_fanout : NoAttr K (He.ga K "Settings") "fanout") (a_Settings_keep : NoAttr K (He.ga K "Settings") "keep") (a_State_after : NoAttr K (He.ga K "State") "after") (a_State_done : NoAttr K (He.ga K "State") "done") (a_State_first : NoAttr K (He.ga K "State") "first") (a_State_heap : NoAttr K (He.ga K "State") "heap") (a_State_nodes : NoAttr K (He.ga K "State") "nodes") (a_State_oldest_end : NoAttr K (He.ga K "State") "oldest_end") (a_State_packing : NoAttr K (He.ga K "State") "packing") (a_State_settings : NoAttr K (He.ga K "State") "settings") (c_Packing : Cls K (He.ga K "Packing")) (c_Settings : Cls K (He.ga K "Settings")) (c_State : Cls K (He.ga K "State")) (h_change_parents : Kr.FnH P w K mg base CX0 1 "change_parents" ["state", "number", "nodes"] (sp_change_parents K)) (h_give_back : Kr.FnH P w K mg base CX0 1 "give_back" ["state", "page", "role", "events"] (sp_give_back K)) (h_nodes_beyond : Kr.FnH P w K mg base CX0 1 "nodes_beyond" ["fanout", "first", "last", "low", "high"] (sp_nodes_beyond K)) (m_Packing_start_of : Kr.MtH P w K mg base CX0 1 (He.ga K "Packing") "start_of" ["self", "page"] (sp_Packing_start_of K)) : FnOk P w K mg base CX0 2 f fd ["state", "events"] (sp_expire K) := by
  refine F.ok sc_expire (fun vs H Q E h => by first | (obtain ⟨rfl, _⟩ := h; rfl) | (obtain ⟨_, rfl, _⟩ := h; rfl) | (obtain ⟨_, _, rfl, _⟩ := h; rfl) | (obtain ⟨_, _, _, rfl, _⟩ := h; rfl) | (obtain ⟨_, _, _, _, rfl, _⟩ := h; rfl) | (obtain ⟨_, _, _, _, _, rfl, _⟩ := h; rfl) | (obtain ⟨_, _, _, _, _, _, rfl, _⟩ := h; rfl) | (obtain ⟨_, _, _, _, _, _, _, rfl, _⟩ := h; rfl) | (obtain ⟨_, _, _, _, _, _, _, _, rfl, _⟩ := h; rfl) | (obtain ⟨_, _, _, _, _, _, _, _, _, rfl, _⟩ := h; rfl) | (obtain ⟨_, _, _, _, _, _, _, _, _, _, rfl, _⟩ := h; rfl) | (obtain ⟨_, _, _, _, _, _, _, _, _, _, _, rfl, _⟩ := h; rfl) | (obtain ⟨_, _, _, _, _, _, _, _, _, _, _, _, rfl, _⟩ := h; rfl) | (obtain ⟨_, _, _, _, _, _, _, _, _, _, _, _, _, rfl, _⟩ := h; rfl) | (obtain ⟨_, _, _, _, _, _, _, _, _, _, _, _, _, _, rfl, _⟩ := h; rfl) | (obtain ⟨_, _, _, _, _, _, _, _, _, _, _, _, _, _, _, rfl, _⟩ := h; rfl) | (obtain ⟨_, _, _, _, _, _, _, _, _, _, _, _, _, _, _, _, rfl, _⟩ := h; rfl) | (obtain ⟨_, _, _, _, _, _, _, _, _, _, _, _, _, _, _, _, _, rfl, _⟩ := h; rfl)) (fun cdv A outer s H vs Q E hr h => ?_)
  · have hu := hu_of hr
    obtain ⟨F, a, e, o, x, ⟨s1, p, ls, sz, fo, re, ev, ke⟩, evs, rfl, Z, S, E, bw, bc, be, p1, q⟩ := h
    dsimp only at Z S q p1
    obtain ⟨dx, ha⟩ := S.at_
    obtain ⟨dy, t, hs, ht⟩ := Z.st.same S.fz
    have cc := c_State
    have cs := c_Settings
    have cp := c_Packing
    have n1 := a_State_done
    have n2 := a_State_settings
    have n3 := a_Settings_keep
    have n4 := a_State_oldest_end
    have n5 := a_State_first
    have n6 := a_State_after
    have n7 := a_State_heap
    have n8 := a_State_nodes
    have n9 := a_Settings_fanout
    have n10 := a_State_packing
    have fo0 := Z.ok.fo
    refine ⟨_, PSs.nox (pss_cons (ps_if (pt_cmpR op_ne (pe_op op_sub (pe_fld (pv 0) rfl) (pe_fld (pe_fld (pv 0) rfl) rfl)) (pe_op op_sub (pe_fld (pv 0) rfl) pe_int) (nomark _)) (pss_one ps_retN) pss_nil) (pss_cons (ps_set (i := 2) sc_expire.nd rfl (.inl rfl) (pe_fld (pv 0) rfl)) (pss_cons (ps_set (i := 3) sc_expire.nd rfl (.inl rfl) (pe_op op_sub (pe_fld (pv 0) rfl) pe_int)) (pss_cons (ps_expr (Kr.pe_cl h_give_back (hr.mono (by decide)) (pa_cons (pv 0) (pa_cons (pe_dpop1 (pe_fld (pv 0) rfl) (pv 2) ⟨rfl, rfl, rfl, rfl⟩) (pa_cons (pe_tup (pa_cons pe_str (pa_cons (pv 2) pa_nil))) (pa_cons (pv 1) pa_nil)))))) (pss_cons (ps_set (i := 4) sc_expire.nd rfl (.inl rfl) (Kr.pe_cl h_nodes_beyond (hr.mono (by decide)) (pa_cons (pe_fld (pe_fld (pv 0) rfl) rfl) (pa_cons (pv 2) (pa_cons (pv 3) (pa_cons (pe_op op_add (pv 2) pe_int) (pa_cons (pv 3) pa_nil))))))) (pss_cons (ps_for PassesOwn.never rfl (pi_list (pv 4)) (pg_tup rfl (pgs_cons (pg_name (i := 5) sc_expire.nd rfl (.inl rfl)) (pgs_cons (pg_name (i := 6) sc_expire.nd rfl (.inl rfl)) pgs_nil))) (pss_one (ps_expr (Kr.pe_cl h_give_back (hr.mono (by decide)) (pa_cons (pv 0) (pa_cons (pe_bm PySem.F.plainAttrs_dict PySem.F.slot_dict_pop PySem.F.type_dict_pop (KrD.mt_pop1T hu) (pe_fld (pv 0) rfl) (pa_cons (pe_tup (pa_cons (pv 5) (pa_cons (pv 6) pa_nil))) pa_nil)) (pa_cons (pe_tup (pa_cons pe_str (pa_cons (pv 5) (pa_cons (pv 6) pa_nil)))) (pa_cons (pv 1) pa_nil)))))))) (pss_cons (ps_fldaug (pv 0) pe_int in_add) (pss_cons (ps_fld (pv 0) (Kr.pe_mt m_Packing_start_of c_Packing (hr.mono (by decide)) (pe_fld (pv 0) rfl) (pa_cons (pe_op op_add (pe_fld (pv 0) rfl) pe_int) pa_nil)) rfl) (pss_one (ps_expr (Kr.pe_cl h_change_parents (hr.mono (by decide)) (pa_cons (pv 0) (pa_cons (pv 2) (pa_cons (pv 4) pa_nil)))))))))))))), ?_⟩
    rw [st_expire]
    walk_at "ss"
    refine r_decN (fun hd => ?_) fun hd => ?_
    · walk_at "ss"
      exact q x [] H (.inl ⟨hd, rfl, rfl⟩) S (by rw [List.append_nil]; exact E) (Mv.refl _ _ _ _)
    obtain ⟨k1, k2, ⟨pg, k3⟩, k4⟩ := p1 hd
    have hp := S.hp
    have hv : valV (x.heap.map hpE) (Sum.inl (x.first : Int)) = some (.int (pg : Nat)) := by
      rw [show x.heap.map hpE = x.heap.map (eE hpK) from rfl, show (Sum.inl (x.first : Int) : Key) = hpK x.first from rfl, eE_get hpK_inj, k3]
      rfl
    walk_at "ss"
    rw [show (x.after : Int) - 1 = ((x.after - 1 : Nat) : Int) by omega]
    refine KrD.r_dpop1 ?_
    walk_at "ss"
    refine KrD.r_isDK hp ?_
    walk_at "ss"
    refine KrD.r_popK hp hv ?_
    have pe : dropK (x.heap.map hpE) (Sum.inl (x.first : Int)) = (drL x.heap x.first).map hpE := eE_drop hpK_inj _ _
    rw [pe]
    obtain ⟨S2, m2⟩ := S.setH (e := e) (drL x.heap x.first)
    have E2 := E.of (show o.dh ∈ a :: o.all by simp [Ow.all]) m2.tp
    generalize upd H o.dh _ = H2 at S2 m2 E2 ⊢
    walk_at "ss"
    refine r_newS fun r H3 hr3 s3 er => ?_
    walk_at "ss"
    refine ⟨F, a, s1, p, r, e, o, _, .heap x.first, pg, evs, rfl, S2.same s3, E2.same s3, er, by omega, (by dsimp only; omega), fun H4 S4 E4 m4 => ?_⟩
    have M4 := (m2.same s3).trans m4
    obtain ⟨y0, hy0⟩ : ∃ y0, y0 = ({ x with heap := drL x.heap x.first } : St).gave pg := ⟨_, rfl⟩
    rw [← hy0] at S4
    have yf : y0.first = x.first := by rw [hy0]; rfl
    have yn : y0.nodes = x.nodes := by rw [hy0]; rfl
    have yc : y0.changed.length ≤ x.changed.length := by rw [hy0]; exact List.length_filter_le _ _
    have yw : y0.waiting.length = x.waiting.length + 1 := by rw [hy0]; exact List.length_append
    obtain ⟨dx4, ha4⟩ := S4.at_
    obtain ⟨dy4, t4, hs4, ht4⟩ := Z.st.same S4.fz
    walk_at "ss"
    refine sp_beyond_ed (by omega) (by omega) (by omega) (by omega) fun ns tb us H5 bg s5 hb5 e5 nl5 => ?_
    have nl := bg.len
    have nd := bg.nodup
    have k4 := k4 ns bg
    have tbo := S4.nw hb5
    have tbe := E4.nw hb5
    have tba : tb ≠ a := fun z => tbo (by rw [z]; exact List.mem_cons_self)
    have tbo' : tb ∉ o.all := fun z => tbo (List.mem_cons_of_mem _ z)
    have lus := nl5.len
    have M5 := M4.same s5
    walk_at "ss"
    refine r_forL (xs := us) (fun i σ G => ∃ v4 v5 y evs', σ = [some (.ref a), some (.ref e), some (.int (x.first : Nat)), some (.int (x.after - 1 : Nat)), some (.ref tb), v4, v5] ∧ y0.gvs (ns.take i) = (y, evs') ∧ StAt K F G a s1 p o y ∧ EvA F G e a o (evs ++ .give pg (.heap x.first) :: evs') ∧ Mv a e o H o G ∧ G tb = some (.lst us) ∧ NdL G us ns) ⟨none, none, y0, [], rfl, rfl, S4.same s5, E4.same s5, M5, e5, nl5⟩ (fun i σ G _ z => ?_) ?_ ?_
    · obtain ⟨_, _, _, _, _, _, _, _, _, z, _⟩ := z
      exact .of z
    · rintro i v σ G hv ⟨v4, v5, y, evs', rfl, hy, Sy, Ey, my, etb, nlG⟩
      have hk := (List.getElem?_eq_some_iff.mp hv).1
      obtain ⟨n, hn'⟩ : ∃ n, ns[i]? = some n := ⟨_, List.getElem?_eq_getElem (by rw [← lus]; exact hk)⟩
      obtain ⟨tn, h1, h2⟩ := nlG.at_ i n hn'
      rw [hv] at h1
      cases h1
      have h2' : G tn = some (.tup [.int (n.1 : Nat), .int (n.2 : Nat)]) := h2
      have ta := gvS_at (ns.take i) (y0, [])
      rw [show List.foldl gvS (y0, []) (ns.take i) = (y, evs') from hy] at ta
      have tl : (ns.take i).length ≤ i := List.length_take_le _ _
      obtain ⟨pn, hpn⟩ := k4 n (List.mem_of_getElem? hn')
      have hgy : gtL y.nodes n = some pn := by
        refine (ta.2.2.2.2.2.2.2.2.2.2.2.2 n fun z => ?_).trans (by rw [yn]; exact hpn)
        obtain ⟨j, hj⟩ := List.getElem?_of_mem z
        rw [List.getElem?_take] at hj
        split at hj
        · rename_i hji
          obtain ⟨q1, q2⟩ := List.getElem?_eq_some_iff.mp hj
          obtain ⟨q3, q4⟩ := List.getElem?_eq_some_iff.mp hn'
          have := (List.getElem_inj nd).mp (q2.trans q4.symm)
          omega
        · cases hj
      have nd7 := Sy.nd
      have hv7 : valV (y.nodes.map ndE) (ndK n) = some (.int (pn : Nat)) := by
        rw [show y.nodes.map ndE = y.nodes.map (eE ndK) from rfl, eE_get ndK_inj, hgy]
        rfl
      have dr7 : dropK (y.nodes.map ndE) (ndK n) = (drL y.nodes n).map ndE := eE_drop ndK_inj _ _
      obtain ⟨dxy, hay⟩ := Sy.at_
      walk_at "ss"
      refine KrD.r_tyDT nd7 ?_
      walk_at "ss"
      refine r_newS fun q8 H8 hq8 s8 eq8 => ?_
      have eq8' : H8 q8 = some (.tup ((ndK n).map kV)) := eq8
      walk_at "ss"
      refine KrD.r_pop1T (s8 _ _ nd7) eq8' hv7 ?_
      rw [dr7]
      obtain ⟨S9, m9⟩ := (Sy.same s8).setN (e := e) (drL y.nodes n)
      have E9 := (Ey.same s8).of (show o.dn ∈ a :: o.all by simp [Ow.all]) m9.tp
      have M9 := (my.same s8).trans m9
      have L9 := ((Mv.refl a e o G).same s8).trans m9
      generalize upd H8 o.dn _ = H9 at S9 m9 E9 M9 L9 ⊢
      walk_at "ss"
      refine r_newS fun r10 H10 hr10 s10 er10 => ?_
      walk_at "ss"
      have e1 : y.gv1 n = ({ y with nodes := drL y.nodes n } : St).gave pn := by rw [St.gv1, pgN, hgy]; rfl
      refine ⟨F, a, s1, p, r10, e, o, _, .node n.1 n.2, pn, _, rfl, S9.same s10, E9.same s10, er10, ?_, ?_, fun H11 S11 E11 m11 => ?_⟩
      · have := ta.2.2.2.2.2.2.2.2.2.2.2.1
        simp only [List.length_append, List.length_cons, List.length_nil] at this ⊢
        omega
      · have := ta.2.2.2.2.2.2.2.2.2.1
        dsimp only at this ⊢
        rw [yw] at this
        omega
      rw [← e1] at S11
      refine ⟨_, _, y.gv1 n, evs' ++ [.give pn (.node n.1 n.2)], rfl, ?_, S11, by rw [List.append_assoc] at E11; exact E11, (M9.same s10).trans m11, ?_, ?_⟩
      · rw [List.take_add_one, hn']
        show y0.gvs (ns.take i ++ [n]) = _
        rw [gvs_snoc, hy, gvS, pgN, hgy]
        rfl
      · exact ((L9.same s10).trans m11).kp _ _ tba tbo' tbe etb
      · exact nlG.keep ((L9.same s10).trans m11).tp
    rintro σ G ⟨v4, v5, y, evs', rfl, hy, Sy, Ey, my, etb, nlG⟩
    rw [lus, List.take_length] at hy
    have ta := gvS_at ns (y0, [])
    rw [show List.foldl gvS (y0, []) ns = (y, evs') from hy] at ta
    have yff : y.first = x.first := ta.2.2.1.trans yf
    obtain ⟨dxy, hay⟩ := Sy.at_
    walk_at "ss"
    dsimp only
    refine KrD.r_fldaug ?_
    walk_at "ss"
    refine KrD.r_fa hay cc n5 rfl ?_
    walk_at "ss"
    refine KrD.r_add ?_
    obtain ⟨S2', m2'⟩ := Sy.setA (e := e) (x' := { y with first := x.first + 1 }) rfl rfl rfl rfl rfl rfl (dx := dxy)
    have E2' := Ey.of List.mem_cons_self m2'.tp
    refine KrD.r_fb (gs := stF s1 p o { y with first := x.first + 1 }) hay (by show (14 : Nat) < 1000; omega) (by rw [yff]; rfl) ?_
    have M2 := my.trans m2'
    generalize upd G a _ = G2 at S2' m2' E2' M2 ⊢
    obtain ⟨dx2, ha2⟩ := S2'.at_
    have pk2 := Z.pk.same S2'.fz
    obtain ⟨dpk, _, _, _, _, Fpk, _⟩ := id pk2
    have hpk := Fpk.at_
    walk_at "ss"
    refine ⟨p, s1, ls, sz, x.first + 1 + 1, rfl, pk2, Nat.lt_of_lt_of_le (show x.first + 1 + 1 < 10 ^ 9 by omega) (Nat.pow_le_pow_right (by decide) (by decide)), ?_⟩
    obtain ⟨S3', m3'⟩ := S2'.setA (e := e) (x' := { y with first := x.first + 1, oe := Pk.st ls sz (x.first + 1 + 1) }) rfl rfl rfl rfl rfl rfl (dx := dx2)
    have E3' := E2'.of List.mem_cons_self m3'.tp
    walk_at "ss"
    refine r_st (gs := stF s1 p o { y with first := x.first + 1, oe := Pk.st ls sz (x.first + 1 + 1) }) ha2 cc n4 (by show (14 : Nat) < 1000; omega) rfl ?_
    have M3 := M2.trans m3'
    have M3G := (m2'.trans m3')
    generalize upd G2 a _ = G3 at S3' m3' E3' M3 M3G ⊢
    have fin : x.expd ⟨s1, p, ls, sz, fo, re, ev, ke⟩ ns = (({ y with first := x.first + 1, oe := Pk.st ls sz (x.first + 1 + 1) } : St).chgd fo x.first ns, .give pg (.heap x.first) :: evs') := by
      unfold St.expd
      rw [k3]
      show (({ (((({ x with heap := drL x.heap x.first } : St).gave pg)).gvs ns).1 with first := x.first + 1, oe := Pk.st ls sz (x.first + 1 + 1) } : St).chgd fo x.first ns, _ :: ((({ x with heap := drL x.heap x.first } : St).gave pg).gvs ns).2) = _
      rw [← hy0, hy]
      rfl
    walk_at "ss"
    refine ⟨F, a, tb, e, o, _, ⟨s1, p, ls, sz, fo, re, ev, ke⟩, x.first, us, ns, _, rfl, Z, S3', E3', M3G.kp _ _ tba tbo' tbe etb, nlG.keep M3G.tp, by omega, tbo, ?_, fun H' S' E' m' => ?_⟩
    · have := ta.2.2.2.2.2.2.2.2.2.2.1
      dsimp only at this ⊢
      omega
    exact q _ _ H' (.inr ⟨hd, ns, bg, fin⟩) S' E' (M3.trans m')
theorem ok_take_page {P : Program} {w : World} {K : PySem.W.Frag} {mg : Str → Option Value} {base : Heap} {f : Addr} {fd : FuncData} (F : FunD K "take_page" "take_page" (defArgs s_take_page) (defBody s_take_page) (defScope s_take_page) [] [] f fd) (a_State_free : NoAttr K (He.ga K "State") "free") (a_State_size : NoAttr K (He.ga K "State") "size") (c_State : Cls K (He.ga K "State")) : FnOk P w K mg base CX0 1 f fd ["state", "role", "events"] (sp_take_page K) := by
  refine F.ok sc_take_page (fun vs H Q E h => by first | (obtain ⟨rfl, _⟩ := h; rfl) | (obtain ⟨_, rfl, _⟩ := h; rfl) | (obtain ⟨_, _, rfl, _⟩ := h; rfl) | (obtain ⟨_, _, _, rfl, _⟩ := h; rfl) | (obtain ⟨_, _, _, _, rfl, _⟩ := h; rfl) | (obtain ⟨_, _, _, _, _, rfl, _⟩ := h; rfl) | (obtain ⟨_, _, _, _, _, _, rfl, _⟩ := h; rfl) | (obtain ⟨_, _, _, _, _, _, _, rfl, _⟩ := h; rfl) | (obtain ⟨_, _, _, _, _, _, _, _, rfl, _⟩ := h; rfl) | (obtain ⟨_, _, _, _, _, _, _, _, _, rfl, _⟩ := h; rfl) | (obtain ⟨_, _, _, _, _, _, _, _, _, _, rfl, _⟩ := h; rfl) | (obtain ⟨_, _, _, _, _, _, _, _, _, _, _, rfl, _⟩ := h; rfl) | (obtain ⟨_, _, _, _, _, _, _, _, _, _, _, _, rfl, _⟩ := h; rfl) | (obtain ⟨_, _, _, _, _, _, _, _, _, _, _, _, _, rfl, _⟩ := h; rfl) | (obtain ⟨_, _, _, _, _, _, _, _, _, _, _, _, _, _, rfl, _⟩ := h; rfl) | (obtain ⟨_, _, _, _, _, _, _, _, _, _, _, _, _, _, _, rfl, _⟩ := h; rfl) | (obtain ⟨_, _, _, _, _, _, _, _, _, _, _, _, _, _, _, _, rfl, _⟩ := h; rfl) | (obtain ⟨_, _, _, _, _, _, _, _, _, _, _, _, _, _, _, _, _, rfl, _⟩ := h; rfl)) (fun cdv A outer s H vs Q E hr h => ?_)
  · have hu := hu_of hr
    obtain ⟨F, a, s1, p, r, e, o, x, rl, evs, rfl, S, E, hr, hz, q⟩ := h
    obtain ⟨dx, ha⟩ := S.at_
    have cc := c_State
    have n1 := a_State_free
    have n2 := a_State_size
    have fr := S.fr
    refine ⟨_, PSs.nox (C8.pss_cut (ps_if (Kr.p_truth (pe_fld (pv 0) rfl) (by intro _; rfl)) (pss_one (ps_set (i := 3) sc_take_page.nd rfl (.inl rfl) (pe_bm0 PySem.F.plainAttrs_list PySem.F.slot_list_pop PySem.F.type_list_pop mt_pop (pe_fld (pv 0) rfl)))) (pss_cons (ps_set (i := 3) sc_take_page.nd rfl (.inl rfl) (pe_fld (pv 0) rfl)) (pss_one (ps_fldaug (pv 0) pe_int in_add)))) (pss_cons (ps_expr (pe_bm PySem.F.plainAttrs_list PySem.F.slot_list_append PySem.F.type_list_append mt_append (pv 2) (pa_cons (pe_tup (pa_cons pe_str (pa_cons (pv 3) (pa_cons (pv 1) pa_nil)))) pa_nil))) (pss_one (ps_ret (pv 3))))), ?_⟩
    rw [st_take_page]
    refine ⟨fun σ' H' => StAt K F H' a s1 p o x.took.2 ∧ EvA F H' e a o evs ∧ Mv a e o H o H' ∧ σ' = [some (.ref a), some (.ref r), some (.ref e), some (.int (x.took.1 : Nat))], ?_, ?_⟩
    · walk_at "ss"
      refine KrD.r_truL (SqL.of fr) ?_
      by_cases hf : x.free = []
      · have tk : x.took = (x.size, { x with size := x.size + 1 }) := by rw [St.took, hf]; rfl
        rw [hf]
        rw [show (!(List.map nI ([] : List Nat)).isEmpty) = false from rfl]
        walk_at "ss"
        dsimp only
        refine KrD.r_fldaug ?_
        walk_at "ss"
        refine KrD.r_fa ha cc n2 rfl ?_
        walk_at "ss"
        refine KrD.r_add ?_
        obtain ⟨S2, m2⟩ := S.setA (e := e) (x' := { x with size := x.size + 1 }) rfl rfl rfl rfl rfl rfl (dx := dx)
        refine KrD.r_fb (gs := stF s1 p o { x with size := x.size + 1 }) ha (by show (14 : Nat) < 1000; omega) rfl ?_
        rw [tk]
        exact ⟨S2, E.of List.mem_cons_self m2.tp, m2, rfl⟩
      · have tk : x.took = (x.free.getLast hf, { x with free := x.free.dropLast }) := by rw [St.took, List.getLast?_eq_some_getLast hf]
        rw [show (!(List.map nI x.free).isEmpty) = true by cases hg : x.free with | nil => exact absurd hg hf | cons _ _ => rfl]
        walk_at "ss"
        refine KrD.r_pop fr (lastI hf) ?_
        obtain ⟨S2, m2⟩ := S.setF (e := e) x.free.dropLast
        rw [← List.map_dropLast]
        walk_at "ss"
        rw [tk]
        exact ⟨S2, E.of (by simp [Ow.all]) m2.tp, m2, rfl⟩
    rintro σ' H' ⟨S', E', m, rfl⟩
    have hr' := m.tp _ _ hr
    obtain ⟨vs0, h0, _⟩ := E'.l
    walk_at "ss"
    refine r_newS fun t H2 ht s2 et => ?_
    obtain ⟨vs, h1, hl, E2, S2, m2⟩ := (E'.same s2).push (S'.same s2) (v := .ref t) (ev := .take x.took.1 rl) ⟨t, r, rfl, et, s2 _ _ hr'⟩
    walk_at "ss"
    refine r_append h1 (by omega) ?_
    walk_at "ss"
    exact q _ S2 E2 ((m.same s2).trans m2)
theorem ok_begin_heap_page {P : Program} {w : World} {K : PySem.W.Frag} {mg : Str → Option Value} {base : Heap} {f : Addr} {fd : FuncData} (F : FunD K "begin_heap_page" "begin_heap_page" (defArgs s_begin_heap_page) (defBody s_begin_heap_page) (defScope s_begin_heap_page) [] [] f fd) (a_Settings_fanout : NoAttr K (He.ga K "Settings") "fanout") (a_State_after : NoAttr K (He.ga K "State") "after") (a_State_changed : NoAttr K (He.ga K "State") "changed") (a_State_first : NoAttr K (He.ga K "State") "first") (a_State_heap : NoAttr K (He.ga K "State") "heap") (a_State_next_begin : NoAttr K (He.ga K "State") "next_begin") (a_State_nodes : NoAttr K (He.ga K "State") "nodes") (a_State_packing : NoAttr K (He.ga K "State") "packing") (a_State_settings : NoAttr K (He.ga K "State") "settings") (c_Packing : Cls K (He.ga K "Packing")) (c_Settings : Cls K (He.ga K "Settings")) (c_State : Cls K (He.ga K "State")) (h_change_parents : Kr.FnH P w K mg base CX0 1 "change_parents" ["state", "number", "nodes"] (sp_change_parents K)) (h_nodes_beyond : Kr.FnH P w K mg base CX0 1 "nodes_beyond" ["fanout", "first", "last", "low", "high"] (sp_nodes_beyond K)) (h_take_page : Kr.FnH P w K mg base CX0 1 "take_page" ["state", "role", "events"] (sp_take_page K)) (m_Packing_start_of : Kr.MtH P w K mg base CX0 1 (He.ga K "Packing") "start_of" ["self", "page"] (sp_Packing_start_of K)) : FnOk P w K mg base CX0 2 f fd ["state", "events"] (sp_begin_heap_page K) := by
  refine F.ok sc_begin_heap_page (fun vs H Q E h => by first | (obtain ⟨rfl, _⟩ := h; rfl) | (obtain ⟨_, rfl, _⟩ := h; rfl) | (obtain ⟨_, _, rfl, _⟩ := h; rfl) | (obtain ⟨_, _, _, rfl, _⟩ := h; rfl) | (obtain ⟨_, _, _, _, rfl, _⟩ := h; rfl) | (obtain ⟨_, _, _, _, _, rfl, _⟩ := h; rfl) | (obtain ⟨_, _, _, _, _, _, rfl, _⟩ := h; rfl) | (obtain ⟨_, _, _, _, _, _, _, rfl, _⟩ := h; rfl) | (obtain ⟨_, _, _, _, _, _, _, _, rfl, _⟩ := h; rfl) | (obtain ⟨_, _, _, _, _, _, _, _, _, rfl, _⟩ := h; rfl) | (obtain ⟨_, _, _, _, _, _, _, _, _, _, rfl, _⟩ := h; rfl) | (obtain ⟨_, _, _, _, _, _, _, _, _, _, _, rfl, _⟩ := h; rfl) | (obtain ⟨_, _, _, _, _, _, _, _, _, _, _, _, rfl, _⟩ := h; rfl) | (obtain ⟨_, _, _, _, _, _, _, _, _, _, _, _, _, rfl, _⟩ := h; rfl) | (obtain ⟨_, _, _, _, _, _, _, _, _, _, _, _, _, _, rfl, _⟩ := h; rfl) | (obtain ⟨_, _, _, _, _, _, _, _, _, _, _, _, _, _, _, rfl, _⟩ := h; rfl) | (obtain ⟨_, _, _, _, _, _, _, _, _, _, _, _, _, _, _, _, rfl, _⟩ := h; rfl) | (obtain ⟨_, _, _, _, _, _, _, _, _, _, _, _, _, _, _, _, _, rfl, _⟩ := h; rfl)) (fun cdv A outer s H vs Q E hr h => ?_)
  · have hu := hu_of hr
    obtain ⟨F, a, e, o, x, ⟨s1, p, ls, sz, fo, re, ev, ke⟩, evs, rfl, Z, S, E, fa, ha8, hgn, bh, bn, bc, be, hnn, q⟩ := h
    dsimp only at Z S q hnn
    obtain ⟨dx, ha⟩ := S.at_
    obtain ⟨dy, t, hs, ht⟩ := Z.st.same S.fz
    have cc := c_State
    have cs := c_Settings
    have n1 := a_State_settings
    have n2 := a_State_nodes
    have n3 := a_State_changed
    have n4 := a_Settings_fanout
    have n5 := a_State_heap
    have n6 := a_State_first
    have n7 := a_State_after
    have n8 := a_State_packing
    have n9 := a_State_next_begin
    have fo0 := Z.ok.fo
    refine ⟨_, PSs.nox (pss_cons (ps_set (i := 2) sc_begin_heap_page.nd rfl (.inl rfl) (pe_fld (pv 0) rfl)) (pss_cons (ps_dput hu (pe_fld (pv 0) rfl) (pv 2) (Kr.pe_cl h_take_page (hr.mono (by decide)) (pa_cons (pv 0) (pa_cons (pe_tup (pa_cons pe_str (pa_cons (pv 2) pa_nil))) (pa_cons (pv 1) pa_nil)))) rfl) (pss_cons (ps_set (i := 3) sc_begin_heap_page.nd rfl (.inl rfl) (Kr.pe_cl h_nodes_beyond (hr.mono (by decide)) (pa_cons (pe_fld (pe_fld (pv 0) rfl) rfl) (pa_cons (pe_fld (pv 0) rfl) (pa_cons (pv 2) (pa_cons (pe_fld (pv 0) rfl) (pa_cons (pe_op op_sub (pv 2) pe_int) pa_nil))))))) (pss_cons (ps_for PassesOwn.never rfl (pi_list (pv 3)) (pg_tup rfl (pgs_cons (pg_name (i := 4) sc_begin_heap_page.nd rfl (.inl rfl)) (pgs_cons (pg_name (i := 5) sc_begin_heap_page.nd rfl (.inl rfl)) pgs_nil))) (pss_cons (ps_set (i := 6) sc_begin_heap_page.nd rfl (.inl rfl) (Kr.pe_cl h_take_page (hr.mono (by decide)) (pa_cons (pv 0) (pa_cons (pe_tup (pa_cons pe_str (pa_cons (pv 4) (pa_cons (pv 5) pa_nil)))) (pa_cons (pv 1) pa_nil))))) (pss_cons (ps_dput hu (pe_fld (pv 0) rfl) (pe_tup (pa_cons (pv 4) (pa_cons (pv 5) pa_nil))) (pv 6) rfl) (pss_one (ps_dput hu (pe_fld (pv 0) rfl) (pv 6) pe_bl rfl))))) (pss_cons (ps_fldaug (pv 0) pe_int in_add) (pss_cons (ps_fld (pv 0) (Kr.pe_mt m_Packing_start_of c_Packing (hr.mono (by decide)) (pe_fld (pv 0) rfl) (pa_cons (pe_fld (pv 0) rfl) pa_nil)) rfl) (pss_one (ps_expr (Kr.pe_cl h_change_parents (hr.mono (by decide)) (pa_cons (pv 0) (pa_cons (pv 2) (pa_cons (pv 3) pa_nil)))))))))))), ?_⟩
    rw [st_begin_heap_page]
    walk_at "ss"
    refine r_newS fun r H2 hr2 s2 er => ?_
    walk_at "ss"
    refine ⟨F, a, s1, p, r, e, o, x, .heap x.after, evs, rfl, S.same s2, E.same s2, er, by omega, fun H3 S3 E3 m3 => ?_⟩
    obtain ⟨dx3, ha3⟩ := S3.at_
    have tk := took_at x
    have hp3 := S3.hp
    rw [tk.2.2.2.2.1] at hp3
    have pe : putK (x.heap.map hpE) (Sum.inl (x.after : Int)) (.int (x.took.1 : Nat)) = (x.heap ++ [(x.after, x.took.1)]).map hpE := eE_put hpK_inj _ hgn
    walk_at "ss"
    refine r_dp hp3 (by rw [List.length_map]; omega) ?_
    rw [pe]
    obtain ⟨S4, m4⟩ := S3.setH (e := e) (x.heap ++ [(x.after, x.took.1)])
    have E4 := E3.of (show o.dh ∈ a :: o.all by simp [Ow.all]) m4.tp
    obtain ⟨y0, hy0⟩ : ∃ y0, y0 = ({ x.took.2 with heap := x.heap ++ [(x.after, x.took.1)] } : St) := ⟨_, rfl⟩
    have yf : y0.first = x.first := by rw [hy0]; exact tk.2.2.1
    have ya : y0.after = x.after := by rw [hy0]; exact tk.2.2.2.1
    have yn : y0.nodes = x.nodes := by rw [hy0]; exact tk.2.2.2.2.2.1
    have yc : y0.changed = x.changed := by rw [hy0]; exact tk.2.2.2.2.2.2.2.1
    rw [← hy0] at S4
    generalize upd H3 o.dh (.dK ((x.heap ++ [(x.after, x.took.1)]).map hpE)) = H4 at S4 m4 E4 ⊢
    obtain ⟨dx4, ha4⟩ := S4.at_
    obtain ⟨dy4, t4, hs4, ht4⟩ := Z.st.same S4.fz
    walk_at "ss"
    rw [yf]
    refine sp_beyond_bg (by omega) (by omega) fa (by omega) fun ns tb us H5 bg s5 hb5 e5 nl5 => ?_
    have nl := bg.len
    have nd := bg.nodup (by omega)
    have hnn := hnn ns bg
    have tbo := S4.nw hb5
    have tbe := E4.nw hb5
    have tba : tb ≠ a := fun z => tbo (by rw [z]; exact List.mem_cons_self)
    have tbo' : tb ∉ o.all := fun z => tbo (List.mem_cons_of_mem _ z)
    have lus := nl5.len
    have M5 := ((((Mv.refl a e o H).same s2).trans m3).trans m4).same s5
    walk_at "ss"
    refine r_forL (xs := us) (fun i σ G => ∃ v4 v5 v6 y evs', σ = [some (.ref a), some (.ref e), some (.int (x.after : Nat)), some (.ref tb), v4, v5, v6] ∧ y0.tks (ns.take i) = (y, evs') ∧ StAt K F G a s1 p o y ∧ EvA F G e a o (evs ++ .take x.took.1 (.heap x.after) :: evs') ∧ Mv a e o H o G ∧ G tb = some (.lst us) ∧ NdL G us ns) ⟨none, none, none, y0, [], rfl, rfl, S4.same s5, E4.same s5, M5, e5, nl5⟩ (fun i σ G _ z => ?_) ?_ ?_
    · obtain ⟨_, _, _, _, _, _, _, _, _, _, z, _⟩ := z
      exact .of z
    · rintro i v σ G hv ⟨v4, v5, v6, y, evs', rfl, hy, Sy, Ey, my, etb, nlG⟩
      have hk := (List.getElem?_eq_some_iff.mp hv).1
      obtain ⟨n, hn'⟩ : ∃ n, ns[i]? = some n := ⟨_, List.getElem?_eq_getElem (by rw [← lus]; exact hk)⟩
      obtain ⟨tn, h1, h2⟩ := nlG.at_ i n hn'
      rw [hv] at h1
      cases h1
      have h2' : G tn = some (.tup [.int (n.1 : Nat), .int (n.2 : Nat)]) := h2
      have ta := tks_at (ns.take i) y0
      rw [hy] at ta
      have tl : (ns.take i).length ≤ i := List.length_take_le _ _
      have hgy : gtL y.nodes n = none := by
        rw [gtL_none]
        intro z
        rw [ta.2.2.2.2.2.1, yn] at z
        rcases List.mem_append.mp z with z | z
        · exact (gtL_none _ _).mp (hnn n (List.mem_of_getElem? hn')) z
        · obtain ⟨j, hj⟩ := List.getElem?_of_mem z
          rw [List.getElem?_take] at hj
          split at hj
          · rename_i hji
            obtain ⟨q1, q2⟩ := List.getElem?_eq_some_iff.mp hj
            obtain ⟨q3, q4⟩ := List.getElem?_eq_some_iff.mp hn'
            have := (List.getElem_inj nd).mp (q2.trans q4.symm)
            omega
          · cases hj
      have lny : y.nodes.length ≤ x.nodes.length + i := by
        have := congrArg List.length ta.2.2.2.2.2.1
        rw [List.length_map, List.length_append, List.length_map, yn] at this
        dsimp only at this
        omega
      walk_at "ss"
      refine r_newS fun r6 H6 hr6 s6 er6 => ?_
      walk_at "ss"
      refine ⟨F, a, s1, p, r6, e, o, y, .node n.1 n.2, _, rfl, Sy.same s6, Ey.same s6, er6, ?_, fun H7 S7 E7 m7 => ?_⟩
      · have := ta.2.2.2.2.2.2.2.2.2.2
        simp only [List.length_append, List.length_cons] at this ⊢
        omega
      obtain ⟨dx7, ha7⟩ := S7.at_
      have tky := took_at y
      have nd7 := S7.nd
      rw [tky.2.2.2.2.2.1] at nd7
      have pn : putK (y.nodes.map ndE) (ndK n) (.int (y.took.1 : Nat)) = (y.nodes ++ [(n, y.took.1)]).map ndE := eE_put ndK_inj _ hgy
      walk_at "ss"
      refine r_newS fun q8 H8 hq8 s8 eq8 => ?_
      have eq8' : H8 q8 = some (.tup ((ndK n).map kV)) := eq8
      refine KrD.r_dpT (s8 _ _ nd7) eq8' (by rw [List.length_map]; omega) ?_
      rw [pn]
      obtain ⟨S9, m9⟩ := (S7.same s8).setN (e := e) (y.nodes ++ [(n, y.took.1)])
      have E9 := (E7.same s8).of (show o.dn ∈ a :: o.all by simp [Ow.all]) m9.tp
      have M9 := ((((my.same s6).trans m7).same s8).trans m9)
      have ct := S9.ch
      obtain ⟨dx9, ha9⟩ := S9.at_
      have c9 : ({ y.took.2 with nodes := y.nodes ++ [(n, y.took.1)] } : St).changed.length ≤ 41000 := by
        rw [show ({ y.took.2 with nodes := y.nodes ++ [(n, y.took.1)] } : St).changed = y.changed from tky.2.2.2.2.2.2.2.1]
        have := ta.2.2.2.2.2.2.2.2.2.1
        dsimp only at this
        rw [yc] at this
        omega
      have e1 : (y.tk1 n) = ({ y.took.2 with nodes := y.nodes ++ [(n, y.took.1)] } : St).mark y.took.1 := rfl
      generalize ({ y.took.2 with nodes := y.nodes ++ [(n, y.took.1)] } : St) = w at S9 c9 e1 ct ha9
      generalize upd H8 o.dn _ = H9 at S9 m9 E9 M9 ct ha9 ⊢
      obtain ⟨S10, m10⟩ := S9.setC (e := e) (if y.took.1 ∈ w.changed then w.changed else w.changed ++ [y.took.1])
      have E10 := E9.of (show o.ch ∈ a :: o.all by simp [Ow.all]) m10.tp
      rw [w.mark_eq, ← e1] at S10
      rw [← ch_put] at S10 m10 E10
      walk_at "ss"
      refine r_dp ct (by rw [List.length_map]; omega) ?_
      have M10 := M9.trans m10
      refine ⟨_, _, _, y.tk1 n, evs' ++ [.take y.took.1 (.node n.1 n.2)], rfl, ?_, S10, by rw [List.append_assoc] at E10; exact E10, M10, ?_, ?_⟩
      · rw [List.take_add_one, hn']
        show y0.tks (ns.take i ++ [n]) = _
        rw [tks_snoc, hy]
      · have := (((Mv.refl a e o G).same s6).trans m7).same s8
        exact ((this.trans m9).trans m10).kp _ _ tba tbo' tbe etb
      · have := (((Mv.refl a e o G).same s6).trans m7).same s8
        exact nlG.keep ((this.trans m9).trans m10).tp
    rintro σ G ⟨v4, v5, v6, y, evs', rfl, hy, Sy, Ey, my, etb, nlG⟩
    rw [lus, List.take_length] at hy
    have ta := tks_at ns y0
    rw [hy] at ta
    obtain ⟨dxy, hay⟩ := Sy.at_
    walk_at "ss"
    dsimp only
    refine KrD.r_fldaug ?_
    walk_at "ss"
    refine KrD.r_fa hay cc n7 rfl ?_
    walk_at "ss"
    refine KrD.r_add ?_
    have yaf : y.after = x.after := ta.2.2.2.1.trans ya
    obtain ⟨S2, m2⟩ := Sy.setA (e := e) (x' := { y with after := x.after + 1 }) rfl rfl rfl rfl rfl rfl (dx := dxy)
    have E2 := Ey.of List.mem_cons_self m2.tp
    refine KrD.r_fb (gs := stF s1 p o { y with after := x.after + 1 }) hay (by show (14 : Nat) < 1000; omega) (by rw [yaf]; rfl) ?_
    have M2 := my.trans m2
    generalize upd G a _ = G2 at S2 m2 E2 M2 ⊢
    obtain ⟨dx2, ha2⟩ := S2.at_
    have pk2 := Z.pk.same S2.fz
    obtain ⟨dpk, _, _, _, _, Fpk, _⟩ := id pk2
    have hpk := Fpk.at_
    have cp := c_Packing
    walk_at "ss"
    refine ⟨p, s1, ls, sz, x.after + 1, rfl, pk2, Nat.lt_of_lt_of_le (show x.after + 1 < 10 ^ 9 by omega) (Nat.pow_le_pow_right (by decide) (by decide)), ?_⟩
    obtain ⟨S3', m3'⟩ := S2.setA (e := e) (x' := { y with after := x.after + 1, nb := Pk.st ls sz (x.after + 1) }) rfl rfl rfl rfl rfl rfl (dx := dx2)
    have E3' := E2.of List.mem_cons_self m3'.tp
    walk_at "ss"
    refine r_st (gs := stF s1 p o { y with after := x.after + 1, nb := Pk.st ls sz (x.after + 1) }) ha2 cc n9 (by show (14 : Nat) < 1000; omega) rfl ?_
    have M3 := M2.trans m3'
    have M3G := (m2.trans m3')
    generalize upd G2 a _ = G3 at S3' m3' E3' M3 M3G ⊢
    have fin : x.begn ls sz fo ns = (({ y with after := x.after + 1, nb := Pk.st ls sz (x.after + 1) } : St).chgd fo x.after ns, .take x.took.1 (.heap x.after) :: evs') := by
      unfold St.begn
      rw [← hy0, hy]
    walk_at "ss"
    refine ⟨F, a, tb, e, o, _, ⟨s1, p, ls, sz, fo, re, ev, ke⟩, x.after, us, ns, _, rfl, Z, S3', E3', M3G.kp _ _ tba tbo' tbe etb, nlG.keep M3G.tp, by omega, tbo, ?_, fun H' S' E' m' => ?_⟩
    · have := ta.2.2.2.2.2.2.2.2.2.1
      dsimp only at this ⊢
      rw [yc] at this
      omega
    have q := q ns H' bg
    rw [fin] at q
    exact q S' E' (M3.trans m')
theorem ok_put_row {P : Program} {w : World} {K : PySem.W.Frag} {mg : Str → Option Value} {base : Heap} {f : Addr} {fd : FuncData} (F : FunD K "put_row" "put_row" (defArgs s_put_row) (defBody s_put_row) (defScope s_put_row) [] [] f fd) (a_State_after : NoAttr K (He.ga K "State") "after") (a_State_changed : NoAttr K (He.ga K "State") "changed") (a_State_done : NoAttr K (He.ga K "State") "done") (a_State_heap : NoAttr K (He.ga K "State") "heap") (a_State_next_begin : NoAttr K (He.ga K "State") "next_begin") (c_State : Cls K (He.ga K "State")) (h_begin_heap_page : Kr.FnH P w K mg base CX0 2 "begin_heap_page" ["state", "events"] (sp_begin_heap_page K)) : FnOk P w K mg base CX0 3 f fd ["state", "events"] (sp_put_row K) := by
  refine F.ok sc_put_row (fun vs H Q E h => by first | (obtain ⟨rfl, _⟩ := h; rfl) | (obtain ⟨_, rfl, _⟩ := h; rfl) | (obtain ⟨_, _, rfl, _⟩ := h; rfl) | (obtain ⟨_, _, _, rfl, _⟩ := h; rfl) | (obtain ⟨_, _, _, _, rfl, _⟩ := h; rfl) | (obtain ⟨_, _, _, _, _, rfl, _⟩ := h; rfl) | (obtain ⟨_, _, _, _, _, _, rfl, _⟩ := h; rfl) | (obtain ⟨_, _, _, _, _, _, _, rfl, _⟩ := h; rfl) | (obtain ⟨_, _, _, _, _, _, _, _, rfl, _⟩ := h; rfl) | (obtain ⟨_, _, _, _, _, _, _, _, _, rfl, _⟩ := h; rfl) | (obtain ⟨_, _, _, _, _, _, _, _, _, _, rfl, _⟩ := h; rfl) | (obtain ⟨_, _, _, _, _, _, _, _, _, _, _, rfl, _⟩ := h; rfl) | (obtain ⟨_, _, _, _, _, _, _, _, _, _, _, _, rfl, _⟩ := h; rfl) | (obtain ⟨_, _, _, _, _, _, _, _, _, _, _, _, _, rfl, _⟩ := h; rfl) | (obtain ⟨_, _, _, _, _, _, _, _, _, _, _, _, _, _, rfl, _⟩ := h; rfl) | (obtain ⟨_, _, _, _, _, _, _, _, _, _, _, _, _, _, _, rfl, _⟩ := h; rfl) | (obtain ⟨_, _, _, _, _, _, _, _, _, _, _, _, _, _, _, _, rfl, _⟩ := h; rfl) | (obtain ⟨_, _, _, _, _, _, _, _, _, _, _, _, _, _, _, _, _, rfl, _⟩ := h; rfl)) (fun cdv A outer s H vs Q E hr h => ?_)
  · have hu := hu_of hr
    obtain ⟨F, a, e, o, x, ⟨s1, p, ls, sz, fo, re, ev, ke⟩, evs, rfl, Z, S, E, bh, bn, bc, be, p1, p2, q⟩ := h
    dsimp only at Z S q p1
    obtain ⟨dx, ha⟩ := S.at_
    have cc := c_State
    have n1 := a_State_done
    have n2 := a_State_next_begin
    have n3 := a_State_changed
    have n5 := a_State_heap
    have n7 := a_State_after
    refine ⟨_, PSs.nox (C8.pss_cut (ps_if (pt_cmpR op_eq (pe_fld (pv 0) rfl) (pe_fld (pv 0) rfl) (nomark _)) (pss_one (ps_expr (Kr.pe_cl h_begin_heap_page (hr.mono (by decide)) (pa_cons (pv 0) (pa_cons (pv 1) pa_nil))))) pss_nil) (pss_cons (ps_set (i := 2) sc_put_row.nd rfl (.inl rfl) (pe_dget hu (pe_fld (pv 0) rfl) (pe_op op_sub (pe_fld (pv 0) rfl) pe_int) (fun _ _ => rfl))) (pss_cons (ps_dput hu (pe_fld (pv 0) rfl) (pv 2) pe_bl rfl) (pss_one (ps_expr (pe_bm PySem.F.plainAttrs_list PySem.F.slot_list_append PySem.F.type_list_append mt_append (pv 1) (pa_cons (pe_tup (pa_cons pe_str (pa_cons (pv 2) (pa_cons (pe_fld (pv 0) rfl) pa_nil)))) pa_nil))))))), ?_⟩
    rw [st_put_row]
    refine ⟨fun σ' H' => ∃ w es0 pg, σ' = [some (.ref a), some (.ref e), none] ∧ StAt K F H' a s1 p o w ∧ EvA F H' e a o (evs ++ es0) ∧ Mv a e o H o H' ∧ es0.length ≤ 267 ∧ w.done = x.done ∧ 0 < w.after ∧ gtL w.heap (w.after - 1) = some pg ∧ w.changed.length ≤ 41000 ∧ Put ⟨s1, p, ls, sz, fo, re, ev, ke⟩ x (w.mark pg) (es0 ++ [.put pg x.done]), ?_, ?_⟩
    · walk_at "ss"
      refine r_dec (fun hd => ?_) fun hd => ?_
      · have hd : x.done = x.nb := by omega
        obtain ⟨k1, k2, k3, k4⟩ := p1 hd
        walk_at "ss"
        refine ⟨F, a, e, o, x, ⟨s1, p, ls, sz, fo, re, ev, ke⟩, evs, rfl, Z, S, E, k1, k2, k3, bh, bn, bc, be, k4, fun ns H' bg S' E' m' => ?_⟩
        have ba := x.begn_at ls sz fo ns
        have nl := bg.len
        have k : gtL (x.begn ls sz fo ns).1.heap ((x.begn ls sz fo ns).1.after - 1) = some x.took.1 := by
          rw [ba.2.2.2.2.1, ba.2.2.2.1, Nat.add_sub_cancel, gtL_snoc, k3]
          exact if_pos rfl
        exact ⟨_, _, x.took.1, rfl, S', E', m', by have := ba.2.2.2.2.2.2.2.2.2.2; dsimp only at nl ⊢; omega, ba.2.1, by rw [ba.2.2.2.1]; omega, k, by have := ba.2.2.2.2.2.2.2.2.2.1; dsimp only at nl ⊢; omega, .inl ⟨hd, ns, bg, rfl, rfl⟩⟩
      · have hd : x.done ≠ x.nb := by omega
        obtain ⟨k1, pg, k2⟩ := p2 hd
        walk_at "ss"
        exact ⟨x, [], pg, rfl, S, by rw [List.append_nil]; exact E, Mv.refl _ _ _ _, by decide, rfl, k1, k2, by omega, .inr ⟨hd, pg, k2, rfl, rfl⟩⟩
    rintro σ' H' ⟨w, es0, pg, rfl, Sw, Ew, mw, el, wd, w0, wg, wc, pt⟩
    obtain ⟨dxw, haw⟩ := Sw.at_
    have hpw := Sw.hp
    have ct := Sw.ch
    have hv : valV (w.heap.map hpE) (Sum.inl ((w.after - 1 : Nat) : Int)) = some (.int (pg : Nat)) := by
      rw [show w.heap.map hpE = w.heap.map (eE hpK) from rfl, show (Sum.inl ((w.after - 1 : Nat) : Int) : Key) = hpK (w.after - 1) from rfl, eE_get hpK_inj, wg]
      rfl
    walk_at "ss"
    rw [show (w.after : Int) - 1 = ((w.after - 1 : Nat) : Int) by omega]
    refine r_dg hpw hv ?_
    obtain ⟨S2, m2⟩ := Sw.setC (e := e) (if pg ∈ w.changed then w.changed else w.changed ++ [pg])
    have E2 := Ew.of (show o.ch ∈ a :: o.all by simp [Ow.all]) m2.tp
    rw [w.mark_eq] at S2
    rw [← ch_put] at S2 m2 E2
    walk_at "ss"
    refine r_dp ct (by rw [List.length_map]; omega) ?_
    have M2 := mw.trans m2
    generalize upd H' o.ch _ = H2 at S2 m2 E2 M2 ⊢
    obtain ⟨dx2, ha2⟩ := S2.at_
    obtain ⟨vs0, h0, _⟩ := E2.l
    have md := (w.mark_at pg).2.1.trans wd
    walk_at "ss"
    refine r_newS fun t H3 ht3 s3 et => ?_
    have et' : H3 t = some (.tup [.str "put", .int (pg : Nat), .int (x.done : Nat)]) := by rw [et, ← md]
    obtain ⟨vs, h1, hlv, E4, S4, m4⟩ := (E2.same s3).push (S2.same s3) (v := .ref t) (ev := .put pg x.done) ⟨t, rfl, et'⟩
    walk_at "ss"
    refine r_append h1 (by simp at hlv; omega) ?_
    walk_at "ss"
    rw [List.append_assoc] at E4
    exact q _ _ _ pt S4 E4 ((M2.same s3).trans m4)
theorem ok_write_to_log {P : Program} {w : World} {K : PySem.W.Frag} {mg : Str → Option Value} {base : Heap} {f : Addr} {fd : FuncData} (F : FunD K "write_to_log" "write_to_log" (defArgs s_write_to_log) (defBody s_write_to_log) (defScope s_write_to_log) [] [] f fd) (a_Settings_every : NoAttr K (He.ga K "Settings") "every") (a_Settings_records : NoAttr K (He.ga K "Settings") "records") (a_State_done : NoAttr K (He.ga K "State") "done") (a_State_log : NoAttr K (He.ga K "State") "log") (a_State_settings : NoAttr K (He.ga K "State") "settings") (c_Settings : Cls K (He.ga K "Settings")) (c_State : Cls K (He.ga K "State")) (h_take_page : Kr.FnH P w K mg base CX0 1 "take_page" ["state", "role", "events"] (sp_take_page K)) : FnOk P w K mg base CX0 2 f fd ["state", "events"] (sp_write_to_log K) := by
  refine F.ok sc_write_to_log (fun vs H Q E h => by first | (obtain ⟨rfl, _⟩ := h; rfl) | (obtain ⟨_, rfl, _⟩ := h; rfl) | (obtain ⟨_, _, rfl, _⟩ := h; rfl) | (obtain ⟨_, _, _, rfl, _⟩ := h; rfl) | (obtain ⟨_, _, _, _, rfl, _⟩ := h; rfl) | (obtain ⟨_, _, _, _, _, rfl, _⟩ := h; rfl) | (obtain ⟨_, _, _, _, _, _, rfl, _⟩ := h; rfl) | (obtain ⟨_, _, _, _, _, _, _, rfl, _⟩ := h; rfl) | (obtain ⟨_, _, _, _, _, _, _, _, rfl, _⟩ := h; rfl) | (obtain ⟨_, _, _, _, _, _, _, _, _, rfl, _⟩ := h; rfl) | (obtain ⟨_, _, _, _, _, _, _, _, _, _, rfl, _⟩ := h; rfl) | (obtain ⟨_, _, _, _, _, _, _, _, _, _, _, rfl, _⟩ := h; rfl) | (obtain ⟨_, _, _, _, _, _, _, _, _, _, _, _, rfl, _⟩ := h; rfl) | (obtain ⟨_, _, _, _, _, _, _, _, _, _, _, _, _, rfl, _⟩ := h; rfl) | (obtain ⟨_, _, _, _, _, _, _, _, _, _, _, _, _, _, rfl, _⟩ := h; rfl) | (obtain ⟨_, _, _, _, _, _, _, _, _, _, _, _, _, _, _, rfl, _⟩ := h; rfl) | (obtain ⟨_, _, _, _, _, _, _, _, _, _, _, _, _, _, _, _, rfl, _⟩ := h; rfl) | (obtain ⟨_, _, _, _, _, _, _, _, _, _, _, _, _, _, _, _, _, rfl, _⟩ := h; rfl)) (fun cdv A outer s H vs Q E hr h => ?_)
  · have hu := hu_of hr
    obtain ⟨F, a, s1, p, e, o, x, ls, sz, fo, re, ev, ke, evs, rfl, Z, S, E, hz, hl, hne, q⟩ := h
    obtain ⟨dx, ha⟩ := S.at_
    obtain ⟨dy, t, hs, ht⟩ := Z.st.same S.fz
    have cc := c_State
    have cs := c_Settings
    have n1 := a_State_settings
    have n2 := a_State_done
    have n3 := a_State_log
    have n4 := a_Settings_every
    have n5 := a_Settings_records
    have ev0 := Z.ok.ev
    have re0 := Z.ok.re
    have fl := S.lg
    refine ⟨_, PSs.nox (pss_cons (ps_set (i := 2) sc_write_to_log.nd rfl (.inl rfl) (pe_fld (pv 0) rfl)) (pss_cons (ps_set (i := 3) sc_write_to_log.nd rfl (.inl rfl) (pe_op op_mod (pe_fld (pv 0) rfl) (pe_fld (pv 2) rfl))) (C8.pss_cut (ps_if (pt_cmpR op_eq (pe_op op_mod (pv 3) (pe_fld (pv 2) rfl)) pe_int (nomark _)) (pss_one (ps_expr (pe_bm PySem.F.plainAttrs_list PySem.F.slot_list_append PySem.F.type_list_append mt_append (pe_fld (pv 0) rfl) (pa_cons (Kr.pe_cl h_take_page (hr.mono (by decide)) (pa_cons (pv 0) (pa_cons (pe_tup (pa_cons pe_str (pa_cons (pe_op op_fdivW (pv 3) (pe_fld (pv 2) rfl)) pa_nil))) (pa_cons (pv 1) pa_nil)))) pa_nil)))) pss_nil) (pss_one (ps_expr (pe_bm PySem.F.plainAttrs_list PySem.F.slot_list_append PySem.F.type_list_append mt_append (pv 1) (pa_cons (pe_tup (pa_cons pe_str (pa_cons (pe_ix ix_list (pe_fld (pv 0) rfl) (pe_un un_neg pe_int) (fun _ _ => rfl)) (pa_cons (pe_fld (pv 0) rfl) pa_nil)))) pa_nil))))))), ?_⟩
    rw [st_write_to_log]
    walk_at "ss"
    rw [show ((x.done : Nat) : Int) % (ev : Int) = ((x.done % ev : Nat) : Int) from (Int.natCast_emod _ _).symm]
    refine ⟨fun σ' H' => ∃ y evs', StAt K F H' a s1 p o y ∧ EvA F H' e a o (evs ++ evs') ∧ evs'.length ≤ 1 ∧ Mv a e o H o H' ∧ y.log ≠ [] ∧ x.logd ev re = (y, evs' ++ [.recd (y.log.getLast?.getD 0) x.done]) ∧ y.done = x.done ∧ σ' = [some (.ref a), some (.ref e), some (.ref s1), some (.int (x.done % ev : Nat))], ?_, ?_⟩
    · walk_at "ss"
      rw [show ((x.done % ev : Nat) : Int) % (re : Int) = ((x.done % ev % re : Nat) : Int) from (Int.natCast_emod _ _).symm]
      by_cases hr : x.done % ev % re = 0
      · rw [show decide (((x.done % ev % re : Nat) : Int) = 0) = true by rw [hr]; rfl]
        have tk : (x.logd ev re) = ({ x.took.2 with log := x.took.2.log ++ [x.took.1] }, [.take x.took.1 (.log (x.done % ev / re)), .recd x.took.1 x.done]) := if_pos hr
        have cd : CDivW ((x.done % ev : Nat) : Int) (re : Int) := wide_div (b := 64) (by omega) (by omega) (by decide) (by decide)
        walk_at "ss"
        rw [show ((x.done % ev : Nat) : Int) / (re : Int) = ((x.done % ev / re : Nat) : Int) from (Int.natCast_ediv _ _).symm]
        refine r_newS fun r H2 hr2 s2 er => ?_
        walk_at "ss"
        refine ⟨F, a, s1, p, r, e, o, x, .log (x.done % ev / re), evs, rfl, S.same s2, E.same s2, er, by omega, fun H3 S3 E3 m3 => ?_⟩
        have f3 := S3.lg
        rw [(took_at x).1] at f3
        obtain ⟨S4, m4⟩ := S3.setL (e := e) (x.log ++ [x.took.1])
        have E4 := E3.of (show o.lg ∈ a :: o.all by simp [Ow.all]) m4.tp
        walk_at "ss"
        refine r_append f3 (by rw [List.length_map]; omega) ?_
        rw [show (List.map nI x.log ++ [.int (x.took.1 : Nat)]) = (x.log ++ [x.took.1]).map nI by rw [List.map_append]; rfl]
        refine ⟨_, [_], S4, E4, Nat.le_refl _, ((Mv.refl _ _ _ _).same s2).trans (m3.trans m4), by simp, ?_, (took_at x).2.1, rfl⟩
        rw [tk, (took_at x).1]
        simp
      · rw [show decide (((x.done % ev % re : Nat) : Int) = 0) = false from decide_eq_false fun z => hr (Int.natCast_eq_zero.mp z)]
        have tk : (x.logd ev re) = (x, [.recd (x.log.getLast?.getD 0) x.done]) := if_neg hr
        walk_at "ss"
        exact ⟨x, [], S, by rw [List.append_nil]; exact E, Nat.zero_le _, Mv.refl _ _ _ _, hne hr, tk, rfl, rfl⟩
    rintro σ' H' ⟨y, evs', S', E', hl', m, hy, hx, hd, rfl⟩
    obtain ⟨dx', ha'⟩ := S'.at_
    have fl' := S'.lg
    obtain ⟨vs0, h0, _⟩ := E'.l
    walk_at "ss"
    refine r_ixL (.of fl') (i := -1) (nI_last hy) ?_
    walk_at "ss"
    refine r_newS fun t H2 ht2 s2 et => ?_
    have et' : H2 t = some (.tup [.str "record", .int (y.log.getLast?.getD 0 : Nat), .int (x.done : Nat)]) := by rw [et, ← hd]
    obtain ⟨vs, h1, hlv, E3, S3, m3⟩ := (E'.same s2).push (S'.same s2) (v := .ref t) (ev := .recd (y.log.getLast?.getD 0) x.done) ⟨t, rfl, et'⟩
    walk_at "ss"
    refine r_append h1 (by simp at hlv; omega) ?_
    walk_at "ss"
    rw [hx] at q
    rw [List.append_assoc] at E3
    exact q _ S3 E3 ((m.same s2).trans m3)
theorem ok_do_row {P : Program} {w : World} {K : PySem.W.Frag} {mg : Str → Option Value} {base : Heap} {f : Addr} {fd : FuncData} (F : FunD K "do_row" "do_row" (defArgs s_do_row) (defBody s_do_row) (defScope s_do_row) [] [] f fd) (a_Settings_every : NoAttr K (He.ga K "Settings") "every") (a_State_done : NoAttr K (He.ga K "State") "done") (a_State_settings : NoAttr K (He.ga K "State") "settings") (c_Settings : Cls K (He.ga K "Settings")) (c_State : Cls K (He.ga K "State")) (h_do_checkpoint : Kr.FnH P w K mg base CX0 1 "do_checkpoint" ["state", "events"] (sp_do_checkpoint K)) (h_expire : Kr.FnH P w K mg base CX0 2 "expire" ["state", "events"] (sp_expire K)) (h_put_row : Kr.FnH P w K mg base CX0 3 "put_row" ["state", "events"] (sp_put_row K)) (h_write_to_log : Kr.FnH P w K mg base CX0 2 "write_to_log" ["state", "events"] (sp_write_to_log K)) : FnOk P w K mg base CX0 4 f fd ["state"] (sp_do_row K) := by
  refine F.ok sc_do_row (fun vs H Q E h => by first | (obtain ⟨rfl, _⟩ := h; rfl) | (obtain ⟨_, rfl, _⟩ := h; rfl) | (obtain ⟨_, _, rfl, _⟩ := h; rfl) | (obtain ⟨_, _, _, rfl, _⟩ := h; rfl) | (obtain ⟨_, _, _, _, rfl, _⟩ := h; rfl) | (obtain ⟨_, _, _, _, _, rfl, _⟩ := h; rfl) | (obtain ⟨_, _, _, _, _, _, rfl, _⟩ := h; rfl) | (obtain ⟨_, _, _, _, _, _, _, rfl, _⟩ := h; rfl) | (obtain ⟨_, _, _, _, _, _, _, _, rfl, _⟩ := h; rfl) | (obtain ⟨_, _, _, _, _, _, _, _, _, rfl, _⟩ := h; rfl) | (obtain ⟨_, _, _, _, _, _, _, _, _, _, rfl, _⟩ := h; rfl) | (obtain ⟨_, _, _, _, _, _, _, _, _, _, _, rfl, _⟩ := h; rfl) | (obtain ⟨_, _, _, _, _, _, _, _, _, _, _, _, rfl, _⟩ := h; rfl) | (obtain ⟨_, _, _, _, _, _, _, _, _, _, _, _, _, rfl, _⟩ := h; rfl) | (obtain ⟨_, _, _, _, _, _, _, _, _, _, _, _, _, _, rfl, _⟩ := h; rfl) | (obtain ⟨_, _, _, _, _, _, _, _, _, _, _, _, _, _, _, rfl, _⟩ := h; rfl) | (obtain ⟨_, _, _, _, _, _, _, _, _, _, _, _, _, _, _, _, rfl, _⟩ := h; rfl) | (obtain ⟨_, _, _, _, _, _, _, _, _, _, _, _, _, _, _, _, _, rfl, _⟩ := h; rfl)) (fun cdv A outer s H vs Q E hr h => ?_)
  · have hu := hu_of hr
    obtain ⟨F, a, o, x, ⟨s1, p, ls, sz, fo, re, ev, ke⟩, rfl, Z, S, R, q⟩ := h
    dsimp only at Z S q
    have cc := c_State
    have cs := c_Settings
    have n1 := a_State_done
    have n2 := a_State_settings
    have n3 := a_Settings_every
    have ev0 := Z.ok.ev
    obtain ⟨r1, r2, r3, r4, r5, r6, r7⟩ := R
    dsimp only at r2 r3 r4 r5 r6 r7
    refine ⟨_, PSs.nox (pss_cons (ps_set (i := 1) sc_do_row.nd rfl (.inl rfl) (pe_lst pa_nil)) (pss_cons (ps_expr (Kr.pe_cl h_write_to_log (hr.mono (by decide)) (pa_cons (pv 0) (pa_cons (pv 1) pa_nil)))) (pss_cons (ps_expr (Kr.pe_cl h_put_row (hr.mono (by decide)) (pa_cons (pv 0) (pa_cons (pv 1) pa_nil)))) (pss_cons (ps_expr (Kr.pe_cl h_expire (hr.mono (by decide)) (pa_cons (pv 0) (pa_cons (pv 1) pa_nil)))) (pss_cons (ps_fldaug (pv 0) pe_int in_add) (pss_cons (ps_if (pt_cmpR op_eq (pe_op op_mod (pe_fld (pv 0) rfl) (pe_fld (pe_fld (pv 0) rfl) rfl)) pe_int (nomark _)) (pss_one (ps_expr (Kr.pe_cl h_do_checkpoint (hr.mono (by decide)) (pa_cons (pv 0) (pa_cons (pv 1) pa_nil))))) pss_nil) (pss_one (ps_ret (pv 1))))))))), ?_⟩
    rw [st_do_row]
    walk_at "ss"
    refine r_newS fun e H1 he s1' ee => ?_
    have S1 := S.same s1'
    have E1 : EvA F H1 e a o [] := ⟨⟨[], ee, .nil⟩, S.nw he, Same.free S.fz he⟩
    walk_at "ss"
    refine ⟨F, a, s1, p, e, o, x, ls, sz, fo, re, ev, ke, [], rfl, Z, S1, E1, Nat.zero_le _, by omega, r2, fun H2 S2 E2 m2 => ?_⟩
    rw [List.nil_append] at E2
    have ll := x.logd_len ev re
    walk_at "ss"
    refine ⟨F, a, e, o, _, ⟨s1, p, ls, sz, fo, re, ev, ke⟩, _, rfl, Z, S2, E2, r3.1, r3.2.1, r3.2.2, by omega, r4 _ rfl, r5 _ rfl, fun x2 e2 H3 pt S3 E3 m3 => ?_⟩
    obtain ⟨r61, r62, r63⟩ := r6 x2 e2 pt
    have pl := pt.len
    walk_at "ss"
    refine ⟨F, a, e, o, x2, ⟨s1, p, ls, sz, fo, re, ev, ke⟩, _, rfl, Z, S3, E3, r61, r62, by rw [List.length_append]; omega, r63, fun x3 e3 H4 ed S4 E4 m4 => ?_⟩
    obtain ⟨r71, r72, r73⟩ := r7 x2 e2 x3 e3 pt ed
    have el := ed.len
    obtain ⟨dx4, ha4⟩ := S4.at_
    walk_at "ss"
    dsimp only
    refine KrD.r_fldaug ?_
    walk_at "ss"
    refine KrD.r_fa ha4 cc n1 rfl ?_
    walk_at "ss"
    refine KrD.r_add ?_
    obtain ⟨S5, m5⟩ := S4.setA (e := e) (x' := { x3 with done := x3.done + 1 }) rfl rfl rfl rfl rfl rfl (dx := dx4)
    have E5 := E4.of List.mem_cons_self m5.tp
    refine KrD.r_fb (gs := stF s1 p o { x3 with done := x3.done + 1 }) ha4 (by show (14 : Nat) < 1000; omega) rfl ?_
    have M5 := ((((Mv.refl a e o H).same s1').trans m2).trans m3 |>.trans m4).trans m5
    generalize upd H4 a _ = H5 at S5 m5 E5 M5 ⊢
    obtain ⟨dx5, ha5⟩ := S5.at_
    obtain ⟨dy, t, hs, ht⟩ := Z.st.same S5.fz
    have fin : ∀ {o' : Ow} {H' : Hp}, Mv a e o H o' H' → ∀ b u, b ≠ a → b ∉ o.all → H b = some u → H' b = some u := fun m b u h1 h2 h3 => m.kp b u h1 h2 (ne_of_none h3 he) h3
    walk_at "ss"
    rw [show (((x3.done + 1 : Nat) : Int)) % (ev : Int) = (((x3.done + 1) % ev : Nat) : Int) from (Int.natCast_emod _ _).symm]
    refine r_dec (fun hd => ?_) fun hd => ?_
    · have hd : (x3.done + 1) % ev = 0 := by omega
      walk_at "ss"
      refine ⟨F, a, s1, p, e, o, _, _, rfl, S5, E5, by simp only [List.length_append]; omega, r71, r72, r73, fun y e4 o' H6 ck S6 E6 m6 => ?_⟩
      walk_at "ss"
      exact q e y _ o' H6 ⟨x2, e2, x3, e3, pt, ed, by rw [if_pos hd]; exact ⟨e4, ck, rfl⟩⟩ he S6 E6 (fin (M5.trans m6)) (M5.trans m6).nw
    · have hd : ¬ (x3.done + 1) % ev = 0 := by omega
      walk_at "ss"
      exact q e _ _ o H5 ⟨x2, e2, x3, e3, pt, ed, by rw [if_neg hd]; exact ⟨rfl, rfl⟩⟩ he S5 E5 (fin M5) M5.nw
theorem ok_Store___init__ {P : Program} {w : World} {K : PySem.W.Frag} {mg : Str → Option Value} {base : Heap} {f : Addr} {fd : FuncData} (F : FunD K "__init__" "Store.__init__" (defArgs s_Store___init__) (defBody s_Store___init__) (defScope s_Store___init__) [] [] f fd) (a_Store__state : NoAttr K (He.ga K "Store") "_state") (c_State : Cls K (He.ga K "State")) (c_Store : Cls K (He.ga K "Store")) (h_check_settings : Kr.FnH P w K mg base CX0 1 "check_settings" ["settings"] (sp_check_settings K)) (mk_State : Kr.MkH P w K mg base CX0 4 "State" (He.ga K "State") ["self", "settings"] (sp_State___init__ K)) : FnOk P w K mg base CX0 6 f fd ["self", "settings"] (sp_Store___init__ K) := by
  refine F.ok sc_Store___init__ (fun vs H Q E h => by first | (obtain ⟨rfl, _⟩ := h; rfl) | (obtain ⟨_, rfl, _⟩ := h; rfl) | (obtain ⟨_, _, rfl, _⟩ := h; rfl) | (obtain ⟨_, _, _, rfl, _⟩ := h; rfl) | (obtain ⟨_, _, _, _, rfl, _⟩ := h; rfl) | (obtain ⟨_, _, _, _, _, rfl, _⟩ := h; rfl) | (obtain ⟨_, _, _, _, _, _, rfl, _⟩ := h; rfl) | (obtain ⟨_, _, _, _, _, _, _, rfl, _⟩ := h; rfl) | (obtain ⟨_, _, _, _, _, _, _, _, rfl, _⟩ := h; rfl) | (obtain ⟨_, _, _, _, _, _, _, _, _, rfl, _⟩ := h; rfl) | (obtain ⟨_, _, _, _, _, _, _, _, _, _, rfl, _⟩ := h; rfl) | (obtain ⟨_, _, _, _, _, _, _, _, _, _, _, rfl, _⟩ := h; rfl) | (obtain ⟨_, _, _, _, _, _, _, _, _, _, _, _, rfl, _⟩ := h; rfl) | (obtain ⟨_, _, _, _, _, _, _, _, _, _, _, _, _, rfl, _⟩ := h; rfl) | (obtain ⟨_, _, _, _, _, _, _, _, _, _, _, _, _, _, rfl, _⟩ := h; rfl) | (obtain ⟨_, _, _, _, _, _, _, _, _, _, _, _, _, _, _, rfl, _⟩ := h; rfl) | (obtain ⟨_, _, _, _, _, _, _, _, _, _, _, _, _, _, _, _, rfl, _⟩ := h; rfl) | (obtain ⟨_, _, _, _, _, _, _, _, _, _, _, _, _, _, _, _, _, rfl, _⟩ := h; rfl)) (fun cdv A outer s H vs Q E hr h => ?_)
  · have hu := hu_of hr
    obtain ⟨w0, s1, dx, ls, sz, fo, re, ev, ke, rfl, ha, S, ok, q⟩ := h
    obtain ⟨dy, t, hs, ht⟩ := id S
    have cc := c_Store
    have cs := c_State
    have n1 := a_Store__state
    have nsa : s1 ≠ w0 := fun e => by
      rw [e, ha] at hs
      injection hs with hs
      injection hs with _ _ h3
      exact absurd h3 (by simp [setF])
    have nta : t ≠ w0 := fun e => by
      rw [e, ha] at ht
      cases ht
    refine ⟨_, PSs.nox (pss_cons (ps_expr (Kr.pe_cl h_check_settings (hr.mono (by decide)) (pa_cons (pv 1) pa_nil))) (pss_one (ps_fld (pv 0) (Kr.pe_mk mk_State (hr.mono (by decide)) (pa_cons (pv 1) pa_nil)) rfl))), ?_⟩
    rw [st_Store___init__]
    walk_at "ss"
    refine ⟨s1, dy, _, rfl, hs, ?_⟩
    walk_at "ss"
    intro a px hpa hpx npx
    have s12 : Same H (upd (upd H px (.own a)) a (.ins (He.ga K "State") px [])) := fun b u e => by
      rw [upd_ne (ne_of_none e hpa), upd_ne (ne_of_none e hpx)]
      exact e
    refine ⟨a, s1, px, ls, sz, fo, re, ev, ke, rfl, upd_same, S.same s12, ok, fun F p o H2 Z S2 kF oN => ?_⟩
    refine ⟨rfl, ?_⟩
    have nwa : w0 ≠ a := ne_of_none ha hpa
    have Fw : F w0 = some (.ins (He.ga K "Store") dx []) := kF _ _ nwa (s12 _ _ ha)
    have hw2 := S2.fz _ _ Fw
    have oN' : ∀ y ∈ a :: o.all, H y = none := fun y hy => by
      rcases List.mem_cons.mp hy with z | z
      · rw [z]
        exact hpa
      · exact s12.free (oN y z)
    have wn : w0 ∉ a :: o.all := fun z => by
      have := oN' w0 z
      rw [ha] at this
      cases this
    have pw : p ≠ w0 := fun e => by
      obtain ⟨_, _, _, _, _, Fp, _⟩ := Z.pk
      have := Fp.at_
      rw [e, Fw] at this
      injection this with this
      injection this with _ _ h3
      cases h3
    have Fz : frz F w0 w0 = none := if_pos rfl
    have Z' : Se K (frz F w0) s1 p ls sz fo re ev ke := ⟨Z.st.frz nsa (fun zs z => by rw [Fw] at z; cases z), Z.pk.frz pw nsa (fun zs z => by rw [Fw] at z; cases z) (fun zs z => by rw [Fw] at z; cases z), Z.ok⟩
    have S3 := (S2.frz (w := w0)).beside wn Fz (.ins (He.ga K "Store") dx [("_state", .ref a)])
    walk_at "ss"
    refine r_st (gs := [("_state", .ref a)]) hw2 cc n1 (by show (0 : Nat) < 1000; omega) rfl ?_
    walk_at "ss"
    exact q (frz F w0) a p o _ Z' S3 ⟨dx, upd_same⟩ Fz (fun b u h1 h2 => by rw [frz_ne h1]; exact kF b u (ne_of_none h2 hpa) (s12 _ _ h2)) oN'
theorem ok_Store_step {P : Program} {w : World} {K : PySem.W.Frag} {mg : Str → Option Value} {base : Heap} {f : Addr} {fd : FuncData} (F : FunD K "step" "Store.step" (defArgs s_Store_step) (defBody s_Store_step) (defScope s_Store_step) [] [] f fd) (a_Store__state : NoAttr K (He.ga K "Store") "_state") (c_Store : Cls K (He.ga K "Store")) (h_do_row : Kr.FnH P w K mg base CX0 4 "do_row" ["state"] (sp_do_row K)) : FnOk P w K mg base CX0 5 f fd ["self"] (sp_Store_step K) := by
  refine F.ok sc_Store_step (fun vs H Q E h => by first | (obtain ⟨rfl, _⟩ := h; rfl) | (obtain ⟨_, rfl, _⟩ := h; rfl) | (obtain ⟨_, _, rfl, _⟩ := h; rfl) | (obtain ⟨_, _, _, rfl, _⟩ := h; rfl) | (obtain ⟨_, _, _, _, rfl, _⟩ := h; rfl) | (obtain ⟨_, _, _, _, _, rfl, _⟩ := h; rfl) | (obtain ⟨_, _, _, _, _, _, rfl, _⟩ := h; rfl) | (obtain ⟨_, _, _, _, _, _, _, rfl, _⟩ := h; rfl) | (obtain ⟨_, _, _, _, _, _, _, _, rfl, _⟩ := h; rfl) | (obtain ⟨_, _, _, _, _, _, _, _, _, rfl, _⟩ := h; rfl) | (obtain ⟨_, _, _, _, _, _, _, _, _, _, rfl, _⟩ := h; rfl) | (obtain ⟨_, _, _, _, _, _, _, _, _, _, _, rfl, _⟩ := h; rfl) | (obtain ⟨_, _, _, _, _, _, _, _, _, _, _, _, rfl, _⟩ := h; rfl) | (obtain ⟨_, _, _, _, _, _, _, _, _, _, _, _, _, rfl, _⟩ := h; rfl) | (obtain ⟨_, _, _, _, _, _, _, _, _, _, _, _, _, _, rfl, _⟩ := h; rfl) | (obtain ⟨_, _, _, _, _, _, _, _, _, _, _, _, _, _, _, rfl, _⟩ := h; rfl) | (obtain ⟨_, _, _, _, _, _, _, _, _, _, _, _, _, _, _, _, rfl, _⟩ := h; rfl) | (obtain ⟨_, _, _, _, _, _, _, _, _, _, _, _, _, _, _, _, _, rfl, _⟩ := h; rfl)) (fun cdv A outer s H vs Q E hr h => ?_)
  · have hu := hu_of hr
    obtain ⟨F, w0, a, o, x, c, rfl, ⟨dx, hw⟩, Z, S, R, q⟩ := h
    have cc := c_Store
    have n1 := a_Store__state
    refine ⟨_, PSs.nox (pss_one (ps_ret (Kr.pe_cl h_do_row (hr.mono (by decide)) (pa_cons (pe_fld (pv 0) rfl) pa_nil)))), ?_⟩
    rw [st_Store_step]
    walk_at "ss"
    refine ⟨F, a, o, x, c, rfl, Z, S, R, fun e y es o' H' r1 r2 r3 r4 r5 r6 => ?_⟩
    walk_at "ss"
    exact q e y es o' H' r1 r2 r3 r4 r5 r6
theorem ok_Store_heap_pages {P : Program} {w : World} {K : PySem.W.Frag} {mg : Str → Option Value} {base : Heap} {f : Addr} {fd : FuncData} (F : FunD K "heap_pages" "Store.heap_pages" (defArgs s_Store_heap_pages) (defBody s_Store_heap_pages) (defScope s_Store_heap_pages) [] [] f fd) (a_Store__state : NoAttr K (He.ga K "Store") "_state") (c_Store : Cls K (He.ga K "Store")) (h_heap_list : Kr.FnH P w K mg base CX0 1 "heap_list" ["state"] (sp_heap_list K)) : FnOk P w K mg base CX0 2 f fd ["self"] (sp_Store_heap_pages K) := by
  refine F.ok sc_Store_heap_pages (fun vs H Q E h => by first | (obtain ⟨rfl, _⟩ := h; rfl) | (obtain ⟨_, rfl, _⟩ := h; rfl) | (obtain ⟨_, _, rfl, _⟩ := h; rfl) | (obtain ⟨_, _, _, rfl, _⟩ := h; rfl) | (obtain ⟨_, _, _, _, rfl, _⟩ := h; rfl) | (obtain ⟨_, _, _, _, _, rfl, _⟩ := h; rfl) | (obtain ⟨_, _, _, _, _, _, rfl, _⟩ := h; rfl) | (obtain ⟨_, _, _, _, _, _, _, rfl, _⟩ := h; rfl) | (obtain ⟨_, _, _, _, _, _, _, _, rfl, _⟩ := h; rfl) | (obtain ⟨_, _, _, _, _, _, _, _, _, rfl, _⟩ := h; rfl) | (obtain ⟨_, _, _, _, _, _, _, _, _, _, rfl, _⟩ := h; rfl) | (obtain ⟨_, _, _, _, _, _, _, _, _, _, _, rfl, _⟩ := h; rfl) | (obtain ⟨_, _, _, _, _, _, _, _, _, _, _, _, rfl, _⟩ := h; rfl) | (obtain ⟨_, _, _, _, _, _, _, _, _, _, _, _, _, rfl, _⟩ := h; rfl) | (obtain ⟨_, _, _, _, _, _, _, _, _, _, _, _, _, _, rfl, _⟩ := h; rfl) | (obtain ⟨_, _, _, _, _, _, _, _, _, _, _, _, _, _, _, rfl, _⟩ := h; rfl) | (obtain ⟨_, _, _, _, _, _, _, _, _, _, _, _, _, _, _, _, rfl, _⟩ := h; rfl) | (obtain ⟨_, _, _, _, _, _, _, _, _, _, _, _, _, _, _, _, _, rfl, _⟩ := h; rfl)) (fun cdv A outer s H vs Q E hr h => ?_)
  · have hu := hu_of hr
    obtain ⟨F, w0, a, s1, p, o, x, rfl, ⟨dx, hw⟩, S, q⟩ := h
    have cc := c_Store
    have n1 := a_Store__state
    refine ⟨_, PSs.nox (pss_one (ps_ret (Kr.pe_cl h_heap_list (hr.mono (by decide)) (pa_cons (pe_fld (pv 0) rfl) pa_nil)))), ?_⟩
    rw [st_Store_heap_pages]
    walk_at "ss"
    refine ⟨F, a, s1, p, o, x, rfl, S, fun t us H' s2 ht et nl => ?_⟩
    walk_at "ss"
    exact q t us H' s2 ht et nl
theorem ok_Store_node_pages {P : Program} {w : World} {K : PySem.W.Frag} {mg : Str → Option Value} {base : Heap} {f : Addr} {fd : FuncData} (F : FunD K "node_pages" "Store.node_pages" (defArgs s_Store_node_pages) (defBody s_Store_node_pages) (defScope s_Store_node_pages) [] [] f fd) (a_Store__state : NoAttr K (He.ga K "Store") "_state") (c_Store : Cls K (He.ga K "Store")) (h_node_list : Kr.FnH P w K mg base CX0 1 "node_list" ["state"] (sp_node_list K)) : FnOk P w K mg base CX0 2 f fd ["self"] (sp_Store_node_pages K) := by
  refine F.ok sc_Store_node_pages (fun vs H Q E h => by first | (obtain ⟨rfl, _⟩ := h; rfl) | (obtain ⟨_, rfl, _⟩ := h; rfl) | (obtain ⟨_, _, rfl, _⟩ := h; rfl) | (obtain ⟨_, _, _, rfl, _⟩ := h; rfl) | (obtain ⟨_, _, _, _, rfl, _⟩ := h; rfl) | (obtain ⟨_, _, _, _, _, rfl, _⟩ := h; rfl) | (obtain ⟨_, _, _, _, _, _, rfl, _⟩ := h; rfl) | (obtain ⟨_, _, _, _, _, _, _, rfl, _⟩ := h; rfl) | (obtain ⟨_, _, _, _, _, _, _, _, rfl, _⟩ := h; rfl) | (obtain ⟨_, _, _, _, _, _, _, _, _, rfl, _⟩ := h; rfl) | (obtain ⟨_, _, _, _, _, _, _, _, _, _, rfl, _⟩ := h; rfl) | (obtain ⟨_, _, _, _, _, _, _, _, _, _, _, rfl, _⟩ := h; rfl) | (obtain ⟨_, _, _, _, _, _, _, _, _, _, _, _, rfl, _⟩ := h; rfl) | (obtain ⟨_, _, _, _, _, _, _, _, _, _, _, _, _, rfl, _⟩ := h; rfl) | (obtain ⟨_, _, _, _, _, _, _, _, _, _, _, _, _, _, rfl, _⟩ := h; rfl) | (obtain ⟨_, _, _, _, _, _, _, _, _, _, _, _, _, _, _, rfl, _⟩ := h; rfl) | (obtain ⟨_, _, _, _, _, _, _, _, _, _, _, _, _, _, _, _, rfl, _⟩ := h; rfl) | (obtain ⟨_, _, _, _, _, _, _, _, _, _, _, _, _, _, _, _, _, rfl, _⟩ := h; rfl)) (fun cdv A outer s H vs Q E hr h => ?_)
  · have hu := hu_of hr
    obtain ⟨F, w0, a, s1, p, o, x, rfl, ⟨dx, hw⟩, S, nn, bn, q⟩ := h
    have cc := c_Store
    have n1 := a_Store__state
    refine ⟨_, PSs.nox (pss_one (ps_ret (Kr.pe_cl h_node_list (hr.mono (by decide)) (pa_cons (pe_fld (pv 0) rfl) pa_nil)))), ?_⟩
    rw [st_Store_node_pages]
    walk_at "ss"
    refine ⟨F, a, s1, p, o, x, rfl, S, nn, bn, fun t us H' s2 ht et nl => ?_⟩
    walk_at "ss"
    exact q t us H' s2 ht et nl
theorem ok_Store_root {P : Program} {w : World} {K : PySem.W.Frag} {mg : Str → Option Value} {base : Heap} {f : Addr} {fd : FuncData} (F : FunD K "root" "Store.root" (defArgs s_Store_root) (defBody s_Store_root) (defScope s_Store_root) [] [] f fd) (a_Store__state : NoAttr K (He.ga K "Store") "_state") (c_Store : Cls K (He.ga K "Store")) (h_root_of : Kr.FnH P w K mg base CX0 2 "root_of" ["state"] (sp_root_of K)) : FnOk P w K mg base CX0 3 f fd ["self"] (sp_Store_root K) := by
  refine F.ok sc_Store_root (fun vs H Q E h => by first | (obtain ⟨rfl, _⟩ := h; rfl) | (obtain ⟨_, rfl, _⟩ := h; rfl) | (obtain ⟨_, _, rfl, _⟩ := h; rfl) | (obtain ⟨_, _, _, rfl, _⟩ := h; rfl) | (obtain ⟨_, _, _, _, rfl, _⟩ := h; rfl) | (obtain ⟨_, _, _, _, _, rfl, _⟩ := h; rfl) | (obtain ⟨_, _, _, _, _, _, rfl, _⟩ := h; rfl) | (obtain ⟨_, _, _, _, _, _, _, rfl, _⟩ := h; rfl) | (obtain ⟨_, _, _, _, _, _, _, _, rfl, _⟩ := h; rfl) | (obtain ⟨_, _, _, _, _, _, _, _, _, rfl, _⟩ := h; rfl) | (obtain ⟨_, _, _, _, _, _, _, _, _, _, rfl, _⟩ := h; rfl) | (obtain ⟨_, _, _, _, _, _, _, _, _, _, _, rfl, _⟩ := h; rfl) | (obtain ⟨_, _, _, _, _, _, _, _, _, _, _, _, rfl, _⟩ := h; rfl) | (obtain ⟨_, _, _, _, _, _, _, _, _, _, _, _, _, rfl, _⟩ := h; rfl) | (obtain ⟨_, _, _, _, _, _, _, _, _, _, _, _, _, _, rfl, _⟩ := h; rfl) | (obtain ⟨_, _, _, _, _, _, _, _, _, _, _, _, _, _, _, rfl, _⟩ := h; rfl) | (obtain ⟨_, _, _, _, _, _, _, _, _, _, _, _, _, _, _, _, rfl, _⟩ := h; rfl) | (obtain ⟨_, _, _, _, _, _, _, _, _, _, _, _, _, _, _, _, _, rfl, _⟩ := h; rfl)) (fun cdv A outer s H vs Q E hr h => ?_)
  · have hu := hu_of hr
    obtain ⟨F, w0, a, s1, p, o, x, rfl, ⟨dx, hw⟩, S, nn, bn, q1, q2⟩ := h
    have cc := c_Store
    have n1 := a_Store__state
    refine ⟨_, PSs.nox (pss_one (ps_ret (Kr.pe_cl h_root_of (hr.mono (by decide)) (pa_cons (pe_fld (pv 0) rfl) pa_nil)))), ?_⟩
    rw [st_Store_root]
    walk_at "ss"
    refine ⟨F, a, s1, p, o, x, rfl, S, nn, bn, fun e => ?_, fun m hm t H' s2 ht => ?_⟩
    · walk_at "ss"
      exact q1 e
    · walk_at "ss"
      exact q2 m hm t H' s2 ht
theorem ok_Store_log_pages {P : Program} {w : World} {K : PySem.W.Frag} {mg : Str → Option Value} {base : Heap} {f : Addr} {fd : FuncData} (F : FunD K "log_pages" "Store.log_pages" (defArgs s_Store_log_pages) (defBody s_Store_log_pages) (defScope s_Store_log_pages) [] [] f fd) (a_State_log : NoAttr K (He.ga K "State") "log") (a_Store__state : NoAttr K (He.ga K "Store") "_state") (c_State : Cls K (He.ga K "State")) (c_Store : Cls K (He.ga K "Store")) (n_list : mg "list" = none) : FnOk P w K mg base CX0 1 f fd ["self"] (sp_Store_log_pages K) := by
  refine F.ok sc_Store_log_pages (fun vs H Q E h => by first | (obtain ⟨rfl, _⟩ := h; rfl) | (obtain ⟨_, rfl, _⟩ := h; rfl) | (obtain ⟨_, _, rfl, _⟩ := h; rfl) | (obtain ⟨_, _, _, rfl, _⟩ := h; rfl) | (obtain ⟨_, _, _, _, rfl, _⟩ := h; rfl) | (obtain ⟨_, _, _, _, _, rfl, _⟩ := h; rfl) | (obtain ⟨_, _, _, _, _, _, rfl, _⟩ := h; rfl) | (obtain ⟨_, _, _, _, _, _, _, rfl, _⟩ := h; rfl) | (obtain ⟨_, _, _, _, _, _, _, _, rfl, _⟩ := h; rfl) | (obtain ⟨_, _, _, _, _, _, _, _, _, rfl, _⟩ := h; rfl) | (obtain ⟨_, _, _, _, _, _, _, _, _, _, rfl, _⟩ := h; rfl) | (obtain ⟨_, _, _, _, _, _, _, _, _, _, _, rfl, _⟩ := h; rfl) | (obtain ⟨_, _, _, _, _, _, _, _, _, _, _, _, rfl, _⟩ := h; rfl) | (obtain ⟨_, _, _, _, _, _, _, _, _, _, _, _, _, rfl, _⟩ := h; rfl) | (obtain ⟨_, _, _, _, _, _, _, _, _, _, _, _, _, _, rfl, _⟩ := h; rfl) | (obtain ⟨_, _, _, _, _, _, _, _, _, _, _, _, _, _, _, rfl, _⟩ := h; rfl) | (obtain ⟨_, _, _, _, _, _, _, _, _, _, _, _, _, _, _, _, rfl, _⟩ := h; rfl) | (obtain ⟨_, _, _, _, _, _, _, _, _, _, _, _, _, _, _, _, _, rfl, _⟩ := h; rfl)) (fun cdv A outer s H vs Q E hr h => ?_)
  · have hu := hu_of hr
    obtain ⟨F, w0, a, s1, p, o, x, rfl, ⟨dx, hw⟩, S, q⟩ := h
    obtain ⟨dy, ha⟩ := S.at_
    have cc := c_Store
    have cs := c_State
    have n1 := a_Store__state
    have n2 := a_State_log
    have fl := S.lg
    refine ⟨_, PSs.nox (pss_one (ps_ret (pe_callTy (T := "list") Kr.c_list rfl n_list (by decide +kernel) (pa_cons (pe_fld (pe_fld (pv 0) rfl) rfl) pa_nil)))), ?_⟩
    rw [st_Store_log_pages]
    walk_at "ss"
    refine r_newS fun t H2 ht s2 et => ?_
    exact q t H2 s2 ht et
theorem ok_Store_waiting_pages {P : Program} {w : World} {K : PySem.W.Frag} {mg : Str → Option Value} {base : Heap} {f : Addr} {fd : FuncData} (F : FunD K "waiting_pages" "Store.waiting_pages" (defArgs s_Store_waiting_pages) (defBody s_Store_waiting_pages) (defScope s_Store_waiting_pages) [] [] f fd) (a_State_waiting : NoAttr K (He.ga K "State") "waiting") (a_Store__state : NoAttr K (He.ga K "Store") "_state") (c_State : Cls K (He.ga K "State")) (c_Store : Cls K (He.ga K "Store")) (n_list : mg "list" = none) : FnOk P w K mg base CX0 1 f fd ["self"] (sp_Store_waiting_pages K) := by
  refine F.ok sc_Store_waiting_pages (fun vs H Q E h => by first | (obtain ⟨rfl, _⟩ := h; rfl) | (obtain ⟨_, rfl, _⟩ := h; rfl) | (obtain ⟨_, _, rfl, _⟩ := h; rfl) | (obtain ⟨_, _, _, rfl, _⟩ := h; rfl) | (obtain ⟨_, _, _, _, rfl, _⟩ := h; rfl) | (obtain ⟨_, _, _, _, _, rfl, _⟩ := h; rfl) | (obtain ⟨_, _, _, _, _, _, rfl, _⟩ := h; rfl) | (obtain ⟨_, _, _, _, _, _, _, rfl, _⟩ := h; rfl) | (obtain ⟨_, _, _, _, _, _, _, _, rfl, _⟩ := h; rfl) | (obtain ⟨_, _, _, _, _, _, _, _, _, rfl, _⟩ := h; rfl) | (obtain ⟨_, _, _, _, _, _, _, _, _, _, rfl, _⟩ := h; rfl) | (obtain ⟨_, _, _, _, _, _, _, _, _, _, _, rfl, _⟩ := h; rfl) | (obtain ⟨_, _, _, _, _, _, _, _, _, _, _, _, rfl, _⟩ := h; rfl) | (obtain ⟨_, _, _, _, _, _, _, _, _, _, _, _, _, rfl, _⟩ := h; rfl) | (obtain ⟨_, _, _, _, _, _, _, _, _, _, _, _, _, _, rfl, _⟩ := h; rfl) | (obtain ⟨_, _, _, _, _, _, _, _, _, _, _, _, _, _, _, rfl, _⟩ := h; rfl) | (obtain ⟨_, _, _, _, _, _, _, _, _, _, _, _, _, _, _, _, rfl, _⟩ := h; rfl) | (obtain ⟨_, _, _, _, _, _, _, _, _, _, _, _, _, _, _, _, _, rfl, _⟩ := h; rfl)) (fun cdv A outer s H vs Q E hr h => ?_)
  · have hu := hu_of hr
    obtain ⟨F, w0, a, s1, p, o, x, rfl, ⟨dx, hw⟩, S, q⟩ := h
    obtain ⟨dy, ha⟩ := S.at_
    have cc := c_Store
    have cs := c_State
    have n1 := a_Store__state
    have n2 := a_State_waiting
    have fl := S.wt
    refine ⟨_, PSs.nox (pss_one (ps_ret (pe_callTy (T := "list") Kr.c_list rfl n_list (by decide +kernel) (pa_cons (pe_fld (pe_fld (pv 0) rfl) rfl) pa_nil)))), ?_⟩
    rw [st_Store_waiting_pages]
    walk_at "ss"
    refine r_newS fun t H2 ht s2 et => ?_
    exact q t H2 s2 ht et
theorem ok_Store_free_pages {P : Program} {w : World} {K : PySem.W.Frag} {mg : Str → Option Value} {base : Heap} {f : Addr} {fd : FuncData} (F : FunD K "free_pages" "Store.free_pages" (defArgs s_Store_free_pages) (defBody s_Store_free_pages) (defScope s_Store_free_pages) [] [] f fd) (a_Store__state : NoAttr K (He.ga K "Store") "_state") (c_Store : Cls K (He.ga K "Store")) (h_free_list : Kr.FnH P w K mg base CX0 4 "free_list" ["state", "count"] (sp_free_list K)) : FnOk P w K mg base CX0 5 f fd ["self", "count"] (sp_Store_free_pages K) := by
  refine F.ok sc_Store_free_pages (fun vs H Q E h => by first | (obtain ⟨rfl, _⟩ := h; rfl) | (obtain ⟨_, rfl, _⟩ := h; rfl) | (obtain ⟨_, _, rfl, _⟩ := h; rfl) | (obtain ⟨_, _, _, rfl, _⟩ := h; rfl) | (obtain ⟨_, _, _, _, rfl, _⟩ := h; rfl) | (obtain ⟨_, _, _, _, _, rfl, _⟩ := h; rfl) | (obtain ⟨_, _, _, _, _, _, rfl, _⟩ := h; rfl) | (obtain ⟨_, _, _, _, _, _, _, rfl, _⟩ := h; rfl) | (obtain ⟨_, _, _, _, _, _, _, _, rfl, _⟩ := h; rfl) | (obtain ⟨_, _, _, _, _, _, _, _, _, rfl, _⟩ := h; rfl) | (obtain ⟨_, _, _, _, _, _, _, _, _, _, rfl, _⟩ := h; rfl) | (obtain ⟨_, _, _, _, _, _, _, _, _, _, _, rfl, _⟩ := h; rfl) | (obtain ⟨_, _, _, _, _, _, _, _, _, _, _, _, rfl, _⟩ := h; rfl) | (obtain ⟨_, _, _, _, _, _, _, _, _, _, _, _, _, rfl, _⟩ := h; rfl) | (obtain ⟨_, _, _, _, _, _, _, _, _, _, _, _, _, _, rfl, _⟩ := h; rfl) | (obtain ⟨_, _, _, _, _, _, _, _, _, _, _, _, _, _, _, rfl, _⟩ := h; rfl) | (obtain ⟨_, _, _, _, _, _, _, _, _, _, _, _, _, _, _, _, rfl, _⟩ := h; rfl) | (obtain ⟨_, _, _, _, _, _, _, _, _, _, _, _, _, _, _, _, _, rfl, _⟩ := h; rfl)) (fun cdv A outer s H vs Q E hr h => ?_)
  · have hu := hu_of hr
    obtain ⟨F, w0, a, s1, p, o, x, n, rfl, ⟨dx, hw⟩, S, hn, hz, q⟩ := h
    have cc := c_Store
    have n1 := a_Store__state
    refine ⟨_, PSs.nox (pss_one (ps_ret (Kr.pe_cl h_free_list (hr.mono (by decide)) (pa_cons (pe_fld (pv 0) rfl) (pa_cons (pv 1) pa_nil))))), ?_⟩
    rw [st_Store_free_pages]
    walk_at "ss"
    exact ⟨F, a, s1, p, o, x, n, rfl, S, hn, hz, fun t H' s2 ht et => q t H' s2 ht et⟩
theorem ok_Store_file_size {P : Program} {w : World} {K : PySem.W.Frag} {mg : Str → Option Value} {base : Heap} {f : Addr} {fd : FuncData} (F : FunD K "file_size" "Store.file_size" (defArgs s_Store_file_size) (defBody s_Store_file_size) (defScope s_Store_file_size) [] [] f fd) (a_State_size : NoAttr K (He.ga K "State") "size") (a_Store__state : NoAttr K (He.ga K "Store") "_state") (c_State : Cls K (He.ga K "State")) (c_Store : Cls K (He.ga K "Store")) : FnOk P w K mg base CX0 1 f fd ["self"] (sp_Store_file_size K) := by
  refine F.ok sc_Store_file_size (fun vs H Q E h => by first | (obtain ⟨rfl, _⟩ := h; rfl) | (obtain ⟨_, rfl, _⟩ := h; rfl) | (obtain ⟨_, _, rfl, _⟩ := h; rfl) | (obtain ⟨_, _, _, rfl, _⟩ := h; rfl) | (obtain ⟨_, _, _, _, rfl, _⟩ := h; rfl) | (obtain ⟨_, _, _, _, _, rfl, _⟩ := h; rfl) | (obtain ⟨_, _, _, _, _, _, rfl, _⟩ := h; rfl) | (obtain ⟨_, _, _, _, _, _, _, rfl, _⟩ := h; rfl) | (obtain ⟨_, _, _, _, _, _, _, _, rfl, _⟩ := h; rfl) | (obtain ⟨_, _, _, _, _, _, _, _, _, rfl, _⟩ := h; rfl) | (obtain ⟨_, _, _, _, _, _, _, _, _, _, rfl, _⟩ := h; rfl) | (obtain ⟨_, _, _, _, _, _, _, _, _, _, _, rfl, _⟩ := h; rfl) | (obtain ⟨_, _, _, _, _, _, _, _, _, _, _, _, rfl, _⟩ := h; rfl) | (obtain ⟨_, _, _, _, _, _, _, _, _, _, _, _, _, rfl, _⟩ := h; rfl) | (obtain ⟨_, _, _, _, _, _, _, _, _, _, _, _, _, _, rfl, _⟩ := h; rfl) | (obtain ⟨_, _, _, _, _, _, _, _, _, _, _, _, _, _, _, rfl, _⟩ := h; rfl) | (obtain ⟨_, _, _, _, _, _, _, _, _, _, _, _, _, _, _, _, rfl, _⟩ := h; rfl) | (obtain ⟨_, _, _, _, _, _, _, _, _, _, _, _, _, _, _, _, _, rfl, _⟩ := h; rfl)) (fun cdv A outer s H vs Q E hr h => ?_)
  · have hu := hu_of hr
    obtain ⟨F, w0, a, s1, p, o, x, rfl, ⟨dx, hw⟩, S, q⟩ := h
    obtain ⟨dy, ha⟩ := S.at_
    have cc := c_Store
    have n1 := a_Store__state
    have cs := c_State
    have n2 := a_State_size
    refine ⟨_, PSs.nox (pss_one (ps_ret (pe_fld (pe_fld (pv 0) rfl) rfl))), ?_⟩
    rw [st_Store_file_size]
    walk_at "ss"
    exact q
theorem ok__law_digits {P : Program} {w : World} {K : PySem.W.Frag} {mg : Str → Option Value} {base : Heap} {f : Addr} {fd : FuncData} (F : FunD K "_law_digits" "_law_digits" (defArgs s__law_digits) (defBody s__law_digits) (defScope s__law_digits) [] [] f fd) (n_int : mg "int" = none) (n_range : mg "range" = none) : FnOk P w K mg base CX0 1 f fd ["cell", "many"] (sp__law_digits K) := by
  refine F.ok sc__law_digits (fun vs H Q E h => by first | (obtain ⟨rfl, _⟩ := h; rfl) | (obtain ⟨_, rfl, _⟩ := h; rfl) | (obtain ⟨_, _, rfl, _⟩ := h; rfl) | (obtain ⟨_, _, _, rfl, _⟩ := h; rfl) | (obtain ⟨_, _, _, _, rfl, _⟩ := h; rfl) | (obtain ⟨_, _, _, _, _, rfl, _⟩ := h; rfl) | (obtain ⟨_, _, _, _, _, _, rfl, _⟩ := h; rfl) | (obtain ⟨_, _, _, _, _, _, _, rfl, _⟩ := h; rfl) | (obtain ⟨_, _, _, _, _, _, _, _, rfl, _⟩ := h; rfl) | (obtain ⟨_, _, _, _, _, _, _, _, _, rfl, _⟩ := h; rfl) | (obtain ⟨_, _, _, _, _, _, _, _, _, _, rfl, _⟩ := h; rfl) | (obtain ⟨_, _, _, _, _, _, _, _, _, _, _, rfl, _⟩ := h; rfl) | (obtain ⟨_, _, _, _, _, _, _, _, _, _, _, _, rfl, _⟩ := h; rfl) | (obtain ⟨_, _, _, _, _, _, _, _, _, _, _, _, _, rfl, _⟩ := h; rfl) | (obtain ⟨_, _, _, _, _, _, _, _, _, _, _, _, _, _, rfl, _⟩ := h; rfl) | (obtain ⟨_, _, _, _, _, _, _, _, _, _, _, _, _, _, _, rfl, _⟩ := h; rfl) | (obtain ⟨_, _, _, _, _, _, _, _, _, _, _, _, _, _, _, _, rfl, _⟩ := h; rfl) | (obtain ⟨_, _, _, _, _, _, _, _, _, _, _, _, _, _, _, _, _, rfl, _⟩ := h; rfl)) (fun cdv A outer s H vs Q E hr h => ?_)
  · have hu := hu_of hr
    obtain ⟨c, rfl, q⟩ := h
    refine ⟨_, PSs.nox (pss_cons (ps_set (i := 2) sc__law_digits.nd rfl (.inl rfl) (pe_lst pa_nil)) (pss_cons (ps_set (i := 3) sc__law_digits.nd rfl (.inl rfl) pe_int) (pss_cons (ps_if (pt_cmpR op_ge (pv 0) (pe_op op_pow pe_int pe_int) (nomark _)) (pss_one (ps_set (i := 3) sc__law_digits.nd rfl (.inl rfl) (pv 0))) pss_nil) (pss_cons (ps_set (i := 4) sc__law_digits.nd rfl (.inl rfl) (pe_op op_mod (pe_callTy (T := "int") Kr.c_int1 rfl n_int (by decide +kernel) (pa_cons (pv 0) pa_nil)) pe_int)) (pss_cons (ps_for PassesOwn.never rfl (pi_range1 rfl n_range (pa_cons (pv 1) pa_nil)) (pg_name (i := 5) sc__law_digits.nd rfl (.inl rfl)) (pss_cons (ps_set (i := 4) sc__law_digits.nd rfl (.inl rfl) (pe_op op_mod (pe_callTy (T := "int") Kr.c_int1 rfl n_int (by decide +kernel) (pa_cons (pe_op op_add (pe_op op_add (pe_op op_mul (pv 4) pe_int) (pe_op op_mul pe_int (pv 5))) pe_int) pa_nil)) pe_int)) (pss_cons (ps_set (i := 4) sc__law_digits.nd rfl (.inl rfl) (pe_op op_mod (pe_callTy (T := "int") Kr.c_int1 rfl n_int (by decide +kernel) (pa_cons (pe_op op_mul (pv 4) (pe_op op_add (pe_op op_fdivW (pv 4) pe_int) pe_int)) pa_nil)) pe_int)) (pss_one (ps_if (pt_cmpR op_gt (pv 3) pe_int (nomark _)) (pss_cons (ps_expr (pe_bm PySem.F.plainAttrs_list PySem.F.slot_list_append PySem.F.type_list_append mt_append (pv 2) (pa_cons (pe_op op_mod (pe_callTy (T := "int") Kr.c_int1 rfl n_int (by decide +kernel) (pa_cons (pv 3) pa_nil)) pe_int) pa_nil))) (pss_one (ps_set (i := 3) sc__law_digits.nd rfl (.inl rfl) (pe_op op_fdivW (pv 3) pe_int)))) (pss_one (ps_expr (pe_bm PySem.F.plainAttrs_list PySem.F.slot_list_append PySem.F.type_list_append mt_append (pv 2) (pa_cons (pe_op op_mod (pe_callTy (T := "int") Kr.c_int1 rfl n_int (by decide +kernel) (pa_cons (pe_op op_fdivW (pv 4) pe_int) pa_nil)) pe_int) pa_nil))))))))) (pss_one (ps_ret (pv 2)))))))), ?_⟩
    rw [st__law_digits]
    walk_at "ss"
    refine r_newS fun p H1 hp s1 ep => ?_
    walk_at "ss"
    refine r_dec (fun _ => ?_) fun _ => ?_
    all_goals
      walk_at "ss"
      refine r_forR (fun i σ H' => ∃ (rest number : Int) (x5 : Option V) (ds : List Int), σ = [some (.int c), some (.int 40), some (.ref p), some (.int rest), some (.int number), x5] ∧ 0 ≤ number ∧ number < 2147483647 ∧ ds.length = i ∧ (∀ d ∈ ds, 0 ≤ d ∧ d < 1009) ∧
          H' p = some (.lst (ds.map V.int)) ∧ ∀ b o, H b = some o → H' b = some o) ⟨_, _, _, [], rfl, by omega, by omega, rfl, by simp, ep, s1⟩ ?_ ?_
      · rintro i σ H2 hi ⟨rest, number, x5, ds, rfl, h0, h1, hl, hb, e2, s2⟩
        have hi40 : i < 40 := hi
        walk_at "ss"
        refine r_dec (fun _ => ?_) fun _ => ?_
        · walk_at "ss"
          refine r_append e2 (by rw [List.length_map]; omega) ?_
          walk_at "ss"
          refine ⟨_, _, _, ds ++ [rest % 1009], rfl, by omega, by omega, by simp [hl], fun d hd => ?_, ?_, fun b o e => ?_⟩
          · rcases List.mem_append.mp hd with hd | hd
            · exact hb d hd
            · rw [List.mem_singleton] at hd
              omega
          · rw [upd_same, List.map_append]
            rfl
          · rw [upd_ne (ne_of_none e hp)]
            exact s2 b o e
        · walk_at "ss"
          generalize hE : (_ : Int) % 1009 = dd
          have hdd : 0 ≤ dd ∧ dd < 1009 := by
            rw [← hE]
            exact emod_lt (by decide)
          refine r_append e2 (by rw [List.length_map]; omega) ?_
          walk_at "ss"
          refine ⟨_, _, _, ds ++ [dd], rfl, by omega, by omega, by simp [hl], fun d hd => ?_, ?_, fun b o e => ?_⟩
          · rcases List.mem_append.mp hd with hd | hd
            · exact hb d hd
            · rw [List.mem_singleton] at hd
              rw [hd]
              exact hdd
          · rw [upd_same, List.map_append]
            rfl
          · rw [upd_ne (ne_of_none e hp)]
            exact s2 b o e
      · rintro σ H2 ⟨rest, number, x5, ds, rfl, h0, h1, hl, hb, e2, s2⟩
        walk_at "ss"
        exact q p H2 ds s2 hp ⟨e2, hl, hb⟩
theorem ok__law_parts {P : Program} {w : World} {K : PySem.W.Frag} {mg : Str → Option Value} {base : Heap} {f : Addr} {fd : FuncData} (F : FunD K "_law_parts" "_law_parts" (defArgs s__law_parts) (defBody s__law_parts) (defScope s__law_parts) [] [] f fd) (n_int : mg "int" = none) (n_range : mg "range" = none) : FnOk P w K mg base CX0 1 f fd ["digits"] (sp__law_parts K) := by
  refine F.ok sc__law_parts (fun vs H Q E h => by first | (obtain ⟨rfl, _⟩ := h; rfl) | (obtain ⟨_, rfl, _⟩ := h; rfl) | (obtain ⟨_, _, rfl, _⟩ := h; rfl) | (obtain ⟨_, _, _, rfl, _⟩ := h; rfl) | (obtain ⟨_, _, _, _, rfl, _⟩ := h; rfl) | (obtain ⟨_, _, _, _, _, rfl, _⟩ := h; rfl) | (obtain ⟨_, _, _, _, _, _, rfl, _⟩ := h; rfl) | (obtain ⟨_, _, _, _, _, _, _, rfl, _⟩ := h; rfl) | (obtain ⟨_, _, _, _, _, _, _, _, rfl, _⟩ := h; rfl) | (obtain ⟨_, _, _, _, _, _, _, _, _, rfl, _⟩ := h; rfl) | (obtain ⟨_, _, _, _, _, _, _, _, _, _, rfl, _⟩ := h; rfl) | (obtain ⟨_, _, _, _, _, _, _, _, _, _, _, rfl, _⟩ := h; rfl) | (obtain ⟨_, _, _, _, _, _, _, _, _, _, _, _, rfl, _⟩ := h; rfl) | (obtain ⟨_, _, _, _, _, _, _, _, _, _, _, _, _, rfl, _⟩ := h; rfl) | (obtain ⟨_, _, _, _, _, _, _, _, _, _, _, _, _, _, rfl, _⟩ := h; rfl) | (obtain ⟨_, _, _, _, _, _, _, _, _, _, _, _, _, _, _, rfl, _⟩ := h; rfl) | (obtain ⟨_, _, _, _, _, _, _, _, _, _, _, _, _, _, _, _, rfl, _⟩ := h; rfl) | (obtain ⟨_, _, _, _, _, _, _, _, _, _, _, _, _, _, _, _, _, rfl, _⟩ := h; rfl)) (fun cdv A outer s H vs Q E hr h => ?_)
  · have hu := hu_of hr
    obtain ⟨d, ds, rfl, G, q⟩ := h
    have gl := G.l
    refine ⟨_, PSs.nox (pss_cons (ps_set (i := 1) sc__law_parts.nd rfl (.inr rfl) (pe_op op_add pe_int (pe_op op_mod (pe_callTy (T := "int") Kr.c_int1 rfl n_int (by decide +kernel) (pa_cons (pe_ix ix_list (pv 0) pe_int (fun _ _ => rfl)) pa_nil)) pe_int))) (pss_cons (ps_setLc (i := 2) (own := [("k", 4)]) rfl sc__law_parts.nd rfl rfl (sw_true rfl rfl rfl (by decide +kernel)) (pi_range1 rfl n_range (pa_cons (pe_op op_add pe_int (pe_op op_mod (pe_callTy (T := "int") Kr.c_int1 rfl n_int (by decide +kernel) (pa_cons (pe_ix ix_list (pv 0) pe_int (fun _ _ => rfl)) pa_nil)) pe_int)) pa_nil)) (blkOk_by (own := [("k", 4)]) (N := N__law_parts) (sc := defScope s__law_parts) (by decide +kernel)) (fun _ _ _ _ _ => (pg_name (i := 4) sc__law_parts.nd rfl (.inl rfl))) (fun _ _ _ _ _ => pts_nil) (fun _ _ _ _ _ => (pe_op op_add pe_int (pe_op op_mod (pe_callTy (T := "int") Kr.c_int1 rfl n_int (by decide +kernel) (pa_cons (pe_ix (Kr.ix_listK (K := K) rfl) (pv 0) (pe_op op_add pe_int (pv 4)) (fun _ _ => rfl)) pa_nil)) (pv 1))))) (pss_cons (ps_set (i := 3) sc__law_parts.nd rfl (.inl rfl) (pe_disp (pps_cons pe_str (pv 2) (pps_cons pe_str (pv 1) pps_nil)) (by rfl) (by rfl) (fun z => by cases z) (by decide))) (pss_cons (ps_dput hu (pv 3) pe_str (pe_op op_add pe_int (pe_op op_mod (pe_callTy (T := "int") Kr.c_int1 rfl n_int (by decide +kernel) (pa_cons (pe_ix ix_list (pv 0) pe_int (fun _ _ => rfl)) pa_nil)) (pe_ix ix_list (pe_lst (pa_cons pe_int (pa_cons pe_int pa_nil))) (pe_op op_mod (pe_callTy (T := "int") Kr.c_int1 rfl n_int (by decide +kernel) (pa_cons (pe_ix ix_list (pv 0) pe_int (fun _ _ => rfl)) pa_nil)) pe_int) (fun _ _ => rfl)))) rfl) (pss_cons (ps_dput hu (pv 3) pe_str (pe_op op_add pe_int (pe_op op_mod (pe_callTy (T := "int") Kr.c_int1 rfl n_int (by decide +kernel) (pa_cons (pe_ix ix_list (pv 0) pe_int (fun _ _ => rfl)) pa_nil)) (pe_ix ix_list (pe_lst (pa_cons pe_int (pa_cons pe_int pa_nil))) (pe_op op_mod (pe_callTy (T := "int") Kr.c_int1 rfl n_int (by decide +kernel) (pa_cons (pe_ix ix_list (pv 0) pe_int (fun _ _ => rfl)) pa_nil)) pe_int) (fun _ _ => rfl)))) rfl) (pss_cons (ps_dput hu (pv 3) pe_str (pe_op op_add pe_int (pe_op op_mod (pe_callTy (T := "int") Kr.c_int1 rfl n_int (by decide +kernel) (pa_cons (pe_ix ix_list (pv 0) pe_int (fun _ _ => rfl)) pa_nil)) (pe_ix ix_list (pe_lst (pa_cons pe_int (pa_cons pe_int pa_nil))) (pe_op op_mod (pe_callTy (T := "int") Kr.c_int1 rfl n_int (by decide +kernel) (pa_cons (pe_ix ix_list (pv 0) pe_int (fun _ _ => rfl)) pa_nil)) pe_int) (fun _ _ => rfl)))) rfl) (pss_cons (ps_dput hu (pv 3) pe_str (pe_op op_add pe_int (pe_op op_mod (pe_callTy (T := "int") Kr.c_int1 rfl n_int (by decide +kernel) (pa_cons (pe_ix ix_list (pv 0) pe_int (fun _ _ => rfl)) pa_nil)) (pe_ix ix_list (pe_lst (pa_cons pe_int (pa_cons pe_int pa_nil))) (pe_op op_mod (pe_callTy (T := "int") Kr.c_int1 rfl n_int (by decide +kernel) (pa_cons (pe_ix ix_list (pv 0) pe_int (fun _ _ => rfl)) pa_nil)) pe_int) (fun _ _ => rfl)))) rfl) (pss_one (ps_ret (pv 3)))))))))), ?_⟩
    rw [st__law_parts]
    walk_at "ss"
    refine r_ixL (SqL.of gl) (G.at_ (by decide) (by decide)) ?_
    walk_at "ss"
    obtain ⟨sz, hsz⟩ : ∃ sz, sz = 1 + ds.getD (Int.toNat 0) 0 % 6 := ⟨_, rfl⟩
    have sz1 : 1 ≤ sz ∧ sz ≤ 6 := by
      have := @emod_lt (ds.getD (Int.toNat 0) 0) 6 (by decide)
      omega
    rw [← hsz]
    refine r_ixL (SqL.of gl) (G.at_ (by decide) (by decide)) ?_
    walk_at "ss"
    intro D hD
    have em := @emod_lt (ds.getD (Int.toNat 4) 0) 3 (by decide)
    refine lc_rangeS [some (.ref d), some (.int sz), none, none, none] rfl (fun i H5 => ∃ ls : List Int, ls.length = i ∧ (∀ l ∈ ls, 1 ≤ l ∧ l ≤ sz) ∧ H5 D = some (.lst (ls.map V.int)) ∧ Same H H5) ⟨[], rfl, by simp, upd_same, same_new hD⟩ ?_ ?_
    · rintro i H5 hi ⟨ls, hl, hall, h5, s5⟩
      have g5 := s5 _ _ gl
      walk_at "ss"
      refine ⟨rfl, ?_⟩
      walk_at "ss"
      refine r_ixL (SqL.of g5) (G.at_ (by omega) (by omega)) ?_
      walk_at "ss"
      refine ⟨_, h5, by rw [List.length_map]; exact szl (by omega), ls ++ [1 + ds.getD (1 + (0 + (i : Int))).toNat 0 % sz], by simp [hl], fun l hm => ?_, ?_, fun b o e => ?_⟩
      rotate_left
      · rw [upd_same, List.map_append]
        rfl
      · rw [upd_ne (ne_of_none e hD)]
        exact s5 b o e
      · rcases List.mem_append.mp hm with hm | hm
        · exact hall l hm
        · rw [List.mem_singleton] at hm
          have := @emod_lt (ds.getD (1 + (0 + (i : Int))).toNat 0) sz (by omega)
          omega
    rintro H5 ⟨ls, hl, hall, h5, s5⟩
    have g5 := s5 _ _ gl
    walk_at "ss"
    refine r_disp fun p hp => ?_
    have hpd : H5 p = none := hp
    refine r_pairs ?_
    walk_at "ss"
    refine r_pairs ?_
    walk_at "ss"
    refine r_pairs0 ?_
    refine r_dispE [(.inr "lengths", .ref D), (.inr "size", .int sz)] upd_same rfl (by show 2 ≤ 15; decide) ?_
    rw [upd_upd]
    have s6 : Same H (upd H5 p (.dK (mergeK [] [(.inr "lengths", .ref D), (.inr "size", .int sz)]))) := s5.trans (same_new hp)
    have g6 := s6 _ _ gl
    have e6 : upd H5 p (.dK (mergeK [] [(.inr "lengths", .ref D), (.inr "size", .int sz)])) p = some (.dK [(.inr "lengths", .ref D), (.inr "size", .int sz)]) := upd_same
    have d6 : upd H5 p (.dK (mergeK [] [(.inr "lengths", .ref D), (.inr "size", .int sz)])) D = some (.lst (ls.map V.int)) := upd_free h5 hp
    have hp0 : H p = none := s5.free hp
    generalize upd H5 p (.dK (mergeK [] [(.inr "lengths", .ref D), (.inr "size", .int sz)])) = H6 at s6 g6 e6 d6 ⊢
    have nDp : D ≠ p := ne_of d6 e6 (by intro z; cases z)
    have ndp : d ≠ p := ne_of g6 e6 (by intro z; cases z)
    -- one further part
    walk_at "ss"
    refine r_ixL (SqL.of g6) (G.at_ (by decide) (by decide)) ?_
    walk_at "ss"
    refine r_newS fun t1 K1 ht1 u1 k1 => ?_
    walk_at "ss"
    refine r_ixL (SqL.of (u1 _ _ g6)) (G.at_ (by decide) (by decide)) ?_
    walk_at "ss"
    obtain ⟨v1, hv1, a1⟩ := two_at (a := 3) (b := 7) (z := ds.getD (Int.toNat 30) 0 % 2) (emod_lt (by decide)).1 (emod_lt (by decide)).2
    refine r_ixL (SqL.of k1) a1 ?_
    have p1 : 0 < v1 := by omega
    have b1 := @emod_lt (ds.getD (Int.toNat 5) 0) v1 p1
    walk_at "ss"
    refine r_dpS (u1 _ _ e6) (by show 2 < 100000; decide) ?_
    generalize hfo : 2 + ds.getD (Int.toNat 5) 0 % v1 = fo at *
    have s7 : Same H (upd K1 p (.dK (putK [(.inr "lengths", .ref D), (.inr "size", .int sz)] (Sum.inr "fanout") (.int fo)))) := fun b o e => by rw [upd_ne (ne_of_none e hp0)]; exact u1 _ _ (s6 b o e)
    have g7 := s7 _ _ gl
    have e7 : (upd K1 p (.dK (putK [(.inr "lengths", .ref D), (.inr "size", .int sz)] (Sum.inr "fanout") (.int fo)))) p = some (.dK [(.inr "lengths", .ref D), (.inr "size", .int sz), (.inr "fanout", .int fo)]) := upd_same
    have d7 : (upd K1 p (.dK (putK [(.inr "lengths", .ref D), (.inr "size", .int sz)] (Sum.inr "fanout") (.int fo)))) D = some (.lst (ls.map V.int)) := by rw [upd_ne nDp]; exact u1 _ _ d6
    generalize (upd K1 p (.dK (putK [(.inr "lengths", .ref D), (.inr "size", .int sz)] (Sum.inr "fanout") (.int fo)))) = H7 at s7 g7 e7 d7 ⊢
    walk_at "ss"
    refine r_ixL (SqL.of g7) (G.at_ (by decide) (by decide)) ?_
    walk_at "ss"
    refine r_newS fun t2 K2 ht2 u2 k2 => ?_
    walk_at "ss"
    refine r_ixL (SqL.of (u2 _ _ g7)) (G.at_ (by decide) (by decide)) ?_
    walk_at "ss"
    obtain ⟨v2, hv2, a2⟩ := two_at (a := 4) (b := 16) (z := ds.getD (Int.toNat 31) 0 % 2) (emod_lt (by decide)).1 (emod_lt (by decide)).2
    refine r_ixL (SqL.of k2) a2 ?_
    have p2 : 0 < v2 := by omega
    have b2 := @emod_lt (ds.getD (Int.toNat 6) 0) v2 p2
    walk_at "ss"
    refine r_dpS (u2 _ _ e7) (by show 3 < 100000; decide) ?_
    generalize hre : 1 + ds.getD (Int.toNat 6) 0 % v2 = re at *
    have s8 : Same H (upd K2 p (.dK (putK [(.inr "lengths", .ref D), (.inr "size", .int sz), (.inr "fanout", .int fo)] (Sum.inr "records") (.int re)))) := fun b o e => by rw [upd_ne (ne_of_none e hp0)]; exact u2 _ _ (s7 b o e)
    have g8 := s8 _ _ gl
    have e8 : (upd K2 p (.dK (putK [(.inr "lengths", .ref D), (.inr "size", .int sz), (.inr "fanout", .int fo)] (Sum.inr "records") (.int re)))) p = some (.dK [(.inr "lengths", .ref D), (.inr "size", .int sz), (.inr "fanout", .int fo), (.inr "records", .int re)]) := upd_same
    have d8 : (upd K2 p (.dK (putK [(.inr "lengths", .ref D), (.inr "size", .int sz), (.inr "fanout", .int fo)] (Sum.inr "records") (.int re)))) D = some (.lst (ls.map V.int)) := by rw [upd_ne nDp]; exact u2 _ _ d7
    generalize (upd K2 p (.dK (putK [(.inr "lengths", .ref D), (.inr "size", .int sz), (.inr "fanout", .int fo)] (Sum.inr "records") (.int re)))) = H8 at s8 g8 e8 d8 ⊢
    walk_at "ss"
    refine r_ixL (SqL.of g8) (G.at_ (by decide) (by decide)) ?_
    walk_at "ss"
    refine r_newS fun t3 K3 ht3 u3 k3 => ?_
    walk_at "ss"
    refine r_ixL (SqL.of (u3 _ _ g8)) (G.at_ (by decide) (by decide)) ?_
    walk_at "ss"
    obtain ⟨v3, hv3, a3⟩ := two_at (a := 10) (b := 40) (z := ds.getD (Int.toNat 32) 0 % 2) (emod_lt (by decide)).1 (emod_lt (by decide)).2
    refine r_ixL (SqL.of k3) a3 ?_
    have p3 : 0 < v3 := by omega
    have b3 := @emod_lt (ds.getD (Int.toNat 7) 0) v3 p3
    walk_at "ss"
    refine r_dpS (u3 _ _ e8) (by show 4 < 100000; decide) ?_
    generalize hev : 1 + ds.getD (Int.toNat 7) 0 % v3 = ev at *
    have s9 : Same H (upd K3 p (.dK (putK [(.inr "lengths", .ref D), (.inr "size", .int sz), (.inr "fanout", .int fo), (.inr "records", .int re)] (Sum.inr "every") (.int ev)))) := fun b o e => by rw [upd_ne (ne_of_none e hp0)]; exact u3 _ _ (s8 b o e)
    have g9 := s9 _ _ gl
    have e9 : (upd K3 p (.dK (putK [(.inr "lengths", .ref D), (.inr "size", .int sz), (.inr "fanout", .int fo), (.inr "records", .int re)] (Sum.inr "every") (.int ev)))) p = some (.dK [(.inr "lengths", .ref D), (.inr "size", .int sz), (.inr "fanout", .int fo), (.inr "records", .int re), (.inr "every", .int ev)]) := upd_same
    have d9 : (upd K3 p (.dK (putK [(.inr "lengths", .ref D), (.inr "size", .int sz), (.inr "fanout", .int fo), (.inr "records", .int re)] (Sum.inr "every") (.int ev)))) D = some (.lst (ls.map V.int)) := by rw [upd_ne nDp]; exact u3 _ _ d8
    generalize (upd K3 p (.dK (putK [(.inr "lengths", .ref D), (.inr "size", .int sz), (.inr "fanout", .int fo), (.inr "records", .int re)] (Sum.inr "every") (.int ev)))) = H9 at s9 g9 e9 d9 ⊢
    walk_at "ss"
    refine r_ixL (SqL.of g9) (G.at_ (by decide) (by decide)) ?_
    walk_at "ss"
    refine r_newS fun t4 K4 ht4 u4 k4 => ?_
    walk_at "ss"
    refine r_ixL (SqL.of (u4 _ _ g9)) (G.at_ (by decide) (by decide)) ?_
    walk_at "ss"
    obtain ⟨v4, hv4, a4⟩ := two_at (a := 12) (b := 100) (z := ds.getD (Int.toNat 33) 0 % 2) (emod_lt (by decide)).1 (emod_lt (by decide)).2
    refine r_ixL (SqL.of k4) a4 ?_
    have p4 : 0 < v4 := by omega
    have b4 := @emod_lt (ds.getD (Int.toNat 8) 0) v4 p4
    walk_at "ss"
    refine r_dpS (u4 _ _ e9) (by show 5 < 100000; decide) ?_
    generalize hke : 1 + ds.getD (Int.toNat 8) 0 % v4 = ke at *
    walk_at "ss"
    refine q p D ls sz fo re ev ke _ (fun b o e => by rw [upd_ne (ne_of_none e hp0)]; exact u4 _ _ (s9 b o e)) hp0 hD ⟨upd_same, by rw [upd_ne nDp]; exact u4 _ _ d9⟩ ⟨⟨by omega, by omega, hall, by omega⟩, by omega, by omega, by omega, by omega⟩ (by omega) (by omega)
theorem ok__law_settings {P : Program} {w : World} {K : PySem.W.Frag} {mg : Str → Option Value} {base : Heap} {f : Addr} {fd : FuncData} (F : FunD K "_law_settings" "_law_settings" (defArgs s__law_settings) (defBody s__law_settings) (defScope s__law_settings) [] [] f fd) (mk_Settings : Kr.MkK P w K mg base CX0 4 "Settings" (He.ga K "Settings") ["self", "lengths", "size", "fanout", "records", "every", "keep"] 3 ["fanout", "records", "every", "keep"] (sp_Settings___init__ K)) : FnOk P w K mg base CX0 6 f fd ["parts"] (sp__law_settings K) := by
  refine F.ok sc__law_settings (fun vs H Q E h => by first | (obtain ⟨rfl, _⟩ := h; rfl) | (obtain ⟨_, rfl, _⟩ := h; rfl) | (obtain ⟨_, _, rfl, _⟩ := h; rfl) | (obtain ⟨_, _, _, rfl, _⟩ := h; rfl) | (obtain ⟨_, _, _, _, rfl, _⟩ := h; rfl) | (obtain ⟨_, _, _, _, _, rfl, _⟩ := h; rfl) | (obtain ⟨_, _, _, _, _, _, rfl, _⟩ := h; rfl) | (obtain ⟨_, _, _, _, _, _, _, rfl, _⟩ := h; rfl) | (obtain ⟨_, _, _, _, _, _, _, _, rfl, _⟩ := h; rfl) | (obtain ⟨_, _, _, _, _, _, _, _, _, rfl, _⟩ := h; rfl) | (obtain ⟨_, _, _, _, _, _, _, _, _, _, rfl, _⟩ := h; rfl) | (obtain ⟨_, _, _, _, _, _, _, _, _, _, _, rfl, _⟩ := h; rfl) | (obtain ⟨_, _, _, _, _, _, _, _, _, _, _, _, rfl, _⟩ := h; rfl) | (obtain ⟨_, _, _, _, _, _, _, _, _, _, _, _, _, rfl, _⟩ := h; rfl) | (obtain ⟨_, _, _, _, _, _, _, _, _, _, _, _, _, _, rfl, _⟩ := h; rfl) | (obtain ⟨_, _, _, _, _, _, _, _, _, _, _, _, _, _, _, rfl, _⟩ := h; rfl) | (obtain ⟨_, _, _, _, _, _, _, _, _, _, _, _, _, _, _, _, rfl, _⟩ := h; rfl) | (obtain ⟨_, _, _, _, _, _, _, _, _, _, _, _, _, _, _, _, _, rfl, _⟩ := h; rfl)) (fun cdv A outer s H vs Q E hr h => ?_)
  · have hu := hu_of hr
    obtain ⟨p, q, ls, sz, fo, re, ev, ke, rfl, P, ok, k⟩ := h
    have pd := P.d
    refine ⟨_, PSs.nox (pss_cons (ps_asg (pe_lc (own := [("word", 5)]) rfl sc__law_settings.nd (pi_list (pe_lst (pa_cons pe_str (pa_cons pe_str (pa_cons pe_str (pa_cons pe_str pa_nil)))))) (blkOk_by (own := [("word", 5)]) (N := N__law_settings) (sc := defScope s__law_settings) (by decide +kernel)) (fun _ _ _ _ _ => (pg_name (i := 5) sc__law_settings.nd rfl (.inl rfl))) (fun _ _ _ _ _ => pts_nil) (fun _ _ _ _ _ => (pe_dget hu (pv 0) (pv 5) (fun _ _ => rfl)))) (pg_lst rfl (pgs_cons (pg_name (i := 1) sc__law_settings.nd rfl (.inl rfl)) (pgs_cons (pg_name (i := 2) sc__law_settings.nd rfl (.inl rfl)) (pgs_cons (pg_name (i := 3) sc__law_settings.nd rfl (.inl rfl)) (pgs_cons (pg_name (i := 4) sc__law_settings.nd rfl (.inl rfl)) pgs_nil)))))) (pss_one (ps_ret (Kr.pe_mkE mk_Settings (hr.mono (by decide)) pass0 (pa_cons (pe_dget hu (pv 0) pe_str (fun _ _ => rfl)) (pa_cons (pe_dget hu (pv 0) pe_str (fun _ _ => rfl)) pa_nil)) (pk_cons (pv 1) (pk_cons (pv 2) (pk_cons (pv 3) (pk_cons (pv 4) pk_nil)))))))), ?_⟩
    rw [st__law_settings]
    walk_at "ss"
    refine r_newS fun L H1 hL s1 e1 => ?_
    have pd1 := s1 _ _ pd
    walk_at "ss"
    intro D hD
    refine lc_listS (xs := [.str "fanout", .str "records", .str "every", .str "keep"]) [some (.ref p), none, none, none, none, none] rfl (fun i H5 => H5 D = some (.lst ([V.int fo, V.int re, V.int ev, V.int ke].take i)) ∧ Same H1 H5) ⟨upd_same, same_new hD⟩ (fun i H5 _ hh => hh.2.seq (SqL.of e1)) ?_ ?_
    · rintro i x H5 hx ⟨h5, s5⟩
      have pd5 := s5 _ _ pd1
      have fin : ∀ (j : Nat) (v : V), j < 4 → [V.int fo, V.int re, V.int ev, V.int ke][j]? = some v → H5 D = some (.lst ([V.int fo, V.int re, V.int ev, V.int ke].take j)) → ∃ acc, H5 D = some (.lst acc) ∧ acc.length < sizeLine ∧ upd H5 D (.lst (acc ++ [v])) D = some (.lst ([V.int fo, V.int re, V.int ev, V.int ke].take (j + 1))) ∧ Same H1 (upd H5 D (.lst (acc ++ [v]))) := fun j v hj hv hd => by
        refine ⟨_, hd, by rw [List.length_take]; exact szl (by omega), ?_, fun b o e => ?_⟩
        · rw [upd_same, List.take_add_one, hv]
          rfl
        · rw [upd_ne (ne_of_none e hD)]
          exact s5 b o e
      rcases i with _ | _ | _ | _ | i
      · cases hx
        walk_at "ss"
        refine ⟨rfl, ?_⟩
        walk_at "ss"
        refine r_dgS pd5 pd_f ?_
        exact fin 0 _ (by decide) rfl h5
      · cases hx
        walk_at "ss"
        refine ⟨rfl, ?_⟩
        walk_at "ss"
        refine r_dgS pd5 pd_r ?_
        exact fin 1 _ (by decide) rfl h5
      · cases hx
        walk_at "ss"
        refine ⟨rfl, ?_⟩
        walk_at "ss"
        refine r_dgS pd5 pd_e ?_
        exact fin 2 _ (by decide) rfl h5
      · cases hx
        walk_at "ss"
        refine ⟨rfl, ?_⟩
        walk_at "ss"
        refine r_dgS pd5 pd_k ?_
        exact fin 3 _ (by decide) rfl h5
      · cases hx
    rintro H5 ⟨h5, s5⟩
    have h5' : H5 D = some (.lst [V.int fo, V.int re, V.int ev, V.int ke]) := h5
    have pd5 := s5 _ _ pd1
    walk_at "ss"
    refine r_gLst (SqL.of h5') rfl ?_
    walk_at "ss"
    refine r_dgS pd5 pd_l ?_
    walk_at "ss"
    refine r_dgS pd5 pd_s ?_
    walk_at "ss"
    have s15 := s1.trans s5
    refine ⟨rfl, rfl, fun x dx hx hdx ne => ?_⟩
    have s6 : Same H5 (upd (upd H5 dx (.own x)) x (.ins (He.ga K "Settings") dx [])) := (same_new hdx).trans (same_new (by rw [upd_ne ne.symm]; exact hx))
    refine ⟨x, dx, q, ls, sz, fo, re, ev, ke, rfl, upd_same, s6 _ _ (s15 _ _ P.l), ok, fun t H' s2 h1 h2 => ⟨rfl, ?_⟩⟩
    exact k x H' (fun b o e => s2 b o (ne_of_none (s15 b o e) hx) (s6 b o (s15 b o e))) (s15.free hx) ⟨dx, t, h1, h2⟩
theorem ok__law_busy {P : Program} {w : World} {K : PySem.W.Frag} {mg : Str → Option Value} {base : Heap} {f : Addr} {fd : FuncData} (F : FunD K "_law_busy" "_law_busy" (defArgs s__law_busy) (defBody s__law_busy) (defScope s__law_busy) [] [] f fd) (c_Store : Cls K (He.ga K "Store")) (m_Store_heap_pages : Kr.MtH P w K mg base CX0 2 (He.ga K "Store") "heap_pages" ["self"] (sp_Store_heap_pages K)) (m_Store_log_pages : Kr.MtH P w K mg base CX0 1 (He.ga K "Store") "log_pages" ["self"] (sp_Store_log_pages K)) (m_Store_node_pages : Kr.MtH P w K mg base CX0 2 (He.ga K "Store") "node_pages" ["self"] (sp_Store_node_pages K)) (m_Store_waiting_pages : Kr.MtH P w K mg base CX0 1 (He.ga K "Store") "waiting_pages" ["self"] (sp_Store_waiting_pages K)) : FnOk P w K mg base CX0 3 f fd ["store"] (sp__law_busy K) := by
  refine F.ok sc__law_busy (fun vs H Q E h => by first | (obtain ⟨rfl, _⟩ := h; rfl) | (obtain ⟨_, rfl, _⟩ := h; rfl) | (obtain ⟨_, _, rfl, _⟩ := h; rfl) | (obtain ⟨_, _, _, rfl, _⟩ := h; rfl) | (obtain ⟨_, _, _, _, rfl, _⟩ := h; rfl) | (obtain ⟨_, _, _, _, _, rfl, _⟩ := h; rfl) | (obtain ⟨_, _, _, _, _, _, rfl, _⟩ := h; rfl) | (obtain ⟨_, _, _, _, _, _, _, rfl, _⟩ := h; rfl) | (obtain ⟨_, _, _, _, _, _, _, _, rfl, _⟩ := h; rfl) | (obtain ⟨_, _, _, _, _, _, _, _, _, rfl, _⟩ := h; rfl) | (obtain ⟨_, _, _, _, _, _, _, _, _, _, rfl, _⟩ := h; rfl) | (obtain ⟨_, _, _, _, _, _, _, _, _, _, _, rfl, _⟩ := h; rfl) | (obtain ⟨_, _, _, _, _, _, _, _, _, _, _, _, rfl, _⟩ := h; rfl) | (obtain ⟨_, _, _, _, _, _, _, _, _, _, _, _, _, rfl, _⟩ := h; rfl) | (obtain ⟨_, _, _, _, _, _, _, _, _, _, _, _, _, _, rfl, _⟩ := h; rfl) | (obtain ⟨_, _, _, _, _, _, _, _, _, _, _, _, _, _, _, rfl, _⟩ := h; rfl) | (obtain ⟨_, _, _, _, _, _, _, _, _, _, _, _, _, _, _, _, rfl, _⟩ := h; rfl) | (obtain ⟨_, _, _, _, _, _, _, _, _, _, _, _, _, _, _, _, _, rfl, _⟩ := h; rfl)) (fun cdv A outer s H vs Q E hr h => ?_)
  · have hu := hu_of hr
    obtain ⟨F, w0, a, s1, p, o, x, rfl, ⟨dw, hw⟩, S, nn, bl, q⟩ := h
    have cc := c_Store
    have lnd := (ndl_perm x.nodes).length_eq
    unfold useL at bl q
    simp only [List.length_append, List.length_map] at bl
    refine ⟨_, PSs.nox (pss_cons (ps_set (i := 1) sc__law_busy.nd rfl (.inl rfl) (pe_op Kr.op_catS (pe_lc (own := [("number", 2), ("page", 3)]) rfl sc__law_busy.nd (pi_list (Kr.pe_mt0 m_Store_heap_pages c_Store (hr.mono (by decide)) (pv 0))) (blkOk_by (own := [("number", 2), ("page", 3)]) (N := N__law_busy) (sc := defScope s__law_busy) (by decide +kernel)) (fun _ _ _ _ _ => (Kr.pg_tupK (K := K) (n := 2) rfl rfl (pgs_cons (pg_name (i := 2) sc__law_busy.nd rfl (.inl rfl)) (pgs_cons (pg_name (i := 3) sc__law_busy.nd rfl (.inl rfl)) pgs_nil)))) (fun _ _ _ _ _ => pts_nil) (fun _ _ _ _ _ => (pv 3))) (pe_lc (own := [("row", 4)]) rfl sc__law_busy.nd (pi_list (Kr.pe_mt0 m_Store_node_pages c_Store (hr.mono (by decide)) (pv 0))) (blkOk_by (own := [("row", 4)]) (N := N__law_busy) (sc := defScope s__law_busy) (by decide +kernel)) (fun _ _ _ _ _ => (pg_name (i := 4) sc__law_busy.nd rfl (.inl rfl))) (fun _ _ _ _ _ => pts_nil) (fun _ _ _ _ _ => (pe_ix (Kr.ix_tupK (K := K) rfl) (pv 4) pe_int (fun _ _ => rfl)))))) (pss_one (ps_ret (pe_op Kr.op_catS (pe_op Kr.op_catS (pv 1) (Kr.pe_mt0 m_Store_log_pages c_Store (hr.mono (by decide)) (pv 0))) (Kr.pe_mt0 m_Store_waiting_pages c_Store (hr.mono (by decide)) (pv 0)))))), ?_⟩
    rw [st__law_busy]
    walk_at "ss"
    refine ⟨F, w0, a, s1, p, o, x, rfl, ⟨dw, hw⟩, S, fun t1 us1 H3 s3 ht1 et1 nl1 => ?_⟩
    walk_at "ss"
    intro D hD
    have lu1 := nl1.len
    refine lc_listS (xs := us1) [some (.ref w0), none, none, none, none] rfl (fun j H5 => Same H3 H5 ∧ H5 D = some (.lst (((x.heap.take j).map (·.2)).map nI))) ⟨same_new hD, upd_same⟩ (fun j H5 _ z => .of (z.1 _ _ et1)) ?_ ?_
    · rintro j v H5 hv ⟨s5, e5⟩
      have hj := (List.getElem?_eq_some_iff.mp hv).1
      obtain ⟨n, hn'⟩ : ∃ n, x.heap[j]? = some n := ⟨_, List.getElem?_eq_getElem (by rw [← lu1]; exact hj)⟩
      obtain ⟨tn, h1, h2⟩ := nl1.at_ j n hn'
      rw [hv] at h1
      cases h1
      have h2' : H5 tn = some (.tup [.int (n.1 : Nat), .int (n.2 : Nat)]) := s5 _ _ h2
      walk_at "ss"
      refine ⟨rfl, ?_⟩
      walk_at "ss"
      refine ⟨_, e5, szl (by simp only [List.length_map, List.length_take]; omega), fun b' o e => ?_, ?_⟩
      · rw [upd_ne (ne_of_none e hD)]
        exact s5 _ _ e
      · rw [upd_same, List.take_add_one, hn', List.map_append, List.map_append]
        rfl
    rintro H5' ⟨s5, e5⟩
    rw [lu1, List.take_length] at e5
    have s05 := s3.trans s5
    have hw5 := s05 _ _ hw
    walk_at "ss"
    refine ⟨F, w0, a, s1, p, o, x, rfl, ⟨dw, hw5⟩, S.same s05, nn, by omega, fun t2 us2 H6 s6 ht2 et2 tl2 => ?_⟩
    walk_at "ss"
    intro D2 hD2
    have lu2 := Paired.length tl2
    refine lc_listS (xs := us2) [some (.ref w0), none, none, none, none] rfl (fun j H7 => Same H6 H7 ∧ H7 D2 = some (.lst ((((ndl x.nodes).take j).map (·.2)).map nI))) ⟨same_new hD2, upd_same⟩ (fun j H7 _ z => .of (z.1 _ _ et2)) ?_ ?_
    · rintro j v H7 hv ⟨s7, e7⟩
      obtain ⟨m, hm, t3, rfl, h3⟩ := prd_at tl2 hv
      have h3' : H7 t3 = some (.tup [.int (m.1.1 : Nat), .int (m.1.2 : Nat), .int (m.2 : Nat)]) := s7 _ _ h3
      walk_at "ss"
      refine ⟨rfl, ?_⟩
      walk_at "ss"
      refine ⟨_, e7, szl (by simp only [List.length_map, List.length_take]; omega), fun b' o e => ?_, ?_⟩
      · rw [upd_ne (ne_of_none e hD2)]
        exact s7 _ _ e
      · rw [upd_same, List.take_add_one, hm, List.map_append, List.map_append]
        rfl
    rintro H7' ⟨s7, e7⟩
    rw [lu2, List.take_length] at e7
    have s57 := s6.trans s7
    have s07 := s05.trans s57
    have e57 := s57 _ _ e5
    refine r_catS (.of e57) (.of e7) (by simp only [List.length_map]; omega) ?_
    refine r_newS fun c8 H8 hc8 s8 ec8 => ?_
    have s08 := s07.trans s8
    have hw8 := s08 _ _ hw
    walk_at "ss"
    refine ⟨F, w0, a, s1, p, o, x, rfl, ⟨dw, hw8⟩, S.same s08, fun t9 H9 s9 ht9 et9 => ?_⟩
    walk_at "ss"
    refine r_catS (.of (s9 _ _ ec8)) (.of et9) (by simp only [List.length_append, List.length_map]; omega) ?_
    refine r_newS fun c10 H10 hc10 s10 ec10 => ?_
    have s010 := s08.trans (s9.trans s10)
    have hw10 := s010 _ _ hw
    walk_at "ss"
    refine ⟨F, w0, a, s1, p, o, x, rfl, ⟨dw, hw10⟩, S.same s010, fun t12 H12 s12 ht12 et12 => ?_⟩
    walk_at "ss"
    refine r_catS (.of (s12 _ _ ec10)) (.of et12) (by simp only [List.length_append, List.length_map]; omega) ?_
    refine r_newS fun c13 H13 hc13 s13 ec13 => ?_
    refine q c13 H13 (s010.trans (s12.trans s13)) ((s010.trans s12).free hc13) ?_
    rw [ec13, List.map_append, List.map_append, List.map_append]
theorem ok__law_row_right {P : Program} {w : World} {K : PySem.W.Frag} {mg : Str → Option Value} {base : Heap} {f : Addr} {fd : FuncData} (F : FunD K "_law_row_right" "_law_row_right" (defArgs s__law_row_right) (defBody s__law_row_right) (defScope s__law_row_right) [] [] f fd) (c_Store : Cls K (He.ga K "Store")) (h__law_busy : Kr.FnH P w K mg base CX0 3 "_law_busy" ["store"] (sp__law_busy K)) (m_Store_file_size : Kr.MtH P w K mg base CX0 1 (He.ga K "Store") "file_size" ["self"] (sp_Store_file_size K)) (m_Store_free_pages : Kr.MtH P w K mg base CX0 5 (He.ga K "Store") "free_pages" ["self", "count"] (sp_Store_free_pages K)) (m_Store_step : Kr.MtH P w K mg base CX0 5 (He.ga K "Store") "step" ["self"] (sp_Store_step K)) (n_int : mg "int" = none) (n_len : mg "len" = none) (n_list : mg "list" = none) (n_range : mg "range" = none) (n_sorted : mg "sorted" = none) : FnOk P w K mg base CX0 6 f fd ["store", "written"] (sp__law_row_right K) := by
  refine F.ok sc__law_row_right (fun vs H Q E h => by first | (obtain ⟨rfl, _⟩ := h; rfl) | (obtain ⟨_, rfl, _⟩ := h; rfl) | (obtain ⟨_, _, rfl, _⟩ := h; rfl) | (obtain ⟨_, _, _, rfl, _⟩ := h; rfl) | (obtain ⟨_, _, _, _, rfl, _⟩ := h; rfl) | (obtain ⟨_, _, _, _, _, rfl, _⟩ := h; rfl) | (obtain ⟨_, _, _, _, _, _, rfl, _⟩ := h; rfl) | (obtain ⟨_, _, _, _, _, _, _, rfl, _⟩ := h; rfl) | (obtain ⟨_, _, _, _, _, _, _, _, rfl, _⟩ := h; rfl) | (obtain ⟨_, _, _, _, _, _, _, _, _, rfl, _⟩ := h; rfl) | (obtain ⟨_, _, _, _, _, _, _, _, _, _, rfl, _⟩ := h; rfl) | (obtain ⟨_, _, _, _, _, _, _, _, _, _, _, rfl, _⟩ := h; rfl) | (obtain ⟨_, _, _, _, _, _, _, _, _, _, _, _, rfl, _⟩ := h; rfl) | (obtain ⟨_, _, _, _, _, _, _, _, _, _, _, _, _, rfl, _⟩ := h; rfl) | (obtain ⟨_, _, _, _, _, _, _, _, _, _, _, _, _, _, rfl, _⟩ := h; rfl) | (obtain ⟨_, _, _, _, _, _, _, _, _, _, _, _, _, _, _, rfl, _⟩ := h; rfl) | (obtain ⟨_, _, _, _, _, _, _, _, _, _, _, _, _, _, _, _, rfl, _⟩ := h; rfl) | (obtain ⟨_, _, _, _, _, _, _, _, _, _, _, _, _, _, _, _, _, rfl, _⟩ := h; rfl)) (fun cdv A outer s H vs Q E hr h => ?_)
  · have hu := hu_of hr
    obtain ⟨F, w0, a, wl, o, x, c, wr, rfl, W, Z, S, ew, nwl, k, kk, ke1, ke2, iw, hd, q⟩ := h
    obtain ⟨dw, hw⟩ := id W
    have pl := pgs_len x
    have fl := iw.fl
    have mx := iw.mx
    have ul := (useL_perm x).length_eq
    refine ⟨_, PSs.nox (pss_cons (ps_par (i := 2) (j := 3) rfl sc__law_row_right.nd rfl rfl (by decide) rfl rfl (pa_cons (Kr.pe_cl h__law_busy (hr.mono (by decide)) (pa_cons (pv 0) pa_nil)) (pa_cons (Kr.pe_mt0 m_Store_file_size c_Store (hr.mono (by decide)) (pv 0)) pa_nil)) (by rfl)) (pss_cons (ps_set (i := 4) sc__law_row_right.nd rfl (.inl rfl) (Kr.pe_mt m_Store_free_pages c_Store (hr.mono (by decide)) (pv 0) (pa_cons (pe_op op_sub (pv 3) (pe_callB (id := "len") Kr.c_len rfl n_len (by decide +kernel) (pa_cons (pv 2) pa_nil))) pa_nil))) (pss_cons (ps_if (pt_cmpR (op_neD hr.units) (pe_callB (id := "sorted") cr_sortedI rfl n_sorted (by decide +kernel) (pa_cons (pe_op Kr.op_catS (pv 2) (pv 4)) pa_nil)) (pe_listRg rfl rfl n_list (prg_1 rfl n_range (pv 3))) (nomark _)) (pss_one (ps_ret pe_non)) pss_nil) (pss_cons (ps_for PassesOwn.never rfl (pi_list (Kr.pe_mt0 m_Store_step c_Store (hr.mono (by decide)) (pv 0))) (pg_name (i := 5) sc__law_row_right.nd rfl (.inr rfl)) (pss_one (ps_if (pt_cmpR op_eq (pe_ix ix_tup (pv 5) pe_int (fun _ _ => rfl)) pe_str (nomark _)) (pss_cons (ps_set (i := 6) sc__law_row_right.nd rfl (.inl rfl) (pe_ifExp (pt_cmpR (op_neD hr.units) (pv 4) (pe_lst pa_nil) (nomark _)) (pe_bm PySem.F.plainAttrs_list PySem.F.slot_list_pop PySem.F.type_list_pop mt_popAt (pv 4) (pa_cons pe_int pa_nil)) (pv 3))) (pss_cons (ps_if (PW.pt (pw_or (pt_cmpR op_ne (pe_ix ix_tup (pv 5) pe_int (fun _ _ => rfl)) (pv 6) (nomark _)) (pw_or1 (pt_cmpR op_in_seq (pe_ix ix_tup (pv 5) pe_int (fun _ _ => rfl)) (pv 1) (by rfl))))) (pss_one (ps_ret pe_non)) pss_nil) (pss_cons (ps_set (i := 3) sc__law_row_right.nd rfl (.inl rfl) (pe_op op_add (pv 3) (pe_callTy (T := "int") Kr.c_int1 rfl n_int (by decide +kernel) (pa_cons (pe_cmpR op_eq (pe_ix ix_tup (pv 5) pe_int (fun _ _ => rfl)) (pv 3) (nomark _)) pa_nil)))) (pss_one (ps_expr (pe_bm PySem.F.plainAttrs_list PySem.F.slot_list_append PySem.F.type_list_append mt_append (pv 2) (pa_cons (pe_ix ix_tup (pv 5) pe_int (fun _ _ => rfl)) pa_nil))))))) (pss_one (ps_if (pt_cmpR op_eq (pe_ix ix_tup (pv 5) pe_int (fun _ _ => rfl)) pe_str (nomark _)) (pss_one (ps_if (pt_cmpR op_notIn_seq (pe_ix ix_tup (pv 5) pe_int (fun _ _ => rfl)) (pv 2) (by rfl)) (pss_one (ps_ret pe_non)) pss_nil)) (pss_one (ps_if (pt_cmpR op_eq (pe_ix ix_tup (pv 5) pe_int (fun _ _ => rfl)) pe_str (nomark _)) (pss_one (ps_set (i := 1) sc__law_row_right.nd rfl (.inl rfl) (pe_ifExp (pt_cmpR op_notIn_seq (pe_ix ix_tup (pv 5) pe_int (fun _ _ => rfl)) (pv 1) (by rfl)) (pe_op Kr.op_catS (pv 1) (pe_lst (pa_cons (pe_ix ix_tup (pv 5) pe_int (fun _ _ => rfl)) pa_nil))) (pv 1)))) (pss_one (ps_if (pt_cmpR op_eq (pe_ix ix_tup (pv 5) pe_int (fun _ _ => rfl)) pe_str (nomark _)) (pss_cons (ps_expr (pe_bm PySem.F.plainAttrs_list PySem.F.slot_list_remove PySem.F.type_list_remove mt_remove (pv 2) (pa_cons (pe_ix ix_tup (pv 5) pe_int (fun _ _ => rfl)) pa_nil))) (pss_one (ps_setLc (i := 1) (own := [("page", 7)]) rfl sc__law_row_right.nd rfl rfl (sw_true rfl rfl rfl (by decide +kernel)) (pi_list (pv 1)) (blkOk_by (own := [("page", 7)]) (N := N__law_row_right) (sc := defScope s__law_row_right) (by decide +kernel)) (fun _ _ _ _ _ => (pg_name (i := 7) sc__law_row_right.nd rfl (.inl rfl))) (fun _ _ _ _ _ => (pts_one (pt_cmpR op_ne (pv 7) (pe_ix (Kr.ix_tupK (K := K) rfl) (pv 5) pe_int (fun _ _ => rfl)) (nomark _)))) (fun _ _ _ _ _ => (pv 7))))) (pss_one (ps_if (pt_cmpR op_notIn_seq (pe_ix ix_tup (pv 5) pe_int (fun _ _ => rfl)) (pv 2) (by rfl)) (pss_one (ps_ret pe_non)) pss_nil))))))))))) (pss_one (ps_ret (pe_ifExp (PW.pt (pw_and (pt_cmpR (op_eqD hr.units) (pe_callB (id := "sorted") cr_sortedI rfl n_sorted (by decide +kernel) (pa_cons (Kr.pe_cl h__law_busy (hr.mono (by decide)) (pa_cons (pv 0) pa_nil)) pa_nil)) (pe_callB (id := "sorted") cr_sortedI rfl n_sorted (by decide +kernel) (pa_cons (pv 2) pa_nil)) (nomark _)) (pw_and1 (pt_cmpR op_eq (pv 3) (Kr.pe_mt0 m_Store_file_size c_Store (hr.mono (by decide)) (pv 0)) (nomark _))))) (pv 1) pe_non))))))), ?_⟩
    rw [st__law_row_right]
    walk_at "ss"
    refine ⟨F, w0, a, c.s, c.p, o, x, rfl, W, S, iw.iv.ky.nn, by omega, fun tb H1 s1 htb etb => ?_⟩
    have hw1 := s1 _ _ hw
    walk_at "ss"
    refine ⟨F, w0, a, c.s, c.p, o, x, rfl, ⟨dw, hw1⟩, S.same s1, ?_⟩
    walk_at "ss"
    rw [List.length_map]
    walk_at "ss"
    rw [show (x.size : Int) - ((useL x).length : Int) = ((x.free.length : Nat) : Int) by omega]
    refine ⟨F, w0, a, c.s, c.p, o, x, _, rfl, ⟨dw, hw1⟩, S.same s1, rfl, by omega, fun tf H2 s2 htf etf => ?_⟩
    have etb2 := s2 _ _ etb
    have s02 := s1.trans s2
    walk_at "ss"
    refine r_catS (.of etb2) (.of etf) (by rw [List.length_map, List.length_map, List.length_reverse]; omega) ?_
    refine r_newS fun t3 H3 ht3 s3 et3 => ?_
    rw [← List.map_append, nI_eq] at et3
    walk_at "ss"
    refine ⟨t3, _, rfl, .of et3, fun ns' t4 pm srt ht4 => ?_⟩
    have ens : ns' = nat (List.range x.size) := srt_eq (pm.trans (nat_perm (((useL_perm x).append (List.reverse_perm x.free)).trans (by rw [← pgs_use]; exact rg_perm iw.iv.ky.gd.nd iw.iv.ky.gd.lt fl)))) srt (nat_srt _)
    have s4 : Same H3 (upd H3 t4 (.lst (ns'.map V.int))) := same_new ht4
    have et4 : upd H3 t4 (.lst (ns'.map V.int)) t4 = some (.lst (ns'.map V.int)) := upd_same
    generalize upd H3 t4 (.lst (ns'.map V.int)) = H4 at s4 et4 ⊢
    rw [ens] at et4
    walk_at "ss"
    refine r_rgL (by omega) (by omega) ?_
    refine r_newS fun t5 H5 ht5 s5 et5 => ?_
    rw [rgV_nat] at et5
    walk_at "ss"
    refine r_neLL (.of (s5 _ _ et4)) (.of et5) ?_
    rw [show decide (nat (List.range x.size) = nat (List.range x.size)) = true from decide_eq_true rfl]
    have s25 : Same H2 H5 := s3.trans (s4.trans s5)
    have s05 := s02.trans s25
    have hw5 := s05 _ _ hw
    clear et3 et4 et5 pm srt ht4 ens
    walk_at "ss"
    refine ⟨F, w0, a, o, x, c, rfl, ⟨dw, hw5⟩, Z, S.same s05, iw.iv.rdy k (by omega), fun te y es o2 H6 row hte S6 E6 kp nwo => ?_⟩
    obtain ⟨vs, ev, pr⟩ := E6.l
    obtain ⟨oe, sees, iwy, bs', sz', szz⟩ := iw.row k kk ke1 ke2 (by omega) row
    obtain ⟨ivy, dny⟩ := iw.iv.row k (by omega) row
    have rl := row.len (iw.iv.rdy k (by omega))
    have S5 := S.same s05
    have nwb := S.nw htb
    have nwf := (S.same s1).nw htf
    have kp' : ∀ {b u}, b ∉ a :: o.all → H5 b = some u → H6 b = some u := fun n e => kp _ _ (fun z => n (by rw [z]; exact List.mem_cons_self)) (fun z => n (List.mem_cons_of_mem _ z)) e
    have etb6 := kp' nwb (s25 _ _ etb2)
    have etf6 := kp' nwf (s25 _ _ etf)
    have ew6 := kp' nwl (s05 _ _ ew)
    have hw6 := kp' (S5.ns ⟨dw, hw5⟩) hw5
    have old : ∀ {b u}, b ∉ a :: o.all → H5 b = some u → b ∉ a :: o2.all := fun n e z => by
      rcases List.mem_cons.mp z with z | z
      · exact n (by rw [z]; exact List.mem_cons_self)
      · rcases nwo _ z with z | z
        · exact n (List.mem_cons_of_mem _ z)
        · rw [e] at z
          cases z
    have nwb2 := old nwb (s25 _ _ etb2)
    have nwf2 := old nwf (s25 _ _ etf)
    have nwl2 := old nwl (s05 _ _ ew)
    have Fb : F tb = none := Same.free S.fz htb
    have Ff : F tf = none := Same.free (S.same s1).fz htf
    have fb : tf ≠ tb := (ne_of_none etb htf).symm
    have wb : wl ≠ tb := ne_of_none ew htb
    have wf : wl ≠ tf := ne_of_none (s1 _ _ ew) htf
    have wrl : wr.length ≤ 1000 := Nat.le_trans (nodup_le _ iw.wn fun p hp => use_lt iw.iv.ky.gd (iw.wr p hp)) mx
    have tne : te ≠ tb ∧ te ≠ tf := ⟨(ne_of_none (s25 _ _ etb2) hte).symm, (ne_of_none (s25 _ _ etf) hte).symm⟩
    walk_at "ss"
    refine r_forL (xs := vs) (fun i σ G => ∃ (oi : Ob) (wi : Addr) (y5 y6 y7 : Option V), σ = [some (.ref w0), some (.ref wi), some (.ref tb), some (.int (oi.sz : Nat)), some (.ref tf), y5, y6, y7] ∧ Sees (es.drop i) oi oe ∧ oi.bs.length ≤ 1000 + i ∧ oi.wr.length ≤ 1000 + i ∧ G tb = some (.lst (oi.bs.map nI)) ∧ G tf = some (.lst (oi.fr.map nI)) ∧ G wi = some (.lst (oi.wr.map nI)) ∧ wi ≠ tb ∧ wi ≠ tf ∧ wi ∉ a :: o2.all ∧ (∀ b u, b ≠ tb → b ≠ tf → H6 b = some u → G b = some u)) ⟨_, wl, _, _, _, rfl, sees, by dsimp only; omega, wrl, etb6, etf6, ew6, wb, wf, nwl2, fun _ _ _ _ h => h⟩ (fun i σ G _ ⟨_, _, _, _, _, _, _, _, _, _, _, _, _, _, _, z⟩ => .of (z _ _ tne.1 tne.2 ev)) ?_ ?_
    · rintro i v σ G hv ⟨oi, wi, y5, y6, y7, rfl, ss, lb, lw, gb, gf, gw, n1, n2, n3, kG⟩
      have hk := (List.getElem?_eq_some_iff.mp hv).1
      obtain ⟨e1, he1', he⟩ := prd_at pr hv
      obtain ⟨hie, hie2⟩ := List.getElem?_eq_some_iff.mp he1'
      rw [List.drop_eq_getElem_cons hie, hie2] at ss
      obtain ⟨o1, see, ss⟩ := ss
      have kT : TpS H6 G := fun b xs e => kG b _ (fun z => by rw [z, etb6] at e; cases e) (fun z => by rw [z, etf6] at e; cases e) e
      have he2 := he.tp kT
      cases e1 with
      | take p r =>
        obtain ⟨t, q2, rfl, et, eq2⟩ := he2
        obtain ⟨pw, cas⟩ := see
        walk_at "ss"
        rw [show decide ((Str.ofString "take") = Str.ofString "take") = true from decide_eq_true rfl]
        walk_at "ss"
        refine r_newS fun z1 G1 hz1 sz1 ez1 => ?_
        have gf1 := sz1 _ _ gf
        rw [nI_eq] at gf1
        refine r_neLL (js := []) (.of gf1) (.of ez1) ?_
        rcases cas with ⟨f0, ep, eo⟩ | ⟨fr, ef, pn, eo⟩
        · rw [f0, show decide (nat [] = []) = true from rfl]
          walk_at "ss"
          subst ep
          subst eo
          have et1 := sz1 _ _ et
          have gw1 := sz1 _ _ gw
          have gb1 := sz1 _ _ gb
          walk_at "ss"
          rw [show decide ((oi.sz : Int) = (oi.sz : Int)) = true from decide_eq_true rfl]
          walk_at "ss"
          refine r_inN gw1 ?_
          rw [decide_eq_false pw]
          rw [show (if false = true then !false else false) = false from rfl]
          walk_at "ss"
          rw [show decide ((oi.sz : Int) = (oi.sz : Int)) = true from decide_eq_true rfl]
          refine .inr ⟨true, rfl, ?_⟩
          rw [show (if true = true then (1 : Int) else 0) = 1 from rfl]
          walk_at "ss"
          refine r_append gb1 (by rw [List.length_map]; omega) ?_
          walk_at "ss"
          refine ⟨{ oi with bs := oi.bs ++ [oi.sz], sz := oi.sz + 1 }, wi, _, _, _, rfl, ss, by dsimp only; rw [List.length_append]; simp; omega, by dsimp only; omega, ?_, ?_, ?_, n1, n2, n3, fun b u h1 h2 h3 => ?_⟩
          · rw [upd_same]
            dsimp only
            rw [List.map_append]
            rfl
          · rw [upd_ne fb]
            exact sz1 _ _ gf
          · rw [upd_ne n1]
            exact gw1
          · rw [upd_ne h1]
            exact sz1 _ _ (kG b u h1 h2 h3)
        · rw [ef, show decide (nat (p :: fr) = []) = false from rfl]
          walk_at "ss"
          subst eo
          have et1 := sz1 _ _ et
          have gw1 := sz1 _ _ gw
          have gb1 := sz1 _ _ gb
          have gf2 := sz1 _ _ gf
          rw [ef] at gf2
          refine ⟨tf, _, 0, 0, .int (p : Nat), rfl, rfl, gf2, by decide, by decide, seqIndex_of (by decide) (by simp), rfl, ?_⟩
          have gfe : upd G1 tf (.lst ((List.map nI (p :: fr)).eraseIdx 0)) tf = some (.lst (fr.map nI)) := by
            rw [upd_same]
            rfl
          have gb2 : upd G1 tf (.lst ((List.map nI (p :: fr)).eraseIdx 0)) tb = _ := (upd_ne fb.symm).trans gb1
          have gw2 : upd G1 tf (.lst ((List.map nI (p :: fr)).eraseIdx 0)) wi = _ := (upd_ne n2).trans gw1
          have et2 : upd G1 tf (.lst ((List.map nI (p :: fr)).eraseIdx 0)) t = _ := (upd_ne (fun z => by rw [z, gf2] at et1; cases et1)).trans et1
          have kG2 : ∀ b u, b ≠ tb → b ≠ tf → H6 b = some u → upd G1 tf (.lst ((List.map nI (p :: fr)).eraseIdx 0)) b = some u := fun b u h1 h2 h3 => by
            rw [upd_ne h2]
            exact sz1 _ _ (kG b u h1 h2 h3)
          generalize upd G1 tf (.lst ((List.map nI (p :: fr)).eraseIdx 0)) = G2 at gfe gb2 gw2 et2 kG2 ⊢
          walk_at "ss"
          rw [show decide ((p : Int) = (p : Int)) = true from decide_eq_true rfl]
          walk_at "ss"
          refine r_inN gw2 ?_
          rw [decide_eq_false pw]
          rw [show (if false = true then !false else false) = false from rfl]
          walk_at "ss"
          rw [show decide ((p : Int) = (oi.sz : Int)) = false from decide_eq_false (by omega)]
          refine .inr ⟨false, rfl, ?_⟩
          rw [show (if false = true then (1 : Int) else 0) = 0 from rfl]
          walk_at "ss"
          rw [Int.add_zero]
          refine r_append gb2 (by rw [List.length_map]; omega) ?_
          walk_at "ss"
          refine ⟨{ oi with bs := oi.bs ++ [p], fr := fr }, wi, _, _, _, rfl, ss, by dsimp only; rw [List.length_append]; simp; omega, by dsimp only; omega, ?_, ?_, ?_, n1, n2, n3, fun b u h1 h2 h3 => ?_⟩
          · rw [upd_same]
            dsimp only
            rw [List.map_append]
            rfl
          · rw [upd_ne fb]
            exact gfe
          · rw [upd_ne n1]
            exact gw2
          · rw [upd_ne h1]
            exact kG2 b u h1 h2 h3
      | give p r =>
        obtain ⟨t, q2, rfl, et, eq2⟩ := he2
        obtain ⟨pw, rfl⟩ := see
        walk_at "ss"
        rw [show decide ((Str.ofString "give") = Str.ofString "take") = false by decide +kernel]
        walk_at "ss"
        rw [show decide ((Str.ofString "give") = Str.ofString "give") = true from decide_eq_true rfl]
        walk_at "ss"
        refine r_inN gb ?_
        rw [decide_eq_true pw]
        rw [show (if true = true then !true else true) = false from rfl]
        walk_at "ss"
        exact ⟨_, wi, _, _, _, rfl, ss, by omega, by omega, gb, gf, gw, n1, n2, n3, kG⟩
      | recd p r =>
        obtain ⟨t, rfl, et⟩ := he2
        obtain ⟨pw, rfl⟩ := see
        walk_at "ss"
        rw [show decide ((Str.ofString "record") = Str.ofString "take") = false by decide +kernel]
        walk_at "ss"
        rw [show decide ((Str.ofString "record") = Str.ofString "give") = false by decide +kernel]
        walk_at "ss"
        rw [show decide ((Str.ofString "record") = Str.ofString "write") = false by decide +kernel]
        walk_at "ss"
        rw [show decide ((Str.ofString "record") = Str.ofString "free") = false by decide +kernel]
        walk_at "ss"
        refine r_inN gb ?_
        rw [decide_eq_true pw]
        rw [show (if true = true then !true else true) = false from rfl]
        walk_at "ss"
        exact ⟨_, wi, _, _, _, rfl, ss, by omega, by omega, gb, gf, gw, n1, n2, n3, kG⟩
      | put p r =>
        obtain ⟨t, rfl, et⟩ := he2
        obtain ⟨pw, rfl⟩ := see
        walk_at "ss"
        rw [show decide ((Str.ofString "put") = Str.ofString "take") = false by decide +kernel]
        walk_at "ss"
        rw [show decide ((Str.ofString "put") = Str.ofString "give") = false by decide +kernel]
        walk_at "ss"
        rw [show decide ((Str.ofString "put") = Str.ofString "write") = false by decide +kernel]
        walk_at "ss"
        rw [show decide ((Str.ofString "put") = Str.ofString "free") = false by decide +kernel]
        walk_at "ss"
        refine r_inN gb ?_
        rw [decide_eq_true pw]
        rw [show (if true = true then !true else true) = false from rfl]
        walk_at "ss"
        exact ⟨_, wi, _, _, _, rfl, ss, by omega, by omega, gb, gf, gw, n1, n2, n3, kG⟩
      | write p =>
        obtain ⟨t, rfl, et⟩ := he2
        have see := see
        walk_at "ss"
        rw [show decide ((Str.ofString "write") = Str.ofString "take") = false by decide +kernel]
        walk_at "ss"
        rw [show decide ((Str.ofString "write") = Str.ofString "give") = false by decide +kernel]
        walk_at "ss"
        rw [show decide ((Str.ofString "write") = Str.ofString "write") = true from decide_eq_true rfl]
        walk_at "ss"
        refine r_inN gw ?_
        have see : o1 = { oi with wr := addW oi.wr p } := see
        by_cases hp : p ∈ oi.wr
        · rw [decide_eq_true hp]
          rw [show (if true = true then !true else true) = false from rfl]
          walk_at "ss"
          have ea : addW oi.wr p = oi.wr := if_pos hp
          rw [ea] at see
          subst see
          exact ⟨_, wi, _, _, _, rfl, ss, by omega, by omega, gb, gf, gw, n1, n2, n3, kG⟩
        · rw [decide_eq_false hp]
          rw [show (if true = true then !false else false) = true from rfl]
          walk_at "ss"
          refine r_newS fun z1 G1 hz1 sz1 ez1 => ?_
          walk_at "ss"
          refine r_catS (.of (sz1 _ _ gw)) (.of ez1) (by rw [List.length_map]; simp; omega) ?_
          refine r_newS fun z2 G2 hz2 sz2 ez2 => ?_
          walk_at "ss"
          have ea : addW oi.wr p = oi.wr ++ [p] := if_neg hp
          rw [ea] at see
          subst see
          have sG := sz1.trans sz2
          have gb2 := sG _ _ gb
          have gf2 := sG _ _ gf
          refine ⟨{ oi with wr := oi.wr ++ [p] }, z2, _, _, _, rfl, ss, by dsimp only; omega, by dsimp only; rw [List.length_append]; simp; omega, gb2, gf2, ?_, (ne_of_none (sz1 _ _ gb) hz2).symm, (ne_of_none (sz1 _ _ gf) hz2).symm, ?_, fun b u h1 h2 h3 => sG _ _ (kG b u h1 h2 h3)⟩
          · rw [ez2]
            dsimp only
            rw [List.map_append]
            rfl
          · exact ((S6.kept2 nwb2 nwf2 Fb Ff kG).same sz1).nw hz2
      | free p =>
        obtain ⟨t, rfl, et⟩ := he2
        obtain ⟨pw, rfl⟩ := see
        walk_at "ss"
        rw [show decide ((Str.ofString "free") = Str.ofString "take") = false by decide +kernel]
        walk_at "ss"
        rw [show decide ((Str.ofString "free") = Str.ofString "give") = false by decide +kernel]
        walk_at "ss"
        rw [show decide ((Str.ofString "free") = Str.ofString "write") = false by decide +kernel]
        walk_at "ss"
        rw [show decide ((Str.ofString "free") = Str.ofString "free") = true from decide_eq_true rfl]
        walk_at "ss"
        obtain ⟨j, j1, j2, j3⟩ := erase_at pw
        have gb' := gb
        rw [nI_eq] at gb'
        refine ⟨tb, nat oi.bs, (p : Int), j, rfl, rfl, gb', j1, j2, ?_⟩
        rw [j3, ← nI_eq]
        have gb1 : upd G tb (.lst ((oi.bs.erase p).map nI)) tb = some (.lst ((oi.bs.erase p).map nI)) := upd_same
        have gf1 : upd G tb (.lst ((oi.bs.erase p).map nI)) tf = _ := (upd_ne fb).trans gf
        have gw1 : upd G tb (.lst ((oi.bs.erase p).map nI)) wi = _ := (upd_ne n1).trans gw
        have et1 : upd G tb (.lst ((oi.bs.erase p).map nI)) t = _ := (upd_ne (fun z => by rw [z, gb] at et; cases et)).trans et
        have kG1 : ∀ b u, b ≠ tb → b ≠ tf → H6 b = some u → upd G tb (.lst ((oi.bs.erase p).map nI)) b = some u := fun b u h1 h2 h3 => by
          rw [upd_ne h1]
          exact kG b u h1 h2 h3
        generalize upd G tb (.lst ((oi.bs.erase p).map nI)) = G1 at gb1 gf1 gw1 et1 kG1 ⊢
        have be := List.length_erase_of_mem pw
        walk_at "ss"
        intro D hD
        have ff := List.length_filter_le (fun q => decide (q ≠ p)) oi.wr
        refine lc_listS (xs := oi.wr.map nI) [some (.ref w0), some (.ref wi), some (.ref tb), some (.int (oi.sz : Nat)), some (.ref tf), some (.ref t), y6, none] rfl (fun j H5 => Same G1 H5 ∧ H5 D = some (.lst (((oi.wr.take j).filter fun q => decide (q ≠ p)).map nI))) ⟨same_new hD, upd_same⟩ (fun j H5 _ z => .of (z.1 _ _ gw1)) ?_ ?_
        · rintro j v H5 hv ⟨s5, e5⟩
          rw [List.getElem?_map] at hv
          obtain ⟨q, hq, rfl⟩ := Option.map_eq_some_iff.mp hv
          have et5 := s5 _ _ et1
          have ftl := List.length_filter_le (fun q => decide (q ≠ p)) (oi.wr.take j)
          have ttl := List.length_take_le j oi.wr
          have ttl' : (oi.wr.take j).length ≤ oi.wr.length := by rw [List.length_take]; omega
          walk_at "ss"
          refine ⟨rfl, ?_⟩
          have eq1 : nI q = V.int (q : Nat) := rfl
          rw [eq1]
          walk_at "ss"
          by_cases hqp : q = p
          · subst hqp
            rw [show decide ((q : Int) = (q : Int)) = true from decide_eq_true rfl]
            walk_at "ss"
            refine ⟨s5, ?_⟩
            rw [e5, List.take_add_one, hq, List.filter_append]
            simp
          · rw [show decide ((q : Int) = (p : Int)) = false from decide_eq_false (by omega)]
            walk_at "ss"
            refine ⟨_, e5, szl (by rw [List.length_map]; omega), fun b' o e => ?_, ?_⟩
            · rw [upd_ne (ne_of_none e hD)]
              exact s5 _ _ e
            · rw [upd_same, List.take_add_one, hq, List.filter_append, List.map_append]
              have : List.filter (fun q => decide (q ≠ p)) (some q).toList = [q] := by simp [hqp]
              rw [this]
              rfl
        rintro G2 ⟨s5, e5⟩
        rw [List.length_map, List.take_length] at e5
        walk_at "ss"
        refine ⟨{ oi with bs := oi.bs.erase p, wr := oi.wr.filter fun q => decide (q ≠ p) }, D, _, _, _, rfl, ss, by dsimp only; omega, by dsimp only; omega, s5 _ _ gb1, s5 _ _ gf1, e5, (ne_of_none gb1 hD).symm, (ne_of_none gf1 hD).symm, ?_, fun b u h1 h2 h3 => s5 _ _ (kG1 b u h1 h2 h3)⟩
        exact (S6.kept2 nwb2 nwf2 Fb Ff kG1).nw hD
    rintro σ G ⟨oi, wi, y5, y6, y7, rfl, ss, lb, lw, gb, gf, gw, n1, n2, n3, kG⟩
    rw [Paired.length pr, List.drop_length] at ss
    have ss : oe = oi := ss
    subst ss
    have SG := S6.kept2 nwb2 nwf2 Fb Ff kG
    have hwG := kG _ _ (ne_of_none hw htb) (ne_of_none (s1 _ _ hw) htf) hw6
    have uly := (useL_perm y).length_eq
    have ply := pgs_len y
    have fly := iwy.fl
    have mxy := iwy.mx
    walk_at "ss"
    refine ⟨F, w0, a, c.s, c.p, o2, y, rfl, ⟨dw, hwG⟩, SG, ivy.ky.nn, by omega, fun t7 G1 s7 ht7 et7 => ?_⟩
    have et7' := et7
    rw [nI_eq] at et7'
    walk_at "ss"
    refine ⟨t7, nat (useL y), rfl, .of et7', fun ns1 t8 pm1 srt1 ht8 => ?_⟩
    have s8 : Same G1 (upd G1 t8 (.lst (ns1.map V.int))) := same_new ht8
    have et8 : upd G1 t8 (.lst (ns1.map V.int)) t8 = some (.lst (ns1.map V.int)) := upd_same
    generalize upd G1 t8 (.lst (ns1.map V.int)) = G2 at s8 et8 ⊢
    have gb2 := s8 _ _ (s7 _ _ gb)
    rw [nI_eq] at gb2
    walk_at "ss"
    refine ⟨tb, _, rfl, .of gb2, fun ns2 t9 pm2 srt2 ht9 => ?_⟩
    have s9 : Same G2 (upd G2 t9 (.lst (ns2.map V.int))) := same_new ht9
    have et9 : upd G2 t9 (.lst (ns2.map V.int)) t9 = some (.lst (ns2.map V.int)) := upd_same
    generalize upd G2 t9 (.lst (ns2.map V.int)) = G3 at s9 et9 ⊢
    walk_at "ss"
    refine r_eqLL (.of (s9 _ _ et8)) (.of et9) ?_
    have en : ns1 = ns2 := srt_eq (pm1.trans ((nat_perm ((useL_perm y).trans bs'.symm)).trans pm2.symm)) srt1 srt2
    rw [decide_eq_true en]
    have sG := s7.trans (s8.trans s9)
    have hwG3 := sG _ _ hwG
    walk_at "ss"
    refine ⟨F, w0, a, c.s, c.p, o2, y, rfl, ⟨dw, hwG3⟩, SG.same sG, ?_⟩
    walk_at "ss"
    rw [decide_eq_true (show (oe.sz : Int) = (y.size : Int) by rw [sz'])]
    walk_at "ss"
    exact q wi y o2 oe.wr G3 iwy dny szz (SG.same sG) ⟨dw, hwG3⟩ (sG _ _ gw) n3
theorem ok_law {P : Program} {w : World} {K : PySem.W.Frag} {mg : Str → Option Value} {base : Heap} {f : Addr} {fd : FuncData} (F : FunD K "law" "law" (defArgs s_law) (defBody s_law) (defScope s_law) [] [] f fd) (c_Store : Cls K (He.ga K "Store")) (h__law_busy : Kr.FnH P w K mg base CX0 3 "_law_busy" ["store"] (sp__law_busy K)) (h__law_digits : Kr.FnH P w K mg base CX0 1 "_law_digits" ["cell", "many"] (sp__law_digits K)) (h__law_parts : Kr.FnH P w K mg base CX0 1 "_law_parts" ["digits"] (sp__law_parts K)) (h__law_row_right : Kr.FnH P w K mg base CX0 6 "_law_row_right" ["store", "written"] (sp__law_row_right K)) (h__law_settings : Kr.FnH P w K mg base CX0 6 "_law_settings" ["parts"] (sp__law_settings K)) (m_Store_file_size : Kr.MtH P w K mg base CX0 1 (He.ga K "Store") "file_size" ["self"] (sp_Store_file_size K)) (mk_Store : Kr.MkH P w K mg base CX0 6 "Store" (He.ga K "Store") ["self", "settings"] (sp_Store___init__ K)) (n_int : mg "int" = none) (n_len : mg "len" = none) (n_max : mg "max" = none) (n_range : mg "range" = none) : FnOk P w K mg base CX0 8 f fd ["script"] (sp_law K) := by
  refine F.ok sc_law (fun vs H Q E h => by first | (obtain ⟨rfl, _⟩ := h; rfl) | (obtain ⟨_, rfl, _⟩ := h; rfl) | (obtain ⟨_, _, rfl, _⟩ := h; rfl) | (obtain ⟨_, _, _, rfl, _⟩ := h; rfl) | (obtain ⟨_, _, _, _, rfl, _⟩ := h; rfl) | (obtain ⟨_, _, _, _, _, rfl, _⟩ := h; rfl) | (obtain ⟨_, _, _, _, _, _, rfl, _⟩ := h; rfl) | (obtain ⟨_, _, _, _, _, _, _, rfl, _⟩ := h; rfl) | (obtain ⟨_, _, _, _, _, _, _, _, rfl, _⟩ := h; rfl) | (obtain ⟨_, _, _, _, _, _, _, _, _, rfl, _⟩ := h; rfl) | (obtain ⟨_, _, _, _, _, _, _, _, _, _, rfl, _⟩ := h; rfl) | (obtain ⟨_, _, _, _, _, _, _, _, _, _, _, rfl, _⟩ := h; rfl) | (obtain ⟨_, _, _, _, _, _, _, _, _, _, _, _, rfl, _⟩ := h; rfl) | (obtain ⟨_, _, _, _, _, _, _, _, _, _, _, _, _, rfl, _⟩ := h; rfl) | (obtain ⟨_, _, _, _, _, _, _, _, _, _, _, _, _, _, rfl, _⟩ := h; rfl) | (obtain ⟨_, _, _, _, _, _, _, _, _, _, _, _, _, _, _, rfl, _⟩ := h; rfl) | (obtain ⟨_, _, _, _, _, _, _, _, _, _, _, _, _, _, _, _, rfl, _⟩ := h; rfl) | (obtain ⟨_, _, _, _, _, _, _, _, _, _, _, _, _, _, _, _, _, rfl, _⟩ := h; rfl)) (fun cdv A outer s H vs Q E hr h => ?_)
  · have hu := hu_of hr
    obtain ⟨a, ns, rfl, hS, hl, q0⟩ := h
    refine ⟨_, PSs.nox (pss_cons (ps_for PassesOwn.never rfl (pi_list (pe_op Kr.op_catS (pe_slice sl_list (pv 0) po_none (po_some pe_int)) (pe_slice sl_list (pe_lst (pa_cons pe_int pa_nil)) (po_some (pe_callB (id := "len") Kr.c_len rfl n_len (by decide +kernel) (pa_cons (pv 0) pa_nil))) po_none))) (pg_name (i := 1) sc_law.nd rfl (.inl rfl)) (pss_cons (ps_set (i := 2) sc_law.nd rfl (.inl rfl) (Kr.pe_cl h__law_digits (hr.mono (by decide)) (pa_cons (pv 1) (pa_cons pe_int pa_nil)))) (pss_cons (ps_set (i := 3) sc_law.nd rfl (.inl rfl) (Kr.pe_mk mk_Store (hr.mono (by decide)) (pa_cons (Kr.pe_cl h__law_settings (hr.mono (by decide)) (pa_cons (Kr.pe_cl h__law_parts (hr.mono (by decide)) (pa_cons (pv 2) pa_nil)) pa_nil)) pa_nil))) (pss_cons (ps_par (i := 4) (j := 5) rfl sc_law.nd rfl rfl (by decide) rfl rfl (pa_cons (pe_lst pa_nil) (pa_cons pe_int pa_nil)) (by rfl)) (pss_cons (ps_for PassesOwn.never rfl (pi_range1 rfl n_range (pa_cons (pe_op op_add pe_int (pe_op op_mod (pe_callTy (T := "int") Kr.c_int1 rfl n_int (by decide +kernel) (pa_cons (pe_ix ix_list (pv 2) pe_int (fun _ _ => rfl)) pa_nil)) pe_int)) pa_nil)) (pg_name (i := 6) sc_law.nd rfl (.inl rfl)) (pss_cons (ps_set (i := 4) sc_law.nd rfl (.inl rfl) (Kr.pe_cl h__law_row_right (hr.mono (by decide)) (pa_cons (pv 3) (pa_cons (pv 4) pa_nil)))) (pss_cons (ps_if (pt_cmpR Kr.o_isN (pv 4) pe_non (nomark _)) (pss_one (ps_ret pe_bl)) pss_nil) (pss_one (ps_set (i := 5) sc_law.nd rfl (.inl rfl) (pe_callB (id := "max") (Kr.c_max2 rfl) rfl n_max (by decide +kernel) (pa_cons (pv 5) (pa_cons (pe_callB (id := "len") Kr.c_len rfl n_len (by decide +kernel) (pa_cons (Kr.pe_cl h__law_busy (hr.mono (by decide)) (pa_cons (pv 3) pa_nil)) pa_nil)) pa_nil)))))))) (pss_one (ps_if (pt_cmpR op_lt (Kr.pe_mt0 m_Store_file_size c_Store (hr.mono (by decide)) (pv 3)) (pv 5) (nomark _)) (pss_one (ps_ret pe_bl)) pss_nil))))))) (pss_one (ps_ret pe_bl))), ?_⟩
    rw [st_law]
    walk_at "ss"
    refine r_newS fun l1 H1 n1 s1 e1 => ?_
    have hS1 := s1.seq hS
    walk_at "ss"
    refine r_newS fun l2 H2 n2 s2 e2 => ?_
    have hS2 := s2.seq hS1
    walk_at "ss"
    refine r_newS fun l3 H3 n3 s3 e3 => ?_
    refine r_catS (SqL.of (s3 _ _ (s2 _ _ e1))) (SqL.of e3) (Nat.le_trans (Nat.add_le_add (cutV_length _ _ _) (cutV_length _ _ _)) (by rw [List.length_map]; simp; omega)) ?_
    refine r_newS fun l4 H4 n4 s4 e4 => ?_
    generalize hxs : cutV (ns.map V.int) _ _ ++ cutV [V.int 19] _ _ = xs at e4
    have cut_mem : ∀ {xs : List V} {lo hi : Option Int} {x : V}, x ∈ cutV xs lo hi → x ∈ xs := fun h => List.mem_of_mem_drop (List.mem_of_mem_take h)
    have allI : ∀ x ∈ xs, ∃ c : Int, x = V.int c := fun x hx => by
      rw [← hxs] at hx
      rcases List.mem_append.mp hx with hx | hx
      · obtain ⟨c, _, e⟩ := List.mem_map.mp (cut_mem hx)
        exact ⟨c, e.symm⟩
      · exact ⟨19, List.mem_singleton.mp (cut_mem hx)⟩
    walk_at "ss"
    refine r_forL (xs := xs) (fun i σ H' => ∃ y1 y2 y3 y4 y5 y6 : Option V, σ = [some (.ref a), y1, y2, y3, y4, y5, y6] ∧ H' l4 = some (.lst xs)) ⟨_, _, _, _, _, _, rfl, e4⟩ (fun i σ H' hi ⟨_, _, _, _, _, _, _, s5⟩ => SqL.of s5) ?_ ?_
    rotate_left
    · rintro σ H5 ⟨y1, y2, y3, y4, y5, y6, rfl, s5⟩
      walk_at "ss"
      exact q0 _
    rintro i x σ H5 hx ⟨y1, y2, y3, y4, y5, y6, rfl, el5⟩
    obtain ⟨c, rfl⟩ := allI x (List.mem_of_getElem? hx)
    walk_at "ss"
    refine ⟨c, rfl, fun dd H6 ds s6 n6 G6 => ?_⟩
    have el6 := s6 _ _ el5
    walk_at "ss"
    refine ⟨dd, ds, rfl, G6, fun p q ls sz fo re ev ke H7 s7 hp hq P ok z6 z3 => ?_⟩
    walk_at "ss"
    refine ⟨p, q, ls, sz, fo, re, ev, ke, rfl, P, ok, fun st H8 s8 n8 S8 => ?_⟩
    have el8 := s8 _ _ (s7 _ _ el6)
    have G8 := (G6.same s7).same s8
    obtain ⟨fo, rfl⟩ := Int.eq_ofNat_of_zero_le (show 0 ≤ fo by have := ok.fo; omega)
    obtain ⟨re, rfl⟩ := Int.eq_ofNat_of_zero_le (show 0 ≤ re by have := ok.re; omega)
    obtain ⟨ev, rfl⟩ := Int.eq_ofNat_of_zero_le (show 0 ≤ ev by have := ok.ev; omega)
    obtain ⟨ke, rfl⟩ := Int.eq_ofNat_of_zero_le (show 0 ≤ ke by have := ok.ke; omega)
    walk_at "ss"
    intro w0 px hw hpx npx
    have s88 : Same H8 (upd (upd H8 px (.own w0)) w0 (.ins (He.ga K "Store") px [])) := fun b u e => by
      rw [upd_ne (ne_of_none e hw), upd_ne (ne_of_none e hpx)]
      exact e
    refine ⟨w0, st, px, ls, sz, fo, re, ev, ke, rfl, upd_same, S8.same s88, ok, fun F as pk o H9 Z S9 W9 Fw kF oN => ?_⟩
    refine ⟨rfl, ?_⟩
    have elF : F l4 = some (.lst xs) := kF _ _ (ne_of_none el8 hw) (s88 _ _ el8)
    have GF : Dg F dd ds := ⟨kF _ _ (ne_of_none G8.l hw) (s88 _ _ G8.l), G8.n, G8.b⟩
    have cok : CfOk ⟨st, pk, ls, sz, fo, re, ev, ke⟩ := ⟨ok.toLensOk.pk, by have := ok.fo; dsimp only; omega, by have := ok.ke; dsimp only; omega⟩
    have iw0 := Iw.nil ⟨st, pk, ls, sz, fo, re, ev, ke⟩ cok
    walk_at "ss"
    refine r_newS fun lw H10 hlw s10 elw => ?_
    have S10 := S9.same s10
    have W10 : StoAt K H10 w0 as := by
      obtain ⟨dw, h⟩ := W9
      exact ⟨dw, s10 _ _ h⟩
    have nlw : lw ∉ as :: o.all := S9.nw hlw
    have G10 : Dg H10 dd ds := GF.same S10.fz
    have h9 := G10.at_ (z := 9) (by omega) (by omega)
    have hl10 := G10.l
    generalize ds.getD (9 : Int).toNat 0 = d9 at h9
    walk_at "ss"
    refine r_ixL (.of hl10) h9 ?_
    walk_at "ss"
    have d1 := Int.emod_nonneg d9 (show (201 : Int) ≠ 0 by decide)
    have d2 := Int.emod_lt_of_pos d9 (show (0 : Int) < 201 by decide)
    generalize hN : (100 + d9 % 201 : Int) = N
    have N0 : 0 ≤ N ∧ N ≤ 300 := by omega
    obtain ⟨N, rfl⟩ := Int.eq_ofNat_of_zero_le N0.1
    have ke1 : ke ≤ 100 := by have := ok.ke; omega
    have ev1 : 1 ≤ ev := by have := ok.ev; omega
    have ev2 : ev ≤ 40 := by have := ok.ev; omega
    walk_at "ss"
    refine r_forR (fun k σ G => ∃ (wi : Addr) (most : Nat) (y6 : Option V) (o : Ow) (x : St) (wr : List Nat), σ = [some (.ref a), some (.int c), some (.ref dd), some (.ref w0), some (.ref wi), some (.int (most : Nat)), y6] ∧ StAt K F G as st pk o x ∧ StoAt K G w0 as ∧ Iw ⟨st, pk, ls, sz, fo, re, ev, ke⟩ x wr ∧ x.done = k ∧ G wi = some (.lst (wr.map nI)) ∧ wi ∉ as :: o.all ∧ most ≤ x.size) ⟨lw, 0, _, o, _, [], rfl, S10, W10, iw0, rfl, elw, nlw, Nat.zero_le _⟩ ?_ ?_
    rotate_left
    · rintro σ G ⟨wi, most, y6, o', x', wr, rfl, Sg, Wg, iw, hd, gw, nwi, hm⟩
      obtain ⟨dg, hg⟩ := id Wg
      walk_at "ss"
      refine ⟨F, w0, as, st, pk, o', x', rfl, Wg, Sg, ?_⟩
      walk_at "ss"
      refine r_dec (fun z => by omega) fun _ => ?_
      walk_at "ss"
      exact ⟨_, _, _, _, _, _, rfl, Sg.fz _ _ elF⟩
    rintro k σ G hk ⟨wi, most, y6, o', x', wr, rfl, Sg, Wg, iw, hd, gw, nwi, hm⟩
    have hk : k < 301 := by omega
    obtain ⟨dg, hg⟩ := id Wg
    walk_at "ss"
    refine ⟨F, w0, as, wi, o', x', ⟨st, pk, ls, sz, fo, re, ev, ke⟩, wr, rfl, Wg, Z, Sg, gw, nwi, cok, ke1, ev1, ev2, iw, by omega, fun t y o2 wr2 G2 iw2 dn2 sz2 S2 W2 gt nt => ?_⟩
    have ul := (useL_perm y).length_eq
    have pl := pgs_len y
    have fl := iw2.fl
    have mx := iw2.mx
    obtain ⟨dg2, hg2⟩ := id W2
    walk_at "ss"
    refine ⟨rfl, ?_⟩
    walk_at "ss"
    rw [show decide (V.ref t = V.non) = false from decide_eq_false (by intro z; cases z)]
    walk_at "ss"
    refine ⟨F, w0, as, st, pk, o2, y, rfl, W2, S2, iw2.iv.ky.nn, by omega, fun tb G3 s3 htb etb => ?_⟩
    walk_at "ss"
    rw [List.length_map]
    walk_at "ss"
    have em : (if ((useL y).length : Int) > (most : Int) then ((useL y).length : Int) else (most : Int)) = ((max most (useL y).length : Nat) : Int) := by
      split <;> omega
    rw [em]
    refine ⟨t, _, _, o2, y, wr2, rfl, S2.same s3, ⟨dg2, s3 _ _ hg2⟩, iw2, by omega, s3 _ _ gt, nt, ?_⟩
    omega
theorem facts {P : Program} {w : World} {K : PySem.W.Frag} {h : Heap} {mg : Str → Option Value} {f : Addr} (X : K.In h) (G : h.Ns mainGlobals mg) (hfa : mg ("law" : Str) = some (.ref f)) (c : He.SaysD fa fn K) (e : ex K = true) :
    ∃ fd : FuncData, (∀ (s : Shared) (v : Value), BindsTo s fd ⟨[v], []⟩ [("script", v)]) ∧ ∀ base : Heap, K.In base → base.Ns mainGlobals mg → FnOk P w K mg base CX0 8 f fd ["script"] (sp_law K) := by
  have a_Packing__first : NoAttr K (He.ga K "Packing") "_first" := He.noat_ok (c.fact 0 (f := .noat "Packing" "_first") rfl)
  have a_Packing__last : NoAttr K (He.ga K "Packing") "_last" := He.noat_ok (c.fact 1 (f := .noat "Packing" "_last") rfl)
  have a_Packing__pages : NoAttr K (He.ga K "Packing") "_pages" := He.noat_ok (c.fact 2 (f := .noat "Packing" "_pages") rfl)
  have a_Packing__rows : NoAttr K (He.ga K "Packing") "_rows" := He.noat_ok (c.fact 3 (f := .noat "Packing" "_rows") rfl)
  have a_Packing__settings : NoAttr K (He.ga K "Packing") "_settings" := He.noat_ok (c.fact 4 (f := .noat "Packing" "_settings") rfl)
  have a_Packing__starts : NoAttr K (He.ga K "Packing") "_starts" := He.noat_ok (c.fact 5 (f := .noat "Packing" "_starts") rfl)
  have a_Settings_every : NoAttr K (He.ga K "Settings") "every" := He.noat_ok (c.fact 6 (f := .noat "Settings" "every") rfl)
  have a_Settings_fanout : NoAttr K (He.ga K "Settings") "fanout" := He.noat_ok (c.fact 7 (f := .noat "Settings" "fanout") rfl)
  have a_Settings_keep : NoAttr K (He.ga K "Settings") "keep" := He.noat_ok (c.fact 8 (f := .noat "Settings" "keep") rfl)
  have a_Settings_lengths : NoAttr K (He.ga K "Settings") "lengths" := He.noat_ok (c.fact 9 (f := .noat "Settings" "lengths") rfl)
  have a_Settings_records : NoAttr K (He.ga K "Settings") "records" := He.noat_ok (c.fact 10 (f := .noat "Settings" "records") rfl)
  have a_Settings_size : NoAttr K (He.ga K "Settings") "size" := He.noat_ok (c.fact 11 (f := .noat "Settings" "size") rfl)
  have a_State_after : NoAttr K (He.ga K "State") "after" := He.noat_ok (c.fact 12 (f := .noat "State" "after") rfl)
  have a_State_changed : NoAttr K (He.ga K "State") "changed" := He.noat_ok (c.fact 13 (f := .noat "State" "changed") rfl)
  have a_State_done : NoAttr K (He.ga K "State") "done" := He.noat_ok (c.fact 14 (f := .noat "State" "done") rfl)
  have a_State_first : NoAttr K (He.ga K "State") "first" := He.noat_ok (c.fact 15 (f := .noat "State" "first") rfl)
  have a_State_free : NoAttr K (He.ga K "State") "free" := He.noat_ok (c.fact 16 (f := .noat "State" "free") rfl)
  have a_State_heap : NoAttr K (He.ga K "State") "heap" := He.noat_ok (c.fact 17 (f := .noat "State" "heap") rfl)
  have a_State_log : NoAttr K (He.ga K "State") "log" := He.noat_ok (c.fact 18 (f := .noat "State" "log") rfl)
  have a_State_next_begin : NoAttr K (He.ga K "State") "next_begin" := He.noat_ok (c.fact 19 (f := .noat "State" "next_begin") rfl)
  have a_State_nodes : NoAttr K (He.ga K "State") "nodes" := He.noat_ok (c.fact 20 (f := .noat "State" "nodes") rfl)
  have a_State_oldest_end : NoAttr K (He.ga K "State") "oldest_end" := He.noat_ok (c.fact 21 (f := .noat "State" "oldest_end") rfl)
  have a_State_packing : NoAttr K (He.ga K "State") "packing" := He.noat_ok (c.fact 22 (f := .noat "State" "packing") rfl)
  have a_State_settings : NoAttr K (He.ga K "State") "settings" := He.noat_ok (c.fact 23 (f := .noat "State" "settings") rfl)
  have a_State_size : NoAttr K (He.ga K "State") "size" := He.noat_ok (c.fact 24 (f := .noat "State" "size") rfl)
  have a_State_waiting : NoAttr K (He.ga K "State") "waiting" := He.noat_ok (c.fact 25 (f := .noat "State" "waiting") rfl)
  have a_Store__state : NoAttr K (He.ga K "Store") "_state" := He.noat_ok (c.fact 26 (f := .noat "Store" "_state") rfl)
  have c_Packing : Cls K (He.ga K "Packing") := He.cls_ok (c.fact 27 (f := .cls "Packing") rfl)
  have c_Settings : Cls K (He.ga K "Settings") := He.cls_ok (c.fact 28 (f := .cls "Settings") rfl)
  have c_State : Cls K (He.ga K "State") := He.cls_ok (c.fact 29 (f := .cls "State") rfl)
  have c_Store : Cls K (He.ga K "Store") := He.cls_ok (c.fact 30 (f := .cls "Store") rfl)
  have g_MOST_FREE : ∃ t, mg "MOST_FREE" = some (.int 1000 t) := He.int_ok X G (c.fact 31 (f := .int "MOST_FREE" 1000) rfl)
  have g_MOST_LENGTHS : ∃ t, mg "MOST_LENGTHS" = some (.int 6 t) := He.int_ok X G (c.fact 32 (f := .int "MOST_LENGTHS" 6) rfl)
  have g_MOST_UNITS : ∃ t, mg "MOST_UNITS" = some (.int 64 t) := He.int_ok X G (c.fact 33 (f := .int "MOST_UNITS" 64) rfl)
  have g_ROWS : ∃ t, mg "ROWS" = some (.int 1000000000000000000000000000000 t) := He.int_ok X G (c.fact 34 (f := .int "ROWS" 1000000000000000000000000000000) rfl)
  have i_Settings : Kr.InsI K (He.ga K "Settings") := Kr.insB_ok (He.cls_ok (c.fact 28 (f := .cls "Settings") rfl)) (ex_at 0 e)
  have k_Settings : mg "Settings" = some (.ref (He.ga K "Settings")) := He.glo_ok X G (c.fact 35 (f := .glo "Settings") rfl)
  have n_all : mg "all" = none := He.free_ok X G (c.fact 36 (f := .free "all") rfl)
  have n_bool : mg "bool" = none := He.free_ok X G (c.fact 37 (f := .free "bool") rfl)
  have n_int : mg "int" = none := He.free_ok X G (c.fact 38 (f := .free "int") rfl)
  have n_isinstance : mg "isinstance" = none := He.free_ok X G (c.fact 39 (f := .free "isinstance") rfl)
  have n_len : mg "len" = none := He.free_ok X G (c.fact 40 (f := .free "len") rfl)
  have n_list : mg "list" = none := He.free_ok X G (c.fact 41 (f := .free "list") rfl)
  have n_max : mg "max" = none := He.free_ok X G (c.fact 42 (f := .free "max") rfl)
  have n_range : mg "range" = none := He.free_ok X G (c.fact 43 (f := .free "range") rfl)
  have n_sorted : mg "sorted" = none := He.free_ok X G (c.fact 44 (f := .free "sorted") rfl)
  have n_sum : mg "sum" = none := He.free_ok X G (c.fact 45 (f := .free "sum") rfl)
  have n_tuple : mg "tuple" = none := He.free_ok X G (c.fact 46 (f := .free "tuple") rfl)
  obtain ⟨fd0, F0⟩ := c.def_ 0 (d := d_is_from) rfl
  obtain ⟨fd1, F1⟩ := c.def_ 1 (d := d_is_within) rfl
  obtain ⟨fd2, F2⟩ := c.def_ 2 (d := d_check_number) rfl
  obtain ⟨fd3, F3⟩ := c.def_ 3 (d := d_check_moment) rfl
  obtain ⟨fd4, F4⟩ := c.def_ 4 (d := d_nodes_beyond) rfl
  obtain ⟨fd5, F5⟩ := c.def_ 5 (d := d_heap_list) rfl
  obtain ⟨fd6, F6⟩ := c.def_ 6 (d := d_node_list) rfl
  obtain ⟨fd7, F7⟩ := c.def_ 7 (d := d_root_of) rfl
  obtain ⟨fd8, F8⟩ := c.def_ 8 (d := d_free_list) rfl
  obtain ⟨fd9, F9⟩ := c.def_ 9 (d := d_are_lengths) rfl
  obtain ⟨fd10, F10⟩ := c.def_ 10 (d := d_bounds_behind) rfl
  obtain ⟨fd11, F11⟩ := c.def_ 11 (d := d_Settings___init__) rfl
  obtain ⟨fd12, F12⟩ := c.def_ 12 (d := d_check_settings) rfl
  obtain ⟨fd13, F13⟩ := c.def_ 13 (d := d_rows_from) rfl
  obtain ⟨fd14, F14⟩ := c.def_ 14 (d := d_Packing_page_with) rfl
  obtain ⟨fd15, F15⟩ := c.def_ 15 (d := d_Packing___init__) rfl
  obtain ⟨fd16, F16⟩ := c.def_ 16 (d := d_Packing_begun) rfl
  obtain ⟨fd17, F17⟩ := c.def_ 17 (d := d_Packing_start_of) rfl
  obtain ⟨fd18, F18⟩ := c.def_ 18 (d := d_State___init__) rfl
  obtain ⟨fd19, F19⟩ := c.def_ 19 (d := d_do_checkpoint) rfl
  obtain ⟨fd20, F20⟩ := c.def_ 20 (d := d_change_parents) rfl
  obtain ⟨fd21, F21⟩ := c.def_ 21 (d := d_give_back) rfl
  obtain ⟨fd22, F22⟩ := c.def_ 22 (d := d_expire) rfl
  obtain ⟨fd23, F23⟩ := c.def_ 23 (d := d_take_page) rfl
  obtain ⟨fd24, F24⟩ := c.def_ 24 (d := d_begin_heap_page) rfl
  obtain ⟨fd25, F25⟩ := c.def_ 25 (d := d_put_row) rfl
  obtain ⟨fd26, F26⟩ := c.def_ 26 (d := d_write_to_log) rfl
  obtain ⟨fd27, F27⟩ := c.def_ 27 (d := d_do_row) rfl
  obtain ⟨fd28, F28⟩ := c.def_ 28 (d := d_Store___init__) rfl
  obtain ⟨fd29, F29⟩ := c.def_ 29 (d := d_Store_step) rfl
  obtain ⟨fd30, F30⟩ := c.def_ 30 (d := d_Store_heap_pages) rfl
  obtain ⟨fd31, F31⟩ := c.def_ 31 (d := d_Store_node_pages) rfl
  obtain ⟨fd32, F32⟩ := c.def_ 32 (d := d_Store_root) rfl
  obtain ⟨fd33, F33⟩ := c.def_ 33 (d := d_Store_log_pages) rfl
  obtain ⟨fd34, F34⟩ := c.def_ 34 (d := d_Store_waiting_pages) rfl
  obtain ⟨fd35, F35⟩ := c.def_ 35 (d := d_Store_free_pages) rfl
  obtain ⟨fd36, F36⟩ := c.def_ 36 (d := d_Store_file_size) rfl
  obtain ⟨fd37, F37⟩ := c.def_ 37 (d := d__law_digits) rfl
  obtain ⟨fd38, F38⟩ := c.def_ 38 (d := d__law_parts) rfl
  obtain ⟨fd39, F39⟩ := c.def_ 39 (d := d__law_settings) rfl
  obtain ⟨fd40, F40⟩ := c.def_ 40 (d := d__law_busy) rfl
  obtain ⟨fd41, F41⟩ := c.def_ 41 (d := d__law_row_right) rfl
  obtain ⟨fd42, F42⟩ := c.def_ 42 (d := d_law) rfl
  have eq := hfa.symm.trans (He.glo_ok X G (c.fact 92 (f := .glo "law") rfl))
  cases eq
  have bl := FunD.bindsA (ps := ["script"]) F42 fun _ _ _ _ _ _ us hl => match us, hl with | [_], _ => rfl
  refine ⟨fd42, fun s v => bl s [v] rfl, fun base _ _ => ?_⟩
  have h_is_from : Kr.FnH P w K mg base CX0 1 "is_from" ["number", "least"] (sp_is_from K) := Kr.FnH.of F0 (He.glo_ok X G (c.fact 47 (f := .glo "is_from") rfl)) (F0.bindsN fun _ _ _ _ _ _ us hl => match us, hl with | [_, _], _ => rfl) (ok_is_from F0 n_bool n_int n_isinstance)
  have h_is_within : Kr.FnH P w K mg base CX0 2 "is_within" ["number", "least", "most"] (sp_is_within K) := Kr.FnH.of F1 (He.glo_ok X G (c.fact 48 (f := .glo "is_within") rfl)) (F1.bindsN fun _ _ _ _ _ _ us hl => match us, hl with | [_, _, _], _ => rfl) (ok_is_within F1 h_is_from)
  have h_check_number : Kr.FnH P w K mg base CX0 3 "check_number" ["number", "least", "most"] (sp_check_number K) := Kr.FnH.of F2 (He.glo_ok X G (c.fact 49 (f := .glo "check_number") rfl)) (F2.bindsN fun _ _ _ _ _ _ us hl => match us, hl with | [_, _, _], _ => rfl) (ok_check_number F2 h_is_within)
  have h_check_moment : Kr.FnH P w K mg base CX0 4 "check_moment" ["moment"] (sp_check_moment K) := Kr.FnH.of F3 (He.glo_ok X G (c.fact 50 (f := .glo "check_moment") rfl)) (F3.bindsN fun _ _ _ _ _ _ us hl => match us, hl with | [_], _ => rfl) (ok_check_moment F3 g_ROWS h_check_number)
  have h_nodes_beyond : Kr.FnH P w K mg base CX0 1 "nodes_beyond" ["fanout", "first", "last", "low", "high"] (sp_nodes_beyond K) := Kr.FnH.of F4 (He.glo_ok X G (c.fact 51 (f := .glo "nodes_beyond") rfl)) (F4.bindsN fun _ _ _ _ _ _ us hl => match us, hl with | [_, _, _, _, _], _ => rfl) (ok_nodes_beyond F4 n_len)
  have h_heap_list : Kr.FnH P w K mg base CX0 1 "heap_list" ["state"] (sp_heap_list K) := Kr.FnH.of F5 (He.glo_ok X G (c.fact 52 (f := .glo "heap_list") rfl)) (F5.bindsN fun _ _ _ _ _ _ us hl => match us, hl with | [_], _ => rfl) (ok_heap_list F5 a_State_heap c_State n_list)
  have h_node_list : Kr.FnH P w K mg base CX0 1 "node_list" ["state"] (sp_node_list K) := Kr.FnH.of F6 (He.glo_ok X G (c.fact 53 (f := .glo "node_list") rfl)) (F6.bindsN fun _ _ _ _ _ _ us hl => match us, hl with | [_], _ => rfl) (ok_node_list F6 a_State_nodes c_State n_sorted)
  have h_root_of : Kr.FnH P w K mg base CX0 2 "root_of" ["state"] (sp_root_of K) := Kr.FnH.of F7 (He.glo_ok X G (c.fact 54 (f := .glo "root_of") rfl)) (F7.bindsN fun _ _ _ _ _ _ us hl => match us, hl with | [_], _ => rfl) (ok_root_of F7 a_State_nodes c_State h_node_list)
  have h_free_list : Kr.FnH P w K mg base CX0 4 "free_list" ["state", "count"] (sp_free_list K) := Kr.FnH.of F8 (He.glo_ok X G (c.fact 55 (f := .glo "free_list") rfl)) (F8.bindsN fun _ _ _ _ _ _ us hl => match us, hl with | [_, _], _ => rfl) (ok_free_list F8 a_State_free a_State_size c_State g_MOST_FREE h_check_number n_len n_list n_max n_range)
  have h_are_lengths : Kr.FnH P w K mg base CX0 3 "are_lengths" ["lengths"] (sp_are_lengths K) := Kr.FnH.of F9 (He.glo_ok X G (c.fact 56 (f := .glo "are_lengths") rfl)) (F9.bindsN fun _ _ _ _ _ _ us hl => match us, hl with | [_], _ => rfl) (ok_are_lengths F9 g_MOST_LENGTHS g_MOST_UNITS h_is_within n_all n_isinstance n_len n_list)
  have h_bounds_behind : Kr.FnH P w K mg base CX0 1 "bounds_behind" ["lengths"] (sp_bounds_behind K) := Kr.FnH.of F10 (He.glo_ok X G (c.fact 57 (f := .glo "bounds_behind") rfl)) (F10.bindsN fun _ _ _ _ _ _ us hl => match us, hl with | [_], _ => rfl) (ok_bounds_behind F10 g_MOST_UNITS n_max)
  have mk_Settings : Kr.MkK P w K mg base CX0 4 "Settings" (He.ga K "Settings") ["self", "lengths", "size", "fanout", "records", "every", "keep"] 3 ["fanout", "records", "every", "keep"] (sp_Settings___init__ K) := Kr.MkK.of (He.glo_ok X G (c.fact 35 (f := .glo "Settings") rfl)) (He.mkr_ok (c.fact 58 (f := .mkr "Settings") rfl)) (Kr.kbn_all F11 3 ["fanout", "records", "every", "keep"] fun _ _ _ _ _ _ us ws h1 h2 => match us, ws, h1, h2 with | [_, _, _], [_, _, _, _], _, _ => rfl) (ok_Settings___init__ F11 a_Settings_every a_Settings_fanout a_Settings_keep a_Settings_lengths a_Settings_records a_Settings_size c_Settings h_are_lengths h_bounds_behind h_is_within n_tuple)
  have h_check_settings : Kr.FnH P w K mg base CX0 1 "check_settings" ["settings"] (sp_check_settings K) := Kr.FnH.of F12 (He.glo_ok X G (c.fact 59 (f := .glo "check_settings") rfl)) (F12.bindsN fun _ _ _ _ _ _ us hl => match us, hl with | [_], _ => rfl) (ok_check_settings F12 i_Settings k_Settings n_isinstance)
  have h_rows_from : Kr.FnH P w K mg base CX0 1 "rows_from" ["settings", "row"] (sp_rows_from K) := Kr.FnH.of F13 (He.glo_ok X G (c.fact 60 (f := .glo "rows_from") rfl)) (F13.bindsN fun _ _ _ _ _ _ us hl => match us, hl with | [_, _], _ => rfl) (ok_rows_from F13 a_Settings_lengths a_Settings_size c_Settings n_len n_sum)
  have m_Packing_page_with : Kr.MtH P w K mg base CX0 1 (He.ga K "Packing") "page_with" ["self", "row"] (sp_Packing_page_with K) := Kr.MtH.of (He.meth_ok (c.fact 61 (f := .meth "Packing" "page_with") rfl)) (F14.bindsN fun _ _ _ _ _ _ us hl => match us, hl with | [_, _], _ => rfl) (ok_Packing_page_with F14 a_Packing__first a_Packing__pages a_Packing__rows a_Packing__starts c_Packing n_max)
  have mk_Packing : Kr.MkH P w K mg base CX0 2 "Packing" (He.ga K "Packing") ["self", "settings"] (sp_Packing___init__ K) := Kr.MkH.of (He.glo_ok X G (c.fact 63 (f := .glo "Packing") rfl)) (He.mkr_ok (c.fact 62 (f := .mkr "Packing") rfl)) (F15.bindsN fun _ _ _ _ _ _ us hl => match us, hl with | [_, _], _ => rfl) (ok_Packing___init__ F15 a_Packing__first a_Packing__last a_Packing__pages a_Packing__rows a_Packing__settings a_Packing__starts a_Settings_lengths c_Packing c_Settings g_ROWS h_check_settings h_rows_from m_Packing_page_with n_len)
  have m_Packing_begun : Kr.MtH P w K mg base CX0 5 (He.ga K "Packing") "begun" ["self", "moment"] (sp_Packing_begun K) := Kr.MtH.of (He.meth_ok (c.fact 64 (f := .meth "Packing" "begun") rfl)) (F16.bindsN fun _ _ _ _ _ _ us hl => match us, hl with | [_, _], _ => rfl) (ok_Packing_begun F16 c_Packing h_check_moment m_Packing_page_with)
  have m_Packing_start_of : Kr.MtH P w K mg base CX0 1 (He.ga K "Packing") "start_of" ["self", "page"] (sp_Packing_start_of K) := Kr.MtH.of (He.meth_ok (c.fact 65 (f := .meth "Packing" "start_of") rfl)) (F17.bindsN fun _ _ _ _ _ _ us hl => match us, hl with | [_, _], _ => rfl) (ok_Packing_start_of F17 a_Packing__first a_Packing__pages a_Packing__rows a_Packing__starts c_Packing n_max)
  have mk_State : Kr.MkH P w K mg base CX0 4 "State" (He.ga K "State") ["self", "settings"] (sp_State___init__ K) := Kr.MkH.of (He.glo_ok X G (c.fact 67 (f := .glo "State") rfl)) (He.mkr_ok (c.fact 66 (f := .mkr "State") rfl)) (F18.bindsN fun _ _ _ _ _ _ us hl => match us, hl with | [_, _], _ => rfl) (ok_State___init__ F18 a_State_after a_State_changed a_State_done a_State_first a_State_free a_State_heap a_State_log a_State_next_begin a_State_nodes a_State_oldest_end a_State_packing a_State_settings a_State_size a_State_waiting c_Packing c_Settings c_State m_Packing_start_of mk_Packing)
  have h_do_checkpoint : Kr.FnH P w K mg base CX0 1 "do_checkpoint" ["state", "events"] (sp_do_checkpoint K) := Kr.FnH.of F19 (He.glo_ok X G (c.fact 68 (f := .glo "do_checkpoint") rfl)) (F19.bindsN fun _ _ _ _ _ _ us hl => match us, hl with | [_, _], _ => rfl) (ok_do_checkpoint F19 a_State_changed a_State_free a_State_log a_State_waiting c_State n_sorted)
  have h_change_parents : Kr.FnH P w K mg base CX0 1 "change_parents" ["state", "number", "nodes"] (sp_change_parents K) := Kr.FnH.of F20 (He.glo_ok X G (c.fact 69 (f := .glo "change_parents") rfl)) (F20.bindsN fun _ _ _ _ _ _ us hl => match us, hl with | [_, _, _], _ => rfl) (ok_change_parents F20 a_Settings_fanout a_State_changed a_State_nodes a_State_settings c_Settings c_State)
  have h_give_back : Kr.FnH P w K mg base CX0 1 "give_back" ["state", "page", "role", "events"] (sp_give_back K) := Kr.FnH.of F21 (He.glo_ok X G (c.fact 70 (f := .glo "give_back") rfl)) (F21.bindsN fun _ _ _ _ _ _ us hl => match us, hl with | [_, _, _, _], _ => rfl) (ok_give_back F21 a_State_changed a_State_waiting c_State)
  have h_expire : Kr.FnH P w K mg base CX0 2 "expire" ["state", "events"] (sp_expire K) := Kr.FnH.of F22 (He.glo_ok X G (c.fact 71 (f := .glo "expire") rfl)) (F22.bindsN fun _ _ _ _ _ _ us hl => match us, hl with | [_, _], _ => rfl) (ok_expire F22 a_Settings_fanout a_Settings_keep a_State_after a_State_done a_State_first a_State_heap a_State_nodes a_State_oldest_end a_State_packing a_State_settings c_Packing c_Settings c_State h_change_parents h_give_back h_nodes_beyond m_Packing_start_of)
  have h_take_page : Kr.FnH P w K mg base CX0 1 "take_page" ["state", "role", "events"] (sp_take_page K) := Kr.FnH.of F23 (He.glo_ok X G (c.fact 72 (f := .glo "take_page") rfl)) (F23.bindsN fun _ _ _ _ _ _ us hl => match us, hl with | [_, _, _], _ => rfl) (ok_take_page F23 a_State_free a_State_size c_State)
  have h_begin_heap_page : Kr.FnH P w K mg base CX0 2 "begin_heap_page" ["state", "events"] (sp_begin_heap_page K) := Kr.FnH.of F24 (He.glo_ok X G (c.fact 73 (f := .glo "begin_heap_page") rfl)) (F24.bindsN fun _ _ _ _ _ _ us hl => match us, hl with | [_, _], _ => rfl) (ok_begin_heap_page F24 a_Settings_fanout a_State_after a_State_changed a_State_first a_State_heap a_State_next_begin a_State_nodes a_State_packing a_State_settings c_Packing c_Settings c_State h_change_parents h_nodes_beyond h_take_page m_Packing_start_of)
  have h_put_row : Kr.FnH P w K mg base CX0 3 "put_row" ["state", "events"] (sp_put_row K) := Kr.FnH.of F25 (He.glo_ok X G (c.fact 74 (f := .glo "put_row") rfl)) (F25.bindsN fun _ _ _ _ _ _ us hl => match us, hl with | [_, _], _ => rfl) (ok_put_row F25 a_State_after a_State_changed a_State_done a_State_heap a_State_next_begin c_State h_begin_heap_page)
  have h_write_to_log : Kr.FnH P w K mg base CX0 2 "write_to_log" ["state", "events"] (sp_write_to_log K) := Kr.FnH.of F26 (He.glo_ok X G (c.fact 75 (f := .glo "write_to_log") rfl)) (F26.bindsN fun _ _ _ _ _ _ us hl => match us, hl with | [_, _], _ => rfl) (ok_write_to_log F26 a_Settings_every a_Settings_records a_State_done a_State_log a_State_settings c_Settings c_State h_take_page)
  have h_do_row : Kr.FnH P w K mg base CX0 4 "do_row" ["state"] (sp_do_row K) := Kr.FnH.of F27 (He.glo_ok X G (c.fact 76 (f := .glo "do_row") rfl)) (F27.bindsN fun _ _ _ _ _ _ us hl => match us, hl with | [_], _ => rfl) (ok_do_row F27 a_Settings_every a_State_done a_State_settings c_Settings c_State h_do_checkpoint h_expire h_put_row h_write_to_log)
  have mk_Store : Kr.MkH P w K mg base CX0 6 "Store" (He.ga K "Store") ["self", "settings"] (sp_Store___init__ K) := Kr.MkH.of (He.glo_ok X G (c.fact 78 (f := .glo "Store") rfl)) (He.mkr_ok (c.fact 77 (f := .mkr "Store") rfl)) (F28.bindsN fun _ _ _ _ _ _ us hl => match us, hl with | [_, _], _ => rfl) (ok_Store___init__ F28 a_Store__state c_State c_Store h_check_settings mk_State)
  have m_Store_step : Kr.MtH P w K mg base CX0 5 (He.ga K "Store") "step" ["self"] (sp_Store_step K) := Kr.MtH.of (He.meth_ok (c.fact 79 (f := .meth "Store" "step") rfl)) (F29.bindsN fun _ _ _ _ _ _ us hl => match us, hl with | [_], _ => rfl) (ok_Store_step F29 a_Store__state c_Store h_do_row)
  have m_Store_heap_pages : Kr.MtH P w K mg base CX0 2 (He.ga K "Store") "heap_pages" ["self"] (sp_Store_heap_pages K) := Kr.MtH.of (He.meth_ok (c.fact 80 (f := .meth "Store" "heap_pages") rfl)) (F30.bindsN fun _ _ _ _ _ _ us hl => match us, hl with | [_], _ => rfl) (ok_Store_heap_pages F30 a_Store__state c_Store h_heap_list)
  have m_Store_node_pages : Kr.MtH P w K mg base CX0 2 (He.ga K "Store") "node_pages" ["self"] (sp_Store_node_pages K) := Kr.MtH.of (He.meth_ok (c.fact 81 (f := .meth "Store" "node_pages") rfl)) (F31.bindsN fun _ _ _ _ _ _ us hl => match us, hl with | [_], _ => rfl) (ok_Store_node_pages F31 a_Store__state c_Store h_node_list)
  have m_Store_root : Kr.MtH P w K mg base CX0 3 (He.ga K "Store") "root" ["self"] (sp_Store_root K) := Kr.MtH.of (He.meth_ok (c.fact 82 (f := .meth "Store" "root") rfl)) (F32.bindsN fun _ _ _ _ _ _ us hl => match us, hl with | [_], _ => rfl) (ok_Store_root F32 a_Store__state c_Store h_root_of)
  have m_Store_log_pages : Kr.MtH P w K mg base CX0 1 (He.ga K "Store") "log_pages" ["self"] (sp_Store_log_pages K) := Kr.MtH.of (He.meth_ok (c.fact 83 (f := .meth "Store" "log_pages") rfl)) (F33.bindsN fun _ _ _ _ _ _ us hl => match us, hl with | [_], _ => rfl) (ok_Store_log_pages F33 a_State_log a_Store__state c_State c_Store n_list)
  have m_Store_waiting_pages : Kr.MtH P w K mg base CX0 1 (He.ga K "Store") "waiting_pages" ["self"] (sp_Store_waiting_pages K) := Kr.MtH.of (He.meth_ok (c.fact 84 (f := .meth "Store" "waiting_pages") rfl)) (F34.bindsN fun _ _ _ _ _ _ us hl => match us, hl with | [_], _ => rfl) (ok_Store_waiting_pages F34 a_State_waiting a_Store__state c_State c_Store n_list)
  have m_Store_free_pages : Kr.MtH P w K mg base CX0 5 (He.ga K "Store") "free_pages" ["self", "count"] (sp_Store_free_pages K) := Kr.MtH.of (He.meth_ok (c.fact 85 (f := .meth "Store" "free_pages") rfl)) (F35.bindsN fun _ _ _ _ _ _ us hl => match us, hl with | [_, _], _ => rfl) (ok_Store_free_pages F35 a_Store__state c_Store h_free_list)
  have m_Store_file_size : Kr.MtH P w K mg base CX0 1 (He.ga K "Store") "file_size" ["self"] (sp_Store_file_size K) := Kr.MtH.of (He.meth_ok (c.fact 86 (f := .meth "Store" "file_size") rfl)) (F36.bindsN fun _ _ _ _ _ _ us hl => match us, hl with | [_], _ => rfl) (ok_Store_file_size F36 a_State_size a_Store__state c_State c_Store)
  have h__law_digits : Kr.FnH P w K mg base CX0 1 "_law_digits" ["cell", "many"] (sp__law_digits K) := Kr.FnH.of F37 (He.glo_ok X G (c.fact 87 (f := .glo "_law_digits") rfl)) (F37.bindsN fun _ _ _ _ _ _ us hl => match us, hl with | [_, _], _ => rfl) (ok__law_digits F37 n_int n_range)
  have h__law_parts : Kr.FnH P w K mg base CX0 1 "_law_parts" ["digits"] (sp__law_parts K) := Kr.FnH.of F38 (He.glo_ok X G (c.fact 88 (f := .glo "_law_parts") rfl)) (F38.bindsN fun _ _ _ _ _ _ us hl => match us, hl with | [_], _ => rfl) (ok__law_parts F38 n_int n_range)
  have h__law_settings : Kr.FnH P w K mg base CX0 6 "_law_settings" ["parts"] (sp__law_settings K) := Kr.FnH.of F39 (He.glo_ok X G (c.fact 89 (f := .glo "_law_settings") rfl)) (F39.bindsN fun _ _ _ _ _ _ us hl => match us, hl with | [_], _ => rfl) (ok__law_settings F39 mk_Settings)
  have h__law_busy : Kr.FnH P w K mg base CX0 3 "_law_busy" ["store"] (sp__law_busy K) := Kr.FnH.of F40 (He.glo_ok X G (c.fact 90 (f := .glo "_law_busy") rfl)) (F40.bindsN fun _ _ _ _ _ _ us hl => match us, hl with | [_], _ => rfl) (ok__law_busy F40 c_Store m_Store_heap_pages m_Store_log_pages m_Store_node_pages m_Store_waiting_pages)
  have h__law_row_right : Kr.FnH P w K mg base CX0 6 "_law_row_right" ["store", "written"] (sp__law_row_right K) := Kr.FnH.of F41 (He.glo_ok X G (c.fact 91 (f := .glo "_law_row_right") rfl)) (F41.bindsN fun _ _ _ _ _ _ us hl => match us, hl with | [_, _], _ => rfl) (ok__law_row_right F41 c_Store h__law_busy m_Store_file_size m_Store_free_pages m_Store_step n_int n_len n_list n_range n_sorted)
  exact ok_law F42 c_Store h__law_busy h__law_digits h__law_parts h__law_row_right h__law_settings m_Store_file_size mk_Store n_int n_len n_max n_range
end Kw
section
open PyProof.Rows PySem PySem.Calls PySem.W
theorem PySem.Challenge.cw_keeprows_k32_whole_one_role_for_each_pag_holds : PySem.Challenge.rw_keeprows_k32_whole_one_role_for_each_pag.Holds := by
  w_on; o_law
  refine HandSHeadRun.head_any (r := Kw.R0) (q := view Kw.R0.prog [50]) (H := Kw.hk) (ob := Kw.ob) (M := 6000) (loose := Kw.loose) (d := HandSHeadRun.topDef Kw.R0.prog 50) (kwd := []) Kw.ob_eq
    (by kernel_rfl) (fun s => by kernel_rfl) Kw.runs (by kernel_rfl) (by kernel_rfl) (by kernel_rfl) (by rfl) (by first | assumption | decide +kernel) (by decide +kernel) ⟨rfl, rfl, rfl, rfl, rfl, by decide +kernel⟩ ?hw ?hc
  case hw =>
    w_witness2
  case hc =>
    refine L2.walk_ofE (l := PySem.Challenge.rw_keeprows_k32_whole_one_role_for_each_pag) (n := 63) (k := 8) (x := "script") (CX := L2.CX0) rfl (by decide) (by kernel_rfl) ⟨rfl, by decide, by decide⟩ ?F (fun _ _ _ _ z => z)
    intro w mg fa h Y G hmg0
    obtain ⟨K, KX, c, e⟩ := Y
    have hmg : mg ("law" : PySem.Str) = some (.ref fa) := by
      have en : (HandSHeadRun.topDef Kw.R0.prog 50).name = ("law" : PySem.Str) := by kernel_rfl
      rw [← en]
      exact hmg0
    obtain ⟨fd, hb, hF⟩ := Kw.facts (P := (PySem.Challenge.rw_keeprows_k32_whole_one_role_for_each_pag).prog) (w := w) KX G hmg c e
    exact ⟨K, fd, Kw.sp_law K, KX, hb, fun H a ns hl _ hS => ⟨a, ns, rfl, hS, hl, fun _ => rfl⟩, hF⟩
end

