import PyProof.Rows.All
import Wide.All
import OpenK.AllK
import Wide.FinOn
import HandS.Base
import HandS.Call
import HandS.List
import HandS.Comp
import HandS.Dict
import HandS.Iter
import HandS.Ends
import HandS.Words
import HandS.WordsList
import HandS.WordsDict
import HandS.Wide
import HandS.IsInst
import HandS.Defaults
import HandS.MakeKw
import HandS.MakeKwOnly
import HandS.Head0
import HandS.Head1
import HandS.Head2
import HandS.HeadEnd
import HandS.HeadHook1
import HandS.HeadHook2
import HandS.Style
import HandS.Conv
import PyProof.Rows.SeqMore
import HandS.TryOnly
import KE.KDictList
import HandS.Text
import HandS.DictComp
import HandS.Codes
import HandS.ExcInit
import HandS.TryMany
import HandS.ExcIs
import HandS.ExcField
import KE.KExcInit
import HandS.ExcOwn
import HandS.Lambda
import HandS.EndTab
import HandS.HeadHook4
import KE.KNestM
import HandS.HeadWalk
import HandS.Gcd
import HandS.WideMore
import HandS.SetFor
import HandS.SortInts
import HandS.Strs
import HandS.WordsExc
import HandS.Head3
import PySem.Challenge.RW_keeprows_k85_whole_heights_far_away
set_option Elab.async false
set_option linter.all false
set_option maxRecDepth 100000
set_option maxHeartbeats 8000000

namespace Kr
open L2 PySem PySem.Spec PyProof.Rows

/-! ### a def of the text, called by its name -/
section
variable (P : Program) (w : World) (K : PySem.W.Frag) (mg : Str → Option Value) (base : Heap) (CX : CXT) (k : Nat)
def FnH (x : Str) (ps : List Str) (sp : Sp) : Prop := ∃ (f : Addr) (fd : FuncData), mg x = some (.ref f) ∧ PySem.W.keepIn K (.ref f) = true ∧ Binds K fd ps [] ∧ FnOk P w K mg base CX k f fd ps sp
def MtH (C : Addr) (m : Str) (ps : List Str) (sp : Sp) : Prop := ∃ (f : Addr) (fd : FuncData), Meth K C m f ∧ Binds K fd ps [] ∧ FnOk P w K mg base CX k f fd ps sp
/-- the class of the module's name x is made by positional values -/
def MkH (x : Str) (C : Addr) (ps : List Str) (sp : Sp) : Prop := ∃ (f : Addr) (fd : FuncData), mg x = some (.ref C) ∧ Mk K C f ∧ Binds K fd ps [] ∧ FnOk P w K mg base CX k f fd ps sp
/-- the class is made by n positional values (self counted) and keywords ks -/
def MkK (x : Str) (C : Addr) (ps : List Str) (n : Nat) (ks : List Str) (sp : Sp) : Prop := ∃ (f : Addr) (fd : FuncData), mg x = some (.ref C) ∧ Mk K C f ∧ KBn K fd ps n ks (fun us ws => us ++ ws) (fun vs zs => vs ++ zs) ∧ FnOk P w K mg base CX k f fd ps sp
end
section
variable {X : Cx} {CX : CXT} {k n : Nat} {C : Addr} {ps ks : List Str} {sp : Sp} {E : XK} {x m : Str} {p pos apos : Pos} {e o : Expr} {es : List Expr} {kws : List Keyword} {t tk : TA} {ta : TE}
theorem pe_clE (h : FnH X.prog X.w X.K X.mg X.base CX k x ps sp) (hr : Room k X.A) (hx : Passes CX X E) (ha : PA X (e :: es) t) (hg : Gl X x := by rfl) (hdb : (x == ("__debug__" : Str)) = false := by decide)
    (he : starEach (e :: es) X.env = (false, eval e X.env) :: starEach es X.env := by rfl) (hpl : (backTo pos (starEach es X.env)).any (·.1) = false := by rfl) : PE X (.Call (.Name x p) (e :: es) [] pos) (tCall sp [] E t) := by
  obtain ⟨f, fd, hm, hk, hb, F⟩ := h
  exact pe_call F hr hg hm hk hb .nil hx ha hdb he hpl
theorem pe_cl (h : FnH X.prog X.w X.K X.mg X.base CX0 k x ps sp) (hr : Room k X.A) (ha : PA X (e :: es) t) (hg : Gl X x := by rfl) (hdb : (x == ("__debug__" : Str)) = false := by decide)
    (he : starEach (e :: es) X.env = (false, eval e X.env) :: starEach es X.env := by rfl) (hpl : (backTo pos (starEach es X.env)).any (·.1) = false := by rfl) : PE X (.Call (.Name x p) (e :: es) [] pos) (tCall sp [] E0 t) :=
  pe_clE h hr pass0 ha hg hdb he hpl
theorem pe_mt (h : MtH X.prog X.w X.K X.mg X.base CX0 k C m ps sp) (c : Cls X.K C) (hr : Room k X.A) (he : PE X o ta) (ha : PA X (e :: es) t) {pl : Sem Bool}
    (hst : starEach (e :: es) X.env = (false, eval e X.env) :: starEach es X.env := by rfl) (hpl : (backTo pos (starEach es X.env)).any (·.1) = false := by rfl)
    (ht : eval (.Call (.Attribute o m apos) (e :: es) [] pos) X.env = (do
      let ov ← eval o X.env
      standAt apos.atName
      let (f, first) ← holding [ov] (getMethod ov m pl)
      callWith pos f first (backTo pos (starEach (e :: es) X.env)) (backToKw pos (keywordEach [] X.env))) := by rfl) :
    PE X (.Call (.Attribute o m apos) (e :: es) [] pos) (tMeth C m sp [] E0 ta t) := by
  obtain ⟨f, fd, hm, hb, F⟩ := h
  exact pe_meth he c hm F hr hb .nil pass0 ha hst hpl ht
theorem pe_mt0 (h : MtH X.prog X.w X.K X.mg X.base CX0 k C m ps sp) (c : Cls X.K C) (hr : Room k X.A) (he : PE X o ta) {pl : Sem Bool}
    (ht : eval (.Call (.Attribute o m apos) [] [] pos) X.env = (do
      let ov ← eval o X.env
      standAt apos.atName
      let (f, first) ← holding [ov] (getMethod ov m pl)
      callWith pos f first (backTo pos (starEach [] X.env)) (backToKw pos (keywordEach [] X.env))) := by rfl) :
    PE X (.Call (.Attribute o m apos) [] [] pos) (tMeth C m sp [] E0 ta tNil) := by
  obtain ⟨f, fd, hm, hb, F⟩ := h
  exact pe_meth0 he c hm F hr hb .nil pass0 ht
theorem pe_mk (h : MkH X.prog X.w X.K X.mg X.base CX0 k x C ps sp) (hr : Room (k + 1) X.A) (ha : PA X (e :: es) t) (hg : Gl X x := by rfl) (hdb : (x == ("__debug__" : Str)) = false := by decide)
    (he : starEach (e :: es) X.env = (false, eval e X.env) :: starEach es X.env := by rfl) (hpl : (backTo pos (starEach es X.env)).any (·.1) = false := by rfl) : PE X (.Call (.Name x p) (e :: es) [] pos) (tMake C sp [] E0 t) := by
  obtain ⟨f, fd, hm, M, hb, F⟩ := h
  exact pe_make M F hr hg hm hb .nil pass0 ha hdb he hpl
theorem pe_mkE (h : MkK X.prog X.w X.K X.mg X.base CX k x C ps (n + 1) ks sp) (hr : Room (k + 1) X.A) (hx : Passes CX X E) (ha : PA X (e :: es) t) (hkw : PK X kws tk) (hg : Gl X x := by rfl)
    (hall : (backToKw pos (keywordEach kws X.env)).all (·.1.isSome) = true := by rfl) (hks : (backToKw pos (keywordEach kws X.env)).filterMap (·.1) = ks := by rfl) (hdb : (x == ("__debug__" : Str)) = false := by decide)
    (he : starEach (e :: es) X.env = (false, eval e X.env) :: starEach es X.env := by rfl) (hpl : ((backTo pos (starEach (e :: es) X.env)).any (·.1) || (backToKw pos (keywordEach kws X.env)).any (·.1.isNone)) = false := by rfl) :
    PE X (.Call (.Name x p) (e :: es) kws pos) (tMakeK C n ks.length sp (fun vs zs => vs ++ zs) E t tk) := by
  obtain ⟨f, fd, hm, M, hb, F⟩ := h
  exact pe_makeK M F hr hg hm hb hx ha hkw hall hks hdb he hpl
theorem pe_gint {i : Int} (h : ∃ t, X.mg x = some (.int i t)) (hg : Gl X x := by rfl) (hd : (x == ("__debug__" : Str)) = false := by decide) : PE X (.Name x pos) (tC (.int i)) := by
  obtain ⟨t, ht⟩ := h
  exact pe_glob hg ht ⟨t, rfl⟩ hd
theorem pe_gcls (h : X.mg x = some (.ref C)) (hg : Gl X x := by rfl) (hd : (x == ("__debug__" : Str)) = false := by decide) : PE X (.Name x pos) (tC (.ref C)) := pe_glob hg h rfl hd
theorem pe_bty {T : String} (hm : X.mg x = none) (hv : bootBuiltins x = some (.type T) := by decide +kernel) (hg : Gl X x := by rfl) (hn : x ≠ "__name__" := by decide) (hd : (x == ("__debug__" : Str)) = false := by decide) : PE X (.Name x pos) (tC (.ty T)) := pe_bltn hg hm hv rfl hn hd
end

/-! ### from the head's facts -/
section
variable {P : Program} {w : World} {K : PySem.W.Frag} {mg : Str → Option Value} {base : Heap} {CX : CXT} {k : Nat} {x : Str} {fd : FuncData} {params : Arguments} {body : List Stmt} {scope : Scope} {ps : List Str} {sp : Sp} {qual : Str}
theorem FnH.of (F : FunD K x qual params body scope [] [] (He.ga K x) fd) (g : mg x = some (.ref (He.ga K x))) (b : Binds K fd ps []) (ok : FnOk P w K mg base CX k (He.ga K x) fd ps sp) : FnH P w K mg base CX k x ps sp := ⟨_, _, g, F.kp, b, ok⟩
theorem MtH.of {C f : Addr} {m : Str} (M : Meth K C m f) (b : Binds K fd ps []) (ok : FnOk P w K mg base CX k f fd ps sp) : MtH P w K mg base CX k C m ps sp := ⟨_, _, M, b, ok⟩
theorem MkH.of {C f : Addr} (g : mg x = some (.ref C)) (M : Mk K C f) (b : Binds K fd ps []) (ok : FnOk P w K mg base CX k f fd ps sp) : MkH P w K mg base CX k x C ps sp := ⟨_, _, g, M, b, ok⟩
theorem MkK.of {C f : Addr} {n : Nat} {ks : List Str} (g : mg x = some (.ref C)) (M : Mk K C f) (b : KBn K fd ps n ks (fun us ws => us ++ ws) (fun vs zs => vs ++ zs)) (ok : FnOk P w K mg base CX k f fd ps sp) : MkK P w K mg base CX k x C ps n ks sp := ⟨_, _, g, M, b, ok⟩
/-- n positional values and keywords, every parameter given, in the parameters' order -/
theorem kbn_all {f : Addr} {m : Str} (F : FunD K m qual params body scope [] [] f fd) (n : Nat) (ks : List Str)
    (h : ∀ (kV doc pm : Value) (an : Option Addr) (cdv ct : Value) (us ws : List Value), us.length = n → ws.length = ks.length → bindArgs (PySem.W.fnOf m qual params body scope .none kV doc pm an cdv ct) ⟨us, ks.zip ws⟩ = pure (ps.zip (us ++ ws))) :
    KBn K fd ps n ks (fun us ws => us ++ ws) (fun vs zs => vs ++ zs) := by
  obtain ⟨oc, od, dV, kV, doc, pm, an, cdv, ct, osl, rfl, lk, hcd, hD, hK⟩ := F.ex
  rcases hD with ⟨_, rfl⟩ | ⟨e, _⟩
  · exact ⟨fun s us ws _ h1 h2 => .of_eq (h kV doc pm an cdv ct us ws h1 h2), fun a b => a.append b⟩
  · exact absurd rfl e
end

/-! ### the head with one more Bool -/
abbrev AlM : Type := He.AlD × Bool
def obsM (n : Nat) (fa : List He.Fa) (fn : List He.DefD) (ex : PySem.W.Frag → Bool) (g : Addr → Option Obj) : AlM := (He.obsDG n fa fn g, ex (He.frG g (He.asD g n)))
def hookM (n : Nat) (fa : List He.Fa) (fn : List He.DefD) (ex : PySem.W.Frag → Bool) : PySem.W.Hook where
  α := AlM
  obs := fun s => obsM n fa fn ex s.heap.get?
  val := fun _ => (He.valD fn, true)
  says := fun _ h => ∃ K : PySem.W.Frag, K.In h ∧ He.SaysD fa fn K ∧ ex K = true
  of := fun _ _ e => ⟨_, He.frG_in, congrArg (fun z : AlM => z.1) e, congrArg (fun z : AlM => z.2) e⟩
  keeps := fun _ _ _ ⟨K, hK, c, d⟩ k => ⟨K, PySem.W.Frag.In.keeps hK k, c, d⟩
theorem obsM_eq {n : Nat} {fa : List He.Fa} {fn : List He.DefD} {ex : PySem.W.Frag → Bool} {g : Addr → Option Obj} {s : Shared} (h : ∀ a, g a = s.heap.get? a) : obsM n fa fn ex g = (hookM n fa fn ex).obs s := by
  have e : g = s.heap.get? := funext h
  rw [e] <;> rfl
theorem ex_all {es : List (PySem.W.Frag → Bool)} {K : PySem.W.Frag} (h : (es.all fun e => e K) = true) (i : Nat) {e : PySem.W.Frag → Bool} (hi : es[i]? = some e := by rfl) : e K = true := List.all_eq_true.mp h e (List.mem_of_getElem? hi)

/-! ### heaps -/
theorem upd_free {H : Hp} {a p : Addr} {o u : HO} (h : H a = some u) (hp : H p = none) : upd H p o a = some u := by
  rw [upd_ne (ne_of_none h hp)]
  exact h
theorem same_new {H : Hp} {p : Addr} {o : HO} (h : H p = none) : Same H (upd H p o) := fun b x e => upd_free e h
/-- all but a stands as it was -/
def But (a : Addr) (H H' : Hp) : Prop := ∀ b o, b ≠ a → H b = some o → H' b = some o
theorem But.refl (a : Addr) (H : Hp) : But a H H := fun _ _ _ h => h
theorem But.trans {a : Addr} {H H1 H2 : Hp} (x : But a H H1) (y : But a H1 H2) : But a H H2 := fun b o n h => y b o n (x b o n h)
theorem But.of_same {a : Addr} {H H' : Hp} (x : Same H H') : But a H H' := fun b o _ h => x b o h
theorem But.upd {a : Addr} {H H' : Hp} {o : HO} (x : But a H H') : But a H (upd H' a o) := fun b u n h => by
  rw [upd_ne n]
  exact x b u n h
theorem But.new {a p : Addr} {H H' : Hp} {o : HO} (x : But a H H') (hp : H' p = none) : But a H (L2.upd H' p o) := fun b u n h => upd_free (x b u n h) hp
/-- where a list of three ints stands that draws change -/
def Src (H : Hp) (a : Addr) : Prop := ∃ c0 c1 c2 : Int, H a = some (.lst [.int c0, .int c1, .int c2])
/-- draws from a: all else stands -/
structure Dr (a : Addr) (H H' : Hp) : Prop where
  src : Src H' a
  old : But a H H'
theorem Src.set {H : Hp} {a : Addr} (c0 c1 c2 : Int) : Src (L2.upd H a (.lst [.int c0, .int c1, .int c2])) a := ⟨c0, c1, c2, upd_same⟩
theorem Src.new {H : Hp} {a p : Addr} {o : HO} (x : Src H a) (hp : H p = none) : Src (L2.upd H p o) a := by
  obtain ⟨c0, c1, c2, h⟩ := x
  exact ⟨c0, c1, c2, upd_free h hp⟩
theorem Src.ne {H : Hp} {a p : Addr} (x : Src H a) (hp : H p = none) : p ≠ a := by
  obtain ⟨c0, c1, c2, h⟩ := x
  intro e
  rw [e, h] at hp
  cases hp
theorem Dr.refl {a : Addr} {H : Hp} (x : Src H a) : Dr a H H := ⟨x, But.refl a H⟩
theorem Dr.trans {a : Addr} {H H1 H2 : Hp} (x : Dr a H H1) (y : Dr a H1 H2) : Dr a H H2 := ⟨y.src, x.old.trans y.old⟩
theorem Dr.new {a p : Addr} {H H' : Hp} {o : HO} (x : Dr a H H') (hp : H' p = none) : Dr a H (L2.upd H' p o) := ⟨x.src.new hp, x.old.new hp⟩
theorem Dr.free {a p : Addr} {H H' : Hp} (x : Dr a H H') (hp : H' p = none) : H p = none := by
  cases q : H p with
  | none => rfl
  | some o =>
    have ne := x.src.ne hp
    rw [x.old p o ne q] at hp
    cases hp
theorem But.seq {K : PySem.W.Frag} {H H' : Hp} {a b : Addr} {xs : List V} (e : But a H H') (n : b ≠ a) (h : SqL K H b xs) : SqL K H' b xs := by
  rcases h with (h | ⟨o, h⟩) | h
  · exact .inl (.inl (e _ _ n h))
  · exact .inl (.inr ⟨o, e _ _ n h⟩)
  · exact .inr h
theorem sz {n : Nat} (h : n ≤ 100000) : n ≤ sizeLine := Nat.le_trans h (by decide)
theorem szl {n : Nat} (h : n < 100000) : n < sizeLine := Nat.lt_of_lt_of_le h (by decide)

/-! ### list + list, where both are readable -/
def rCatS (K : PySem.W.Frag) : R2 := fun x y H Q => ∃ l b xs zs, x = .ref l ∧ y = .ref b ∧ SqL K H l xs ∧ SqL K H b zs ∧ xs.length + zs.length ≤ sizeLine ∧ ∀ p, H p = none → Q (.ref p) (upd H p (.lst (xs ++ zs)))
theorem op_catS {X : Cx} : OpR X (binaryOp .Add) (rCatS X.K) := by
  intro pins s σ H x y v u Q I rx ry h
  obtain ⟨l, b, xs, zs, rfl, rfl, hL, hB, hz, q⟩ := h
  cases rx
  cases ry
  obtain ⟨i1, r1, ⟨o1, n1, e1, c1, d1, t1⟩, z1⟩ := I.list hL
  obtain ⟨i2, r2, ⟨o2, n2, e2, c2, d2, t2⟩, z2⟩ := I.list hB
  obtain ⟨oc1, od1, dt1, sl1⟩ := o1
  obtain ⟨oc2, od2, dt2, sl2⟩ := o2
  simp only at c1 d1 t1 c2 d2 t2
  subst c1 d1 t1 c2 d2 t2
  have l1 := r1.length
  have l2 := r2.length
  refine concat_meets ⟨_, e1, rfl⟩ ⟨_, e2, rfl⟩ noFill_list_add seq_list_add PySem.F.slot_list_add
    PySem.F.entry_list_add (PySem.F.args_list_add_2 _ _)
    (list_addW l b i1.toArray i2.toArray n1 n2 none none sl1 sl2 (by rw [List.size_toArray, List.size_toArray]; omega)) ⟨e1, e2, ?_⟩
  have ea : i1.toArray ++ i2.toArray = (i1 ++ i2).toArray := by simp
  rw [ea]
  exact ⟨.ref _, _, I.lnew (t' := s.toks) (r1.append r2) (by rw [List.length_append]; omega), rfl, q _ I.fresh⟩

/-! ### readings by names, for rules whose reading is a lambda -/
section
variable {X : Cx}
def rInt1 : List V → Hp → VK → Prop := fun xs H Q => (∃ i, xs = [.int i] ∧ Q (.int i) H) ∨ ∃ k, xs = [.bl k] ∧ Q (.int (if k then 1 else 0)) H
theorem c_int1 : CallR X (.type "int") rInt1 := call_int1
def rMax2 : List V → Hp → VK → Prop := fun xs H Q => ∃ i j, xs = [.int i, .int j] ∧ Q (.int (if j > i then j else i)) H
def rMin2 : List V → Hp → VK → Prop := fun xs H Q => ∃ i j, xs = [.int i, .int j] ∧ Q (.int (if j < i then j else i)) H
theorem c_max2 (hc : X.calm = true) : CallR X (.builtin "max") rMax2 := call_max2 hc
theorem c_min2 (hc : X.calm = true) : CallR X (.builtin "min") rMin2 := call_min2 hc
def rLenL (K : PySem.W.Frag) : List V → Hp → VK → Prop := fun xs H Q => ∃ p ys, xs = [.ref p] ∧ (SqL K H p ys ∨ SqT K H p ys) ∧ Q (.int ys.length) H
theorem c_len : CallR X (.builtin "len") (rLenL X.K) := call_len_seq
def rTupOf (K : PySem.W.Frag) : List V → Hp → VK → Prop := fun xs H Q => ∃ p ys, xs = [.ref p] ∧ ((SqL K H p ys ∧ ∀ l, H l = none → Q (.ref l) (upd H l (.tup ys))) ∨ (SqT K H p ys ∧ Q (.ref p) H))
theorem c_tuple : CallR X (.type "tuple") (rTupOf X.K) := call_tuple_of
def rListOf (K : PySem.W.Frag) : List V → Hp → VK → Prop := fun xs H Q => ∃ p ys, xs = [.ref p] ∧ (SqL K H p ys ∨ SqT K H p ys) ∧ ∀ l, H l = none → Q (.ref l) (upd H l (.lst ys))
theorem c_list : CallR X (.type "list") (rListOf X.K) := call_list_of
def rAddS : R2 := fun x y H Q => ∃ i j, x = .str i ∧ y = .str j ∧ i.length + j.length ≤ sizeLine ∧ Q (.str (i ++ j)) H
theorem o_adds : OpR X (binaryOp .Add) rAddS := op_add_str
def rIsN : R2 := fun x y H Q => y = .non ∧ Q (.bl (decide (x = .non))) H
def rNotN : R2 := fun x y H Q => y = .non ∧ Q (.bl (!decide (x = .non))) H
theorem o_isN : OpR X (compareOp .Is) rIsN := op_isN
theorem o_notN : OpR X (compareOp .IsNot) rNotN := op_notN
def tTru (K : PySem.W.Frag) (ta : TE) : TT := fun σ H Q => ta σ H fun x H' => ∃ k, TruV K x H' k ∧ Q k H'
theorem p_truth {a : Expr} {ta : TE} (ha : PE X a ta) (he : ∀ whole, isTrue a X.env whole = (do let v ← whole; standAt a.pos; holding [v] (truthy v))) : PT X a (tTru X.K ta) := pt_truth ha he
end

/-! ### the readings, step by step -/
section
variable {K : PySem.W.Frag} {σ : L2.St} {H : Hp} {Q : VK} {QT : Bool → Hp → Prop} {QA : List V → Hp → Prop} {QG : L2.St → Hp → Prop} {D : Ends} {ta tb tc te : TE} {t u c : TT} {tr : TA} {ts us : TS} {g : TG} {gs : TGs} {v x y : V} {r r' : R2} {tl th : TO} {ti to : TE}
def rNew (o : HO) (H : Hp) (Q : VK) : Prop := ∀ p, H p = none → Q (.ref p) (upd H p o)
def rSz (n : Nat) (R : Prop) : Prop := n ≤ sizeLine ∧ R
theorem r_sz {n : Nat} {R : Prop} (h : n ≤ 100000) (q : R) : rSz n R := ⟨sz h, q⟩
theorem r_new {o : HO} (q : ∀ p, H p = none → Q (.ref p) (upd H p o)) : rNew o H Q := q
theorem r_tup (q : tr σ H fun xs H1 => rSz xs.length (rNew (.tup xs) H1 Q)) : tTup tr σ H Q := q
theorem r_lst (q : tr σ H fun xs H1 => rSz xs.length (rNew (.lst xs) H1 Q)) : tLst tr σ H Q := q
theorem r_catS {l b : Addr} {xs zs : List V} (h : SqL K H l xs) (h' : SqL K H b zs) (hz : xs.length + zs.length ≤ 100000) (q : rNew (.lst (xs ++ zs)) H Q) : rCatS K (.ref l) (.ref b) H Q := ⟨l, b, xs, zs, rfl, rfl, h, h', sz hz, q⟩
theorem r_tupOf {p : Addr} {ys : List V} (h : SqL K H p ys) (q : rNew (.tup ys) H Q) : rTupOf K [.ref p] H Q := ⟨p, ys, rfl, .inl ⟨h, q⟩⟩
theorem r_listOf {p : Addr} {ys : List V} (h : SqL K H p ys) (q : rNew (.lst ys) H Q) : rListOf K [.ref p] H Q := ⟨p, ys, rfl, .inl h, q⟩
theorem r_slL {a : Addr} {xs : List V} {lo hi : Option Int} (h : SqL K H a xs) (q : rNew (.lst (cutV xs lo hi)) H Q) : rSlL K (.ref a) lo hi H Q := ⟨a, xs, rfl, h, q⟩
def rOb (C : Addr) (m : Str) (x : V) (H : Hp) (R : Prop) : Prop := ∃ a dx fs, x = .ref a ∧ H a = some (.ins C dx fs) ∧ fs.lookup m = none ∧ R
theorem r_meth {C : Addr} {m : Str} {sp : Sp} {E : XK} (q : ta σ H fun x H1 => rOb C m x H1 (tr σ H1 fun vs H2 => sp (x :: vs) H2 Q E)) : tMeth C m sp [] E ta tr σ H Q := by
  have e : (fun (x : V) (H1 : Hp) => rOb C m x H1 (tr σ H1 fun vs H2 => sp (x :: vs) H2 Q E)) = fun x H1 => rOb C m x H1 (tr σ H1 fun vs H2 => sp (x :: (vs ++ [])) H2 Q E) := by
    simp only [List.append_nil]
  show ta σ H fun x H1 => rOb C m x H1 (tr σ H1 fun vs H2 => sp (x :: (vs ++ [])) H2 Q E)
  rw [← e]
  exact q
theorem r_obj {C a dx : Addr} {m : Str} {fs : List (Str × V)} {R : Prop} (h : H a = some (.ins C dx fs)) (l : fs.lookup m = none) (q : R) : rOb C m (.ref a) H R := ⟨a, dx, fs, rfl, h, l, q⟩
def rFd (K : PySem.W.Frag) (f : Str) (x : V) (H : Hp) (Q : VK) : Prop := ∃ a C dx fs v, x = .ref a ∧ H a = some (.ins C dx fs) ∧ Cls K C ∧ NoAttr K C f ∧ fs.lookup f = some v ∧ Q v H
theorem r_fld {f : Str} (q : ta σ H fun x H1 => rFd K f x H1 Q) : tFld K ta f σ H Q := q
theorem r_fd {a C dx : Addr} {f : Str} {fs : List (Str × V)} (h : H a = some (.ins C dx fs)) (c : Cls K C) (n : NoAttr K C f) (l : fs.lookup f = some v) (q : Q v H) : rFd K f (.ref a) H Q := ⟨a, C, dx, fs, v, rfl, h, c, n, l, q⟩
def rSt (K : PySem.W.Frag) (f : Str) (y x : V) (H : Hp) (Qn : Hp → Prop) : Prop := ∃ a C dx fs, x = .ref a ∧ H a = some (.ins C dx fs) ∧ Cls K C ∧ NoAttr K C f ∧ fs.length < 1000 ∧ Qn (upd H a (.ins C dx (putF f y fs)))
theorem r_sFld {f : Str} (q : tb σ H fun y H1 => ta σ H1 fun x H2 => rSt K f y x H2 fun H3 => D.nx σ H3) : sFld K ta tb f D σ H := q
theorem r_st {a C dx : Addr} {f : Str} {fs gs : List (Str × V)} {Qn : Hp → Prop} (h : H a = some (.ins C dx fs)) (c : Cls K C) (n : NoAttr K C f) (l : fs.length < 1000) (e : putF f y fs = gs) (q : Qn (upd H a (.ins C dx gs))) : rSt K f y (.ref a) H Qn := by
  subst e
  exact ⟨a, C, dx, fs, rfl, h, c, n, l, q⟩
def rPo (x : V) (R : Option Int → Prop) : Prop := ∃ i, x = .int i ∧ R (some i)
theorem r_part {QO : Option Int → Hp → Prop} (q : ta σ H fun x H1 => rPo x fun o => QO o H1) : tPart ta σ H QO := q
theorem r_po {i : Int} {R : Option Int → Prop} (q : R (some i)) : rPo (.int i) R := ⟨i, rfl, q⟩
def rTy (K : PySem.W.Frag) (T : String) (x : V) (H : Hp) (R : Prop) : Prop := tyV K T x H ∧ R
theorem r_BM {T : String} {rm : V → List V → Hp → VK → Prop} (q : to σ H fun x H1 => rTy K T x H1 (tr σ H1 fun xs H2 => rm x xs H2 Q)) : tBM K T rm to tr σ H Q := q
theorem r_tyL {p : Addr} {xs : List V} {R : Prop} (h : SqL K H p xs) (q : R) : rTy K "list" (.ref p) H R := ⟨.inl ⟨rfl, xs, h⟩, q⟩
def rBl (x : V) (R : Bool → Prop) : Prop := ∃ k, x = .bl k ∧ R k
theorem r_bl {k : Bool} {R : Bool → Prop} (q : R k) : rBl (.bl k) R := ⟨k, rfl, q⟩
theorem r_test (q : te σ H fun x H' => rBl x fun k => QT k H') : tTest te σ H QT := q
theorem r_tB (q : te σ H fun x H' => rBl x fun k => QT k H') : tB te σ H QT := q
theorem r_andV (q : ta σ H fun x H1 => rBl x fun c => if c = true then tb σ H1 Q else Q (.bl false) H1) : tAndV ta tb σ H Q := q
theorem r_orV (q : ta σ H fun x H1 => rBl x fun c => if c = true then Q (.bl true) H1 else tb σ H1 Q) : tOrV ta tb σ H Q := q
theorem r_notV (q : ta σ H fun x H1 => rBl x fun c => Q (.bl (!c)) H1) : tNotV ta σ H Q := q
theorem r_chain (q : ta σ H fun x H1 => tb σ H1 fun y H2 => r x y H2 fun z H3 => rBl z fun k => if k = true then tc σ H3 fun w' H4 => r' y w' H4 Q else Q (.bl false) H3) : tChain r r' ta tb tc σ H Q := q
def rTr (K : PySem.W.Frag) (x : V) (H : Hp) (R : Bool → Prop) : Prop := ∃ k, TruV K x H k ∧ R k
theorem r_tru (q : ta σ H fun x H' => rTr K x H' fun k => QT k H') : tTru K ta σ H QT := q
def rSq (K : PySem.W.Frag) (x : V) (H : Hp) (R : Addr → Prop) : Prop := ∃ a, x = .ref a ∧ (∃ xs, SqL K H a xs) ∧ R a
theorem r_list {R : It → Hp → Prop} (q : te σ H fun x H1 => rSq K x H1 fun a => R (Itl K a) H1) : iList K te σ H R := q
theorem r_sq {a : Addr} {xs : List V} {R : Addr → Prop} (h : SqL K H a xs) (q : R a) : rSq K (.ref a) H R := ⟨a, rfl, ⟨xs, h⟩, q⟩
def rSqT (K : PySem.W.Frag) (x : V) (H : Hp) (R : Addr → Prop) : Prop := ∃ a, x = .ref a ∧ (∃ xs, SqT K H a xs) ∧ R a
theorem r_tupI {R : It → Hp → Prop} (q : te σ H fun x H1 => rSqT K x H1 fun a => R (Itt K a) H1) : iTup K te σ H R := q
theorem r_sqT {a : Addr} {xs : List V} {R : Addr → Prop} (h : SqT K H a xs) (q : R a) : rSqT K (.ref a) H R := ⟨a, rfl, ⟨xs, h⟩, q⟩
def rRg1 (vs : List V) (R : Int → Prop) : Prop := ∃ j : Int, vs = [.int j] ∧ -(2 ^ 62) ≤ j ∧ j < 2 ^ 62 ∧ R j
def rRg2 (vs : List V) (R : Int → Int → Prop) : Prop := ∃ i j : Int, vs = [.int i, .int j] ∧ (-(2 ^ 62) ≤ i ∧ i < 2 ^ 62 ∧ -(2 ^ 62) ≤ j ∧ j < 2 ^ 62) ∧ R i j
theorem r_rng1 {R : It → Hp → Prop} (q : tr σ H fun vs H1 => rRg1 vs fun j => R (Itr 0 j.toNat) H1) : iRng1 tr σ H R := q
theorem r_rng2 {R : It → Hp → Prop} (q : tr σ H fun vs H1 => rRg2 vs fun i j => R (Itr i (j - i).toNat) H1) : iRng2 tr σ H R := q
theorem r_rg1 {j : Int} {R : Int → Prop} (h : -(2 ^ 62) ≤ j ∧ j < 2 ^ 62) (q : R j) : rRg1 [.int j] R := ⟨j, rfl, h.1, h.2, q⟩
theorem r_rg2 {i j : Int} {R : Int → Int → Prop} (h : -(2 ^ 62) ≤ i ∧ i < 2 ^ 62 ∧ -(2 ^ 62) ≤ j ∧ j < 2 ^ 62) (q : R i j) : rRg2 [.int i, .int j] R := ⟨i, j, rfl, h, q⟩
def rTwo (vs : List V) (R : V → V → Prop) : Prop := ∃ v w, vs = [v, w] ∧ R v w
theorem r_par {i j : Nat} (q : tr σ H fun vs H1 => rTwo vs fun v w => gName i v σ H1 fun σ' H' => gName j w σ' H' D.nx) : tPar i j tr D σ H := q
theorem r_two {v w : V} {R : V → V → Prop} (q : R v w) : rTwo [v, w] R := ⟨v, w, rfl, q⟩
def rMk (C : Addr) (sp : Sp) (E : XK) (f : V → List V) (H : Hp) (Q : VK) : Prop := ∀ x dx, H x = none → H dx = none → dx ≠ x → sp (f (.ref x)) (upd (upd H dx (.own x)) x (.ins C dx [])) (fun v H3 => v = .non ∧ Q (.ref x) H3) E
theorem r_mkK {C : Addr} {n m : Nat} {sp : Sp} {E : XK} {tk : TA} (q : tr σ H fun vs H1 => tk σ H1 fun zs H2 => vs.length = n ∧ zs.length = m ∧ rMk C sp E (fun s => s :: vs ++ zs) H2 Q) : tMakeK C n m sp (fun vs zs => vs ++ zs) E tr tk σ H Q := q
theorem r_mk {C : Addr} {sp : Sp} {E : XK} (q : tr σ H fun vs H1 => rMk C sp E (fun s => s :: vs) H1 Q) : tMake C sp [] E tr σ H Q := by
  have e : (fun (vs : List V) (H1 : Hp) => rMk C sp E (fun s => s :: vs) H1 Q) = fun vs H1 => rMk C sp E (fun s => s :: (vs ++ [])) H1 Q := by
    simp only [List.append_nil]
  show tr σ H fun vs H1 => rMk C sp E (fun s => s :: (vs ++ [])) H1 Q
  rw [← e]
  exact q
theorem r_tC (q : Q v H) : tC v σ H Q := q
theorem r_op (q : ta σ H fun x H1 => tb σ H1 fun y H2 => r x y H2 Q) : tOp r ta tb σ H Q := q
theorem r_un {r1 : V → Hp → VK → Prop} (q : ta σ H fun x H1 => r1 x H1 Q) : tUn r1 ta σ H Q := q
theorem r_I0 {f : Int → Int → V} {i j : Int} (q : Q (f i j) H) : rI0 f (.int i) (.int j) H Q := ⟨i, j, rfl, rfl, q⟩
theorem r_I {C : Int → Int → Prop} {f : Int → Int → V} {i j : Int} (c : C i j) (q : Q (f i j) H) : rI C f (.int i) (.int j) H Q := ⟨i, j, rfl, rfl, c, q⟩
theorem r_U {f : Int → V} {i : Int} (q : Q (f i) H) : rU f (.int i) H Q := ⟨i, rfl, q⟩
theorem r_eq (h : scal x y = true) (q : Q (.bl (decide (x = y))) H) : rEq x y H Q := ⟨h, q⟩
theorem r_ne (h : scal x y = true) (q : Q (.bl (!decide (x = y))) H) : rNe x y H Q := ⟨h, q⟩
theorem r_eqI {i j : Int} (q : Q (.bl (decide (i = j))) H) : rEq (.int i) (.int j) H Q := ⟨rfl, by simpa using q⟩
theorem r_neI {i j : Int} (q : Q (.bl (!decide (i = j))) H) : rNe (.int i) (.int j) H Q := ⟨rfl, by simpa using q⟩
theorem r_eqS {i j : Str} (q : Q (.bl (decide (i = j))) H) : rEq (.str i) (.str j) H Q := ⟨rfl, by simpa using q⟩
theorem r_neS {i j : Str} (q : Q (.bl (!decide (i = j))) H) : rNe (.str i) (.str j) H Q := ⟨rfl, by simpa using q⟩
theorem r_ixL {p : Addr} {xs : List V} {i : Int} (h : SqL K H p xs) (a : atI xs i = some v) (q : Q v H) : rIxL K (.ref p) (.int i) H Q := ⟨p, xs, i, v, rfl, rfl, h, a, q⟩
theorem r_ixT {p : Addr} {xs : List V} {i : Int} (h : SqT K H p xs) (a : atI xs i = some v) (q : Q v H) : rIxT K (.ref p) (.int i) H Q := ⟨p, xs, i, v, rfl, rfl, h, a, q⟩
theorem r_setL {p : Addr} {xs : List V} {k : Int} {j : Nat} {QH : Hp → Prop} (h : H p = some (.lst xs)) (e : ixN xs.length k = some j) (q : QH (upd H p (.lst (xs.set j v)))) : rSetL (.ref p) (.int k) v H QH := ⟨p, xs, k, j, rfl, rfl, h, e, q⟩
theorem r_CB {rc : List V → Hp → VK → Prop} (q : tr σ H fun vs H1 => rc vs H1 Q) : tCB rc tr σ H Q := q
theorem r_cons (q : ta σ H fun x H1 => tr σ H1 fun xs H2 => QA (x :: xs) H2) : tCons ta tr σ H QA := q
theorem r_nil (q : QA [] H) : tNil σ H QA := q
theorem r_int1 {i : Int} (q : Q (.int i) H) : rInt1 [.int i] H Q := .inl ⟨i, rfl, q⟩
theorem r_max2 {i j : Int} (q : Q (.int (if j > i then j else i)) H) : rMax2 [.int i, .int j] H Q := ⟨i, j, rfl, q⟩
theorem r_min2 {i j : Int} (q : Q (.int (if j < i then j else i)) H) : rMin2 [.int i, .int j] H Q := ⟨i, j, rfl, q⟩
theorem r_lenL {p : Addr} {ys : List V} (h : SqL K H p ys) (q : Q (.int ys.length) H) : rLenL K [.ref p] H Q := ⟨p, ys, rfl, .inl h, q⟩
theorem r_lenT {p : Addr} {ys : List V} (h : SqT K H p ys) (q : Q (.int ys.length) H) : rLenL K [.ref p] H Q := ⟨p, ys, rfl, .inr h, q⟩
theorem r_sum {a : Addr} {ns : List Int} (h : SqL K H a (ns.map V.int)) (q : Q (.int ns.sum) H) : rSum K [.ref a] H Q := ⟨a, ns, rfl, h, q⟩
theorem r_max {a : Addr} {ns : List Int} (h : SqL K H a (ns.map V.int)) (h0 : 0 < ns.length) (q : ∀ m, m ∈ ns → (∀ y, y ∈ ns → y ≤ m) → Q (.int m) H) : rMax K [.ref a] H Q := ⟨a, ns, rfl, h, h0, q⟩
theorem r_all {a : Addr} {bs : List Bool} (h : SqL K H a (bs.map V.bl)) (q : Q (.bl (bs.all id)) H) : rAll K [.ref a] H Q := ⟨a, bs, rfl, h, q⟩
theorem r_call {sp : Sp} {E : XK} (q : tr σ H fun vs H1 => sp vs H1 Q E) : tCall sp [] E tr σ H Q := by
  have e : (fun (vs : List V) (H1 : Hp) => sp vs H1 Q E) = fun vs H1 => sp (vs ++ []) H1 Q E := by
    funext vs H1
    rw [List.append_nil]
  show tr σ H fun vs H1 => sp (vs ++ []) H1 Q E
  rw [← e]
  exact q
theorem r_sl {rs : V → Option Int → Option Int → Hp → VK → Prop} (q : ta σ H fun x H1 => tl σ H1 fun l H2 => th σ H2 fun u H3 => rs x l u H3 Q) : L2.tSl rs ta tl th σ H Q := q
theorem r_nopart {QO : Option Int → Hp → Prop} (q : QO none H) : tNoPart σ H QO := q
theorem r_append {l : Addr} {xs : List V} (h : H l = some (.lst xs)) (hz : xs.length < 100000) (q : Q .non (upd H l (.lst (xs ++ [y])))) : rAppend (.ref l) [y] H Q := ⟨l, xs, y, rfl, rfl, h, szl hz, q⟩
-- tests
theorem r_and (q : t σ H fun c H1 => if c = true then u σ H1 QT else QT false H1) : tAnd t u σ H QT := q
theorem r_or (q : t σ H fun c H1 => if c = true then QT true H1 else u σ H1 QT) : tOr t u σ H QT := q
theorem r_not (q : t σ H fun c H1 => QT (!c) H1) : tNot t σ H QT := q
theorem r_if (q : t σ H fun c H1 => if c = true then ta σ H1 Q else tb σ H1 Q) : tIf t ta tb σ H Q := q
-- statements
theorem r_seq (q : ts { D with nx := us D } σ H) : tSeq ts us D σ H := q
theorem r_asg (q : te σ H fun x H1 => g x σ H1 D.nx) : tAsg te g D σ H := q
theorem r_ret (q : te σ H D.rt) : tRet te D σ H := q
theorem r_drop (q : te σ H fun _ H1 => D.nx σ H1) : tDrop te D σ H := q
theorem r_next (q : D.nx σ H) : tNext D σ H := q
theorem r_ifS (q : t σ H fun b H1 => if b = true then ts D σ H1 else us D σ H1) : tIfS t ts us D σ H := q
theorem r_gSub {ts : TSet} (q : to σ H fun o H1 => ti σ H1 fun i H2 => ts o i v H2 fun H3 => QG σ H3) : gSub to ti ts v σ H QG := q
theorem r_gTup {a : Addr} {xs : List V} {n : Nat} (h : SqT K H a xs) (e : xs.length = n) (q : gs xs σ H QG) : gTup K n gs (.ref a) σ H QG := ⟨a, xs, rfl, h, e, q⟩
theorem r_gCons {w : V} {ws : List V} (q : g w σ H fun σ' H' => gs ws σ' H' QG) : gCons g gs (w :: ws) σ H QG := ⟨w, ws, rfl, q⟩
theorem r_gNil (q : QG σ H) : gNil [] σ H QG := ⟨rfl, q⟩
theorem r_dec {p : Prop} [Decidable p] {A B : Prop} (h1 : p → A) (h2 : ¬ p → B) : if decide p = true then A else B := by
  by_cases h : p
  · rw [decide_eq_true h]
    exact h1 h
  · rw [decide_eq_false h]
    exact iteF (h2 h)
theorem r_decN {p : Prop} [Decidable p] {A B : Prop} (h1 : ¬ p → A) (h2 : p → B) : if (!decide p) = true then A else B := by
  by_cases h : p
  · rw [decide_eq_true h]
    exact iteF (h2 h)
  · rw [decide_eq_false h]
    exact h1 h
theorem r_isi {x c : V} {t u : Value} {b : Bool} (k : ClsV c u) (ty : TyX K H x t) (e : PySem.W.kitOne K t u = some b) (q : Q (.bl b) H) : rIsi K [x, c] H Q := ⟨x, c, t, u, b, rfl, k, ty, e, q⟩
theorem r_lc {wi : TI} {n : List Nat} (q : wi σ H fun J H1 => ∀ D, H1 D = none → ∃ W : Nat → Nat → Hp → Prop, (∃ m, W 0 m (upd H1 D (.lst []))) ∧ ∀ i m H, W i m H →
  (J.stop i H ∧ Q (.ref D) H) ∨ (J.go i H ∧ ∃ Nx : Hp → Prop, (∀ H', Nx H' → ∃ m', m' < m ∧ W (i + 1) m' H') ∧ ∀ x H', J.yld i H x H' → g x (wipe σ n) H' fun σ2 H2 => wipe σ2 n = wipe σ n ∧ t σ2 H2 fun b H3 =>
    if b = true then te σ2 H3 fun y H4 => ∃ acc, H4 D = some (.lst acc) ∧ acc.length < sizeLine ∧ Nx (upd H4 D (.lst (acc ++ [y]))) else Nx H3)) : tLc wi g t te n σ H Q := q
theorem r_yes (q : QT true H) : tYes σ H QT := q
theorem r_v0 {z : L2.St} (q : Q v H) : tVar 0 (some v :: z) H Q := ⟨v, rfl, q⟩
theorem r_v1 {a0 : Option V} {z : L2.St} (q : Q v H) : tVar 1 (a0 :: some v :: z) H Q := ⟨v, rfl, q⟩
theorem r_v2 {a0 a1 : Option V} {z : L2.St} (q : Q v H) : tVar 2 (a0 :: a1 :: some v :: z) H Q := ⟨v, rfl, q⟩
theorem r_v3 {a0 a1 a2 : Option V} {z : L2.St} (q : Q v H) : tVar 3 (a0 :: a1 :: a2 :: some v :: z) H Q := ⟨v, rfl, q⟩
theorem r_v4 {a0 a1 a2 a3 : Option V} {z : L2.St} (q : Q v H) : tVar 4 (a0 :: a1 :: a2 :: a3 :: some v :: z) H Q := ⟨v, rfl, q⟩
theorem r_v5 {a0 a1 a2 a3 a4 : Option V} {z : L2.St} (q : Q v H) : tVar 5 (a0 :: a1 :: a2 :: a3 :: a4 :: some v :: z) H Q := ⟨v, rfl, q⟩
theorem r_v6 {a0 a1 a2 a3 a4 a5 : Option V} {z : L2.St} (q : Q v H) : tVar 6 (a0 :: a1 :: a2 :: a3 :: a4 :: a5 :: some v :: z) H Q := ⟨v, rfl, q⟩
theorem r_v7 {a0 a1 a2 a3 a4 a5 a6 : Option V} {z : L2.St} (q : Q v H) : tVar 7 (a0 :: a1 :: a2 :: a3 :: a4 :: a5 :: a6 :: some v :: z) H Q := ⟨v, rfl, q⟩
theorem r_v8 {a0 a1 a2 a3 a4 a5 a6 a7 : Option V} {z : L2.St} (q : Q v H) : tVar 8 (a0 :: a1 :: a2 :: a3 :: a4 :: a5 :: a6 :: a7 :: some v :: z) H Q := ⟨v, rfl, q⟩
theorem r_v9 {a0 a1 a2 a3 a4 a5 a6 a7 a8 : Option V} {z : L2.St} (q : Q v H) : tVar 9 (a0 :: a1 :: a2 :: a3 :: a4 :: a5 :: a6 :: a7 :: a8 :: some v :: z) H Q := ⟨v, rfl, q⟩
theorem r_v10 {a0 a1 a2 a3 a4 a5 a6 a7 a8 a9 : Option V} {z : L2.St} (q : Q v H) : tVar 10 (a0 :: a1 :: a2 :: a3 :: a4 :: a5 :: a6 :: a7 :: a8 :: a9 :: some v :: z) H Q := ⟨v, rfl, q⟩
theorem r_v11 {a0 a1 a2 a3 a4 a5 a6 a7 a8 a9 a10 : Option V} {z : L2.St} (q : Q v H) : tVar 11 (a0 :: a1 :: a2 :: a3 :: a4 :: a5 :: a6 :: a7 :: a8 :: a9 :: a10 :: some v :: z) H Q := ⟨v, rfl, q⟩
theorem r_v12 {a0 a1 a2 a3 a4 a5 a6 a7 a8 a9 a10 a11 : Option V} {z : L2.St} (q : Q v H) : tVar 12 (a0 :: a1 :: a2 :: a3 :: a4 :: a5 :: a6 :: a7 :: a8 :: a9 :: a10 :: a11 :: some v :: z) H Q := ⟨v, rfl, q⟩
theorem r_v13 {a0 a1 a2 a3 a4 a5 a6 a7 a8 a9 a10 a11 a12 : Option V} {z : L2.St} (q : Q v H) : tVar 13 (a0 :: a1 :: a2 :: a3 :: a4 :: a5 :: a6 :: a7 :: a8 :: a9 :: a10 :: a11 :: a12 :: some v :: z) H Q := ⟨v, rfl, q⟩
theorem r_v14 {a0 a1 a2 a3 a4 a5 a6 a7 a8 a9 a10 a11 a12 a13 : Option V} {z : L2.St} (q : Q v H) : tVar 14 (a0 :: a1 :: a2 :: a3 :: a4 :: a5 :: a6 :: a7 :: a8 :: a9 :: a10 :: a11 :: a12 :: a13 :: some v :: z) H Q := ⟨v, rfl, q⟩
theorem r_v15 {a0 a1 a2 a3 a4 a5 a6 a7 a8 a9 a10 a11 a12 a13 a14 : Option V} {z : L2.St} (q : Q v H) : tVar 15 (a0 :: a1 :: a2 :: a3 :: a4 :: a5 :: a6 :: a7 :: a8 :: a9 :: a10 :: a11 :: a12 :: a13 :: a14 :: some v :: z) H Q := ⟨v, rfl, q⟩
theorem r_v16 {a0 a1 a2 a3 a4 a5 a6 a7 a8 a9 a10 a11 a12 a13 a14 a15 : Option V} {z : L2.St} (q : Q v H) : tVar 16 (a0 :: a1 :: a2 :: a3 :: a4 :: a5 :: a6 :: a7 :: a8 :: a9 :: a10 :: a11 :: a12 :: a13 :: a14 :: a15 :: some v :: z) H Q := ⟨v, rfl, q⟩
theorem r_v17 {a0 a1 a2 a3 a4 a5 a6 a7 a8 a9 a10 a11 a12 a13 a14 a15 a16 : Option V} {z : L2.St} (q : Q v H) : tVar 17 (a0 :: a1 :: a2 :: a3 :: a4 :: a5 :: a6 :: a7 :: a8 :: a9 :: a10 :: a11 :: a12 :: a13 :: a14 :: a15 :: a16 :: some v :: z) H Q := ⟨v, rfl, q⟩
theorem r_v18 {a0 a1 a2 a3 a4 a5 a6 a7 a8 a9 a10 a11 a12 a13 a14 a15 a16 a17 : Option V} {z : L2.St} (q : Q v H) : tVar 18 (a0 :: a1 :: a2 :: a3 :: a4 :: a5 :: a6 :: a7 :: a8 :: a9 :: a10 :: a11 :: a12 :: a13 :: a14 :: a15 :: a16 :: a17 :: some v :: z) H Q := ⟨v, rfl, q⟩
theorem r_v19 {a0 a1 a2 a3 a4 a5 a6 a7 a8 a9 a10 a11 a12 a13 a14 a15 a16 a17 a18 : Option V} {z : L2.St} (q : Q v H) : tVar 19 (a0 :: a1 :: a2 :: a3 :: a4 :: a5 :: a6 :: a7 :: a8 :: a9 :: a10 :: a11 :: a12 :: a13 :: a14 :: a15 :: a16 :: a17 :: a18 :: some v :: z) H Q := ⟨v, rfl, q⟩
theorem r_v20 {a0 a1 a2 a3 a4 a5 a6 a7 a8 a9 a10 a11 a12 a13 a14 a15 a16 a17 a18 a19 : Option V} {z : L2.St} (q : Q v H) : tVar 20 (a0 :: a1 :: a2 :: a3 :: a4 :: a5 :: a6 :: a7 :: a8 :: a9 :: a10 :: a11 :: a12 :: a13 :: a14 :: a15 :: a16 :: a17 :: a18 :: a19 :: some v :: z) H Q := ⟨v, rfl, q⟩
theorem r_v21 {a0 a1 a2 a3 a4 a5 a6 a7 a8 a9 a10 a11 a12 a13 a14 a15 a16 a17 a18 a19 a20 : Option V} {z : L2.St} (q : Q v H) : tVar 21 (a0 :: a1 :: a2 :: a3 :: a4 :: a5 :: a6 :: a7 :: a8 :: a9 :: a10 :: a11 :: a12 :: a13 :: a14 :: a15 :: a16 :: a17 :: a18 :: a19 :: a20 :: some v :: z) H Q := ⟨v, rfl, q⟩
theorem r_g0 {b : Option V} {z : L2.St} (q : QG (some v :: z) H) : gName 0 v (b :: z) H QG := q
theorem r_g1 {a0 b : Option V} {z : L2.St} (q : QG (a0 :: some v :: z) H) : gName 1 v (a0 :: b :: z) H QG := q
theorem r_g2 {a0 a1 b : Option V} {z : L2.St} (q : QG (a0 :: a1 :: some v :: z) H) : gName 2 v (a0 :: a1 :: b :: z) H QG := q
theorem r_g3 {a0 a1 a2 b : Option V} {z : L2.St} (q : QG (a0 :: a1 :: a2 :: some v :: z) H) : gName 3 v (a0 :: a1 :: a2 :: b :: z) H QG := q
theorem r_g4 {a0 a1 a2 a3 b : Option V} {z : L2.St} (q : QG (a0 :: a1 :: a2 :: a3 :: some v :: z) H) : gName 4 v (a0 :: a1 :: a2 :: a3 :: b :: z) H QG := q
theorem r_g5 {a0 a1 a2 a3 a4 b : Option V} {z : L2.St} (q : QG (a0 :: a1 :: a2 :: a3 :: a4 :: some v :: z) H) : gName 5 v (a0 :: a1 :: a2 :: a3 :: a4 :: b :: z) H QG := q
theorem r_g6 {a0 a1 a2 a3 a4 a5 b : Option V} {z : L2.St} (q : QG (a0 :: a1 :: a2 :: a3 :: a4 :: a5 :: some v :: z) H) : gName 6 v (a0 :: a1 :: a2 :: a3 :: a4 :: a5 :: b :: z) H QG := q
theorem r_g7 {a0 a1 a2 a3 a4 a5 a6 b : Option V} {z : L2.St} (q : QG (a0 :: a1 :: a2 :: a3 :: a4 :: a5 :: a6 :: some v :: z) H) : gName 7 v (a0 :: a1 :: a2 :: a3 :: a4 :: a5 :: a6 :: b :: z) H QG := q
theorem r_g8 {a0 a1 a2 a3 a4 a5 a6 a7 b : Option V} {z : L2.St} (q : QG (a0 :: a1 :: a2 :: a3 :: a4 :: a5 :: a6 :: a7 :: some v :: z) H) : gName 8 v (a0 :: a1 :: a2 :: a3 :: a4 :: a5 :: a6 :: a7 :: b :: z) H QG := q
theorem r_g9 {a0 a1 a2 a3 a4 a5 a6 a7 a8 b : Option V} {z : L2.St} (q : QG (a0 :: a1 :: a2 :: a3 :: a4 :: a5 :: a6 :: a7 :: a8 :: some v :: z) H) : gName 9 v (a0 :: a1 :: a2 :: a3 :: a4 :: a5 :: a6 :: a7 :: a8 :: b :: z) H QG := q
theorem r_g10 {a0 a1 a2 a3 a4 a5 a6 a7 a8 a9 b : Option V} {z : L2.St} (q : QG (a0 :: a1 :: a2 :: a3 :: a4 :: a5 :: a6 :: a7 :: a8 :: a9 :: some v :: z) H) : gName 10 v (a0 :: a1 :: a2 :: a3 :: a4 :: a5 :: a6 :: a7 :: a8 :: a9 :: b :: z) H QG := q
theorem r_g11 {a0 a1 a2 a3 a4 a5 a6 a7 a8 a9 a10 b : Option V} {z : L2.St} (q : QG (a0 :: a1 :: a2 :: a3 :: a4 :: a5 :: a6 :: a7 :: a8 :: a9 :: a10 :: some v :: z) H) : gName 11 v (a0 :: a1 :: a2 :: a3 :: a4 :: a5 :: a6 :: a7 :: a8 :: a9 :: a10 :: b :: z) H QG := q
theorem r_g12 {a0 a1 a2 a3 a4 a5 a6 a7 a8 a9 a10 a11 b : Option V} {z : L2.St} (q : QG (a0 :: a1 :: a2 :: a3 :: a4 :: a5 :: a6 :: a7 :: a8 :: a9 :: a10 :: a11 :: some v :: z) H) : gName 12 v (a0 :: a1 :: a2 :: a3 :: a4 :: a5 :: a6 :: a7 :: a8 :: a9 :: a10 :: a11 :: b :: z) H QG := q
theorem r_g13 {a0 a1 a2 a3 a4 a5 a6 a7 a8 a9 a10 a11 a12 b : Option V} {z : L2.St} (q : QG (a0 :: a1 :: a2 :: a3 :: a4 :: a5 :: a6 :: a7 :: a8 :: a9 :: a10 :: a11 :: a12 :: some v :: z) H) : gName 13 v (a0 :: a1 :: a2 :: a3 :: a4 :: a5 :: a6 :: a7 :: a8 :: a9 :: a10 :: a11 :: a12 :: b :: z) H QG := q
theorem r_g14 {a0 a1 a2 a3 a4 a5 a6 a7 a8 a9 a10 a11 a12 a13 b : Option V} {z : L2.St} (q : QG (a0 :: a1 :: a2 :: a3 :: a4 :: a5 :: a6 :: a7 :: a8 :: a9 :: a10 :: a11 :: a12 :: a13 :: some v :: z) H) : gName 14 v (a0 :: a1 :: a2 :: a3 :: a4 :: a5 :: a6 :: a7 :: a8 :: a9 :: a10 :: a11 :: a12 :: a13 :: b :: z) H QG := q
theorem r_g15 {a0 a1 a2 a3 a4 a5 a6 a7 a8 a9 a10 a11 a12 a13 a14 b : Option V} {z : L2.St} (q : QG (a0 :: a1 :: a2 :: a3 :: a4 :: a5 :: a6 :: a7 :: a8 :: a9 :: a10 :: a11 :: a12 :: a13 :: a14 :: some v :: z) H) : gName 15 v (a0 :: a1 :: a2 :: a3 :: a4 :: a5 :: a6 :: a7 :: a8 :: a9 :: a10 :: a11 :: a12 :: a13 :: a14 :: b :: z) H QG := q
theorem r_g16 {a0 a1 a2 a3 a4 a5 a6 a7 a8 a9 a10 a11 a12 a13 a14 a15 b : Option V} {z : L2.St} (q : QG (a0 :: a1 :: a2 :: a3 :: a4 :: a5 :: a6 :: a7 :: a8 :: a9 :: a10 :: a11 :: a12 :: a13 :: a14 :: a15 :: some v :: z) H) : gName 16 v (a0 :: a1 :: a2 :: a3 :: a4 :: a5 :: a6 :: a7 :: a8 :: a9 :: a10 :: a11 :: a12 :: a13 :: a14 :: a15 :: b :: z) H QG := q
theorem r_g17 {a0 a1 a2 a3 a4 a5 a6 a7 a8 a9 a10 a11 a12 a13 a14 a15 a16 b : Option V} {z : L2.St} (q : QG (a0 :: a1 :: a2 :: a3 :: a4 :: a5 :: a6 :: a7 :: a8 :: a9 :: a10 :: a11 :: a12 :: a13 :: a14 :: a15 :: a16 :: some v :: z) H) : gName 17 v (a0 :: a1 :: a2 :: a3 :: a4 :: a5 :: a6 :: a7 :: a8 :: a9 :: a10 :: a11 :: a12 :: a13 :: a14 :: a15 :: a16 :: b :: z) H QG := q
theorem r_g18 {a0 a1 a2 a3 a4 a5 a6 a7 a8 a9 a10 a11 a12 a13 a14 a15 a16 a17 b : Option V} {z : L2.St} (q : QG (a0 :: a1 :: a2 :: a3 :: a4 :: a5 :: a6 :: a7 :: a8 :: a9 :: a10 :: a11 :: a12 :: a13 :: a14 :: a15 :: a16 :: a17 :: some v :: z) H) : gName 18 v (a0 :: a1 :: a2 :: a3 :: a4 :: a5 :: a6 :: a7 :: a8 :: a9 :: a10 :: a11 :: a12 :: a13 :: a14 :: a15 :: a16 :: a17 :: b :: z) H QG := q
theorem r_g19 {a0 a1 a2 a3 a4 a5 a6 a7 a8 a9 a10 a11 a12 a13 a14 a15 a16 a17 a18 b : Option V} {z : L2.St} (q : QG (a0 :: a1 :: a2 :: a3 :: a4 :: a5 :: a6 :: a7 :: a8 :: a9 :: a10 :: a11 :: a12 :: a13 :: a14 :: a15 :: a16 :: a17 :: a18 :: some v :: z) H) : gName 19 v (a0 :: a1 :: a2 :: a3 :: a4 :: a5 :: a6 :: a7 :: a8 :: a9 :: a10 :: a11 :: a12 :: a13 :: a14 :: a15 :: a16 :: a17 :: a18 :: b :: z) H QG := q
theorem r_g20 {a0 a1 a2 a3 a4 a5 a6 a7 a8 a9 a10 a11 a12 a13 a14 a15 a16 a17 a18 a19 b : Option V} {z : L2.St} (q : QG (a0 :: a1 :: a2 :: a3 :: a4 :: a5 :: a6 :: a7 :: a8 :: a9 :: a10 :: a11 :: a12 :: a13 :: a14 :: a15 :: a16 :: a17 :: a18 :: a19 :: some v :: z) H) : gName 20 v (a0 :: a1 :: a2 :: a3 :: a4 :: a5 :: a6 :: a7 :: a8 :: a9 :: a10 :: a11 :: a12 :: a13 :: a14 :: a15 :: a16 :: a17 :: a18 :: a19 :: b :: z) H QG := q
theorem r_g21 {a0 a1 a2 a3 a4 a5 a6 a7 a8 a9 a10 a11 a12 a13 a14 a15 a16 a17 a18 a19 a20 b : Option V} {z : L2.St} (q : QG (a0 :: a1 :: a2 :: a3 :: a4 :: a5 :: a6 :: a7 :: a8 :: a9 :: a10 :: a11 :: a12 :: a13 :: a14 :: a15 :: a16 :: a17 :: a18 :: a19 :: a20 :: some v :: z) H) : gName 21 v (a0 :: a1 :: a2 :: a3 :: a4 :: a5 :: a6 :: a7 :: a8 :: a9 :: a10 :: a11 :: a12 :: a13 :: a14 :: a15 :: a16 :: a17 :: a18 :: a19 :: a20 :: b :: z) H QG := q
theorem r_aug0 {z : L2.St} {tp : TIp} (q : te (some v :: z) H fun y H1 => tp v y H1 fun w H2 => D.nx (some w :: z) H2) : tAug 0 te tp D (some v :: z) H := ⟨v, rfl, q⟩
theorem r_aug1 {a0 : Option V} {z : L2.St} {tp : TIp} (q : te (a0 :: some v :: z) H fun y H1 => tp v y H1 fun w H2 => D.nx (a0 :: some w :: z) H2) : tAug 1 te tp D (a0 :: some v :: z) H := ⟨v, rfl, q⟩
theorem r_aug2 {a0 a1 : Option V} {z : L2.St} {tp : TIp} (q : te (a0 :: a1 :: some v :: z) H fun y H1 => tp v y H1 fun w H2 => D.nx (a0 :: a1 :: some w :: z) H2) : tAug 2 te tp D (a0 :: a1 :: some v :: z) H := ⟨v, rfl, q⟩
theorem r_aug3 {a0 a1 a2 : Option V} {z : L2.St} {tp : TIp} (q : te (a0 :: a1 :: a2 :: some v :: z) H fun y H1 => tp v y H1 fun w H2 => D.nx (a0 :: a1 :: a2 :: some w :: z) H2) : tAug 3 te tp D (a0 :: a1 :: a2 :: some v :: z) H := ⟨v, rfl, q⟩
theorem r_aug4 {a0 a1 a2 a3 : Option V} {z : L2.St} {tp : TIp} (q : te (a0 :: a1 :: a2 :: a3 :: some v :: z) H fun y H1 => tp v y H1 fun w H2 => D.nx (a0 :: a1 :: a2 :: a3 :: some w :: z) H2) : tAug 4 te tp D (a0 :: a1 :: a2 :: a3 :: some v :: z) H := ⟨v, rfl, q⟩
theorem r_aug5 {a0 a1 a2 a3 a4 : Option V} {z : L2.St} {tp : TIp} (q : te (a0 :: a1 :: a2 :: a3 :: a4 :: some v :: z) H fun y H1 => tp v y H1 fun w H2 => D.nx (a0 :: a1 :: a2 :: a3 :: a4 :: some w :: z) H2) : tAug 5 te tp D (a0 :: a1 :: a2 :: a3 :: a4 :: some v :: z) H := ⟨v, rfl, q⟩
theorem r_aug6 {a0 a1 a2 a3 a4 a5 : Option V} {z : L2.St} {tp : TIp} (q : te (a0 :: a1 :: a2 :: a3 :: a4 :: a5 :: some v :: z) H fun y H1 => tp v y H1 fun w H2 => D.nx (a0 :: a1 :: a2 :: a3 :: a4 :: a5 :: some w :: z) H2) : tAug 6 te tp D (a0 :: a1 :: a2 :: a3 :: a4 :: a5 :: some v :: z) H := ⟨v, rfl, q⟩
theorem r_aug7 {a0 a1 a2 a3 a4 a5 a6 : Option V} {z : L2.St} {tp : TIp} (q : te (a0 :: a1 :: a2 :: a3 :: a4 :: a5 :: a6 :: some v :: z) H fun y H1 => tp v y H1 fun w H2 => D.nx (a0 :: a1 :: a2 :: a3 :: a4 :: a5 :: a6 :: some w :: z) H2) : tAug 7 te tp D (a0 :: a1 :: a2 :: a3 :: a4 :: a5 :: a6 :: some v :: z) H := ⟨v, rfl, q⟩
theorem r_aug8 {a0 a1 a2 a3 a4 a5 a6 a7 : Option V} {z : L2.St} {tp : TIp} (q : te (a0 :: a1 :: a2 :: a3 :: a4 :: a5 :: a6 :: a7 :: some v :: z) H fun y H1 => tp v y H1 fun w H2 => D.nx (a0 :: a1 :: a2 :: a3 :: a4 :: a5 :: a6 :: a7 :: some w :: z) H2) : tAug 8 te tp D (a0 :: a1 :: a2 :: a3 :: a4 :: a5 :: a6 :: a7 :: some v :: z) H := ⟨v, rfl, q⟩
theorem r_aug9 {a0 a1 a2 a3 a4 a5 a6 a7 a8 : Option V} {z : L2.St} {tp : TIp} (q : te (a0 :: a1 :: a2 :: a3 :: a4 :: a5 :: a6 :: a7 :: a8 :: some v :: z) H fun y H1 => tp v y H1 fun w H2 => D.nx (a0 :: a1 :: a2 :: a3 :: a4 :: a5 :: a6 :: a7 :: a8 :: some w :: z) H2) : tAug 9 te tp D (a0 :: a1 :: a2 :: a3 :: a4 :: a5 :: a6 :: a7 :: a8 :: some v :: z) H := ⟨v, rfl, q⟩
theorem r_aug10 {a0 a1 a2 a3 a4 a5 a6 a7 a8 a9 : Option V} {z : L2.St} {tp : TIp} (q : te (a0 :: a1 :: a2 :: a3 :: a4 :: a5 :: a6 :: a7 :: a8 :: a9 :: some v :: z) H fun y H1 => tp v y H1 fun w H2 => D.nx (a0 :: a1 :: a2 :: a3 :: a4 :: a5 :: a6 :: a7 :: a8 :: a9 :: some w :: z) H2) : tAug 10 te tp D (a0 :: a1 :: a2 :: a3 :: a4 :: a5 :: a6 :: a7 :: a8 :: a9 :: some v :: z) H := ⟨v, rfl, q⟩
theorem r_aug11 {a0 a1 a2 a3 a4 a5 a6 a7 a8 a9 a10 : Option V} {z : L2.St} {tp : TIp} (q : te (a0 :: a1 :: a2 :: a3 :: a4 :: a5 :: a6 :: a7 :: a8 :: a9 :: a10 :: some v :: z) H fun y H1 => tp v y H1 fun w H2 => D.nx (a0 :: a1 :: a2 :: a3 :: a4 :: a5 :: a6 :: a7 :: a8 :: a9 :: a10 :: some w :: z) H2) : tAug 11 te tp D (a0 :: a1 :: a2 :: a3 :: a4 :: a5 :: a6 :: a7 :: a8 :: a9 :: a10 :: some v :: z) H := ⟨v, rfl, q⟩
theorem r_aug12 {a0 a1 a2 a3 a4 a5 a6 a7 a8 a9 a10 a11 : Option V} {z : L2.St} {tp : TIp} (q : te (a0 :: a1 :: a2 :: a3 :: a4 :: a5 :: a6 :: a7 :: a8 :: a9 :: a10 :: a11 :: some v :: z) H fun y H1 => tp v y H1 fun w H2 => D.nx (a0 :: a1 :: a2 :: a3 :: a4 :: a5 :: a6 :: a7 :: a8 :: a9 :: a10 :: a11 :: some w :: z) H2) : tAug 12 te tp D (a0 :: a1 :: a2 :: a3 :: a4 :: a5 :: a6 :: a7 :: a8 :: a9 :: a10 :: a11 :: some v :: z) H := ⟨v, rfl, q⟩
theorem r_aug13 {a0 a1 a2 a3 a4 a5 a6 a7 a8 a9 a10 a11 a12 : Option V} {z : L2.St} {tp : TIp} (q : te (a0 :: a1 :: a2 :: a3 :: a4 :: a5 :: a6 :: a7 :: a8 :: a9 :: a10 :: a11 :: a12 :: some v :: z) H fun y H1 => tp v y H1 fun w H2 => D.nx (a0 :: a1 :: a2 :: a3 :: a4 :: a5 :: a6 :: a7 :: a8 :: a9 :: a10 :: a11 :: a12 :: some w :: z) H2) : tAug 13 te tp D (a0 :: a1 :: a2 :: a3 :: a4 :: a5 :: a6 :: a7 :: a8 :: a9 :: a10 :: a11 :: a12 :: some v :: z) H := ⟨v, rfl, q⟩
theorem r_aug14 {a0 a1 a2 a3 a4 a5 a6 a7 a8 a9 a10 a11 a12 a13 : Option V} {z : L2.St} {tp : TIp} (q : te (a0 :: a1 :: a2 :: a3 :: a4 :: a5 :: a6 :: a7 :: a8 :: a9 :: a10 :: a11 :: a12 :: a13 :: some v :: z) H fun y H1 => tp v y H1 fun w H2 => D.nx (a0 :: a1 :: a2 :: a3 :: a4 :: a5 :: a6 :: a7 :: a8 :: a9 :: a10 :: a11 :: a12 :: a13 :: some w :: z) H2) : tAug 14 te tp D (a0 :: a1 :: a2 :: a3 :: a4 :: a5 :: a6 :: a7 :: a8 :: a9 :: a10 :: a11 :: a12 :: a13 :: some v :: z) H := ⟨v, rfl, q⟩
theorem r_aug15 {a0 a1 a2 a3 a4 a5 a6 a7 a8 a9 a10 a11 a12 a13 a14 : Option V} {z : L2.St} {tp : TIp} (q : te (a0 :: a1 :: a2 :: a3 :: a4 :: a5 :: a6 :: a7 :: a8 :: a9 :: a10 :: a11 :: a12 :: a13 :: a14 :: some v :: z) H fun y H1 => tp v y H1 fun w H2 => D.nx (a0 :: a1 :: a2 :: a3 :: a4 :: a5 :: a6 :: a7 :: a8 :: a9 :: a10 :: a11 :: a12 :: a13 :: a14 :: some w :: z) H2) : tAug 15 te tp D (a0 :: a1 :: a2 :: a3 :: a4 :: a5 :: a6 :: a7 :: a8 :: a9 :: a10 :: a11 :: a12 :: a13 :: a14 :: some v :: z) H := ⟨v, rfl, q⟩
theorem r_aug16 {a0 a1 a2 a3 a4 a5 a6 a7 a8 a9 a10 a11 a12 a13 a14 a15 : Option V} {z : L2.St} {tp : TIp} (q : te (a0 :: a1 :: a2 :: a3 :: a4 :: a5 :: a6 :: a7 :: a8 :: a9 :: a10 :: a11 :: a12 :: a13 :: a14 :: a15 :: some v :: z) H fun y H1 => tp v y H1 fun w H2 => D.nx (a0 :: a1 :: a2 :: a3 :: a4 :: a5 :: a6 :: a7 :: a8 :: a9 :: a10 :: a11 :: a12 :: a13 :: a14 :: a15 :: some w :: z) H2) : tAug 16 te tp D (a0 :: a1 :: a2 :: a3 :: a4 :: a5 :: a6 :: a7 :: a8 :: a9 :: a10 :: a11 :: a12 :: a13 :: a14 :: a15 :: some v :: z) H := ⟨v, rfl, q⟩
theorem r_aug17 {a0 a1 a2 a3 a4 a5 a6 a7 a8 a9 a10 a11 a12 a13 a14 a15 a16 : Option V} {z : L2.St} {tp : TIp} (q : te (a0 :: a1 :: a2 :: a3 :: a4 :: a5 :: a6 :: a7 :: a8 :: a9 :: a10 :: a11 :: a12 :: a13 :: a14 :: a15 :: a16 :: some v :: z) H fun y H1 => tp v y H1 fun w H2 => D.nx (a0 :: a1 :: a2 :: a3 :: a4 :: a5 :: a6 :: a7 :: a8 :: a9 :: a10 :: a11 :: a12 :: a13 :: a14 :: a15 :: a16 :: some w :: z) H2) : tAug 17 te tp D (a0 :: a1 :: a2 :: a3 :: a4 :: a5 :: a6 :: a7 :: a8 :: a9 :: a10 :: a11 :: a12 :: a13 :: a14 :: a15 :: a16 :: some v :: z) H := ⟨v, rfl, q⟩
theorem r_aug18 {a0 a1 a2 a3 a4 a5 a6 a7 a8 a9 a10 a11 a12 a13 a14 a15 a16 a17 : Option V} {z : L2.St} {tp : TIp} (q : te (a0 :: a1 :: a2 :: a3 :: a4 :: a5 :: a6 :: a7 :: a8 :: a9 :: a10 :: a11 :: a12 :: a13 :: a14 :: a15 :: a16 :: a17 :: some v :: z) H fun y H1 => tp v y H1 fun w H2 => D.nx (a0 :: a1 :: a2 :: a3 :: a4 :: a5 :: a6 :: a7 :: a8 :: a9 :: a10 :: a11 :: a12 :: a13 :: a14 :: a15 :: a16 :: a17 :: some w :: z) H2) : tAug 18 te tp D (a0 :: a1 :: a2 :: a3 :: a4 :: a5 :: a6 :: a7 :: a8 :: a9 :: a10 :: a11 :: a12 :: a13 :: a14 :: a15 :: a16 :: a17 :: some v :: z) H := ⟨v, rfl, q⟩
theorem r_aug19 {a0 a1 a2 a3 a4 a5 a6 a7 a8 a9 a10 a11 a12 a13 a14 a15 a16 a17 a18 : Option V} {z : L2.St} {tp : TIp} (q : te (a0 :: a1 :: a2 :: a3 :: a4 :: a5 :: a6 :: a7 :: a8 :: a9 :: a10 :: a11 :: a12 :: a13 :: a14 :: a15 :: a16 :: a17 :: a18 :: some v :: z) H fun y H1 => tp v y H1 fun w H2 => D.nx (a0 :: a1 :: a2 :: a3 :: a4 :: a5 :: a6 :: a7 :: a8 :: a9 :: a10 :: a11 :: a12 :: a13 :: a14 :: a15 :: a16 :: a17 :: a18 :: some w :: z) H2) : tAug 19 te tp D (a0 :: a1 :: a2 :: a3 :: a4 :: a5 :: a6 :: a7 :: a8 :: a9 :: a10 :: a11 :: a12 :: a13 :: a14 :: a15 :: a16 :: a17 :: a18 :: some v :: z) H := ⟨v, rfl, q⟩
theorem r_aug20 {a0 a1 a2 a3 a4 a5 a6 a7 a8 a9 a10 a11 a12 a13 a14 a15 a16 a17 a18 a19 : Option V} {z : L2.St} {tp : TIp} (q : te (a0 :: a1 :: a2 :: a3 :: a4 :: a5 :: a6 :: a7 :: a8 :: a9 :: a10 :: a11 :: a12 :: a13 :: a14 :: a15 :: a16 :: a17 :: a18 :: a19 :: some v :: z) H fun y H1 => tp v y H1 fun w H2 => D.nx (a0 :: a1 :: a2 :: a3 :: a4 :: a5 :: a6 :: a7 :: a8 :: a9 :: a10 :: a11 :: a12 :: a13 :: a14 :: a15 :: a16 :: a17 :: a18 :: a19 :: some w :: z) H2) : tAug 20 te tp D (a0 :: a1 :: a2 :: a3 :: a4 :: a5 :: a6 :: a7 :: a8 :: a9 :: a10 :: a11 :: a12 :: a13 :: a14 :: a15 :: a16 :: a17 :: a18 :: a19 :: some v :: z) H := ⟨v, rfl, q⟩
theorem r_aug21 {a0 a1 a2 a3 a4 a5 a6 a7 a8 a9 a10 a11 a12 a13 a14 a15 a16 a17 a18 a19 a20 : Option V} {z : L2.St} {tp : TIp} (q : te (a0 :: a1 :: a2 :: a3 :: a4 :: a5 :: a6 :: a7 :: a8 :: a9 :: a10 :: a11 :: a12 :: a13 :: a14 :: a15 :: a16 :: a17 :: a18 :: a19 :: a20 :: some v :: z) H fun y H1 => tp v y H1 fun w H2 => D.nx (a0 :: a1 :: a2 :: a3 :: a4 :: a5 :: a6 :: a7 :: a8 :: a9 :: a10 :: a11 :: a12 :: a13 :: a14 :: a15 :: a16 :: a17 :: a18 :: a19 :: a20 :: some w :: z) H2) : tAug 21 te tp D (a0 :: a1 :: a2 :: a3 :: a4 :: a5 :: a6 :: a7 :: a8 :: a9 :: a10 :: a11 :: a12 :: a13 :: a14 :: a15 :: a16 :: a17 :: a18 :: a19 :: a20 :: some v :: z) H := ⟨v, rfl, q⟩
theorem r_ip {f : Int → Int → Int} {i j : Int} (q : Q (.int (f i j)) H) : ipI f (.int i) (.int j) H Q := ⟨i, j, rfl, rfl, q⟩
end

/-! ### instances in isinstance -/
structure InsI (K : PySem.W.Frag) (C : Addr) : Prop where
  cl : Cls K C
  ha : PySem.W.findIn K (.ref C) "__class__" = some (some (.builtin "object.__class__"))
  hn : PySem.W.specialIn K (.builtin "object.__class__") "__get__" = some (some (.builtin "getset_descriptor.__get__"))
  htk : PySem.W.takesIn K (.builtin "object.__class__") = some true
  hm : PySem.W.mroIn K C (.type "object") = some true
  own : PySem.W.kitOne K (.ref C) (.ref C) = some true
def insB (K : PySem.W.Frag) (C : Addr) : Bool := decide (PySem.W.findIn K (.ref C) "__class__" = some (some (.builtin "object.__class__"))) && (decide (PySem.W.specialIn K (.builtin "object.__class__") "__get__" = some (some (.builtin "getset_descriptor.__get__"))) &&
  (decide (PySem.W.takesIn K (.builtin "object.__class__") = some true) && (decide (PySem.W.mroIn K C (.type "object") = some true) && decide (PySem.W.kitOne K (.ref C) (.ref C) = some true))))
theorem insB_ok {K : PySem.W.Frag} {C : Addr} (cl : Cls K C) (h : insB K C = true) : InsI K C := by
  obtain ⟨h1, h⟩ := Bool.and_eq_true_iff.mp h
  obtain ⟨h2, h⟩ := Bool.and_eq_true_iff.mp h
  obtain ⟨h3, h⟩ := Bool.and_eq_true_iff.mp h
  obtain ⟨h4, h5⟩ := Bool.and_eq_true_iff.mp h
  exact ⟨cl, of_decide_eq_true h1, of_decide_eq_true h2, of_decide_eq_true h3, of_decide_eq_true h4, of_decide_eq_true h5⟩
theorem InsI.ty {K : PySem.W.Frag} {C a dx : Addr} {H : Hp} {fs : List (Str × V)} (I : InsI K C) (e : H a = some (.ins C dx fs)) : TyX K H (.ref a) (.ref C) := .base (.ins e I.cl I.ha I.hn I.htk I.hm)
/-! ### comprehensions and loops with the slots written out -/
section
variable {K : PySem.W.Frag} {g : TG} {tt : TT} {te : TE} {vs : List Nat} {σ : L2.St} {H1 : Hp} {D : Addr} {Qd : Hp → Prop}
theorem lc_rangeS {lo : Int} {n : Nat} (σ' : L2.St) (hσ : wipe σ vs = σ') (Pv : Nat → Hp → Prop) (h0 : Pv 0 (upd H1 D (.lst [])))
    (hs : ∀ i H, i < n → Pv i H → g (.int (lo + i)) σ' H fun σ2 H2 => wipe σ2 vs = σ' ∧ tt σ2 H2 fun b H3 =>
      if b = true then te σ2 H3 fun y H4 => ∃ acc, H4 D = some (.lst acc) ∧ acc.length < sizeLine ∧ Pv (i + 1) (upd H4 D (.lst (acc ++ [y]))) else Pv (i + 1) H3) (hd : ∀ H, Pv n H → Qd H) :
    ∃ W : Nat → Nat → Hp → Prop, (∃ m, W 0 m (upd H1 D (.lst []))) ∧ ∀ i m H, W i m H →
      ((Itr lo n).stop i H ∧ Qd H) ∨ ((Itr lo n).go i H ∧ ∃ Nx : Hp → Prop, (∀ H', Nx H' → ∃ m', m' < m ∧ W (i + 1) m' H') ∧ ∀ x H', (Itr lo n).yld i H x H' → g x (wipe σ vs) H' fun σ2 H2 => wipe σ2 vs = wipe σ vs ∧ tt σ2 H2 fun b H3 =>
        if b = true then te σ2 H3 fun y H4 => ∃ acc, H4 D = some (.lst acc) ∧ acc.length < sizeLine ∧ Nx (upd H4 D (.lst (acc ++ [y]))) else Nx H3) := by
  subst hσ
  exact lc_range Pv h0 hs hd
theorem lc_listS {a : Addr} {xs : List V} (σ' : L2.St) (hσ : wipe σ vs = σ') (Pv : Nat → Hp → Prop) (h0 : Pv 0 (upd H1 D (.lst []))) (hl : ∀ i H, i ≤ xs.length → Pv i H → SqL K H a xs)
    (hs : ∀ i x H, xs[i]? = some x → Pv i H → g x σ' H fun σ2 H2 => wipe σ2 vs = σ' ∧ tt σ2 H2 fun b H3 =>
      if b = true then te σ2 H3 fun y H4 => ∃ acc, H4 D = some (.lst acc) ∧ acc.length < sizeLine ∧ Pv (i + 1) (upd H4 D (.lst (acc ++ [y]))) else Pv (i + 1) H3) (hd : ∀ H, Pv xs.length H → Qd H) :
    ∃ W : Nat → Nat → Hp → Prop, (∃ m, W 0 m (upd H1 D (.lst []))) ∧ ∀ i m H, W i m H →
      ((Itl K a).stop i H ∧ Qd H) ∨ ((Itl K a).go i H ∧ ∃ Nx : Hp → Prop, (∀ H', Nx H' → ∃ m', m' < m ∧ W (i + 1) m' H') ∧ ∀ x H', (Itl K a).yld i H x H' → g x (wipe σ vs) H' fun σ2 H2 => wipe σ2 vs = wipe σ vs ∧ tt σ2 H2 fun b H3 =>
        if b = true then te σ2 H3 fun y H4 => ∃ acc, H4 D = some (.lst acc) ∧ acc.length < sizeLine ∧ Nx (upd H4 D (.lst (acc ++ [y]))) else Nx H3) := by
  subst hσ
  exact lc_list Pv h0 hl hs hd
end
/-- the reading of a for loop, its iterator told by its end -/
def rFor (g : TG) (tb : TS) (D : Ends) (σ : L2.St) (J : It) (H1 : Hp) : Prop := ∃ W : Nat → Nat → L2.St → Hp → Prop, (∃ m, W 0 m σ H1) ∧ ∀ i m σ H, W i m σ H →
  (J.stop i H ∧ D.nx σ H) ∨ (J.go i H ∧ ∃ N : L2.St → Hp → Prop, (∀ σ' H', N σ' H' → ∃ m', m' < m ∧ W (i + 1) m' σ' H') ∧ ∀ x H', J.yld i H x H' → g x σ H' fun σ2 H2 => tb { D with nx := N, ct := N, bk := D.nx } σ2 H2)
theorem r_for {wi : TI} {g : TG} {tb : TS} {D : Ends} {σ : L2.St} {H : Hp} (q : wi σ H fun J H1 => rFor g tb D σ J H1) : tFor wi g tb D σ H := q
theorem r_forR {lo : Int} {n : Nat} {g : TG} {tb : TS} {D : Ends} {σ : L2.St} {H : Hp} (Pv : Nat → L2.St → Hp → Prop) (h0 : Pv 0 σ H)
    (hs : ∀ i σ H, i < n → Pv i σ H → g (.int (lo + i)) σ H fun σ2 H2 => tb { D with nx := Pv (i + 1), ct := Pv (i + 1), bk := D.nx } σ2 H2) (hd : ∀ σ H, Pv n σ H → D.nx σ H) : rFor g tb D σ (Itr lo n) H := for_range Pv h0 hs hd
theorem r_forL {K : PySem.W.Frag} {a : Addr} {xs : List V} {g : TG} {tb : TS} {D : Ends} {σ : L2.St} {H : Hp} (Pv : Nat → L2.St → Hp → Prop) (h0 : Pv 0 σ H) (hl : ∀ i σ H, i ≤ xs.length → Pv i σ H → SqL K H a xs)
    (hs : ∀ i x σ H, xs[i]? = some x → Pv i σ H → g x σ H fun σ2 H2 => tb { D with nx := Pv (i + 1), ct := Pv (i + 1), bk := D.nx } σ2 H2) (hd : ∀ σ H, Pv xs.length σ H → D.nx σ H) : rFor g tb D σ (Itl K a) H := for_list Pv h0 hl hs hd
theorem Dr.mut {a p : Addr} {H H' : Hp} {o : HO} (x : Dr a H H') (hp : H p = none) (n : p ≠ a) : Dr a H (L2.upd H' p o) := by
  obtain ⟨c0, c1, c2, h⟩ := x.src
  refine ⟨⟨c0, c1, c2, by rw [upd_ne (Ne.symm n)]; exact h⟩, fun b u nb e => ?_⟩
  rw [upd_ne (ne_of_none e hp)]
  exact x.old b u nb e
/-- all that stands of a list stands, a draw's source apart -/
theorem Dr.keep {a b : Addr} {H H' : Hp} {o : HO} (x : Dr a H H') (n : b ≠ a) (h : H b = some o) : H' b = some o := x.old b o n h
theorem Src.ne_ins {H : Hp} {a b C dx : Addr} {fs : List (Str × V)} (x : Src H a) (h : H b = some (.ins C dx fs)) : b ≠ a := by
  obtain ⟨c0, c1, c2, e⟩ := x
  exact ne_of h e (by intro z; cases z)
theorem Src.ne_tup {H : Hp} {a b : Addr} {xs : List V} (x : Src H a) (h : H b = some (.tup xs)) : b ≠ a := by
  obtain ⟨c0, c1, c2, e⟩ := x
  exact ne_of h e (by intro z; cases z)
theorem Src.ne_lst4 {H : Hp} {a b : Addr} {xs : List V} (x : Src H a) (h : H b = some (.lst xs)) (n : xs.length ≠ 3 := by simp) : b ≠ a := by
  obtain ⟨c0, c1, c2, e⟩ := x
  refine ne_of h e fun z => n ?_
  cases z
  rfl
theorem r_isiT {K : PySem.W.Frag} {H : Hp} {Q : VK} {x : V} {T T' : String} {b : Bool} (ty : TyX K H x (.type T)) (e : kitB T T' = some b) (q : Q (.bl b) H) : rIsi K [x, .ty T'] H Q := r_isi (.ty T') ty (kit_ty e) q
theorem r_isiC {K : PySem.W.Frag} {H : Hp} {Q : VK} {a C dx : Addr} {fs : List (Str × V)} (I : InsI K C) (e : H a = some (.ins C dx fs)) (q : Q (.bl true) H) : rIsi K [.ref a, .ref C] H Q := r_isi (.own C) (I.ty e) I.own q
theorem max_le {ns : List Int} {m b : Int} (hm : m ∈ ns) (h : ∀ n ∈ ns, n ≤ b) : m ≤ b := h m hm
theorem take_map_bl {bs : List Bool} (h : ∀ b ∈ bs, b = true) : bs.all id = true := by
  rw [List.all_eq_true]
  intro b hb
  rw [h b hb]
  rfl
theorem iteNt {A B : Prop} (h : B) : if (!true) = true then A else B := iteF h
theorem iteNf {A B : Prop} (h : A) : if (!false) = true then A else B := iteT h
theorem r_newS {o : HO} {H : Hp} {Q : VK} (q : ∀ (p : Addr) (H' : Hp), H p = none → Same H H' → H' p = some o → Q (.ref p) H') : rNew o H Q := fun p hp => q p _ hp (same_new hp) upd_same
theorem Src.same {H H' : Hp} {a : Addr} (x : Src H a) (s : Same H H') : Src H' a := by
  obtain ⟨c0, c1, c2, h⟩ := x
  exact ⟨c0, c1, c2, s _ _ h⟩
theorem Dr.same {a : Addr} {H H1 H2 : Hp} (x : Dr a H H1) (s : Same H1 H2) : Dr a H H2 := ⟨x.src.same s, fun b o n h => s b o (x.old b o n h)⟩
theorem Dr.ofSame {a : Addr} {H H1 : Hp} (x : Src H a) (s : Same H H1) : Dr a H H1 := ⟨x.same s, fun b o _ h => s b o h⟩
/-! ### sum of a tuple of ints -/
def rSumT (K : PySem.W.Frag) : List V → Hp → VK → Prop := fun vs H Q => ∃ (a : Addr) (ns : List Int), vs = [V.ref a] ∧ SqT K H a (ns.map V.int) ∧ Q (.int ns.sum) H
theorem preSum_list (ns : List Int) : ∀ j, PySem.preSum (fun i => ns.getD i 0) j = (ns.take j).sum
  | 0 => rfl
  | j + 1 => by
    show PySem.preSum (fun i => ns.getD i 0) j + ns.getD j 0 = _
    rw [preSum_list ns j, List.getD_eq_getElem?_getD, List.take_add_one, List.sum_append]
    cases ns[j]? with
    | none => rfl
    | some z =>
      show (ns.take j).sum + z = (ns.take j).sum + ([z] : List Int).sum
      rw [List.sum_cons]
      show _ = _ + (z + 0)
      rw [Int.add_zero]
theorem c_sumT {X : Cx} (hc : X.calm = true) : CallR X (.builtin "sum") (rSumT X.K) := by
  intro pins s σ H vs us Q I r h
  obtain ⟨a, ns, rfl, hs, q⟩ := h
  obtain ⟨its, rv, hl, _⟩ := I.tuple hs
  rw [Vals.ref1 r]
  have hh : X.A.in1.handled = none := by
    have := I.ok.hd hc
    simpa using this
  obtain ⟨o, ho, hrest⟩ := id hl
  have hlt : a < s.heap.objs.size := Heap.lt_size ho
  have hlen : its.length = ns.length := by rw [← rv.length, List.length_map]
  refine PySem.call_sum_walkG (wpAny_pyIter_tuple (show s.heap.IsTuple a its.toArray from hl) ?_)
  refine ⟨s.heap.objs.size, _, [s.heap.objs.size], _, _, _, fun i => ns.getD i 0, rfl, Walks.tuple (A := X.A.in1) hh s.heap.objs.size a (Nat.ne_of_lt hlt) its.toArray, ⟨⟨_, Heap.get?_push_size _ rfl, rfl, rfl⟩, IsTup.push hl _⟩, fun b hb => ?_, fun i v hv => ?_, fun h' tk t' hk => ?_⟩
  · rw [Heap.size_push]
    simp only [List.mem_cons, List.not_mem_nil, or_false] at hb
    rcases hb with rfl | rfl
    · exact Nat.lt_succ_self _
    · exact Nat.lt_succ_of_lt hlt
  · have hv2 : its[i]? = some v := by simpa using hv
    have hi : i < its.length := (List.getElem?_eq_some_iff.mp hv2).1
    obtain ⟨u, hu, ru⟩ := rv.get (i := i) (x := V.int (ns.getD i 0)) (by
      rw [List.getElem?_map, List.getD_eq_getElem?_getD, List.getElem?_eq_getElem (by omega : i < ns.length)]
      rfl)
    rw [hv2] at hu
    obtain ⟨t, e⟩ := ru
    exact ⟨t, by rw [Option.some.inj hu, e]⟩
  · have e : PySem.preSum (fun i => ns.getD i 0) its.toArray.size = ns.sum := by
      rw [preSum_list, List.size_toArray, List.take_of_length_le (by omega)]
    rw [e]
    exact ⟨.int ns.sum, H, I.kept (t' := tk) (fun b o e => hk b o (fun z => by
      rw [List.mem_singleton] at z
      rw [z] at e
      exact absurd (Heap.lt_size e) (Nat.lt_irrefl _)) (Heap.get?_push_of_some _ e)), ⟨_, rfl⟩, q⟩
theorem r_sumT {K : PySem.W.Frag} {H : Hp} {Q : VK} {a : Addr} {ns : List Int} (h : SqT K H a (ns.map V.int)) (q : Q (.int ns.sum) H) : rSumT K [.ref a] H Q := ⟨a, ns, rfl, h, q⟩
/-! ### while -/
def rWh (tb : TS) (D : Ends) (Pv : Nat → L2.St → Hp → Prop) (m : Nat) (σ : L2.St) (b : Bool) (H1 : Hp) : Prop :=
  if b = true then ∃ N : L2.St → Hp → Prop, (∀ σ' H', N σ' H' → ∃ m', m' < m ∧ Pv m' σ' H') ∧ tb { D with nx := N, ct := N, bk := D.nx } σ H1 else D.nx σ H1
theorem r_while {c : TT} {tb : TS} {D : Ends} {σ : L2.St} {H : Hp} (Pv : Nat → L2.St → Hp → Prop) (m0 : Nat) (h0 : Pv m0 σ H) (hs : ∀ m σ H, Pv m σ H → c σ H fun b H1 => rWh tb D Pv m σ b H1) : tWhile c tb D σ H := ⟨Pv, ⟨m0, h0⟩, hs⟩
theorem r_whT {tb : TS} {D : Ends} {Pv : Nat → L2.St → Hp → Prop} {m : Nat} {σ : L2.St} {H1 : Hp} (q : tb { D with nx := fun σ' H' => ∃ m', m' < m ∧ Pv m' σ' H', ct := fun σ' H' => ∃ m', m' < m ∧ Pv m' σ' H', bk := D.nx } σ H1) : rWh tb D Pv m σ true H1 := by
  unfold rWh
  rw [if_pos rfl]
  exact ⟨_, fun _ _ h => h, q⟩
theorem r_whF {tb : TS} {D : Ends} {Pv : Nat → L2.St → Hp → Prop} {m : Nat} {σ : L2.St} {H1 : Hp} (q : D.nx σ H1) : rWh tb D Pv m σ false H1 := by
  unfold rWh
  rw [if_neg Bool.false_ne_true]
  exact q
theorem r_whD {tb : TS} {D : Ends} {Pv : Nat → L2.St → Hp → Prop} {m : Nat} {σ : L2.St} {H1 : Hp} {p : Prop} [Decidable p] (h1 : p → tb { D with nx := fun σ' H' => ∃ m', m' < m ∧ Pv m' σ' H', ct := fun σ' H' => ∃ m', m' < m ∧ Pv m' σ' H', bk := D.nx } σ H1) (h2 : ¬ p → D.nx σ H1) : rWh tb D Pv m σ (decide p) H1 := by
  by_cases h : p
  · rw [decide_eq_true h]
    exact r_whT (h1 h)
  · rw [decide_eq_false h]
    exact r_whF (h2 h)
theorem ix_mod {xs : List V} {z : Int} {r n : Nat} {v : V} (e : z = ((r % n : Nat) : Int)) (h : xs[r % n]? = some v) : atI xs z = some v := at_of e h
/-! ### dicts with int keys -/
section
variable {σ : L2.St} {H : Hp} {Q : VK} {D : Ends} {ty td tv : TE} {v : V}
def rDk (x y : V) (H : Hp) (R : Option V → Prop) : Prop := ∃ a o, x = .ref a ∧ DGet H a y o ∧ R o
theorem r_dnotin (q : ty σ H fun y H1 => td σ H1 fun x H2 => rDk x y H2 fun o => Q (.bl (!o.isSome)) H2) : tDNotIn ty td σ H Q := q
theorem r_din (q : ty σ H fun y H1 => td σ H1 fun x H2 => rDk x y H2 fun o => Q (.bl o.isSome) H2) : tDIn ty td σ H Q := q
theorem r_dk {a : Addr} {kvs : List (Key × V)} {k : Int} {R : Option V → Prop} (h : H a = some (.dK kvs)) (q : R (valV kvs (Sum.inl k))) : rDk (.ref a) (.int k) H R := ⟨a, _, rfl, DGet.k (k := Sum.inl k) h, q⟩
def rDg (x y : V) (H : Hp) (Q : VK) : Prop := ∃ a v, x = .ref a ∧ DGet H a y (some v) ∧ Q v H
theorem r_dget (q : td σ H fun x H1 => ty σ H1 fun y H2 => rDg x y H2 Q) : tDGet td ty σ H Q := q
theorem r_dg {a : Addr} {kvs : List (Key × V)} {k : Int} (h : H a = some (.dK kvs)) (e : valV kvs (Sum.inl k) = some v) (q : Q v H) : rDg (.ref a) (.int k) H Q := ⟨a, v, rfl, by rw [← e]; exact DGet.k (k := Sum.inl k) h, q⟩
def rDp (x y v : V) (H : Hp) (Qn : Hp → Prop) : Prop := ∃ a H4, x = .ref a ∧ DPut H a y v H4 ∧ Qn H4
theorem r_dput (q : tv σ H fun v H1 => td σ H1 fun x H2 => ty σ H2 fun y H3 => rDp x y v H3 fun H4 => D.nx σ H4) : sDPut td ty tv D σ H := q
theorem r_dp {a : Addr} {kvs : List (Key × V)} {k : Int} {Qn : Hp → Prop} (h : H a = some (.dK kvs)) (hl : kvs.length < 100000) (q : Qn (upd H a (.dK (putK kvs (Sum.inl k) v)))) : rDp (.ref a) (.int k) v H Qn := ⟨a, _, rfl, DPut.k (k := Sum.inl k) h (szl hl), q⟩
theorem r_dnew (q : rNew (.dK []) H Q) : tDNewK σ H Q := q
end
/-- the list of f 0 .. f (n - 1) -/
def tabL (f : Nat → V) (n : Nat) : List V := (List.range n).map f
theorem tabL_len (f : Nat → V) (n : Nat) : (tabL f n).length = n := by simp [tabL]
theorem tabL_get (f : Nat → V) {n i : Nat} (h : i < n) : (tabL f n)[i]? = some (f i) := by
  unfold tabL
  rw [List.getElem?_map, List.getElem?_range h]
  rfl
theorem tabL_succ (f : Nat → V) (n : Nat) : tabL f (n + 1) = tabL f n ++ [f n] := by
  unfold tabL
  rw [List.range_succ, List.map_append]
  rfl
theorem tabL_last (f : Nat → V) (n : Nat) : atI (tabL f (n + 1)) (-1) = some (f n) := by
  rw [tabL_succ]
  exact atI_last _ _
theorem tabL_at (f : Nat → V) {n i : Nat} {z : Int} (e : z = (i : Int)) (h : i < n) : atI (tabL f n) z = some (f i) := at_of e (tabL_get f h)
/-! == and != of rows of ints -/
theorem dpInts {K : PySem.W.Frag} {H : Hp} : ∀ is : List Int, DpAll K H (is.map V.int) (is.map PyData.int)
  | [] => .nil
  | i :: is => .cons (.int i) (dpInts is)
theorem eqvInts : ∀ is js : List Int, PyData.eqvAll (is.map PyData.int) (js.map PyData.int) = decide (is = js)
  | [], [] => by simp [PyData.eqvAll]
  | [], _ :: _ => by simp [PyData.eqvAll]
  | _ :: _, [] => by simp [PyData.eqvAll]
  | a :: is, b :: js => by
    show (PyData.eqv (.int a) (.int b) && PyData.eqvAll (is.map PyData.int) (js.map PyData.int)) = _
    rw [eqvInts is js]
    show ((a == b) && decide (is = js)) = decide (a :: is = b :: js)
    by_cases h : a = b <;> by_cases h2 : is = js <;> simp [h, h2]
theorem layInts : ∀ is : List Int, PyData.canLayAll0 (is.map PyData.int) = true ∧ PyData.depthAll (is.map PyData.int) = 0
  | [] => ⟨rfl, rfl⟩
  | _ :: is => by simp [PyData.canLayAll0, PyData.canLay0, PyData.depthAll, PyData.depth, layInts is]
theorem shL (is : List Int) : SeqAt.shaped (.list (is.map PyData.int)) = true := by simp [SeqAt.shaped, PyData.canLay0, PyData.depth, layInts is]
theorem shT (is : List Int) : SeqAt.shaped (.tuple (is.map PyData.int)) = true := by simp [SeqAt.shaped, PyData.canLay0, PyData.depth, layInts is]
section
variable {K : PySem.W.Frag} {H : Hp} {Q : VK} {a b : Addr} {is js : List Int}
theorem r_eqTT (h : SqT K H a (is.map V.int)) (g : SqT K H b (js.map V.int)) (q : Q (.bl (decide (is = js))) H) : rEqD K (.ref a) (.ref b) H Q :=
  ⟨_, _, .tup h (dpInts is), .tup g (dpInts js), shT is, shT js, by rw [show PyData.eqv (.tuple (is.map PyData.int)) (.tuple (js.map PyData.int)) = decide (is = js) from eqvInts is js]; exact q⟩
theorem r_neTT (h : SqT K H a (is.map V.int)) (g : SqT K H b (js.map V.int)) (q : Q (.bl (!decide (is = js))) H) : rNeD K (.ref a) (.ref b) H Q :=
  ⟨_, _, .tup h (dpInts is), .tup g (dpInts js), shT is, shT js, by rw [show PyData.eqv (.tuple (is.map PyData.int)) (.tuple (js.map PyData.int)) = decide (is = js) from eqvInts is js]; exact q⟩
theorem r_eqLL (h : SqL K H a (is.map V.int)) (g : SqL K H b (js.map V.int)) (q : Q (.bl (decide (is = js))) H) : rEqD K (.ref a) (.ref b) H Q :=
  ⟨_, _, .lst h (dpInts is), .lst g (dpInts js), shL is, shL js, by rw [show PyData.eqv (.list (is.map PyData.int)) (.list (js.map PyData.int)) = decide (is = js) from eqvInts is js]; exact q⟩
theorem r_neLL (h : SqL K H a (is.map V.int)) (g : SqL K H b (js.map V.int)) (q : Q (.bl (!decide (is = js))) H) : rNeD K (.ref a) (.ref b) H Q :=
  ⟨_, _, .lst h (dpInts is), .lst g (dpInts js), shL is, shL js, by rw [show PyData.eqv (.list (is.map PyData.int)) (.list (js.map PyData.int)) = decide (is = js) from eqvInts is js]; exact q⟩
end
/-- another cell than one that was free -/
theorem Same.ne_free {H H' : Hp} {a b : Addr} {o : HO} (h : H a = some o) (f : H b = none) : a ≠ b := ne_of_none h f
def rTri (vs : List V) (R : V → V → V → Prop) : Prop := ∃ u v w, vs = [u, v, w] ∧ R u v w
theorem r_par3 {tr : TA} {D : Ends} {σ : L2.St} {H : Hp} {i j l : Nat} (q : tr σ H fun vs H1 => rTri vs fun u v w => gName i u σ H1 fun σ' H' => gName j v σ' H' fun σ2 H2 => gName l w σ2 H2 D.nx) : tPar3 i j l tr D σ H := q
theorem r_tri {u v w : V} {R : V → V → V → Prop} (q : R u v w) : rTri [u, v, w] R := ⟨u, v, w, rfl, q⟩
theorem ix_listK {X : Cx} {K : PySem.W.Frag} (h : X.K = K) : IxR X (rIxL K) := h ▸ ix_list
theorem ix_tupK {X : Cx} {K : PySem.W.Frag} (h : X.K = K) : IxR X (rIxT K) := h ▸ ix_tup
theorem c_lenK {X : Cx} {K : PySem.W.Frag} (h : X.K = K) : CallR X (.builtin "len") (rLenL K) := h ▸ c_len
theorem r_slT {K : PySem.W.Frag} {H : Hp} {Q : VK} {a : Addr} {xs : List V} {k : Nat} (h : SqT K H a xs) (hk : k < xs.length) (q : rNew (.tup (xs.take k)) H Q) : rSlT K (.ref a) none (some (k : Int)) H Q := by
  have e : HT.sIx xs.length xs.length (some (k : Int)) = k := by
    rw [HT.sIx_nat]
    exact Nat.min_eq_left (Nat.le_of_lt hk)
  have e0 : cutV xs none (some (k : Int)) = xs.take k := by
    show (xs.drop 0).take (HT.sIx xs.length xs.length (some (k : Int)) - 0) = _
    rw [e]
    rfl
  refine ⟨a, xs, rfl, h, fun z => ?_, ?_⟩
  · have := z.2
    rw [e] at this
    omega
  · rw [e0]
    exact q
theorem But.mut {a p : Addr} {H H' : Hp} {o : HO} (x : But a H H') (hp : H p = none) : But a H (L2.upd H' p o) := fun b u n e => by
  rw [upd_ne (ne_of_none e hp)]
  exact x b u n e
theorem But.same {a : Addr} {H H1 H2 : Hp} (x : But a H H1) (s : Same H1 H2) : But a H H2 := fun b o n h => s b o (x b o n h)
theorem Src.upd_ne {H : Hp} {a p : Addr} {o : HO} (x : Src H a) (n : p ≠ a) : Src (L2.upd H p o) a := by
  obtain ⟨c0, c1, c2, h⟩ := x
  exact ⟨c0, c1, c2, by rw [L2.upd_ne (Ne.symm n)]; exact h⟩
theorem tabL_atA (f : Nat → V) {n i : Nat} {z : Int} {zs : List V} (e : z = (i : Int)) (h : i < n) : atI (tabL f n ++ zs) z = some (f i) := by
  refine at_of e ?_
  rw [List.getElem?_append_left (by rw [tabL_len]; exact h)]
  exact tabL_get f h
/-! for i, x in enumerate(xs) -/
def rEn (K : PySem.W.Frag) (vs : List V) (H : Hp) (R : Addr → Prop) : Prop := ∃ a xs, vs = [V.ref a] ∧ SqL K H a xs ∧ R a
theorem r_enum {K : PySem.W.Frag} {tr : TA} {σ : L2.St} {H : Hp} {R : It → Hp → Prop} (q : tr σ H fun vs H1 => rEn K vs H1 fun a => R (Ite K a) H1) : iEnum K tr σ H R := q
theorem r_en {K : PySem.W.Frag} {H : Hp} {a : Addr} {xs : List V} {R : Addr → Prop} (h : SqL K H a xs) (q : R a) : rEn K [.ref a] H R := ⟨a, xs, rfl, h, q⟩
theorem r_forE {K : PySem.W.Frag} {a : Addr} {xs : List V} {g : TG} {tb : TS} {D : Ends} {σ : L2.St} {H : Hp} (Pv : Nat → L2.St → Hp → Prop) (h0 : Pv 0 σ H) (hl : ∀ i σ H, i ≤ xs.length → Pv i σ H → SqL K H a xs)
    (hs : ∀ i x σ H T H', xs[i]? = some x → Pv i σ H → H T = none → Same H H' → H' T = some (.tup [.int (i : Nat), x]) → g (.ref T) σ H' fun σ2 H2 => tb { D with nx := Pv (i + 1), ct := Pv (i + 1), bk := D.nx } σ2 H2) (hd : ∀ σ H, Pv xs.length σ H → D.nx σ H) : rFor g tb D σ (Ite K a) H := by
  refine ⟨fun i m σ H => m = xs.length - i ∧ i ≤ xs.length ∧ Pv i σ H, ⟨_, rfl, Nat.zero_le _, h0⟩, ?_⟩
  rintro i m σ H ⟨rfl, hi, h⟩
  rcases Nat.lt_or_ge i xs.length with z | z
  · refine .inr ⟨⟨xs, xs[i], hl i σ H hi h, List.getElem?_eq_getElem z⟩, Pv (i + 1), fun σ' H' p => ⟨_, ?_, rfl, z, p⟩, ?_⟩
    · omega
    · rintro v H' ⟨T, x, rfl, hT, rfl, hx⟩
      exact hs i x σ H T _ (hx xs (hl i σ H hi h)) h hT (same_new hT) upd_same
  · have e : i = xs.length := by omega
    subst e
    exact .inl ⟨⟨xs, hl _ σ H hi h, Nat.le_refl _⟩, hd σ H h⟩
/-- the way past a test that may be left out: first what follows, then the test's own way to it -/
theorem r_decK {p : Prop} [Decidable p] {A B : Prop} (q : B) (h1 : B → p → A) : if decide p = true then A else B := by
  by_cases h : p
  · rw [decide_eq_true h]
    exact h1 q h
  · rw [decide_eq_false h]
    exact q
theorem r_neB {i j : Bool} {H : Hp} {Q : VK} (q : Q (.bl (!decide (i = j))) H) : rNe (.bl i) (.bl j) H Q := ⟨rfl, by simpa using q⟩
theorem r_eqB {i j : Bool} {H : Hp} {Q : VK} (q : Q (.bl (decide (i = j))) H) : rEq (.bl i) (.bl j) H Q := ⟨rfl, by simpa using q⟩
theorem r_BM0 {K : PySem.W.Frag} {to : TE} {σ : L2.St} {H : Hp} {Q : VK} {T : String} {rm : V → List V → Hp → VK → Prop} (q : to σ H fun x H1 => rTy K T x H1 (rm x [] H1 Q)) : tBM0 K T rm to σ H Q := q
theorem r_reverse {l : Addr} {xs : List V} {H : Hp} {Q : VK} (h : H l = some (.lst xs)) (q : Q .non (upd H l (.lst xs.reverse))) : rReverse (.ref l) [] H Q := ⟨l, xs, rfl, rfl, h, q⟩
def rRgA (x : V) (R : Int → Int → Prop) : Prop := ∃ n, x = .int n ∧ R 0 n
def rRgL (a b : Int) (H : Hp) (Q : VK) : Prop := RgOk a b ∧ ∀ q, H q = none → Q (.ref q) (upd H q (.lst (rgV a b)))
theorem r_lstRg {ta : TE} {σ : L2.St} {H : Hp} {Q : VK} (q : ta σ H fun x H1 => rRgA x fun a b => rRgL a b H1 Q) : tLstRg (tRg1 ta) σ H Q := q
theorem r_rgA {n : Int} {R : Int → Int → Prop} (q : R 0 n) : rRgA (.int n) R := ⟨n, rfl, q⟩
theorem r_rgL {b : Int} {H : Hp} {Q : VK} (h0 : 0 ≤ b) (h1 : b ≤ 16777216) (q : rNew (.lst (rgV 0 b)) H Q) : rRgL 0 b H Q := ⟨RgOk.of_le (Int.le_refl 0) h1 (by decide) h0, q⟩
/-! == of a list of a row of ints and ints -/
theorem eqvHT (A B I J : List Int) : PyData.eqv (.list (.tuple (A.map PyData.int) :: I.map PyData.int)) (.list (.tuple (B.map PyData.int) :: J.map PyData.int)) = (decide (A = B) && decide (I = J)) := by
  show (PyData.eqvAll (A.map PyData.int) (B.map PyData.int) && PyData.eqvAll (I.map PyData.int) (J.map PyData.int)) = _
  rw [eqvInts, eqvInts]
theorem eqvHL (A B I J : List Int) : PyData.eqv (.list (.list (A.map PyData.int) :: I.map PyData.int)) (.list (.list (B.map PyData.int) :: J.map PyData.int)) = (decide (A = B) && decide (I = J)) := by
  show (PyData.eqvAll (A.map PyData.int) (B.map PyData.int) && PyData.eqvAll (I.map PyData.int) (J.map PyData.int)) = _
  rw [eqvInts, eqvInts]
theorem shHT (A I : List Int) : SeqAt.shaped (.list (.tuple (A.map PyData.int) :: I.map PyData.int)) = true := by simp [SeqAt.shaped, PyData.canLay0, PyData.depth, PyData.canLayAll0, PyData.depthAll, layInts]
theorem shHL (A I : List Int) : SeqAt.shaped (.list (.list (A.map PyData.int) :: I.map PyData.int)) = true := by simp [SeqAt.shaped, PyData.canLay0, PyData.depth, PyData.canLayAll0, PyData.depthAll, layInts]
theorem r_neHT {K : PySem.W.Frag} {H : Hp} {Q : VK} {a b t u : Addr} {A B I J : List Int} (h : SqL K H a (.ref t :: I.map V.int)) (ht : SqT K H t (A.map V.int)) (g : SqL K H b (.ref u :: J.map V.int)) (gu : SqT K H u (B.map V.int))
    (q : Q (.bl (!(decide (A = B) && decide (I = J)))) H) : rNeD K (.ref a) (.ref b) H Q :=
  ⟨_, _, .lst h (.cons (.tup ht (dpInts A)) (dpInts I)), .lst g (.cons (.tup gu (dpInts B)) (dpInts J)), shHT A I, shHT B J, by rw [eqvHT]; exact q⟩
theorem r_eqHL {K : PySem.W.Frag} {H : Hp} {Q : VK} {a b t u : Addr} {A B I J : List Int} (h : SqL K H a (.ref t :: I.map V.int)) (ht : SqL K H t (A.map V.int)) (g : SqL K H b (.ref u :: J.map V.int)) (gu : SqL K H u (B.map V.int))
    (q : Q (.bl (decide (A = B) && decide (I = J))) H) : rEqD K (.ref a) (.ref b) H Q :=
  ⟨_, _, .lst h (.cons (.lst ht (dpInts A)) (dpInts I)), .lst g (.cons (.lst gu (dpInts B)) (dpInts J)), shHL A I, shHL B J, by rw [eqvHL]; exact q⟩
theorem mem_rgV {a b : Int} {v : V} (h : v ∈ rgV a b) : ∃ i : Int, v = .int i ∧ a ≤ i ∧ i < b := by
  unfold rgV at h
  obtain ⟨n, hn, rfl⟩ := List.mem_map.mp h
  have := List.mem_range.mp hn
  exact ⟨_, rfl, by omega, by omega⟩
end Kr

/-! Packing rows into heap pages: the plain mathematics (no Python here). -/
namespace Pk
/-- the length of a row -/
def lenAt (ls : List Int) (r : Nat) : Int := ls.getD (r % ls.length) 0
/-- how many units k rows from row r on have -/
def pre (ls : List Int) (r : Nat) : Nat → Int
  | 0 => 0
  | k + 1 => pre ls r k + lenAt ls (r + k)
/-- lengths that may be packed -/
structure Ok (ls : List Int) (sz : Int) : Prop where
  l1 : 1 ≤ ls.length
  l6 : ls.length ≤ 12
  all : ∀ l ∈ ls, 1 ≤ l ∧ l ≤ sz
  s64 : sz ≤ 1000
section
variable {ls : List Int} {sz : Int}
theorem len_pos (o : Ok ls sz) (r : Nat) : 1 ≤ lenAt ls r ∧ lenAt ls r ≤ sz := by
  have h : r % ls.length < ls.length := Nat.mod_lt _ o.l1
  unfold lenAt
  rw [List.getD_eq_getElem?_getD, List.getElem?_eq_getElem h]
  exact o.all _ (List.getElem_mem h)
theorem len_at (o : Ok ls sz) (r : Nat) : ls[r % ls.length]? = some (lenAt ls r) := by
  have h : r % ls.length < ls.length := Nat.mod_lt _ o.l1
  unfold lenAt
  rw [List.getD_eq_getElem?_getD, List.getElem?_eq_getElem h]
  rfl
theorem len_mod {r s : Nat} (h : r % ls.length = s % ls.length) : lenAt ls r = lenAt ls s := by
  unfold lenAt
  rw [h]
theorem add_mod_eq {n r s k : Nat} (h : r % n = s % n) : (r + k) % n = (s + k) % n := by
  rw [Nat.add_mod, h, ← Nat.add_mod]
theorem pre_mod {r s : Nat} (h : r % ls.length = s % ls.length) : ∀ k, pre ls r k = pre ls s k
  | 0 => rfl
  | k + 1 => by
    show pre ls r k + lenAt ls (r + k) = pre ls s k + lenAt ls (s + k)
    rw [pre_mod h k, len_mod (add_mod_eq h)]
theorem pre_add (r : Nat) (a : Nat) : ∀ b, pre ls r (a + b) = pre ls r a + pre ls (r + a) b
  | 0 => by
    show pre ls r a = pre ls r a + 0
    omega
  | b + 1 => by
    show pre ls r (a + b) + lenAt ls (r + (a + b)) = pre ls r a + (pre ls (r + a) b + lenAt ls (r + a + b))
    rw [pre_add r a b, Nat.add_assoc r a b]
    omega
theorem pre_mono (o : Ok ls sz) (r : Nat) {a b : Nat} (h : a ≤ b) : pre ls r a + ((b : Int) - a) ≤ pre ls r b := by
  induction b with
  | zero =>
    have : a = 0 := by omega
    subst this
    simp
  | succ b ih =>
    have l := (len_pos o (r + b)).1
    by_cases e : a = b + 1
    · subst e
      omega
    · have := ih (by omega)
      show pre ls r a + (((b + 1 : Nat) : Int) - a) ≤ pre ls r b + lenAt ls (r + b)
      omega
theorem pre_ge (o : Ok ls sz) (r k : Nat) : (k : Int) ≤ pre ls r k := by
  have := pre_mono o r (Nat.zero_le k)
  have e : pre ls r 0 = 0 := rfl
  omega
/-- k rows from r on fit, one more does not -/
def Fill (ls : List Int) (sz : Int) (r k : Nat) : Prop := pre ls r k ≤ sz ∧ sz < pre ls r (k + 1)
theorem Fill.inj (o : Ok ls sz) {r k j : Nat} (h : Fill ls sz r k) (g : Fill ls sz r j) : k = j := by
  rcases Nat.lt_trichotomy k j with z | z | z
  · have := pre_mono o r (show k + 1 ≤ j from z)
    have h2 := h.2
    have g1 := g.1
    omega
  · exact z
  · have := pre_mono o r (show j + 1 ≤ k from z)
    have h1 := h.1
    have g2 := g.2
    omega
theorem Fill.le (o : Ok ls sz) {r k : Nat} (h : Fill ls sz r k) : (k : Int) ≤ sz := by
  have := pre_ge o r k
  have := h.1
  omega
theorem Fill.pos (o : Ok ls sz) {r k : Nat} (h : Fill ls sz r k) : 1 ≤ k := by
  rcases k with _ | k
  · have h2 : sz < pre ls r 1 := h.2
    have e : pre ls r 1 = 0 + lenAt ls (r + 0) := rfl
    have := (len_pos o (r + 0)).2
    omega
  · omega
theorem Fill.mod {r s k : Nat} (h : r % ls.length = s % ls.length) (f : Fill ls sz r k) : Fill ls sz s k := by
  unfold Fill
  rw [← pre_mod h, ← pre_mod h]
  exact f
/-- the greedy count, with fuel -/
def cntF (ls : List Int) (r : Nat) (left : Int) : Nat → Nat
  | 0 => 0
  | f + 1 => if lenAt ls r ≤ left then cntF ls (r + 1) (left - lenAt ls r) f + 1 else 0
theorem pre_one (r : Nat) (k : Nat) : pre ls r (k + 1) = lenAt ls r + pre ls (r + 1) k := by
  have e := pre_add (ls := ls) r 1 k
  rw [Nat.add_comm k 1, e]
  show (0 + lenAt ls (r + 0)) + pre ls (r + 1) k = lenAt ls r + pre ls (r + 1) k
  rw [Nat.add_zero]
  omega
theorem cntF_fill (o : Ok ls sz) : ∀ (f r : Nat) (left : Int), 0 ≤ left → left < f → pre ls r (cntF ls r left f) ≤ left ∧ left < pre ls r (cntF ls r left f + 1)
  | 0, r, left, h0, h1 => by omega
  | f + 1, r, left, h0, h1 => by
    have lp := (len_pos o r).1
    unfold cntF
    split
    · rename_i h
      have ih := cntF_fill o f (r + 1) (left - lenAt ls r) (by omega) (by omega)
      rw [pre_one, pre_one]
      omega
    · rename_i h
      have e : pre ls r 1 = lenAt ls r := by
        rw [pre_one]
        show lenAt ls r + 0 = _
        omega
      exact ⟨h0, by rw [e]; omega⟩
def cnt (ls : List Int) (sz : Int) (r : Nat) : Nat := cntF ls r sz (sz.toNat + 1)
theorem cnt_fill (o : Ok ls sz) (r : Nat) : Fill ls sz r (cnt ls sz r) := by
  have := (len_pos o r).1
  have := (len_pos o r).2
  exact cntF_fill o _ r sz (by omega) (by omega)
theorem cnt_is (o : Ok ls sz) {r k : Nat} (h : Fill ls sz r k) : cnt ls sz r = k := (cnt_fill o r).inj o h
theorem cnt_mod (o : Ok ls sz) {r s : Nat} (h : r % ls.length = s % ls.length) : cnt ls sz r = cnt ls sz s := cnt_is o ((cnt_fill o s).mod h.symm)
theorem cnt_pos (o : Ok ls sz) (r : Nat) : 1 ≤ cnt ls sz r := (cnt_fill o r).pos o
theorem cnt_le (o : Ok ls sz) (r : Nat) : (cnt ls sz r : Int) ≤ sz := (cnt_fill o r).le o
/-- the first row of each heap page -/
def st (ls : List Int) (sz : Int) : Nat → Nat
  | 0 => 0
  | m + 1 => st ls sz m + cnt ls sz (st ls sz m)
theorem st_succ (m : Nat) : st ls sz (m + 1) = st ls sz m + cnt ls sz (st ls sz m) := rfl
theorem st_lt (o : Ok ls sz) (m : Nat) : st ls sz m < st ls sz (m + 1) := by
  have := cnt_pos o (st ls sz m)
  rw [st_succ]
  omega
theorem st_mono (o : Ok ls sz) {a b : Nat} (h : a < b) : st ls sz a < st ls sz b := by
  induction b with
  | zero => omega
  | succ b ih =>
    have l := st_lt o b
    rcases Nat.lt_or_ge a b with z | z
    · have := ih z
      omega
    · have : a = b := by omega
      subst this
      exact l
theorem st_le (o : Ok ls sz) {a b : Nat} (h : a ≤ b) : st ls sz a ≤ st ls sz b := by
  rcases Nat.lt_or_ge a b with z | z
  · exact Nat.le_of_lt (st_mono o z)
  · have : a = b := by omega
    subst this
    exact Nat.le_refl _
theorem st_ge (o : Ok ls sz) (m : Nat) : m ≤ st ls sz m := by
  induction m with
  | zero => exact Nat.zero_le _
  | succ m ih =>
    have := st_lt o m
    omega
theorem st_up (o : Ok ls sz) (m : Nat) : (st ls sz m : Int) ≤ m * sz := by
  induction m with
  | zero => simp [st]
  | succ m ih =>
    have := cnt_le o (st ls sz m)
    have e : ((m + 1 : Nat) : Int) * sz = m * sz + sz := by
      rw [Int.natCast_add, Int.add_mul]
      simp
    rw [st_succ, e, Int.natCast_add]
    omega
/-- places that are equal lead on alike -/
theorem st_alike (o : Ok ls sz) {a b : Nat} (h : st ls sz a % ls.length = st ls sz b % ls.length) : ∀ t, st ls sz (a + t) % ls.length = st ls sz (b + t) % ls.length ∧ st ls sz (a + t) - st ls sz a = st ls sz (b + t) - st ls sz b
  | 0 => ⟨h, by simp⟩
  | t + 1 => by
    obtain ⟨h1, h2⟩ := st_alike o h t
    have e := cnt_mod (sz := sz) o h1
    have g1 : st ls sz (a + (t + 1)) = st ls sz (a + t) + cnt ls sz (st ls sz (a + t)) := rfl
    have g2 : st ls sz (b + (t + 1)) = st ls sz (b + t) + cnt ls sz (st ls sz (b + t)) := rfl
    have k1 := st_le o (show a ≤ a + t by omega)
    have k2 := st_le o (show b ≤ b + t by omega)
    rw [g1, g2, e]
    exact ⟨add_mod_eq h1, by omega⟩
/-- a cycle: from page j on all comes again k - j pages and so many rows later -/
structure Cyc (ls : List Int) (sz : Int) (j k : Nat) : Prop where
  lt : j < k
  eq : st ls sz j % ls.length = st ls sz k % ls.length
  dis : ∀ a b, a < b → b < k → st ls sz a % ls.length ≠ st ls sz b % ls.length
/-- how many rows a cycle has -/
def rws (ls : List Int) (sz : Int) (j k : Nat) : Nat := st ls sz k - st ls sz j
theorem Cyc.rows (c : Cyc ls sz j k) (o : Ok ls sz) : 1 ≤ rws ls sz j k := by
  have := st_mono o c.lt
  unfold rws
  omega
theorem Cyc.step (c : Cyc ls sz j k) (o : Ok ls sz) {m : Nat} (h : j ≤ m) : st ls sz (m + (k - j)) = st ls sz m + rws ls sz j k := by
  obtain ⟨t, rfl⟩ := Nat.exists_eq_add_of_le h
  have := (st_alike o c.eq t).2
  have k1 := st_le o (show j ≤ j + t by omega)
  have k2 := st_le o (show k ≤ k + t by omega)
  have k3 := st_mono o c.lt
  have lt := c.lt
  have e : j + t + (k - j) = k + t := by omega
  rw [e]
  unfold rws
  omega
theorem Cyc.steps (c : Cyc ls sz j k) (o : Ok ls sz) {m : Nat} (h : j ≤ m) : ∀ t, st ls sz (m + t * (k - j)) = st ls sz m + t * rws ls sz j k
  | 0 => by simp
  | t + 1 => by
    have ih := Cyc.steps c o h t
    have e : m + (t + 1) * (k - j) = (m + t * (k - j)) + (k - j) := by
      rw [Nat.succ_mul]
      omega
    rw [e, c.step o (show j ≤ m + t * (k - j) by omega), ih, Nat.succ_mul]
    omega
theorem Cyc.place (c : Cyc ls sz j k) (o : Ok ls sz) {m : Nat} (h : j ≤ m) (t : Nat) : st ls sz (m + t * (k - j)) % ls.length = st ls sz m % ls.length := by
  induction t with
  | zero => simp
  | succ t ih =>
    have lt := c.lt
    have h1 : j ≤ m + t * (k - j) := by omega
    obtain ⟨u, hu⟩ := Nat.exists_eq_add_of_le h1
    have al := (st_alike o c.eq u).1
    have e : m + (t + 1) * (k - j) = k + u := by
      rw [Nat.succ_mul]
      omega
    rw [e, ← al, ← hu, ih]
/-- different places are no more than the lengths -/
theorem dis_le (o : Ok ls sz) {k : Nat} (dis : ∀ a b, a < b → b < k → st ls sz a % ls.length ≠ st ls sz b % ls.length) : k ≤ ls.length := by
  have key : ∀ (n k : Nat) (f : Nat → Nat), (∀ a, a < k → f a < n) → (∀ a b, a < b → b < k → f a ≠ f b) → k ≤ n := by
    intro n
    induction n with
    | zero =>
      intro k f h _
      rcases k with _ | k
      · exact Nat.le_refl _
      · exact absurd (h 0 (by omega)) (by omega)
    | succ n ih =>
      intro k f h d
      rcases k with _ | k
      · omega
      · -- move the value n out of the way
        have := ih k (fun a => if f a = n then f k else f a) (fun a ha => by
          show (if f a = n then f k else f a) < n
          have h1 := h a (by omega)
          have h2 := h k (by omega)
          have h3 := d a k ha (by omega)
          split <;> omega) (fun a b hab hb => by
          show (if f a = n then f k else f a) ≠ (if f b = n then f k else f b)
          have h3 := d a k (by omega) (by omega)
          have h4 := d b k hb (by omega)
          have h5 := d a b hab (by omega)
          split <;> split <;> omega)
        omega
  exact key ls.length k (fun a => st ls sz a % ls.length) (fun a _ => Nat.mod_lt _ o.l1) dis
theorem Cyc.le (c : Cyc ls sz j k) (o : Ok ls sz) : k ≤ ls.length := dis_le o c.dis
/-- how many whole cycles off a row is -/
theorem Cyc.turns (c : Cyc ls sz j k) (o : Ok ls sz) (r : Nat) : ∃ t : Nat, (if ((r : Int) - (st ls sz j : Nat)) / (rws ls sz j k : Nat) > 0 then ((r : Int) - (st ls sz j : Nat)) / (rws ls sz j k : Nat) else 0) = (t : Int) ∧
    t * rws ls sz j k ≤ r ∧ (t = 0 ∨ st ls sz j + t * rws ls sz j k ≤ r) ∧ r - t * rws ls sz j k < st ls sz k ∧ t ≤ r := by
  have hR := c.rows o
  have hk := st_mono o c.lt
  have hRd : st ls sz j + rws ls sz j k = st ls sz k := by unfold rws; omega
  generalize rws ls sz j k = R at *
  generalize hsj : st ls sz j = S at *
  have hdm := Int.emod_add_mul_ediv ((r : Int) - (S : Nat)) (R : Nat)
  have hm0 := Int.emod_nonneg ((r : Int) - (S : Nat)) (show ((R : Nat) : Int) ≠ 0 by omega)
  have hm1 := Int.emod_lt_of_pos ((r : Int) - (S : Nat)) (show (0 : Int) < ((R : Nat) : Int) by omega)
  generalize ((r : Int) - (S : Nat)) / ((R : Nat) : Int) = D at *
  generalize ((r : Int) - (S : Nat)) % ((R : Nat) : Int) = M at *
  by_cases h : D > 0
  · rw [if_pos h]
    obtain ⟨t, rfl⟩ := Int.eq_ofNat_of_zero_le (show 0 ≤ D by omega)
    have e : ((t * R : Nat) : Int) = (R : Int) * t := by rw [Int.natCast_mul, Int.mul_comm]
    have hle : t ≤ t * R := Nat.le_mul_of_pos_right t hR
    refine ⟨t, rfl, ?_, .inr ?_, ?_, ?_⟩ <;> omega
  · rw [if_neg h]
    refine ⟨0, rfl, by simp, .inl rfl, ?_, by omega⟩
    have : (R : Int) * D ≤ 0 := Int.mul_nonpos_of_nonneg_of_nonpos (by omega) (by omega)
    simp
    omega
/-- the page of a row, by the cycle: t whole cycles off -/
theorem Cyc.on (c : Cyc ls sz j k) (o : Ok ls sz) {r t m : Nat} (h1 : t * rws ls sz j k ≤ r) (h2 : t = 0 ∨ st ls sz j + t * rws ls sz j k ≤ r) (hm : st ls sz m ≤ r - t * rws ls sz j k ∧ r - t * rws ls sz j k < st ls sz (m + 1)) :
    st ls sz (m + t * (k - j)) ≤ r ∧ r < st ls sz (m + t * (k - j) + 1) := by
  rcases h2 with rfl | h2
  · simpa using hm
  · have hj : j ≤ m := by
      rcases Nat.lt_or_ge m j with z | z
      · have := st_le o (show m + 1 ≤ j from z)
        omega
      · exact z
    have e1 := c.steps o hj t
    have e2 := c.steps o (show j ≤ m + 1 by omega) t
    have e3 : m + 1 + t * (k - j) = m + t * (k - j) + 1 := by omega
    rw [e3] at e2
    omega
/-- the page of a row -/
def On (ls : List Int) (sz : Int) (m r : Nat) : Prop := st ls sz m ≤ r ∧ r < st ls sz (m + 1)
theorem On.inj (o : Ok ls sz) {m n r : Nat} (h : On ls sz m r) (g : On ls sz n r) : m = n := by
  rcases Nat.lt_trichotomy m n with z | z | z
  · have := st_le o (show m + 1 ≤ n from z)
    have h2 := h.2
    have g1 := g.1
    omega
  · exact z
  · have := st_le o (show n + 1 ≤ m from z)
    have h1 := h.1
    have g2 := g.2
    omega
theorem on_ex (o : Ok ls sz) (r : Nat) : ∃ m, On ls sz m r := by
  induction r with
  | zero =>
    exact ⟨0, Nat.le_refl _, by have := st_lt o 0; have e : st ls sz 0 = 0 := rfl; omega⟩
  | succ r ih =>
    obtain ⟨m, h1, h2⟩ := ih
    by_cases z : r + 1 < st ls sz (m + 1)
    · exact ⟨m, by omega, z⟩
    · exact ⟨m + 1, by omega, by have := st_lt o (m + 1); omega⟩
theorem On.mono (o : Ok ls sz) {m n r s : Nat} (h : On ls sz m r) (g : On ls sz n s) (l : r ≤ s) : m ≤ n := by
  rcases Nat.lt_or_ge n m with z | z
  · have := st_le o (show n + 1 ≤ m from z)
    have := h.1
    have := g.2
    omega
  · exact z
theorem fit_le (o : Ok ls sz) {r e : Nat} (h : pre ls r e ≤ sz) : e ≤ cnt ls sz r := by
  rcases Nat.lt_or_ge (cnt ls sz r) e with z | z
  · have := pre_mono o r (show cnt ls sz r + 1 ≤ e from z)
    have h2 := (cnt_fill o r).2
    omega
  · exact z
/-- places of a cycle come again -/
theorem Cyc.again (c : Cyc ls sz j k) (o : Ok ls sz) {m : Nat} (h : j ≤ m) : st ls sz (m + (k - j)) % ls.length = st ls sz m % ls.length := by
  have := c.place o h 1
  rwa [Nat.one_mul] at this
/-- every page's place is that of one of the first pages -/
theorem Cyc.near (c : Cyc ls sz j k) (o : Ok ls sz) : ∀ m, j ≤ m → ∃ i, j ≤ i ∧ i < k ∧ st ls sz m % ls.length = st ls sz i % ls.length := by
  intro m
  induction m using Nat.strongRecOn with
  | _ m ih =>
    intro h
    rcases Nat.lt_or_ge m k with z | z
    · exact ⟨m, h, z, rfl⟩
    · have lt := c.lt
      obtain ⟨i, h1, h2, h3⟩ := ih (m - (k - j)) (by omega) (by omega)
      refine ⟨i, h1, h2, ?_⟩
      rw [← h3]
      have := c.again o (show j ≤ m - (k - j) by omega)
      rwa [show m - (k - j) + (k - j) = m by omega] at this
/-- a search by first page, then by pages, ends at the cycle -/
theorem Cyc.only (c : Cyc ls sz j k) (o : Ok ls sz) {f p : Nat} (hf : f ≤ j) (hp : 1 ≤ p) (hs : f = j → p ≤ k - j) (e : st ls sz f % ls.length = st ls sz (f + p) % ls.length) : f = j ∧ p = k - j := by
  have lt := c.lt
  rcases Nat.lt_or_ge f j with z | z
  · exfalso
    rcases Nat.lt_or_ge (f + p) k with y | y
    · exact c.dis f (f + p) (by omega) y e
    · obtain ⟨i, h1, h2, h3⟩ := c.near o (f + p) (by omega)
      exact c.dis f i (by omega) h2 (e.trans h3)
  · have hj : f = j := by omega
    have := hs hj
    refine ⟨hj, ?_⟩
    rcases Nat.lt_or_ge (f + p) k with y | y
    · exact absurd e (c.dis f (f + p) (by omega) y)
    · omega
/-- how many whole cycles off a page is -/
theorem Cyc.pturns (c : Cyc ls sz j k) (m : Nat) : ∃ t : Nat, (if ((m : Int) - (j : Nat)) / ((k - j : Nat) : Int) > 0 then ((m : Int) - (j : Nat)) / ((k - j : Nat) : Int) else 0) = (t : Int) ∧
    t * (k - j) ≤ m ∧ (t = 0 ∨ j ≤ m - t * (k - j)) ∧ m - t * (k - j) < k ∧ t ≤ m := by
  have lt := c.lt
  have hR : 0 < k - j := by omega
  have hjk : j + (k - j) = k := by omega
  generalize k - j = R at *
  have hdm := Int.emod_add_mul_ediv ((m : Int) - (j : Nat)) (R : Nat)
  have hm0 := Int.emod_nonneg ((m : Int) - (j : Nat)) (show ((R : Nat) : Int) ≠ 0 by omega)
  have hm1 := Int.emod_lt_of_pos ((m : Int) - (j : Nat)) (show (0 : Int) < ((R : Nat) : Int) by omega)
  generalize ((m : Int) - (j : Nat)) / ((R : Nat) : Int) = D at *
  generalize ((m : Int) - (j : Nat)) % ((R : Nat) : Int) = M at *
  by_cases h : D > 0
  · rw [if_pos h]
    obtain ⟨t, rfl⟩ := Int.eq_ofNat_of_zero_le (show 0 ≤ D by omega)
    have e : ((t * R : Nat) : Int) = (R : Int) * t := by rw [Int.natCast_mul, Int.mul_comm]
    have hle : t ≤ t * R := Nat.le_mul_of_pos_right t hR
    refine ⟨t, rfl, ?_, .inr ?_, ?_, ?_⟩ <;> omega
  · rw [if_neg h]
    refine ⟨0, rfl, by simp, .inl rfl, ?_, by omega⟩
    have : (R : Int) * D ≤ 0 := Int.mul_nonpos_of_nonneg_of_nonpos (by omega) (by omega)
    simp
    omega
/-- the first row of a page, by the cycle: t whole cycles off -/
theorem Cyc.start (c : Cyc ls sz j k) (o : Ok ls sz) {m t : Nat} (h1 : t * (k - j) ≤ m) (h2 : t = 0 ∨ j ≤ m - t * (k - j)) : st ls sz m = st ls sz (m - t * (k - j)) + t * rws ls sz j k := by
  rcases h2 with rfl | h2
  · simp
  · have := c.steps o h2 t
    rwa [Nat.sub_add_cancel h1] at this
/-! settings that pack alike -/
theorem lenAt_scale (ls : List Int) (t : Int) (r : Nat) : lenAt (ls.map fun l => l * t) r = lenAt ls r * t := by
  unfold lenAt
  rw [List.length_map, List.getD_eq_getElem?_getD, List.getD_eq_getElem?_getD, List.getElem?_map]
  cases ls[r % ls.length]? with
  | none => simp
  | some v => rfl
theorem pre_scale (ls : List Int) (t : Int) (r : Nat) : ∀ k, pre (ls.map fun l => l * t) r k = pre ls r k * t
  | 0 => by simp [pre]
  | k + 1 => by
    show pre (ls.map fun l => l * t) r k + lenAt (ls.map fun l => l * t) (r + k) = (pre ls r k + lenAt ls (r + k)) * t
    rw [pre_scale ls t r k, lenAt_scale, Int.add_mul]
theorem cnt_scale {ls2 : List Int} {sz2 t d : Int} (o : Ok ls sz) (o2 : Ok ls2 sz2) (hp : ∀ r k, pre ls2 r k = pre ls r k * t) (hs : sz2 = sz * t + d) (d0 : 0 ≤ d) (d1 : d < t) (r : Nat) : cnt ls2 sz2 r = cnt ls sz r := by
  have f := cnt_fill o r
  have h1 : pre ls r (cnt ls sz r) * t ≤ sz * t := Int.mul_le_mul_of_nonneg_right f.1 (by omega)
  have h2 : (sz + 1) * t ≤ pre ls r (cnt ls sz r + 1) * t := Int.mul_le_mul_of_nonneg_right (by have := f.2; omega) (by omega)
  rw [Int.add_mul, Int.one_mul] at h2
  refine cnt_is o2 ⟨?_, ?_⟩
  · rw [hp]
    omega
  · rw [hp]
    omega
theorem st_like {ls2 : List Int} {sz2 : Int} (h : ∀ r, cnt ls2 sz2 r = cnt ls sz r) : ∀ m, st ls2 sz2 m = st ls sz m
  | 0 => rfl
  | m + 1 => by rw [st_succ, st_succ, st_like h m, h]
theorem lenAt_twice (ls : List Int) (r : Nat) : lenAt (ls ++ ls) r = lenAt ls r := by
  unfold lenAt
  rcases Nat.eq_zero_or_pos ls.length with z | z
  · have e : ls = [] := List.eq_nil_of_length_eq_zero z
    subst e
    rfl
  · have hm : r % (ls.length + ls.length) % ls.length = r % ls.length := Nat.mod_mod_of_dvd r ⟨2, by omega⟩
    have hlt : r % (ls.length + ls.length) < ls.length + ls.length := Nat.mod_lt _ (by omega)
    rw [List.length_append, List.getD_eq_getElem?_getD, List.getD_eq_getElem?_getD, ← hm]
    generalize r % (ls.length + ls.length) = i at hlt
    rcases Nat.lt_or_ge i ls.length with y | y
    · rw [List.getElem?_append_left y, Nat.mod_eq_of_lt y]
    · have e : i % ls.length = i - ls.length := by
        rw [Nat.mod_eq_sub_mod y, Nat.mod_eq_of_lt (by omega)]
      rw [List.getElem?_append_right y, e]
theorem pre_twice (ls : List Int) (r : Nat) : ∀ k, pre (ls ++ ls) r k = pre ls r k
  | 0 => rfl
  | k + 1 => by
    show pre (ls ++ ls) r k + lenAt (ls ++ ls) (r + k) = pre ls r k + lenAt ls (r + k)
    rw [pre_twice ls r k, lenAt_twice]
theorem cnt_same {ls2 : List Int} (o : Ok ls sz) (o2 : Ok ls2 sz) (hp : ∀ r k, pre ls2 r k = pre ls r k) (r : Nat) : cnt ls2 sz r = cnt ls sz r := by
  have f := cnt_fill o r
  refine cnt_is o2 ⟨?_, ?_⟩
  · rw [hp]
    exact f.1
  · rw [hp]
    exact f.2
theorem Cyc.uniq {ls2 : List Int} {sz2 : Int} {j2 k2 : Nat} (c : Cyc ls sz j k) (c2 : Cyc ls2 sz2 j2 k2) (hl : ls2.length = ls.length) (hs : ∀ m, st ls2 sz2 m = st ls sz m) : j2 = j ∧ k2 = k := by
  have e1 := c.eq
  have e2 := c2.eq
  have d2 := c2.dis
  rw [hl, hs, hs] at e2
  simp only [hl, hs] at d2
  have l1 := c.lt
  have l2 := c2.lt
  have hk : k2 = k := by
    rcases Nat.lt_trichotomy k2 k with z | z | z
    · exact absurd e2 (c.dis j2 k2 l2 z)
    · exact z
    · exact absurd e1 (d2 j k l1 z)
  subst hk
  refine ⟨?_, rfl⟩
  rcases Nat.lt_trichotomy j2 j with z | z | z
  · exact absurd (e2.trans e1.symm) (c.dis j2 j z l1)
  · exact z
  · exact absurd (e1.trans e2.symm) (c.dis j j2 z l2)
theorem Cyc.twice {ls2 : List Int} {sz2 : Int} {j2 k2 : Nat} (o : Ok ls sz) (o2 : Ok ls2 sz2) (c : Cyc ls sz j k) (c2 : Cyc ls2 sz2 j2 k2) (hl : ls2.length = ls.length + ls.length) (hs : ∀ m, st ls2 sz2 m = st ls sz m) :
    j2 = j ∧ ∃ u, k2 - j2 = u * (k - j) ∧ rws ls2 sz2 j2 k2 = u * rws ls sz j k := by
  have l1 := c.lt
  have l2 := c2.lt
  have down : ∀ {a b : Nat}, a % (ls.length + ls.length) = b % (ls.length + ls.length) → a % ls.length = b % ls.length := fun {a b} h => by
    have h1 : a % (ls.length + ls.length) % ls.length = a % ls.length := Nat.mod_mod_of_dvd a ⟨2, by omega⟩
    have h2 : b % (ls.length + ls.length) % ls.length = b % ls.length := Nat.mod_mod_of_dvd b ⟨2, by omega⟩
    rw [← h1, ← h2, h]
  have e2 := c2.eq
  rw [hl, hs, hs] at e2
  have q2 := down e2
  have d2 := c2.dis
  simp only [hl, hs] at d2
  have mono := st_mono o l1
  -- the rows of a cycle are a multiple of the lengths
  have hR : ls.length ∣ rws ls sz j k := by
    have e := c.eq
    have er : st ls sz k = st ls sz j + rws ls sz j k := by unfold rws; omega
    rw [er] at e
    have a1 := Nat.div_add_mod (st ls sz j) ls.length
    have a2 := Nat.div_add_mod (st ls sz j + rws ls sz j k) ls.length
    rw [← e] at a2
    refine ⟨(st ls sz j + rws ls sz j k) / ls.length - st ls sz j / ls.length, ?_⟩
    rw [Nat.mul_sub]
    omega
  have hj1 : j ≤ j2 := by
    rcases Nat.lt_or_ge j2 j with z | z
    · exfalso
      rcases Nat.lt_or_ge k2 k with y | y
      · exact c.dis j2 k2 l2 y q2
      · obtain ⟨i, h1, h2, h3⟩ := c.near o k2 (by omega)
        exact c.dis j2 i (by omega) h2 (q2.trans h3)
    · exact z
  have hj2 : j2 ≤ j := by
    rcases Nat.lt_or_ge j j2 with z | z
    · exfalso
      have hm : j2 ≤ j + (2 * j2) * (k - j) := by
        have : 2 * j2 * 1 ≤ 2 * j2 * (k - j) := Nat.mul_le_mul_left _ (by omega)
        omega
      obtain ⟨i, h1, h2, h3⟩ := c2.near o2 (j + (2 * j2) * (k - j)) hm
      rw [hl, hs, hs, c.steps o (Nat.le_refl j)] at h3
      obtain ⟨g, hg⟩ := hR
      have e4 : 2 * j2 * rws ls sz j k = (ls.length + ls.length) * (j2 * g) := by
        rw [hg]
        have a1 : (ls.length + ls.length) = 2 * ls.length := by omega
        rw [a1, Nat.mul_assoc, Nat.mul_assoc, Nat.mul_left_comm j2 ls.length g]
      rw [e4, Nat.add_mul_mod_self_left] at h3
      exact d2 j i (by omega) h2 h3
    · exact z
  have ej : j2 = j := by omega
  subst ej
  refine ⟨rfl, (k2 - j2) / (k - j2), ?_⟩
  have hdm := Nat.div_add_mod (k2 - j2) (k - j2)
  have hv : (k2 - j2) % (k - j2) < k - j2 := Nat.mod_lt _ (by omega)
  generalize (k2 - j2) / (k - j2) = u at *
  generalize (k2 - j2) % (k - j2) = v at *
  have v0 : v = 0 := by
    rcases Nat.eq_zero_or_pos v with z | z
    · exact z
    · exfalso
      have ek : k2 = (j2 + v) + u * (k - j2) := by
        rw [Nat.mul_comm u]
        omega
      rw [ek, c.place o (by omega) u] at q2
      exact c.dis j2 (j2 + v) (by omega) (by omega) q2
  subst v0
  have ed : k2 - j2 = u * (k - j2) := by
    rw [Nat.mul_comm u]
    omega
  refine ⟨ed, ?_⟩
  have ek : k2 = j2 + u * (k - j2) := by omega
  have es := c.steps o (Nat.le_refl j2) u
  rw [← ek] at es
  unfold rws at es ⊢
  rw [hs, hs, es]
  omega
end
end Pk

namespace Kr
open L2 PySem PySem.Spec PyProof.Rows
/-! ### x *= y -/
def ipM : TIp := fun x y H Q => ∃ i j : Int, x = .int i ∧ y = .int j ∧ CMulW i j ∧ Q (.int (i * j)) H
theorem ip_mul {X : Cx} : PIp X .Mult ipM := by
  intro pins s0 st0 H x y v u Q I r1 r2 h
  obtain ⟨i, j, rfl, rfl, hm, q⟩ := h
  obtain ⟨t, rfl⟩ := r1
  obtain ⟨t', rfl⟩ := r2
  exact imul_int ⟨.int _, H, I.tok _, ⟨_, rfl⟩, q⟩ hm.ok
theorem r_ipM {i j : Int} {H : Hp} {Q : VK} (h : CMulW i j) (q : Q (.int (i * j)) H) : ipM (.int i) (.int j) H Q := ⟨i, j, rfl, rfl, h, q⟩
/-! ### a, b = xs for a list -/
theorem r_gLst {K : PySem.W.Frag} {n : Nat} {gs : TGs} {a : Addr} {xs : List V} {st0 : L2.St} {H : Hp} {QG : L2.St → Hp → Prop} (h : SqL K H a xs) (e : xs.length = n) (q : gs xs st0 H QG) : gLst K n gs (.ref a) st0 H QG := ⟨a, xs, rfl, h, e, q⟩
theorem pg_tupK {X : Cx} {K : PySem.W.Frag} {pos : Pos} {es : List Expr} {k : Nat} {t : TGs} {n : Nat} (hK : X.K = K) (hc : X.calm = true) (h : PGs X es t)
    (hn : (assignEach es X.env).length = n := by rfl) (hst : (assignEach es X.env).findIdx? (·.1) = none := by rfl) : PG X (.Tuple es k pos) (gTup K n t) := hK ▸ pg_tup hc h hn hst
/-! ### dicts with texts as keys -/
section
variable {H : Hp} {Q : VK} {v : V} {st0 : L2.St}
theorem r_dgS {a : Addr} {kvs : List (Key × V)} {k : Str} (h : H a = some (.dK kvs)) (e : valV kvs (Sum.inr k) = some v) (q : Q v H) : rDg (.ref a) (.str k) H Q := ⟨a, v, rfl, by rw [← e]; exact DGet.k (k := Sum.inr k) h, q⟩
theorem r_dpS {a : Addr} {kvs : List (Key × V)} {k : Str} {Qn : Hp → Prop} (h : H a = some (.dK kvs)) (hl : kvs.length < 100000) (q : Qn (upd H a (.dK (putK kvs (Sum.inr k) v)))) : rDp (.ref a) (.str k) v H Qn := ⟨a, _, rfl, DPut.k (k := Sum.inr k) h (szl hl), q⟩
def rDispE (p : Addr) (ps : List (V × V)) (H2 : Hp) (Q : VK) : Prop := H2 p = some (.dK []) ∧ ∃ kvs : List (Key × V), ps = kvs.map (fun kv => (kV kv.1, kv.2)) ∧ kvs.length ≤ 15 ∧ Q (.ref p) (upd H2 p (.dK (mergeK [] kvs)))
theorem r_disp {trs : List (TE × TE)} (q : ∀ p, H p = none → tPairs trs st0 (upd H p (.dK [])) fun ps H2 => rDispE p ps H2 Q) : tDisp trs st0 H Q := q
theorem r_pairs {tk tv : TE} {r : List (TE × TE)} {QP : List (V × V) → Hp → Prop} (q : tk st0 H fun x H1 => tv st0 H1 fun y H2 => tPairs r st0 H2 fun ps H3 => QP ((x, y) :: ps) H3) : tPairs ((tk, tv) :: r) st0 H QP := q
theorem r_pairs0 {QP : List (V × V) → Hp → Prop} (q : QP [] H) : tPairs [] st0 H QP := q
theorem r_dispE {p : Addr} {ps : List (V × V)} (kvs : List (Key × V)) (h : H p = some (.dK [])) (e : ps = kvs.map (fun kv => (kV kv.1, kv.2))) (hl : kvs.length ≤ 15) (q : Q (.ref p) (upd H p (.dK (mergeK [] kvs)))) : rDispE p ps H Q := ⟨h, kvs, e, hl, q⟩
end
/-! ### list(range(a, b)), whatever its ends -/
section
variable {prog : Program} {w : World} {A : Around} {E : Value → Shared → Prop} {s : Shared}
/-- what a walk over an iterator at the heap's end makes of an empty list at S -/
theorem long_loop {R : Result → Shared → Prop} {n : Nat} {lo : Int} (hh : A.handled = none) (hz : n ≤ sizeLine) (it S : Addr) (ne : S ≠ it) (out : Value) (c0 : Nat) (s1 : Shared)
    (hit : IsLongIter s1.heap it (lo + ((0 : Nat) : Int) * 1) ((n : Int) - ((0 : Nat) : Int)) 1) (hS : s1.heap.get? S = some { cls := .type "list", data := .seq #[] c0 })
    (hR : ∀ h2 tk2 items c2, (∀ b o, b ≠ S → b ≠ it → s1.heap.get? b = some o → h2.get? b = some o) → h2.get? S = some { cls := .type "list", dict := none, data := .seq items c2, slots := #[] } →
      ItemsOf (fun i v => ∃ t, v = .int (lo + i * 1) t) items n → R (.ok (.ret out)) { s1 with heap := h2, toks := tk2 }) :
    codeAny (model prog w) A (.builtin "list.extend.loop" ⟨[.ref S, .ref it, out], []⟩) R s1 := by
  have ws := (Walks.longrange (prog := prog) (w := w) (A := A.in1) hh it lo 1 n).toS
  refine codeAny_extend_loopS ws hz S (fun m => ne (List.mem_singleton.mp m)) out n 0 s1 #[] c0 rfl (Nat.zero_le n) hit hS (ItemsOf.nil _) ?_
  intro s2 items c2 mv hS2 got
  rw [Moved.eq_with mv]
  refine hR s2.heap s2.toks items c2 (fun b o n1 n2 e => mv.heap b o (fun m => ?_) e) hS2 got
  rcases List.mem_cons.mp m with z | z
  · exact n1 z
  · exact n2 (List.mem_singleton.mp z)
theorem long_extend {R : Result → Shared → Prop} {r : Addr} {a b : Int} {t u v : Tok} {n : Nat} (hh : A.handled = none) (hr : IsRange s.heap r a b 1 t u v) (big : Builtin.Range.small a b 1 = false)
    (hn : Builtin.Range.rangeSize a b 1 = n) (hz : n ≤ 2 ^ 24) (S : Addr) (out : Value) (c0 : Nat) (hS : s.heap.get? S = some { cls := .type "list", data := .seq #[] c0 })
    (hR : ∀ h2 tk2 items c2, (∀ b o, b ≠ S → s.heap.get? b = some o → h2.get? b = some o) → h2.get? S = some { cls := .type "list", dict := none, data := .seq items c2, slots := #[] } →
      ItemsOf (fun i v => ∃ t, v = .int (a + i * 1) t) items n → R (.ok (.ret out)) { s with heap := h2, toks := tk2 }) :
    wpAny (model prog w) A.in1 (Builtin.List.listExtendWith (.ref S) (.ref r) out)
      (fun z s2 => match z with | .done f => R (.ok f) s2 | .again c2 => c2.quiet = true ∧ codeAny (model prog w) A c2 R s2) (fun x s2 => R (.error x) s2) s := by
  have nr : S ≠ r := fun z => by
    rw [z, hr] at hS
    simp at hS
  have lt : S < s.heap.objs.size := Heap.lt_size hS
  have nI : S ≠ s.heap.objs.size := Nat.ne_of_lt lt
  have loop : ∀ (h1 : Heap) (c1 tk1 : Nat), IsLongIter h1 s.heap.objs.size (a + ((0 : Nat) : Int) * 1) ((n : Int) - ((0 : Nat) : Int)) 1 → (∀ b o, b ≠ S → s.heap.get? b = some o → h1.get? b = some o) → h1.get? S = some { cls := .type "list", data := .seq #[] c1 } →
      codeAny (model prog w) A (.builtin "list.extend.loop" ⟨[.ref S, .ref s.heap.objs.size, out], []⟩) R { s with heap := h1, toks := tk1 } := fun h1 c1 tk1 x1 x2 x3 =>
    long_loop hh (by rw [sizeLine_eq]; omega) _ S nI out c1 _ x1 x3 fun h2 tk2 items c2 y1 y2 y3 => hR h2 tk2 items c2 (fun b o nb e => y1 b o nb (Nat.ne_of_lt (Heap.lt_size e)) (x2 b o nb e)) y2 y3
  unfold Builtin.List.listExtendWith
  refine wpAny_bind (wpAny_typeOf (T := "range") ⟨_, hr, rfl⟩ ?_)
  have k1 : Builtin.List.listSameRef (.ref S) (.ref r) = false := by simp [Builtin.List.listSameRef, nr]
  have k2 : (Value.type "range" == Value.type "tuple") = false := by decide
  have k3 : (Value.type "range" == Value.type "list") = false := by decide
  simp only [k1, k3, k2, Bool.or_false, Bool.false_eq_true, if_false]
  refine wpAny_bind (wpAny_pyIter_longrange hr big ?_)
  refine wpAny_bind (wpAny_holding (wpAny_hint_range (n := n) (Heap.get?_push_of_some _ hr) hn hz ?_))
  have i1 : IsLongIter (s.heap.push { cls := .type "longrange_iterator", data := .fields #[rawInt a, rawInt (Builtin.Range.rangeSize a b 1), rawInt 1] }) s.heap.objs.size (a + ((0 : Nat) : Int) * 1) ((n : Int) - ((0 : Nat) : Int)) 1 := by
    show IsLongIter _ _ _ _ _
    rw [hn]
    simpa using Heap.get?_push_size _ rfl
  have g1 := Heap.get?_push_of_some { cls := .type "longrange_iterator", data := .fields #[rawInt a, rawInt (Builtin.Range.rangeSize a b 1), rawInt 1] } hS
  refine wpAny_ite_split (fun _ => ?_) fun _ => wpAny_pure ⟨plainId_quiet F.plain_extend_loop _, loop _ c0 _ i1 (fun b o _ e => Heap.get?_push_of_some _ e) g1⟩
  refine wpAny_bind (wpAny_rule (wpAny_bind ?_))
  show wpAny _ _ (updateSeq S (·.push .none) >>= fun _ => updateSeq S (·.pop)) _ _ _
  refine wpAny_bind (wpAny_updateSeq g1 rfl ?_)
  have g2 := Heap.get?_update_self (Obj.mapSeq (·.push Value.none)) g1 rfl
  refine wpAny_updateSeq (hz := by seq_fits) g2 rfl ?_
  have g3 := Heap.get?_update_self (Obj.mapSeq (·.pop)) g2 rfl
  refine wpAny_pure ⟨plainId_quiet F.plain_extend_loop _, loop _ _ _ ?_ (fun b o nb e => ?_) g3⟩
  · exact (Heap.get?_update_other _ _ nI).trans ((Heap.get?_update_other _ _ nI).trans i1)
  · exact (Heap.get?_update_other _ _ (Ne.symm nb)).trans ((Heap.get?_update_other _ _ (Ne.symm nb)).trans (Heap.get?_push_of_some _ e))
theorem long_init {R : Result → Shared → Prop} {r : Addr} {a b : Int} {t u v : Tok} {n : Nat} (hh : A.handled = none) (hr : IsRange s.heap r a b 1 t u v) (big : Builtin.Range.small a b 1 = false)
    (hn : Builtin.Range.rangeSize a b 1 = n) (hz : n ≤ 2 ^ 24) (S : Addr) (hS : s.heap.get? S = some { cls := .type "list", data := .seq #[] })
    (hR : ∀ h2 tk2 items c2, (∀ b o, b ≠ S → s.heap.get? b = some o → h2.get? b = some o) → h2.get? S = some { cls := .type "list", dict := none, data := .seq items c2, slots := #[] } →
      ItemsOf (fun i v => ∃ t, v = .int (a + i * 1) t) items n → R (.ok (.ret .none)) { s with heap := h2, toks := tk2 }) :
    wpAny (model prog w) A.in1 (Builtin.«list.__init__» ⟨[.ref S, .ref r], []⟩)
      (fun z s2 => match z with | .done f => R (.ok f) s2 | .again c2 => c2.quiet = true ∧ codeAny (model prog w) A c2 R s2) (fun x s2 => R (.error x) s2) s := by
  have nr : S ≠ r := fun z => by
    rw [z, hr] at hS
    simp at hS
  show wpAny _ _ (do
    let old ← Builtin.List.listItems (.ref S)
    Builtin.List.listUpdate (.ref S) (fun _ => #[])
    letGo old.toList.reverse
    Builtin.List.listExtendWith (.ref S) (.ref r) .none) _ _ s
  refine wpAny_bind ?_
  unfold Builtin.List.listItems
  refine wpAny_bind (wpAny_seqItems hS rfl (wpAny_pure ?_))
  show wpAny _ _ (updateSeq S (fun _ => #[]) >>= fun _ => letGo (#[] : Array Value).toList.reverse >>= fun _ =>
    Builtin.List.listExtendWith (.ref S) (.ref r) .none) _ _ s
  refine wpAny_bind (wpAny_updateSeq hS rfl ?_)
  have g2 := Heap.get?_update_self (Obj.mapSeq (fun _ => (#[] : Array Value))) hS rfl
  have els : ∀ b o, b ≠ S → s.heap.get? b = some o → (s.heap.update S (Obj.mapSeq (fun _ => (#[] : Array Value)))).get? b = some o :=
    fun b o nb e => (Heap.get?_update_other _ _ (Ne.symm nb)).trans e
  refine wpAny_bind (wpAny_letGo ?_)
  exact long_extend hh (els r _ (Ne.symm nr) hr) big hn hz S .none _ g2 fun h2 tk2 items c2 x1 x2 x3 => hR h2 tk2 items c2 (fun b o nb e => x1 b o nb (els b o nb e)) x2 x3
theorem long_list {Q : Value → Shared → Prop} {r : Addr} {a b : Int} {t u v : Tok} {n : Nat} (hh : A.handled = none) (hr : IsRange s.heap r a b 1 t u v) (big : Builtin.Range.small a b 1 = false)
    (hn : Builtin.Range.rangeSize a b 1 = n) (hz : n ≤ 2 ^ 24)
    (hQ : ∀ h2 tk2 items c2, (∀ b o, s.heap.get? b = some o → h2.get? b = some o) → h2.get? s.heap.objs.size = some { cls := .type "list", dict := none, data := .seq items c2, slots := #[] } →
      ItemsOf (fun i v => ∃ t, v = .int (a + i * 1) t) items n → Q (.ref s.heap.objs.size) { s with heap := h2, toks := tk2 }) :
    wpAny (model prog w) A (call (.type "list") [.ref r]) Q E s := by
  refine callType_codes (Q₁ := fun x s1 => x = .ref s.heap.objs.size ∧ s1 = { s with heap := s.heap.push { cls := .type "list", data := .seq #[] } }) F.called_list (F.typeCall_list_1 _) F.entry_list_init (code_list_new _ ⟨rfl, rfl⟩) ?_
  rintro _ _ ⟨rfl, rfl⟩
  have g : (s.heap.push { cls := .type "list", data := .seq #[] }).get? s.heap.objs.size = some { cls := .type "list", data := .seq #[] } := Heap.get?_push_size _ rfl
  refine ⟨⟨_, g, rfl⟩, F.args_list_init_2 _ _, ?_⟩
  refine long_init (A := A.in1) hh (Heap.get?_push_of_some _ hr) big hn hz _ g fun h2 tk2 items c2 x1 x2 x3 => ⟨rfl, ?_⟩
  exact hQ h2 tk2 items c2 (fun b o e => x1 b o (Nat.ne_of_lt (Heap.lt_size e)) (Heap.get?_push_of_some _ e)) x2 x3
end
section
variable {X : Cx} {e : Expr} {te : L2.St → Hp → (Int → Int → Hp → Prop) → Prop}
def rRgW2 (a b : Int) (H : Hp) (Q : VK) : Prop := (b - a).toNat ≤ 2 ^ 24 ∧ ∀ q, H q = none → Q (.ref q) (upd H q (.lst (rgV a b)))
def tLstRgW (te : L2.St → Hp → (Int → Int → Hp → Prop) → Prop) : TE := fun st0 H Q => te st0 H fun a b H1 => rRgW2 a b H1 Q
theorem pe_listRgW {p pos : Pos} (hc : X.calm = true) (hg : Gl X "list") (hm : X.mg "list" = none) (he : PRg X e te) (na : starEach [e] X.env = (false, eval e X.env) :: starEach [] X.env := by rfl) : PE X (.Call (.Name "list" p) [e] [] pos) (tLstRgW te) := by
  refine ⟨fun pins s0 st0 H Q I h => ?_⟩
  refine Call_ (ld_blt I hg hm boot_list (PyProof.Rows.callWith_type1 (args_cons (thn (he pins s0 st0 H _ I h) fun x s1 ⟨r, a, b, t, u, v, H1, ex, hr, I1, hz, q⟩ => args_nil ?_) na) na))
  subst ex
  have fin : ∀ h2 tk2 items c2, (∀ b o, s1.heap.get? b = some o → h2.get? b = some o) → h2.get? s1.heap.objs.size = some { cls := .type "list", dict := none, data := .seq items c2, slots := #[] } →
      ItemsOf (fun i v => ∃ t, v = .int (a + i * 1) t) items (b - a).toNat → EP X pins st0 Q (.ref s1.heap.objs.size) { s1 with heap := h2, toks := tk2 } := fun h2 tk2 items c2 keep at2 got => by
    refine ⟨.ref s1.heap.objs.size, upd H1 s1.heap.objs.size (.lst (rgV a b)), I1.laid keep (Nat.le_refl _) (show ObjOk X.prog X.w _ _ _ (.lst (rgV a b)) from ⟨?_, items.toList, c2, vals_rg got, ?_⟩), rfl, q _ (I1.hok.fresh (Nat.le_refl _))⟩
    · rw [rgV_length, sizeLine_eq]
      omega
    · rw [Array.toArray_toList]
      exact at2
  cases hsm : Builtin.Range.small a b 1 with
  | true => exact call_list_range (n := (b - a).toNat) (I1.ok.hd hc) hr hsm (rangeSize_nat a b) hz fin
  | false => exact long_list (n := (b - a).toNat) (I1.ok.hd hc) hr hsm (rangeSize_nat a b) hz fin
end
section
variable {st0 : L2.St} {H : Hp} {Q : VK}
theorem r_lstRgW {te : L2.St → Hp → (Int → Int → Hp → Prop) → Prop} (q : te st0 H fun a b H1 => rRgW2 a b H1 Q) : tLstRgW te st0 H Q := q
def rRg2P (x y : V) (R : Int → Int → Prop) : Prop := ∃ i j, x = .int i ∧ y = .int j ∧ R i j
theorem r_tRg2 {ta tb : TE} {R : Int → Int → Hp → Prop} (q : ta st0 H fun x H1 => tb st0 H1 fun y H2 => rRg2P x y fun i j => R i j H2) : tRg2 ta tb st0 H R := q
theorem r_rg2P {i j : Int} {R : Int → Int → Prop} (q : R i j) : rRg2P (.int i) (.int j) R := ⟨i, j, rfl, rfl, q⟩
theorem r_rgW2 {a b : Int} (h : (b - a).toNat ≤ 2 ^ 24) (q : rNew (.lst (rgV a b)) H Q) : rRgW2 a b H Q := ⟨h, q⟩
end
/-! ### == of a row of ints, or None -/
section
variable {K : PySem.W.Frag} {H : Hp} {Q : VK} {a b : Addr} {is js : List Int}
theorem r_eqNN (q : Q (.bl true) H) : rEqD K .non .non H Q := ⟨_, _, .non, .non, rfl, rfl, q⟩
theorem r_neNN (q : Q (.bl false) H) : rNeD K .non .non H Q := ⟨_, _, .non, .non, rfl, rfl, q⟩
end
theorem rgV_get {a b : Int} {i : Nat} (h : i < (b - a).toNat) : (rgV a b)[i]? = some (.int (a + (i : Nat))) := by
  unfold rgV
  rw [List.getElem?_map, List.getElem?_range h]
  rfl
end Kr

/-! Texts: rules with named readings, told at K. -/
namespace KrT
open Kr L2 PySem PySem.Spec PyProof.Rows
section
variable {X : Cx} {K : PySem.W.Frag} {o e : Expr} {to te : TE} {apos pos : Pos}
/-- str(an int) -/
def rStr : List V → Hp → VK → Prop := fun xs H Q => ∃ i : Int, xs = [.int i] ∧ i.natAbs.log2 < 1920 ∧ Q (.str (toString i)) H
theorem c_str : CallR X (.type "str") rStr := call_str_int
theorem r_str {i : Int} {H : Hp} {Q : VK} (h : i.natAbs.log2 < 1920) (q : Q (.str (toString i)) H) : rStr [.int i] H Q := ⟨i, rfl, h, q⟩
def rJoin (K : PySem.W.Frag) : V → List V → Hp → VK → Prop := fun x xs H Q => ∃ a p, ∃ ys : List Str, x = .str a ∧ xs = [.ref p] ∧ (SqL K H p (ys.map V.str) ∨ SqT K H p (ys.map V.str)) ∧ (ys.map (·.length)).sum + ys.length * a.length ≤ 16777216 ∧ Q (.str (Txt.join a ys)) H
theorem pe_joinK (h : X.K = K) (ho : PE X o to) (he : PE X e te) (hs : starEach [e] X.env = [(false, eval e X.env)] := by rfl) (hbase : attributeBase o "join" X.env (eval o X.env) = eval o X.env := by rfl) (hline : (apos.endLine == pos.line) = true := by rfl) :
    PE X (.Call (.Attribute o "join" apos) [e] [] pos) (tM1 (rJoin K) to te) := by
  subst h
  exact pe_join ho he hs hbase hline
theorem r_join {a : Str} {p : Addr} {ys : List Str} {H : Hp} {Q : VK} (h : H p = some (.lst (ys.map V.str))) (hz : (ys.map (·.length)).sum + ys.length * a.length ≤ 16777216) (q : Q (.str (Txt.join a ys)) H) : rJoin K (.str a) [.ref p] H Q := ⟨a, p, ys, rfl, rfl, .inl (SqL.of h), hz, q⟩
def rSplit : V → List V → Hp → VK → Prop := fun x xs H Q => ∃ a b, x = .str a ∧ xs = [.str b] ∧ (b.length == 0) = false ∧ a.length + 2 ≤ sizeLine ∧ rNewStrs (Txt.split a b) H Q
theorem pe_splitT (ho : PE X o to) (he : PE X e te) (hs : starEach [e] X.env = [(false, eval e X.env)] := by rfl) (hbase : attributeBase o "split" X.env (eval o X.env) = eval o X.env := by rfl) (hline : (apos.endLine == pos.line) = true := by rfl) :
    PE X (.Call (.Attribute o "split" apos) [e] [] pos) (tM1 rSplit to te) := pe_split ho he hs hbase hline
theorem r_split {a b : Str} {H : Hp} {Q : VK} (hb : (b.length == 0) = false) (hz : a.length + 2 ≤ sizeLine) (q : ∀ (p : Addr) (H' : Hp), H p = none → Same H H' → H' p = some (.lst ((Txt.split a b).map V.str)) → Q (.ref p) H') : rSplit (.str a) [.str b] H Q := ⟨a, b, rfl, rfl, hb, hz, fun p hp => q p _ hp (same_new hp) upd_same⟩
def rStarts : V → List V → Hp → VK → Prop := fun x xs H Q => ∃ a b, x = .str a ∧ xs = [.str b] ∧ Q (.bl (Txt.startswith a b)) H
theorem pe_starts (ho : PE X o to) (he : PE X e te) (hs : starEach [e] X.env = [(false, eval e X.env)] := by rfl) (hbase : attributeBase o "startswith" X.env (eval o X.env) = eval o X.env := by rfl) (hline : (apos.endLine == pos.line) = true := by rfl) :
    PE X (.Call (.Attribute o "startswith" apos) [e] [] pos) (tM1 rStarts to te) := pe_m1 F.slot_str_startswith F.type_str_startswith mt_startswith ho he hs hbase hline
theorem r_starts {a b : Str} {H : Hp} {Q : VK} (q : Q (.bl (Txt.startswith a b)) H) : rStarts (.str a) [.str b] H Q := ⟨a, b, rfl, rfl, q⟩
theorem r_m1 {r : V → List V → Hp → VK → Prop} {σ : L2.St} {H : Hp} {Q : VK} (q : to σ H fun x H1 => (∃ a, x = .str a) ∧ te σ H1 fun y H2 => r x [y] H2 Q) : tM1 r to te σ H Q := q
theorem r_dget1 {td ty : TE} {σ : L2.St} {H : Hp} {Q : VK} (q : td σ H fun x H1 => ∃ a, x = .ref a ∧ IsD H1 a ∧ ty σ H1 fun y H2 => ∃ o, DGet H2 a y o ∧ Q (o.getD .non) H2) : tDGet1 td ty σ H Q := q
end
section
variable {X : Cx}
/-- name = {k: v for ..} on one line, the name a local -/
theorem ps_setDc {i : Nat} {y : Str} {py : Pos} {kx vx tg iter : Expr} {ifs : List Expr} {scope : Scope} {own : List (Str × Nat)} {pos spos : Pos} {wi : TI} {g : TG} {tt : TT} {tk tv : TE} (hc : X.calm = true) (hN : X.N.Nodup) (hy : X.N[i]? = some y) (hyl : X.env.scope.names.lookup y = some .local)
    (hsw : swapsWith (.DictComp kx vx [⟨tg, iter, ifs, 0⟩] scope pos) (some (.Name y py)) spos.line X.env = pure true) (hi : PI X tg iter wi) (ok : BlkOk X.N X.env.scope scope own)
    (hg : ∀ (s : Shared) (H : Hp) (C : Addr) (cl : List (Str × Addr)) (fp : List Addr), PG (X.blk s H scope (compEnvC scope cl C X.env) fp) tg g) (ht : ∀ (s : Shared) (H : Hp) (C : Addr) (cl : List (Str × Addr)) (fp : List Addr), PTs (X.blk s H scope (compEnvC scope cl C X.env) fp) ifs tt)
    (hk : ∀ (s : Shared) (H : Hp) (C : Addr) (cl : List (Str × Addr)) (fp : List Addr), PE (X.blk s H scope (compEnvC scope cl C X.env) fp) kx tk)
    (he : ∀ (s : Shared) (H : Hp) (C : Addr) (cl : List (Str × Addr)) (fp : List Addr), PE (X.blk s H scope (compEnvC scope cl C X.env) fp) vx tv) (hs : ∀ x, foldedSetIterable iter X.env x = pure x := by intro _; rfl) :
    PS X (.Assign [.Name y py] (.DictComp kx vx [⟨tg, iter, ifs, 0⟩] scope pos) spos) (tAsg (tDc wi g tt tk tv (own.map (·.2))) (gName i)) := by
  refine ⟨fun pins s σ H D I h => ?_⟩
  rw [exec_Assign_Name_used _ _ _ _ hsw]
  refine wpAny_bind (wpAny_standAt (wpAny_bind ?_))
  show wpAny _ X.A (do let _ ← comprehension (.DictComp kx vx [⟨tg, iter, ifs, 0⟩] scope pos) scope X.env (firstIterPos [⟨tg, iter, ifs, 0⟩] pos) newDict false (eval iter X.env) (some (assign (.Name y py) X.env))) _ _ s
  have h : tDc wi g tt tk tv (own.map (·.2)) σ H (fun x H1 => gName i x σ H1 D.nx) := h
  refine wpAny_bind (thn (dc_core (Qf := fun _ s' => SP X pins D .next s') hc hN I hi ok hg ht hk he hs h fun L C s' m H' I' q hn f => ?_) fun _ s' hq => wpAny_pure (wpAny_pure hq))
  show wpAny _ _ (assign (.Name y py) X.env (.ref L)) _ _ _
  refine wpAny_assign_Name (store_ok2 (v := V.ref L) I' hN hy (.inl hyl) rfl (fun s2 I2 ⟨a, sb, ha⟩ => ?_) (.inr hyl))
  obtain ⟨f0, f1, f2, f3, f4, f5⟩ := f
  have haC : C ≠ a := by
    rcases ha with z | z
    · rw [z]; exact f1
    · exact fun e => f4 y a z e.symm
  refine ⟨m, hn.sameBut sb haC, fun h3 sb3 => ?_⟩
  exact ⟨_, H', I2.turned (t' := s2.toks) (fun b o hb e => (sb3.2 b hb).trans e) f0 f1 f3 f4 f5, q⟩
theorem sw_trueD {kx vx : Expr} {gs : List Comprehension} {scope : Scope} {pos py : Pos} {y : Str} {l : Nat} {env : Env} (hk : env.scope.kind = .function) (hy : env.scope.names.lookup y = some .local) (hl : (py.line == pos.line) = true)
    (ha : (scope.names.any fun (n, k) => n == y && (k == .local || k == .cell)) = false) : swapsWith (.DictComp kx vx gs scope pos) (some (.Name y py)) l env = pure true := by
  have ky : env.kindOf y = some .local := hy
  have hb : env.blockKind = .function := by unfold Env.blockKind; rw [hk]; rfl
  unfold swapsWith
  simp only [hb, ky, ha, Expr.pos, hl]
  rfl
theorem r_dc {wi : TI} {g : TG} {tt : TT} {tk tv : TE} {vs : List Nat} {σ : L2.St} {H : Hp} {Q : VK} (q : wi σ H fun J H1 => ∀ D, H1 D = none → ∃ W : Nat → Nat → Hp → Prop, (∃ m, W 0 m (upd H1 D (.dK []))) ∧ ∀ i m H, W i m H →
  (J.stop i H ∧ Q (.ref D) H) ∨ (J.go i H ∧ ∃ Nx : Hp → Prop, (∀ H', Nx H' → ∃ m', m' < m ∧ W (i + 1) m' H') ∧ ∀ x H', J.yld i H x H' → g x (wipe σ vs) H' fun σ2 H2 => wipe σ2 vs = wipe σ vs ∧ tt σ2 H2 fun b H3 =>
    if b = true then tk σ2 H3 fun y H4 => tv σ2 H4 fun z H5 => ∃ kvs k, y = kV k ∧ H5 D = some (.dK kvs) ∧ kvs.length < sizeLine ∧ Nx (upd H5 D (.dK (putK kvs k z))) else Nx H3)) : tDc wi g tt tk tv vs σ H Q := q
/-- over a range, with the slots written out -/
theorem dc_rangeS {lo : Int} {n : Nat} {g : TG} {tt : TT} {tk tv : TE} {vs : List Nat} {σ : L2.St} {H1 : Hp} {D : Addr} {Qd : Hp → Prop} (σ' : L2.St) (hσ : wipe σ vs = σ') (Pv : Nat → Hp → Prop) (h0 : Pv 0 (upd H1 D (.dK [])))
    (hs : ∀ i H, i < n → Pv i H → g (.int (lo + i)) σ' H fun σ2 H2 => wipe σ2 vs = σ' ∧ tt σ2 H2 fun b H3 =>
      if b = true then tk σ2 H3 fun y H4 => tv σ2 H4 fun z H5 => ∃ kvs k, y = kV k ∧ H5 D = some (.dK kvs) ∧ kvs.length < sizeLine ∧ Pv (i + 1) (upd H5 D (.dK (putK kvs k z))) else Pv (i + 1) H3) (hd : ∀ H, Pv n H → Qd H) :
    ∃ W : Nat → Nat → Hp → Prop, (∃ m, W 0 m (upd H1 D (.dK []))) ∧ ∀ i m H, W i m H →
      ((Itr lo n).stop i H ∧ Qd H) ∨ ((Itr lo n).go i H ∧ ∃ Nx : Hp → Prop, (∀ H', Nx H' → ∃ m', m' < m ∧ W (i + 1) m' H') ∧ ∀ x H', (Itr lo n).yld i H x H' → g x (wipe σ vs) H' fun σ2 H2 => wipe σ2 vs = wipe σ vs ∧ tt σ2 H2 fun b H3 =>
        if b = true then tk σ2 H3 fun y H4 => tv σ2 H4 fun z H5 => ∃ kvs k, y = kV k ∧ H5 D = some (.dK kvs) ∧ kvs.length < sizeLine ∧ Nx (upd H5 D (.dK (putK kvs k z))) else Nx H3) := by
  subst hσ
  refine ⟨fun i m H => m = n - i ∧ i ≤ n ∧ Pv i H, ⟨n, by simp, Nat.zero_le _, h0⟩, ?_⟩
  rintro i m H ⟨rfl, hi, hp⟩
  rcases Nat.lt_or_ge i n with z | z
  · refine .inr ⟨z, fun H' => Pv (i + 1) H', fun H' hp' => ⟨n - (i + 1), by omega, rfl, by omega, hp'⟩, fun x H' hy => ?_⟩
    obtain ⟨rfl, rfl⟩ := hy
    exact hs i _ z hp
  · have e : i = n := by omega
    subst e
    exact .inl ⟨Nat.le_refl _, hd H hp⟩
end
section
variable {K : PySem.W.Frag}
/-- a comprehension over the pairs of two lists, with the slots written out -/
theorem lc_zipS {a b : Addr} {xs ys : List V} {g : TG} {tt : TT} {te : TE} {vs : List Nat} {σ : L2.St} {H1 : Hp} {D : Addr} {Qd : Hp → Prop} (σ' : L2.St) (hσ : wipe σ vs = σ') (n : Nat) (hx : xs.length = n) (hy : ys.length = n) (Pv : Nat → Hp → Prop) (h0 : Pv 0 (upd H1 D (.lst []))) (hl : ∀ i H, i ≤ n → Pv i H → SqL K H a xs ∧ SqL K H b ys)
    (hs : ∀ i x y T H H', xs[i]? = some x → ys[i]? = some y → Pv i H → H T = none → Same H H' → H' T = some (.tup [x, y]) → g (.ref T) σ' H' fun σ2 H2 => wipe σ2 vs = σ' ∧ tt σ2 H2 fun b H3 =>
      if b = true then te σ2 H3 fun y H4 => ∃ acc, H4 D = some (.lst acc) ∧ acc.length < sizeLine ∧ Pv (i + 1) (upd H4 D (.lst (acc ++ [y]))) else Pv (i + 1) H3) (hd : ∀ H, Pv n H → Qd H) :
    ∃ W : Nat → Nat → Hp → Prop, (∃ m, W 0 m (upd H1 D (.lst []))) ∧ ∀ i m H, W i m H →
      ((Itz K a b).stop i H ∧ Qd H) ∨ ((Itz K a b).go i H ∧ ∃ Nx : Hp → Prop, (∀ H', Nx H' → ∃ m', m' < m ∧ W (i + 1) m' H') ∧ ∀ x H', (Itz K a b).yld i H x H' → g x (wipe σ vs) H' fun σ2 H2 => wipe σ2 vs = wipe σ vs ∧ tt σ2 H2 fun b H3 =>
        if b = true then te σ2 H3 fun y H4 => ∃ acc, H4 D = some (.lst acc) ∧ acc.length < sizeLine ∧ Nx (upd H4 D (.lst (acc ++ [y]))) else Nx H3) := by
  subst hσ
  refine ⟨fun i m H => m = n - i ∧ i ≤ n ∧ Pv i H, ⟨n, by simp, Nat.zero_le _, h0⟩, ?_⟩
  rintro i m H ⟨rfl, hi, hp⟩
  obtain ⟨sa, sb⟩ := hl i H hi hp
  rcases Nat.lt_or_ge i n with z | z
  · have ex : xs[i]? = some (xs[i]'(by omega)) := List.getElem?_eq_getElem (by omega)
    have ey : ys[i]? = some (ys[i]'(by omega)) := List.getElem?_eq_getElem (by omega)
    refine .inr ⟨⟨xs, ys, _, _, sa, sb, ex, ey⟩, fun H' => Pv (i + 1) H', fun H' hp' => ⟨n - (i + 1), by omega, rfl, by omega, hp'⟩, ?_⟩
    rintro x H' ⟨T, x1, y1, rfl, hT, rfl, h1, h2⟩
    exact hs i _ _ T H _ (h1 xs sa) (h2 ys sb) hp hT (same_new hT) upd_same
  · have e : i = n := by omega
    subst e
    exact .inl ⟨⟨xs, ys, sa, sb, .inl (by omega)⟩, hd H hp⟩
end
theorem r_zip {K : PySem.W.Frag} {ta : TA} {σ : L2.St} {H : Hp} {R : It → Hp → Prop} (q : ta σ H fun vs H1 => ∃ a b xs ys, vs = [.ref a, .ref b] ∧ SqL K H1 a xs ∧ SqL K H1 b ys ∧ R (Itz K a b) H1) : iZip K ta σ H R := q
/-! ### text * int, upper -/
def rMulS : V → V → Hp → VK → Prop := fun x y H Q => ∃ z k, x = .str z ∧ y = .int k ∧ PySem.MulOk z k ∧ Q (.str (Txt.mul z k)) H
theorem op_mulS {X : Cx} : OpR X (binaryOp .Mult) rMulS := by
  intro pins s σ H x y v u Q I rx ry h
  obtain ⟨i, j, rfl, rfl, hz, q⟩ := h
  obtain ⟨t, rfl⟩ := rx
  obtain ⟨t', rfl⟩ := ry
  exact SB.mul hz fun t' tk => ⟨.str _, H, I.tok _, ⟨_, rfl⟩, q⟩
theorem r_mulS {z : Str} {k : Int} {H : Hp} {Q : VK} (h : PySem.MulOk z k) (q : Q (.str (Txt.mul z k)) H) : rMulS (.str z) (.int k) H Q := ⟨z, k, rfl, rfl, h, q⟩
def rUpper : V → List V → Hp → VK → Prop := fun x xs H Q => ∃ a, x = .str a ∧ xs = [] ∧ a.length ≤ 5592405 ∧ Q (.str (Txt.upper a)) H
theorem pe_upperT {X : Cx} {o : Expr} {to : TE} {apos pos : Pos} (ho : PE X o to) (hbase : attributeBase o "upper" X.env (eval o X.env) = eval o X.env := by rfl) (hline : (apos.endLine == pos.line) = true := by rfl) :
    PE X (.Call (.Attribute o "upper" apos) [] [] pos) (tM0 rUpper to) := pe_upper ho hbase hline
theorem r_upper {a : Str} {H : Hp} {Q : VK} (h : a.length ≤ 5592405) (q : Q (.str (Txt.upper a)) H) : rUpper (.str a) [] H Q := ⟨a, rfl, rfl, h, q⟩
theorem r_m0 {r : V → List V → Hp → VK → Prop} {to : TE} {σ : L2.St} {H : Hp} {Q : VK} (q : to σ H fun x H1 => (∃ a, x = .str a) ∧ r x [] H1 Q) : tM0 r to σ H Q := q
/-! ### for k, v in d.items() -/
theorem r_lock {t : TS} {D : Ends} {σ : L2.St} {H : Hp} {d : Addr} {u : HO} (h : H d = some u) (mu : Mut (some u)) (q : ∀ (od : Obj) (H1 : Hp), (∀ b o, b ≠ d → H b = some o → H1 b = some o) → H1 d = some (.frz od u) →
    t ⟨fun σ' H' => H' d = some (.frz od u) ∧ D.nx σ' (upd H' d u), fun v H' => H' d = some (.frz od u) ∧ D.rt v (upd H' d u), fun σ' H' => H' d = some (.frz od u) ∧ D.bk σ' (upd H' d u), fun σ' H' => H' d = some (.frz od u) ∧ D.ct σ' (upd H' d u)⟩ σ H1) : tLock t D σ H :=
  ⟨d, u, h, mu, fun od => q od _ (fun b o n e => by rw [upd_ne n]; exact e) upd_same⟩
theorem r_items {td : TE} {σ : L2.St} {H : Hp} {R : It → Hp → Prop} (q : td σ H fun x H1 => ∃ d o kvs, x = .ref d ∧ H1 d = some (.frz o (.dK kvs)) ∧ R (Iti d o kvs) H1) : iItems td σ H R := q
theorem r_forI {d : Addr} {od : Obj} {kvs : List (Key × V)} {g : TG} {tb : TS} {D : Ends} {σ : L2.St} {H : Hp} (Pv : Nat → L2.St → Hp → Prop) (h0 : Pv 0 σ H) (hl : ∀ i σ H, i ≤ kvs.length → Pv i σ H → H d = some (.frz od (.dK kvs)))
    (hs : ∀ i k v σ H T H', kvs[i]? = some (k, v) → Pv i σ H → H T = none → Same H H' → H' T = some (.tup [kV k, v]) → g (.ref T) σ H' fun σ2 H2 => tb { D with nx := Pv (i + 1), ct := Pv (i + 1), bk := D.nx } σ2 H2) (hd : ∀ σ H, Pv kvs.length σ H → D.nx σ H) : rFor g tb D σ (Iti d od kvs) H := by
  refine ⟨fun i m σ H => m = kvs.length - i ∧ i ≤ kvs.length ∧ Pv i σ H, ⟨_, rfl, Nat.zero_le _, h0⟩, ?_⟩
  rintro i m σ H ⟨rfl, hi, h⟩
  rcases Nat.lt_or_ge i kvs.length with z | z
  · refine .inr ⟨⟨hl i σ H hi h, z⟩, Pv (i + 1), fun σ' H' p => ⟨_, ?_, rfl, z, p⟩, ?_⟩
    · omega
    · rintro v H' ⟨T, k, v, hkv, rfl, hT, rfl⟩
      exact hs i k v σ H T _ hkv h hT (same_new hT) upd_same
  · have e : i = kvs.length := by omega
    subst e
    exact .inl ⟨⟨hl _ σ H hi h, Nat.le_refl _⟩, hd σ H h⟩
theorem mem_putK {kvs : List (Key × V)} {k : Key} {v : V} {p : Key × V} (h : p ∈ putK kvs k v) : p ∈ kvs ∨ p = (k, v) := by
  unfold putK at h
  split at h
  · obtain ⟨q, hq, e⟩ := List.mem_map.mp h
    split at e
    · rename_i z
      rw [z] at e
      exact .inr e.symm
    · rw [e] at hq
      exact .inl hq
  · rcases List.mem_append.mp h with z | z
    · exact .inl z
    · rw [List.mem_singleton] at z
      exact .inr z
end KrT

namespace KrE
open Kr L2 PySem PySem.Spec PyProof.Rows
open PySem.HandSPX PySem.W Builtin Builtin.ObjectAttr
section
variable {prog : Program} {w : World} {A : Around} {E : Value → Shared → Prop} {R : Result → Shared → Prop} {hp : Heap} {g : Array GenState} {d : Drawn} {t : Nat} {os : OsState} {B : String} {bmB : List Value}
/-- the first field of an exception in the making, whatever built-in class it rests on -/
theorem first_field {K : W.Frag} {name : Str} {tk : Tok} {v : Value} {x C : Addr} {fv : Array Value} {cd : ClassData} (SF : StoreFacts B bmB "object.__setattr__" "object")
    (X : K.In hp) (hx : hp.get? x = some { cls := .ref C, data := .fields fv }) (hcd : W.clsIn K C = some cd) (ho : excOver K C bmB = true) (hh : cd.hasDict = true) (ht : takerIn K C name = some none)
    (hq : ∀ h' tk' dx, (∀ b o, b ≠ x → hp.get? b = some o → h'.get? b = some o) → hp.objs.size ≤ dx → dx ≠ x → h'.get? x = some { cls := .ref C, dict := some dx, data := .fields fv } →
      h'.Ns1 dx (fun y => if y = name then some v else none) → R (.ok (.ret .none)) ⟨h', g, d, tk', os⟩) :
    codeAny (model prog w) A (.call (.builtin "object.__setattr__") ⟨[.ref x, .str name tk, v], []⟩) R ⟨hp, g, d, t, os⟩ := by
  refine osa_openX (C := C) (od := none) (r := none) SF X (show InstAt hp x _ C none from ⟨hx, rfl, rfl, trivial⟩) ho ht fun b => ?_
  have hcls : W.Looks (model prog w) hp (classData C) cd := W.looks_clsIn X hcd
  have hxs : x ≠ hp.objs.size := Nat.ne_of_lt (Heap.lt_size hx)
  show wpAny _ _ (storeInOwnDict (.ref x) (.ref C) (.str name tk) name v b) _ _ _
  obtain ⟨nm, bs, mro, ns, qn, hd, sn, sb, ab, col, del⟩ := cd
  dsimp only at hh
  subst hh
  unfold storeInOwnDict ownDictForStores
  repeat (first | with_reducible refine store_in_new ?_ ?_ | with_reducible refine wpAny_loadPart_at hx ?_ | with_reducible refine hcls.at ?_ | wp_step)
  · exact ⟨_, #[], _, (Heap.get?_update_ne _ _ _ _ hxs.symm).trans (Heap.get?_push_at rfl rfl), rfl, fun e he => absurd he (by simp), fun _ => rfl⟩
  · intro h' tk' hn' hs
    have hx1 : (hp.push { cls := .type "dict", data := .dict #[] }).get? x = some { cls := .ref C, data := .fields fv } := Heap.get?_push_of_some _ hx
    refine hq h' tk' hp.objs.size (fun b o hb e => ?_) (Nat.le_refl _) hxs.symm ?_ hn'
    · exact (hs.2 b (Nat.ne_of_lt (Heap.lt_size e))).trans ((Heap.get?_update_ne _ _ _ _ hb).trans (Heap.get?_push_of_some _ e))
    · exact (hs.2 x hxs).trans (Heap.get?_update_self _ hx1 rfl)
end
/-- the built-in classes above -/
def lkTail : List Value := [.type "LookupError", .type "Exception", .type "BaseException", .type "object"]
/-- an own class over LookupError: what the written part says of it -/
structure ErrC (K : PySem.W.Frag) (C : Addr) : Prop where
  ini : PySem.W.excInitIn K C lkTail "LookupError.__new__" = true
  ov : PySem.W.excOver K C lkTail = true
  dc : PySem.W.hasDictIn K C = true
  sa : PySem.W.findIn K (.ref C) "__setattr__" = some (some (.builtin "object.__setattr__"))
  exC : PySem.W.subIn K (.ref C) (.type "BaseException") = some true
  tyC : PySem.W.typeIn K (.ref C) = some (.type "type")
  kC : PySem.W.keepIn K (.ref C) = true
section
variable {X : Cx} {pins : List (Addr × Obj)} {σ : L2.St} {H : Hp} {s : Shared} {a C : Addr} {f : Str} {y : V} {u : Value} {Q : Unit → Shared → Prop} {E : Value → Shared → Prop} {A : Around}
theorem put_first (T : ErrC X.K C) (I : Inv X pins σ H s) (e : H a = some (exo a C none)) (ht : PySem.W.takerIn X.K C f = some none) (ry : RelV y u)
    (h : ∀ dx s', H dx = none → dx ≠ a → Inv X pins σ (upd (upd H dx (exd dx [(f, y)])) a (exo a C (some dx))) s' → Q () s') : wpAny (model X.prog X.w) A (setAttr (.ref a) f u) Q E s := by
  obtain ⟨cd, hcl, hdc⟩ := any_some T.dc
  obtain ⟨t1, ho⟩ := exo_at I.hok e
  obtain ⟨hp, g, d, t, os⟩ := s
  refine PySem.W.set_plain I.kIn (od := none) (show PySem.W.InstAt hp a _ C none from ⟨ho, rfl, rfl, trivial⟩) T.sa ?_
  refine first_field PySem.F.store_LookupError I.kIn ho hcl T.ov hdc ht fun h' tk' dx k dn dne hx hn => ?_
  have free : H dx = none := I.hok.fresh dn
  have old : ∀ {b : Addr} {o : Obj}, hp.get? b = some o → b ≠ dx := fun q z => absurd (Heap.lt_size q) (by rw [z]; exact Nat.not_lt.mpr dn)
  have off : ∀ {b : Addr}, H b = none → b ≠ a := fun n z => by rw [z, e] at n; cases n
  have fix : ∀ {b : Addr} {o : HO}, H b = some o → o ≠ exo a C none → upd (upd H dx (exd dx [(f, y)])) a (exo a C (some dx)) b = some o := fun {b o} q z => by
    have n1 : b ≠ a := fun w => z (by rw [w, e] at q; exact (Option.some.inj q).symm)
    rw [upd_ne n1, upd_ne (ne_of_none q free)]
    exact q
  have un : Un X.fs [] H (upd (upd H dx (exd dx [(f, y)])) a (exo a C (some dx))) hp h' := by
    refine ⟨fun b o q n _ _ => k b o (off n) q, fun b o q n _ _ => ⟨o.slots, k b o (off n) q⟩, fun b o q n _ => by rw [upd_ne (off n), upd_ne (old q)]; exact n, fun b o q _ => ?_, fun b xs q => fix q (Ne.symm exo_tup), fun b o v q => fix q (Ne.symm exo_frz), fun b ps q => ⟨#[], by rw [fix q (Ne.symm exo_tbl)]; simp⟩⟩
    by_cases hb : b = a
    · exact ⟨_, by rw [hb]; exact hx⟩
    · exact ⟨o, k b o hb q⟩
  refine h dx _ free dne (I.un (t' := tk') un fun b o q => ?_)
  by_cases hb : b = a
  · subst hb
    rw [upd_same] at q
    obtain rfl := Option.some.inj q
    exact exo_ok hx
  rw [upd_ne hb] at q
  by_cases hd : b = dx
  · subst hd
    rw [upd_same] at q
    obtain rfl := Option.some.inj q
    exact exd_ok hn (relO_put (fs := []) ry fun _ => True.intro)
  rw [upd_ne hd] at q
  refine (I.hok b o q).stay (fun c v hc z => k c v ?_ z) (fun c hc => fix hc (Ne.symm exo_own)) fun c xs hc => fix hc (Ne.symm exo_tup)
  rcases hc with rfl | hc
  · exact hb
  · intro w
    rw [w, e] at hc
    exact exo_own (Option.some.inj hc)
end
/-- self.f = y, the first field of an exception in the making -/
def tErs (K : PySem.W.Frag) (f : Str) (to te : TE) : TS := fun D σ H => te σ H fun y H1 => to σ H1 fun x H2 => ∃ a C : Addr, x = .ref a ∧ ErrC K C ∧ PySem.W.takerIn K C f = some none ∧ H2 a = some (exo a C none) ∧
  ∀ dx, H2 dx = none → dx ≠ a → D.nx σ (upd (upd H2 dx (exd dx [(f, y)])) a (exo a C (some dx)))
section
variable {X : Cx} {o e : Expr} {es : List Expr} {to te : TE} {ta : TA} {f : Str} {p p' pos : Pos}
theorem ps_ers (ho : PE X o to) (he : PE X e te) (hs : swapsWith e (some (.Attribute o f p')) pos.line X.env = pure false := by rfl) : PS X (.Assign [.Attribute o f p'] e pos) (tErs X.K f to te) := by
  refine ⟨fun pins s0 st0 H D I h => ?_⟩
  refine plainObj_wpAny_Assign_Attribute (thn (he.run pins s0 st0 H _ I h) fun v s1 ⟨y, H1, I1, r1, q1⟩ => thn (ho.run pins s1 st0 H1 _ I1 q1) fun u s2 ⟨x, H2, I2, r2, a, C, ex, T, ht, ea, q⟩ => ?_) hs
  subst ex
  obtain rfl : u = Value.ref a := r2
  exact put_first T I2 ea ht r1 fun dx s' n1 n2 J => ⟨st0, _, J, q dx n1 n2⟩
theorem pmk_err {CX : CXT} {x : Str} {C fI : Addr} {k : Nat} {fd : FuncData} {ps : List Str} {sp : Sp} (T : ErrC X.K C) (iC : PySem.W.findIn X.K (.ref C) "__init__" = some (some (.ref fI))) (tI : PySem.W.typeIn X.K (.ref fI) = some (.type "function"))
    (F1 : FnOk X.prog X.w X.K X.mg X.base CX k fI fd ps sp) (hr : Room (k + 1) X.A) (hb : Binds X.K fd ps []) (hx : Passes CX X (fun _ _ _ => False)) (hg : Gl X x) (hm : X.mg x = some (.ref C)) (ha : PA X (e :: es) ta)
    (hdb : (x == ("__debug__" : Str)) = false := by decide) (he : starEach (e :: es) X.env = (false, eval e X.env) :: starEach es X.env := by rfl) (hpl : (backTo pos (starEach es X.env)).any (·.1) = false := by rfl) :
    PMk X (.Call (.Name x p) (e :: es) [] pos) (tMkO C sp [] ta) := by
  intro pins s0 st0 H Q I h
  refine wpAny_Call_Name_kw (ld_glob I hg hm ?_ hdb)
  refine PySem.W.callWith_K (h₀ := X.base) I.ok.mod.kin T.kC (thn (ha.run pos pins s0 st0 H _ I h) fun us s1 ⟨vs, H1, I1, r1, hz, q1⟩ => ⟨I1.kIn, ?_⟩) he hpl
  show wpAny _ _ (call (.ref C) us) _ _ _
  obtain ⟨nm, N, qn, bs, bm, hdct, sn, sub, ab, col, dd, k0, k1, k2, k3, k5, hC, hT⟩ := PySem.W.excInit_of I1.kIn T.ini
  obtain ⟨hp, g, dr, tk, os⟩ := s1
  have le1 : hp.objs.size ≤ hp.objs.size + 1 := Nat.le_succ _
  have free := I1.hok.fresh le1
  have hq := q1 _ free
  have grown : ∀ b o, hp.get? b = some o → ((hp.push (PySem.W.kdv_tup us)).push (PySem.HandSPX.excO C hp.objs.size)).get? b = some o := fun b o z => Heap.get?_push_of_some _ (Heap.get?_push_of_some _ z)
  have made : ((hp.push (PySem.W.kdv_tup us)).push (PySem.HandSPX.excO C hp.objs.size)).get? (hp.objs.size + 1) = some (PySem.HandSPX.excO C hp.objs.size) := by heap_get
  have I2 : Inv X pins st0 (upd H1 (hp.objs.size + 1) (exo (hp.objs.size + 1) C none)) ⟨(hp.push (PySem.W.kdv_tup us)).push (PySem.HandSPX.excO C hp.objs.size), g, dr, tk, os⟩ := I1.laid (t' := tk) (a := hp.objs.size + 1) (o := exo (hp.objs.size + 1) C none) (h' := (hp.push (PySem.W.kdv_tup us)).push (PySem.HandSPX.excO C hp.objs.size)) grown le1 (exo_ok made)
  have r2 : Vals (V.ref (hp.objs.size + 1) :: (vs ++ [])) (Value.ref (hp.objs.size + 1) :: (us ++ [])) := .cons rfl (r1.append .nil)
  have hl : (Value.ref (hp.objs.size + 1) :: us ++ []).length = ps.length := r2.length.symm.trans (F1.len _ _ _ _ hq)
  have few : us.length ≤ sizeLine := by
    have := Paired.length r1
    rw [sizeLine_eq]
    omega
  have bound : BindsTo ⟨(hp.push (PySem.W.kdv_tup us)).push (PySem.HandSPX.excO C hp.objs.size), g, dr, tk, os⟩ fd ⟨Value.ref (hp.objs.size + 1) :: us, []⟩ (ps.zip (Value.ref (hp.objs.size + 1) :: (us ++ []))) := hb _ (Value.ref (hp.objs.size + 1) :: us) I2.kIn hl
  refine wpAny_call (PySem.HandSPX.call_own PySem.F.excBase_LookupError hT hC (PySem.W.looks_findIn I1.kIn iC) (fun self => PySem.W.bind_fn I1.kIn self tI) few
    (codeAny_mono (F1.run _ X.stack _ _ ⟨Value.ref (hp.objs.size + 1) :: us, []⟩ (Value.ref (hp.objs.size + 1) :: (us ++ [])) _ _ (fun _ _ _ => False) (hr.make C us []) (I2.env0.make C us []) bound r2 hq) fun r s' z => ?_))
  cases r with
  | error er => exact hx pins st0 _ _ er s' I2 z
  | ok fl =>
    cases fl with
    | ret u =>
      obtain ⟨v, H2, os2, bare2, un2, hok2, rv, ev, d, fs, ea, ed, hd1, q2⟩ := z
      subst ev
      obtain ⟨h2, g2, d2, t2, os'⟩ := s'
      exact ⟨rv, mk_end (raises_own T.exC T.tyC) I1 le1 grown un2 hok2 os2 bare2 ea ed hd1 q2⟩
    | next => exact False.elim z
    | brk => exact False.elim z
    | cont => exact False.elim z
end
/-- the error class of the module's name x, its __init__ keeping sp -/
def ErH (P : Program) (w : World) (K : PySem.W.Frag) (mg : Str → Option Value) (base : Heap) (CX : CXT) (k : Nat) (x : Str) (C : Addr) (ps : List Str) (sp : Sp) : Prop :=
  ∃ (f : Addr) (fd : FuncData), mg x = some (.ref C) ∧ ErrC K C ∧ PySem.W.findIn K (.ref C) "__init__" = some (some (.ref f)) ∧ PySem.W.typeIn K (.ref f) = some (.type "function") ∧ Binds K fd ps [] ∧ FnOk P w K mg base CX k f fd ps sp
section
variable {X : Cx} {C : Addr} {k : Nat} {x : Str} {ps : List Str} {sp : Sp} {e : Expr} {es : List Expr} {ta : TA} {p pos : Pos}
theorem pmk_mk (h : ErH X.prog X.w X.K X.mg X.base CX0 k x C ps sp) (hr : Room (k + 1) X.A) (ha : PA X (e :: es) ta) (hg : Gl X x := by rfl)
    (hdb : (x == ("__debug__" : Str)) = false := by decide) (he : starEach (e :: es) X.env = (false, eval e X.env) :: starEach es X.env := by rfl) (hpl : (backTo pos (starEach es X.env)).any (·.1) = false := by rfl) :
    PMk X (.Call (.Name x p) (e :: es) [] pos) (tMkO C sp [] ta) := by
  obtain ⟨f, fd, hm, T, iC, tI, hb, F⟩ := h
  exact pmk_err T iC tI F hr hb pass0 hg hm ha hdb he hpl
end
def rErs (K : PySem.W.Frag) (f : Str) (y x : V) (H : Hp) (Qn : Hp → Prop) : Prop := ∃ a C : Addr, x = .ref a ∧ ErrC K C ∧ PySem.W.takerIn K C f = some none ∧ H a = some (exo a C none) ∧ ∀ dx, H dx = none → dx ≠ a → Qn (upd (upd H dx (exd dx [(f, y)])) a (exo a C (some dx)))
theorem r_sErs {K : PySem.W.Frag} {f : Str} {to te : TE} {D : Ends} {σ : L2.St} {H : Hp} (q : te σ H fun y H1 => to σ H1 fun x H2 => rErs K f y x H2 fun H3 => D.nx σ H3) : tErs K f to te D σ H := q
theorem r_ers {K : PySem.W.Frag} {f : Str} {y : V} {a C : Addr} {H : Hp} {Qn : Hp → Prop} (T : ErrC K C) (t : PySem.W.takerIn K C f = some none) (h : H a = some (exo a C none)) (q : ∀ dx, H dx = none → dx ≠ a → Qn (upd (upd H dx (exd dx [(f, y)])) a (exo a C (some dx)))) : rErs K f y (.ref a) H Qn := ⟨a, C, rfl, T, t, h, q⟩
/-- the making of an error, told by its end -/
def rMkE (C : Addr) (sp : Sp) (vs : List V) (H1 : Hp) (Q : XK) : Prop := vs.length ≤ 1000 ∧ ∀ a, H1 a = none → sp (.ref a :: (vs ++ [])) (upd H1 a (exo a C none))
  (fun v H2 => v = .non ∧ ∃ (d : Addr) (fs : List (Str × V)), H2 a = some (exo a C (some d)) ∧ H2 d = some (exd d fs) ∧ H1 d = none ∧ Q (.ref C) (some d) (upd (del H2 a) d (.xd fs))) (fun _ _ _ => False)
theorem r_mkE {C : Addr} {sp : Sp} {ta : TA} {σ : L2.St} {H : Hp} {Q : XK} (q : ta σ H fun vs H1 => rMkE C sp vs H1 Q) : tMkO C sp [] ta σ H Q := q
def errB (K : PySem.W.Frag) (C : Addr) : Bool := PySem.W.excInitIn K C lkTail "LookupError.__new__" && (PySem.W.excOver K C lkTail && (PySem.W.hasDictIn K C && (decide (PySem.W.findIn K (.ref C) "__setattr__" = some (some (.builtin "object.__setattr__"))) &&
  (decide (PySem.W.subIn K (.ref C) (.type "BaseException") = some true) && (decide (PySem.W.typeIn K (.ref C) = some (.type "type")) && PySem.W.keepIn K (.ref C))))))
theorem errB_ok {K : PySem.W.Frag} {C : Addr} (h : errB K C = true) : ErrC K C := by
  unfold errB at h
  simp only [Bool.and_eq_true, decide_eq_true_eq] at h
  exact ⟨h.1, h.2.1, h.2.2.1, h.2.2.2.1, h.2.2.2.2.1, h.2.2.2.2.2.1, h.2.2.2.2.2.2⟩
/-- the making of an error with one field -/
theorem r_mk1 {C : Addr} {f : Str} {v : V} {H1 : Hp} {Q : XK} {sp : Sp} (hsp : ∀ a H (Q' : VK), H a = some (exo a C none) → (∀ d, H d = none → d ≠ a → Q' .non (upd (upd H d (exd d [(f, v)])) a (exo a C (some d)))) → sp [.ref a, v] H Q' (fun _ _ _ => False))
    (q : ∀ d H', Same H1 H' → H1 d = none → H' d = some (.xd [(f, v)]) → Q (.ref C) (some d) H') : rMkE C sp [v] H1 Q := by
  refine ⟨by simp, fun a ha => hsp a _ _ upd_same fun d hd hda => ⟨rfl, d, [(f, v)], upd_same, by rw [upd_ne hda]; exact upd_same, by rw [upd_ne hda] at hd; exact hd, ?_⟩⟩
  rw [upd_ne hda] at hd
  refine q d _ (fun b o e => ?_) hd upd_same
  have n1 : b ≠ d := ne_of_none e hd
  have n2 : b ≠ a := ne_of_none e ha
  rw [upd_ne n1, del_ne n2, upd_ne n2, upd_ne n1, upd_ne n2]
  exact e
end KrE

namespace KrE
open Kr L2 PySem PySem.Spec PyProof.Rows
/-- what the body's exception asks where the first clause takes it by a name, in slot i -/
def wFst (K : PySem.W.Frag) (c : Value) (i : Nat) (ts : Addr → Value → Option Addr → TS) (D : Ends) : WX := fun cls d σ H => PySem.W.exmOne K cls c = some true ∧ ∀ a, H a = none →
  ts a cls d { nx := fun σ2 H2 => D.nx (σ2.set i none) H2, rt := D.rt, bk := fun σ2 H2 => D.bk (σ2.set i none) H2, ct := fun σ2 H2 => D.ct (σ2.set i none) H2 } (σ.set i (some (.ref a))) H
section
variable {X : Cx} {x n : Str} {c : Value} {i : Nat} {body suite : List Stmt} {b0 : Stmt} {np pos pos' : Pos} {tb : WX → TS} {ts : Addr → Value → Option Addr → TS} {hds : List ExceptHandler}
/-- try: .. except X as n: suite, further clauses behind it: where the first clause takes all that comes -/
theorem ps_try_first (hs : X.stack = X.env :: X.outer) (hf : X.env.frame = some X.env.locals) (hN : X.N.Nodup) (hi : X.N[i]? = some n) (hln : X.env.kindOf n = some .local) (hc : Names X x c)
    (hb : ∀ (W : WX) (pn : List (Addr × Obj)) (xe : Value → Shared → Prop), Takes (X.tr pn xe) W → PassesOwn (model X.prog X.w) X.A X.env xe → PSs (X.tr pn xe) body (tb W))
    (hsu : ∀ (a : Addr) (oe : Obj) (cls : Value) (d : Option Addr) (pn : List (Addr × Obj)), Zc cls d oe → (∃ vs, oe.data = .fields vs) → PSs (X.suite a ((a, oe) :: pn)) (b0 :: suite) (ts a cls d)) :
    PS X (.Try body (.ExceptHandler (some (.Name x np)) (some n) (b0 :: suite) pos' :: hds) [] [] pos) (fun D σ H => tb (wFst X.K c i ts D) D σ H) := by
  refine ⟨fun pins s0 st0 H D I h => ?_⟩
  have ok := I.ok
  have hfr : X.A.frames = some (X.env :: X.outer) := by rw [ok.frames, hs]
  refine wpAny_Try_except ?_
  refine wpAny_mono ((hb (wFst X.K c i ts D) (X.pn ++ pins) (fun e s1 => wpAny (model X.prog X.w) X.A (noteFrame e X.env) (fun _ s2 => wpAny (model X.prog X.w) X.A (setFlight e none) (fun _ s3 =>
    wpAny (model X.prog X.w) X.A (handleBy e X.env (.ExceptHandler (some (.Name x np)) (some n) (b0 :: suite) pos' :: hds)) (SP X pins D) X.xe s3) X.xe s2) X.xe s1) (fun u s' xx => ?_) PassesOwn.looking).run [] s0 st0 H D (I.toTry _) h) (fun f s1 z => ?_) (fun _ _ he => he)
  · obtain ⟨a, B, sI, pins', st1, H1, cls, d, rfl, J', nb, up, sky, na, os, ag, hit, go⟩ := xx
    have J : Inv X pins st1 H1 sI := J'.ofTry ok
    rw [hs] at sky
    show wpAny (model X.prog X.w) X.A (noteFrame (.ref a) X.env) _ _ _
    refine Sky.land Zc.steady hfr hf sky fun h3 fl3 up3 => ?_
    have J3 : Inv X pins st1 H1 { s' with heap := h3 } := J.landed nb fl3.1 (up.trans up3) os ag
    obtain ⟨oe3, vs3, he3, hz3, hd3⟩ := fl3.there
    have nfr : a ∉ frs (X.env :: X.outer) := fun hm => by
      obtain ⟨_, o', e', hnf⟩ := fl3.2.2.1.mem hm
      rw [he3] at e'
      obtain rfl := Option.some.inj e'
      exact hnf _ hd3
    have nL : a ≠ X.env.locals := fun z => nfr (List.mem_filterMap.mpr ⟨X.env, List.mem_cons_self, by rw [hf, z]⟩)
    have nF : a ∉ X.fs := fun hm => by
      obtain ⟨e, he, q⟩ := List.mem_filterMap.mp hm
      exact nfr (List.mem_filterMap.mpr ⟨e, List.mem_cons_of_mem _ he, q⟩)
    have S3 := J3.suite he3 hd3 na nL nF
    refine wpAny_handleBy_cons (codeAny_handlers_test ?_) (by intro q; cases q)
    have ty : PySem.W.Looks (model X.prog X.w) h3 (typeOf (.ref a)) cls := fun A Q E s k q => wpAny_typeOf_ref (k _ _ he3) (by rw [hz3.1]; exact q)
    have asked : ∀ {Q : Value → Shared → Prop} {E : Value → Shared → Prop}, Q c { s' with heap := h3 } → wpAny (model X.prog X.w) (X.A.mark (some (.ref a))) (eval (.Name x np) X.env) Q E { s' with heap := h3 } := fun {Q E} q => by
      obtain ⟨hg, hdbg, hm | ⟨hm, hv, hnn⟩⟩ := hc
      · exact ld_glob (X := X.suite a ((a, oe3) :: (X.pn ++ pins))) S3 hg hm q hdbg
      · exact ld_blt (X := X.suite a ((a, oe3) :: (X.pn ++ pins))) S3 hg hm hv q hnn hdbg
    refine asked ((PySem.W.exm_one (M := model X.prog X.w) J3.kIn ty hit).here (codeAny_handlers_suite_as (HandSPX.lands_againZ fl3 fun h4 fl4 up4 => ?_)))
    have J4 : Inv X pins st1 H1 { s' with heap := h4 } := J.landed nb fl4.1 ((up.trans up3).trans up4) os ag
    obtain ⟨oe4, vs4, he4, hz4, hd4⟩ := fl4.there
    have S4 := J4.suite he4 hd4 na nL nF
    refine store_ok (X := X.suite a ((a, oe4) :: (X.pn ++ pins))) (v := .ref a) S4 hN hi (.inl hln) rfl (fun s5 S5 => ?_) (.inr hln)
    refine wpAny_mono ((hsu a oe4 cls d (X.pn ++ pins) hz4 ⟨_, hd4⟩).run [] s5 _ H1 _ S5 (go a na)) (fun f s6 z => ?_) (fun _ _ z => False.elim z)
    have off : ∀ {st6 : L2.St} {H6 : Hp} {Q : Shared → Prop}, Inv (X.suite a ((a, oe4) :: (X.pn ++ pins))) [] st6 H6 s6 → (∀ s7, Inv X pins (st6.set i none) H6 s7 → Q s7) →
        wpAny (model X.prog X.w) X.A (do bindName X.env n .none; unbindBehindTheSuite X.env n pos') (fun _ s7 => Q s7) X.xe s6 := fun S6 hq => gone_ok (S6.unsuite ok) hN hi hln hq
    cases f with
    | next =>
      obtain ⟨st6, H6, S6, q6⟩ := z
      exact off S6 fun s7 J7 => ⟨_, _, J7, q6⟩
    | brk =>
      obtain ⟨st6, H6, S6, q6⟩ := z
      exact off S6 fun s7 J7 => ⟨_, _, J7, q6⟩
    | cont =>
      obtain ⟨st6, H6, S6, q6⟩ := z
      exact off S6 fun s7 J7 => ⟨_, _, J7, q6⟩
    | ret u =>
      obtain ⟨v6, st6, H6, S6, r6, q6⟩ := z
      exact off S6 fun s7 J7 => ⟨_, _, _, J7, r6, q6⟩
  · cases f with
    | next =>
      obtain ⟨st2, H2, J2, q⟩ := z
      exact wpAny_execs_nil ⟨st2, H2, J2.ofTry ok, q⟩
    | brk =>
      obtain ⟨st2, H2, J2, q⟩ := z
      exact ⟨st2, H2, J2.ofTry ok, q⟩
    | cont =>
      obtain ⟨st2, H2, J2, q⟩ := z
      exact ⟨st2, H2, J2.ofTry ok, q⟩
    | ret u =>
      obtain ⟨v, st2, H2, J2, r, q⟩ := z
      exact ⟨v, st2, H2, J2.ofTry ok, r, q⟩
end
end KrE

namespace KrE
open Kr L2 PySem PySem.Spec PyProof.Rows
/-! ### an object made by keywords where an error may leave, told by the slots as they stand -/
def tMakeKS (C : Addr) (n m : Nat) (sp : Sp) (E : L2.St → XK) (t tk : TA) : TE := fun σ H Q => t σ H fun vs H1 => tk σ H1 fun zs H2 => vs.length = n ∧ zs.length = m ∧ rMk C sp (E σ) (fun s => s :: vs ++ zs) H2 Q
section
variable {X : Cx} {CX : CXT} {k n : Nat} {C : Addr} {ps ks : List Str} {sp : Sp} {E : L2.St → XK} {x : Str} {p pos : Pos} {e : Expr} {es : List Expr} {kws : List Keyword} {t tk : TA}
theorem pe_mkES (h : MkK X.prog X.w X.K X.mg X.base CX k x C ps (n + 1) ks sp) (hr : Room (k + 1) X.A) (hx : ∀ σ, PassesAt CX X σ (E σ)) (ha : PA X (e :: es) t) (hkw : PK X kws tk) (hg : Gl X x := by rfl)
    (hall : (backToKw pos (keywordEach kws X.env)).all (·.1.isSome) = true := by rfl) (hks : (backToKw pos (keywordEach kws X.env)).filterMap (·.1) = ks := by rfl) (hdb : (x == ("__debug__" : Str)) = false := by decide)
    (he : starEach (e :: es) X.env = (false, eval e X.env) :: starEach es X.env := by rfl) (hpl : ((backTo pos (starEach (e :: es) X.env)).any (·.1) || (backToKw pos (keywordEach kws X.env)).any (·.1.isNone)) = false := by rfl) :
    PE X (.Call (.Name x p) (e :: es) kws pos) (tMakeKS C n ks.length sp E t tk) := by
  obtain ⟨f, fd, hm, M, hb, F⟩ := h
  refine ⟨fun pins s0 st0 H Q I hq0 => ?_⟩
  refine wpAny_Call_Name_kw (ld_glob I hg hm ?_ hdb)
  refine PySem.W.callWith_KW (h₀ := X.base) I.ok.mod.kin M.kp hall (thn (ha.run pos pins s0 st0 H _ I hq0) fun us s1 ⟨vs, H1, I1, r1, q1⟩ => thn (hkw.run pos pins s1 st0 H1 _ I1 q1) fun ws s2 ⟨zs, H2, I2, r2, l1, l2, q2⟩ => ⟨I2.kIn, ?_⟩) hpl he
  rw [hks]
  have made := Inv.made (C := C) I2
  have free1 : H2 (s2.heap.objs.size + 1) = none := I2.hok.fresh (Nat.le_succ _)
  have free0 : H2 s2.heap.objs.size = none := I2.hok.fresh (Nat.le_refl _)
  have promise := q2 (s2.heap.objs.size + 1) s2.heap.objs.size free1 free0 (Nat.ne_of_lt (Nat.lt_succ_self _))
  have rs : Vals (V.ref (s2.heap.objs.size + 1) :: vs) (Value.ref (s2.heap.objs.size + 1) :: us) := .cons rfl r1
  have many : (Value.ref (s2.heap.objs.size + 1) :: us).length = n + 1 := by rw [List.length_cons, ← r1.length, l1]
  refine wpAny_call (make_map (f := f) I2.kIn M.makes M.init (beq_iff_eq.mp M.fn) (codeAny_mono (F.run _ X.stack _ _ ⟨Value.ref (s2.heap.objs.size + 1) :: us, ks.zip ws⟩ _ _ _ (E st0) (hr.make C us (ks.zip ws))
    (made.env0.make C us (ks.zip ws)) (hb.to _ (Value.ref (s2.heap.objs.size + 1) :: us) ws made.kIn many (r2.length.symm.trans l2)) (hb.rel rs r2) promise) fun r s3 z => ?_))
  cases r with
  | error er => exact hx st0 pins _ _ er s3 made z
  | ok fl =>
    cases fl with
    | ret u =>
      obtain ⟨v, H3, I3, rv, ev, q3⟩ := made.after z
      subst ev
      exact ⟨rv, V.ref (s2.heap.objs.size + 1), H3, I3, rfl, q3⟩
    | next => exact False.elim z
    | brk => exact False.elim z
    | cont => exact False.elim z
end
theorem r_mkKS {C : Addr} {n m : Nat} {sp : Sp} {E : L2.St → XK} {t tk : TA} {σ : L2.St} {H : Hp} {Q : VK} (q : t σ H fun vs H1 => tk σ H1 fun zs H2 => vs.length = n ∧ zs.length = m ∧ rMk C sp (E σ) (fun s => s :: vs ++ zs) H2 Q) : tMakeKS C n m sp E t tk σ H Q := q
end KrE
namespace PySem.W
open PySem PySem.Spec PySem.Calls PyProof.Rows
section
variable {prog : Program} {w : World} {A : Around} {E : Value → Shared → Prop} {s : Shared} {K : Frag} {x D : Addr} {ox : Obj} {od : Option Obj}
theorem kr_dataFound {C : Addr} {name : Str} {a g : Value} (hc : (clsIn K C).isSome = true) (ha : findIn K (.ref C) name = some (some a)) (hg : specialIn K a "__get__" = some (some g)) (ht : takesIn K a = some true) : findObj K C od name = some (.bind g a) := by
  obtain ⟨cd, e⟩ := Option.isSome_iff_exists.mp hc
  unfold findObj
  simp [e, ha, hg, ht]
/-- what an own class of errors says of __class__ -/
structure KrErrT (K : Frag) (D : Addr) : Prop where
  ga : findIn K (.ref D) "__getattribute__" = some (some (.builtin "BaseException.__getattribute__"))
  gt : findIn K (.ref D) "__getattr__" = some none
  sb : subIn K (.ref D) (.type "BaseException") = some true
  dc : hasDictIn K D = true
  ca : findIn K (.ref D) "__class__" = some (some (.builtin "object.__class__"))
  cg : specialIn K (.builtin "object.__class__") "__get__" = some (some (.builtin "getset_descriptor.__get__"))
  ct : takesIn K (.builtin "object.__class__") = some true
  mo : mroIn K D (.type "object") = some true
def krErrT (K : Frag) (D : Addr) : Bool := decide (findIn K (.ref D) "__getattribute__" = some (some (.builtin "BaseException.__getattribute__"))) && (decide (findIn K (.ref D) "__getattr__" = some none) && (decide (subIn K (.ref D) (.type "BaseException") = some true) && (hasDictIn K D &&
  (decide (findIn K (.ref D) "__class__" = some (some (.builtin "object.__class__"))) && (decide (specialIn K (.builtin "object.__class__") "__get__" = some (some (.builtin "getset_descriptor.__get__"))) && (decide (takesIn K (.builtin "object.__class__") = some true) && decide (mroIn K D (.type "object") = some true)))))))
theorem krErrT_ok {K : Frag} {D : Addr} (h : krErrT K D = true) : KrErrT K D := by
  unfold krErrT at h
  simp only [Bool.and_eq_true, decide_eq_true_eq] at h
  exact ⟨h.1, h.2.1, h.2.2.1, h.2.2.2.1, h.2.2.2.2.1, h.2.2.2.2.2.1, h.2.2.2.2.2.2.1, h.2.2.2.2.2.2.2⟩
theorem kr_class {Q : Option Value → Shared → Prop} (T : KrErrT K D) (X : K.In s.heap) (I : InstAt s.heap x ox D od) (h : Q (some (.ref D)) { s with toks := s.toks + 1 }) : wpAny (model prog w) A (getAttr? (.ref x) "__class__") Q E s := by
  have found : findObj K D od "__class__" = some (.bind (.builtin "getset_descriptor.__get__") (.builtin "object.__class__")) := kr_dataFound (by obtain ⟨cd, e, _⟩ := any_some T.dc; rw [e]; rfl) T.ca T.cg T.ct
  obtain ⟨hp, g, d, t, os⟩ := s
  have lt := I.type (M := model prog w)
  have lg := looks_findIn (M := model prog w) X T.ga
  have lh := looks_findIn (M := model prog w) X T.gt
  have lf := looks_find (M := model prog w) X I found
  have below : Looks (model prog w) hp (isInstance (.ref x) (.type "BaseException")) true := lt.andThen (looks_subIn X T.sb)
  have n0 : (false && onTheHeap (Value.builtin "BaseException.__getattribute__")) = false := rfl
  have n1 : (onTheHeap (Value.ref D) && Value.builtin "BaseException.__getattribute__" == Value.builtin "object.__getattribute__") = false := by
    have : (Value.builtin "BaseException.__getattribute__" == Value.builtin "object.__getattribute__") = false := by decide +kernel
    rw [this]
    rfl
  unfold getAttr? getAttrBy? getAttrBy
  refine wpAny_bind (wpAny_mkText (wpAny_bind (wpAny_attempt (wpAny_holding (wpAny_bind (lt.at (wpAny_bind (lg.at ?_))))))))
  show wpAny _ _ (if (onTheHeap (Value.ref D) && Value.builtin "BaseException.__getattribute__" == Value.builtin "object.__getattribute__") = true then _ else _) _ _ _
  rw [n1, if_neg Bool.false_ne_true]
  unfold getAttrByItsOwn hookBefore
  refine wpAny_bind ?_
  rw [if_pos (show onTheHeap (Value.ref D) = true from rfl)]
  refine lh.at (wpAny_bind (wpAny_attempt (wpAny_holding ?_)))
  unfold callGetattribute
  rw [n0, if_neg Bool.false_ne_true]
  unfold boundAndCalled
  rw [PySem.F.excAttr_ValueError.ga.bind (.ref x)]
  refine wpAny_bind (wpAny_pure ?_)
  show wpAny _ _ (call (.builtin "BaseException.__getattribute__") [.ref x, .str "__class__" t]) _ _ _
  refine wpAny_call (codeAny_call_builtin PySem.F.excAttr_ValueError.ga.plain PySem.F.entry_bexc_ga (@check_slot (model prog w) _ _ ⟨hp, g, d, t + 1, os⟩ "BaseException.__getattribute__" "BaseException" "__getattribute__" (.ref x) [.str "__class__" t] [] _ (by decide +kernel) (by decide +kernel) below (PySem.F.args_bexc_ga (.ref x) (.str "__class__" t)) ?_))
  unfold Builtin.«object.__getattribute__»
  refine wpAny_bind (wpAny_of_eq (a := ((Value.ref x : Value), [Value.str "__class__" t])) (by first | rfl | (simp only [slotArgs]; rfl)) (wpAny_bind (wpAny_pure (wpAny_bind (lt.at (wpAny_bind (lf.at ?_)))))))
  show wpAny _ _ (holding [Value.builtin "object.__class__"] (call (.builtin "getset_descriptor.__get__") [.builtin "object.__class__", .ref x, .ref D]) >>= ret) _ _ _
  refine wpAny_bind (wpAny_holding (wpAny_call (class_get (s := ⟨hp, g, d, t + 1, os⟩) (ox := ox) (od := od) X I T.mo (wpAny_pure ?_))))
  show wpAny _ _ (handedOut (.ref D)) _ _ _
  rw [handedOut_of (v := .ref D) rfl]
  first
    | exact wpAny_pure (wpAny_pure h)
    | exact wpAny_pure h
    | exact wpAny_pure (wpAny_bind (wpAny_pure (wpAny_pure h)))
theorem kr_kitx (T : KrErrT K D) : KitX K (.ref x) (.ref D) (fun h => InstAt h x ox D od) := by
  obtain ⟨cd, ec, _⟩ := any_some T.dc
  unfold clsIn at ec
  split at ec
  rotate_left
  · cases ec
  rename_i c1 d1 cd1 sl1 ho
  refine ⟨fun _ _ _ I => I.type, fun _ _ Y _ => ?_, fun h tp dd its n sl Y htp => ?_, fun Y I k => kr_class T Y I k⟩
  · intro A' Q' E' s' k q
    unfold isType loadHead
    exact wpAny_bind (wpAny_loadPart (k _ _ (Y _ _ ho)) (wpAny_pure q))
  · refine Bool.eq_false_iff.mpr fun q => ?_
    have e : D = tp := Value.ref.inj (beq_iff_eq.mp q)
    subst e
    cases (Y _ _ ho).symm.trans htp
end
end PySem.W
namespace KrE
open Kr L2 PySem PySem.Spec PyProof.Rows
/-- isinstance(e, c), e the error that the suite holds, with its fields -/
def rIsD (K : PySem.W.Frag) (a : Addr) (cls : Value) (d : Option Addr) (C : Addr) : List V → Hp → VK → Prop := fun xs H Q => ∃ (c : V) (cv : Value) (b : Bool) (dd : Addr) (fs : List (Str × V)), xs = [.ref a, c] ∧ cls = .ref C ∧ d = some dd ∧ H dd = some (.xd fs) ∧ (∀ u, RelV c u → u = cv) ∧ PySem.W.kitOne K (.ref C) cv = some b ∧ Q (.bl b) H
theorem c_isD {X : Cx} {a C : Addr} {oe : Obj} {cls : Value} {d : Option Addr} {pn : List (Addr × Obj)} (T : PySem.W.KrErrT X.K C) (hz : Zc cls d oe) (hf : ∃ vs, oe.data = .fields vs) : CallR (X.suite a ((a, oe) :: pn)) (.builtin "isinstance") (rIsD X.K a cls d C) := by
  intro pins s0 st0 H xs us Q I r h
  obtain ⟨c, cv, b, dd, fs, rfl, rfl, rfl, ea, hcv, e, q⟩ := h
  obtain ⟨u1, u2, rfl, rx, rt⟩ : ∃ u1 u2, us = [u1, u2] ∧ RelV (.ref a) u1 ∧ RelV c u2 := by
    cases r with
    | cons rx rr =>
      cases rr with
      | cons rt rr =>
        cases rr
        exact ⟨_, _, rfl, rx, rt⟩
  obtain rfl : u1 = Value.ref a := rx
  obtain rfl := hcv _ rt
  obtain ⟨at1, -⟩ := I.pin (a, oe) (List.mem_append.mpr (.inl List.mem_cons_self))
  obtain ⟨vs, hv⟩ := hf
  obtain ⟨mA, hns, -⟩ : ObjOk X.prog X.w H s0.heap dd (.xd fs) := I.hok dd _ ea
  obtain ⟨od, ho, -⟩ := lookIn_ns hns
  have J : PySem.W.InstAt s0.heap a oe C (some od) := ⟨at1, hz.1, by unfold PySem.W.notCls; rw [hv] <;> rfl, by rw [hz.2]; exact ho⟩
  exact PySem.W.kia_one (PySem.W.kr_kitx T) I.kIn J e (fun z => nomatch z) fun tk => ⟨.bl b, H, I.kept (t' := tk) fun _ _ z => z, rfl, q⟩
theorem r_isD {K : PySem.W.Frag} {a C dd : Addr} {H : Hp} {Q : VK} {fs : List (Str × V)} {T : Addr} {b : Bool} (h : H dd = some (.xd fs)) (e : PySem.W.kitOne K (.ref C) (.ref T) = some b) (q : Q (.bl b) H) : rIsD K a (.ref C) (some dd) C [.ref a, .ref T] H Q := ⟨_, _, b, dd, fs, rfl, rfl, rfl, h, fun u r => r, e, q⟩
def rXf (a : Addr) (cls : Value) (d : Option Addr) (C : Addr) (f : Str) (x : V) (H : Hp) (Q : VK) : Prop := x = .ref a ∧ cls = .ref C ∧ ∃ (dd : Addr) (fs : List (Str × V)) (v : V), d = some dd ∧ H dd = some (.xd fs) ∧ fs.lookup f = some v ∧ Q v H
theorem r_tXf {a C : Addr} {cls : Value} {d : Option Addr} {f : Str} {te : TE} {σ : L2.St} {H : Hp} {Q : VK} (q : te σ H fun x H1 => rXf a cls d C f x H1 Q) : tXf a cls d C f te σ H Q := q
theorem r_xf {a C dd : Addr} {f : Str} {H : Hp} {Q : VK} {fs : List (Str × V)} {v : V} (h : H dd = some (.xd fs)) (l : fs.lookup f = some v) (q : Q v H) : rXf a (.ref C) (some dd) C f (.ref a) H Q := ⟨rfl, rfl, dd, fs, v, rfl, h, l, q⟩
end KrE

namespace KrL
open Kr L2 PySem PySem.Spec PyProof.Rows LamX
/-! ### a def whose code object is known -/
theorem okC {P : Program} {w : World} {K : PySem.W.Frag} {mg : Str → Option Value} {base : Heap} {nm qual : Str} {params : Arguments} {body : List Stmt} {scope : Scope} {f c : Addr} {fd : FuncData} {CX : CXT} {N ps : List Str} {k : Nat} {sp : Sp}
    (F : FunD K nm qual params body scope [] [] f fd) (hc : fd.code = .ref c) (S : FnScope N ps scope) (ln : ∀ vs H Q E, sp vs H Q E → vs.length = ps.length)
    (hb : ∀ (A : Around) (outer : List Env) (s : Shared) (H : Hp) (vs : List V) (Q : VK) (E : XK), Room k (A.deeper (envOfC qual scope s.heap.objs.size f (.ref c))) → sp vs H Q E →
      ∃ t, PSs (cxOf CX P w K mg base N qual scope f (.ref c) A outer s H E) body t ∧ t { nx := fun _ H' => Q .non H', rt := Q } (L2.start N vs) H) : FnOk P w K mg base CX (k + 1) f fd ps sp := by
  obtain ⟨oc, od, dV, kV, doc, pm, an, cdv, ct, osl, e, lk, hcd, -, -⟩ := F.ex
  subst e
  have e2 : cdv = .ref c := hc
  subst e2
  exact fn_of lk hcd S ln hb
/-- the def p of the program is made with the code object and the table that cT finds -/
theorem code_cT {K : PySem.W.Frag} {p : He.Defn} {nm qual : Str} {params : Arguments} {body : List Stmt} {scope : Scope} {fd : FuncData} (F : FunD K nm qual params body scope [] [] (He.fAd K p) fd) : fd.code = .ref (He.cT K p).1 := by
  obtain ⟨oc, od, dV, kV, doc, pm, an, cdv, ct, osl, e, lk, hcd, -, -⟩ := F.ex
  obtain ⟨c, hc⟩ := He.codeIn_ref hcd
  have e1 : fd.code = .ref c := by
    subst e
    exact hc
  have e2 : He.codeOf K p = c := He.codeOf_eq lk e1
  rw [e1]
  show Value.ref c = Value.ref (He.codeOf K p)
  rw [e2]
/-! ### the lambda called, where what it raises is wished for at the slots as they stand -/
section
variable {X : Cx} {pins : List (Addr × Obj)} {st0 : L2.St} {H : Hp} {s0 : Shared}
theorem act_at {Eg : XK} {CXg : CXT} {Ng : List Str} {qg : Str} {sg : Scope} {g f co : Addr} {cdg pm ctv : Value} {params : Arguments} {body : Expr} {scope : Scope} {k i : Nat} {a : Str} {pn : List (Addr × Obj)} {xe : Value → Shared → Prop} {W : WX} {tb : XK → TE} {p1 p2 : Pos}
    (I : Inv X pins st0 H s0) (L : LamS X.env.scope scope) (hf : s0.heap.get? f = some (PySem.W.kla_obj "<lambda>" (X.env.qual ++ "<lambda>") params body scope (cloFrom X.env.cells scope.names []) pm co ctv)) (hfn : H f = none) (hfr : f ∉ frs X.stack)
    (hbind : bindArgs (PySem.W.kla_fn "<lambda>" (X.env.qual ++ "<lambda>") params body scope (cloFrom X.env.cells scope.names []) pm (.ref co) ctv) ⟨[], []⟩ = pure [])
    (tk : Takes ((cxOf CXg X.prog X.w X.K X.mg X.base Ng qg sg g cdg X.A X.stack s0 H Eg).tr pn xe) W) (hr : Room (k + 1) (X.A.deeper (envOfC qg sg s0.heap.objs.size g cdg)))
    (hbody : ∀ (A : Around) (outer : List Env) (s : Shared) (H : Hp) (E1 : XK), Room k (A.deeper (lamEnv X scope s.heap.objs.size f co)) → PE (lamCx X A outer s H E1 scope f co) body (tb E1))
    (hN : Ng[i]? = some a) (hv : Vis sg a) (hd : (a == ("__debug__" : Str)) = false := by decide) (hcd : (a == ("__classdict__" : Str)) = false := by decide) :
    PE ((cxOf CXg X.prog X.w X.K X.mg X.base Ng qg sg g cdg X.A X.stack s0 H Eg).tr pn xe) (.Call (.Name a p1) [] [] p2)
      (fun stZ HZ Q => stZ[i]? = some (some (.ref f)) ∧ HZ co = some (CodeO co (X.env.qual ++ "<lambda>")) ∧ ∃ E : XK, (∀ cls d H', E cls d H' → W cls d stZ H') ∧ tb E st0 HZ Q) := by
  refine ⟨fun pinsZ sZ stZ HZ Q IZ hz => ?_⟩
  obtain ⟨hs, hc, E, hW, ht⟩ := hz
  refine wpAny_Call_Name_kw (thn ((pe_var (pos := p1) (i := i) hN hv hd hcd).run pinsZ sZ stZ HZ (fun v H1 => v = .ref f ∧ H1 = HZ) IZ ⟨.ref f, hs, rfl, rfl⟩) fun u s1 ⟨v, H1, I1, r1, q1⟩ => ?_)
  obtain ⟨ev, eH⟩ := q1
  subst ev
  rw [eH] at I1
  obtain rfl : u = Value.ref f := r1
  have at1 := I1.base.keep f _ hf hfn hfr (fun z => nomatch (show f ∈ ([] : List Addr) from z))
  refine PySem.W.callWith_F0 ⟨_, _, _, _, at1⟩ ?_
  have un : Un (frs X.stack) [] H HZ s0.heap s1.heap := I1.base
  obtain ⟨⟨oc, vs, t, hoc, hdc, hvc⟩, -, -⟩ := I1.hok co _ hc
  have rc : codeAny (model X.prog X.w) (X.A.deeper (envOfC qg sg s0.heap.objs.size g cdg)) (.call (.ref f) ⟨[], []⟩) (CR (L2.CX X.prog X.w) (envOfC qg sg s0.heap.objs.size g cdg :: X.stack) X.prog X.w HZ s1 Q E) s1 := by
    refine PySem.W.kla_callFunE hr.depth at1 rfl L.co L.gen rfl ⟨co, oc, vs, t, rfl, hoc, hdc, hvc⟩ ?_
    rw [hbind]
    refine wpAny_pure (wpAny_newFunctionEnv (fun y hy => (L.own y hy).2) (fun y hy => absurd hy (by simp)) (fun hh hns hsb => ⟨I1.nolimit.fresh _ hsb, ?_⟩) L.kind)
    show codeAny _ _ (.expr body (lamEnv X scope s1.heap.objs.size f co)) _ _
    have kp : ∀ b o, s1.heap.get? b = some o → hh.get? b = some o := fun b o e => hsb.extBut b o (Nat.ne_of_lt (Heap.lt_size e)) (Heap.get?_push_of_some _ e)
    have J := lam_start2 (E := E) (f := f) (c' := co) (tk := s1.toks + ([] : List (Str × Value)).length) I L I1.env0 hr.hd un hns kp
    refine PySem.W.kla_codeExpr (wpAny_mono ((hbody _ _ s1 HZ E (hr.deeper _)).run [] _ _ HZ Q J ht) (fun v s2 hq => ?_) fun e s2 hq => hq)
    obtain ⟨v2, H2, J2, rv, q⟩ := hq
    exact ⟨v2, H2, J2.os, J2.bare, J2.base, J2.hok, rv, q⟩
  refine wpAny_call (codeAny_mono rc fun r s2 hq => ?_)
  cases r with
  | error e =>
    exact tk e s2 (XE.of_call I1 hW hq)
  | ok fl =>
    cases fl with
    | ret u => exact I1.after hq
    | next => exact False.elim hq
    | brk => exact False.elim hq
    | cont => exact False.elim hq
end
/-- what a def makes of the lambda that it gets: it calls it by its parameter's name -/
def Gives (X : Cx) (Ng : List Str) (x : Str) (sg : Scope) (g : Addr) (cdg : Value) (bg : List Stmt) (a : Str) (TT : (XK → Hp → VK → Prop) → Hp → VK → Prop) : Prop :=
  ∀ (q : Str) (f co : Addr) (s0 : Shared) (H : Hp) (Q : VK) (tl : XK → Hp → VK → Prop),
    (∀ (W : WX) (pn : List (Addr × Obj)) (xe : Value → Shared → Prop) (p1 p2 : Pos), Takes ((cxOf C8.CX0 X.prog X.w X.K X.mg X.base Ng x sg g cdg X.A X.stack s0 H C8.E0).tr pn xe) W →
      PE ((cxOf C8.CX0 X.prog X.w X.K X.mg X.base Ng x sg g cdg X.A X.stack s0 H C8.E0).tr pn xe) (.Call (.Name a p1) [] [] p2) (fun stZ HZ Q => stZ[0]? = some (some (.ref f)) ∧ HZ co = some (CodeO co q) ∧ ∃ E : XK, (∀ cls d H', E cls d H' → W cls d stZ H') ∧ tl E HZ Q)) →
    H co = some (CodeO co q) → TT tl H Q →
    ∃ t, PSs (cxOf C8.CX0 X.prog X.w X.K X.mg X.base Ng x sg g cdg X.A X.stack s0 H C8.E0).nox bg t ∧ t { nx := fun _ H' => Q .non H', rt := Q } (L2.start Ng [.ref f]) H
/-- the module's def x takes a lambda and makes TT of it -/
def LamH (P : Program) (w : World) (K : PySem.W.Frag) (mg : Str → Option Value) (base : Heap) (x : Str) (TT : (XK → Hp → VK → Prop) → Hp → VK → Prop) : Prop :=
  ∃ (a : Str) (g : Addr) (fd : FuncData) (pg : Arguments) (bg : List Stmt) (sg : Scope) (Ng : List Str), mg x = some (.ref g) ∧ FunD K x x pg bg sg [] [] g fd ∧ L2.Binds K fd [a] [] ∧ FnScope Ng [a] sg ∧ Ng[0]? = some a ∧ Vis sg a ∧ (a == ("__debug__" : Str)) = false ∧ (a == ("__classdict__" : Str)) = false ∧
    ∀ (X : Cx) (cdv : Value), X.prog = P → X.w = w → X.K = K → X.mg = mg → X.base = base → Gives X Ng x sg g cdv bg a TT
section
variable {X : Cx}
theorem pe_lam {T : List (Addr × Str)} {TT : (XK → Hp → VK → Prop) → Hp → VK → Prop} {x : Str} {c P : Addr} {k : Nat} {params : Arguments} {body : Expr} {scope : Scope} {t : XK → TE} {p lpos pos : Pos} (h : LamH X.prog X.w X.K X.mg X.base x TT)
    (TB : TabB X.base X.mg c P) (hcode : X.env.code = .ref c) (hmT : (P, X.env.qual ++ "<lambda>") ∈ T) (hu : ∀ p ∈ T, p.1 = P → p.2 = X.env.qual ++ "<lambda>") (hr : Room (k + 2) X.A) (L : LamS X.env.scope scope)
    (hbody : ∀ (A : Around) (outer : List Env) (s : Shared) (H : Hp) (E1 : XK) (f co : Addr), Room k (A.deeper (lamEnv X scope s.heap.objs.size f co)) → PE (lamCx X A outer s H E1 scope f co) body (t E1)) (hg : Gl X x := by rfl)
    (hdef : defaultsOf params X.env = ([], []) := by rfl) (hbind : ∀ (q : Str) (cl : List (Str × Addr)) (pm cv ctv : Value), bindArgs (PySem.W.kla_fn "<lambda>" q params body scope cl pm cv ctv) ⟨[], []⟩ = pure [] := by intros; rfl) (hdb : (x == ("__debug__" : Str)) = false := by decide) :
    PE X (.Call (.Name x p) [.Lambda params body scope lpos] [] pos) (tLam T TT t) := by
  obtain ⟨a, g, fd, pg, bg, sg, Ng, hm, F, hb, Sg, hNg, hva, hd, hcd, hG⟩ := h
  obtain ⟨oc, od, dV, kV, doc, pm, an, cdv, ct, osl, efd, lk, hcg, -, -⟩ := F.ex
  subst efd
  refine ⟨fun pins s0 st0 H Q I hz => ?_⟩
  obtain ⟨hT, hz⟩ := hz
  refine wpAny_Call_Name_kw (ld_glob I hg hm ?_ hdb)
  refine PySem.W.callWith_K (h₀ := X.base) I.ok.mod.kin F.kp ?_ (by rfl) (by rfl)
  show wpAny _ _ (spliced ((false, eval (.Lambda params body scope lpos) X.env) :: backTo pos (starEach [] X.env))) _ _ s0
  refine Calls.spliced_cons (lam_make2 I TB hcode hmT hu hT hdef (L.has I.ok) fun f co pm1 ctv H1 s1 I1 eN T1 hf hfn hfr hco => ?_)
  refine Calls.spliced_nil ⟨I1.kIn, ?_⟩
  have rc : codeAny (model X.prog X.w) X.A (.call (.ref g) ⟨[.ref f], []⟩) (CR C8.CX0 X.stack X.prog X.w H1 s1 Q C8.E0) s1 := by
    refine run_ofS (N := Ng) (ps := [a]) (us := [.ref f]) (vs := [.ref f]) lk hcg Sg hr I1.env0 (hb s1 [.ref f] I1.kIn rfl) (.cons rfl .nil) rfl fun hr1 => ?_
    obtain ⟨t1, ht1, hq1⟩ := hG X cdv rfl rfl rfl rfl rfl (X.env.qual ++ "<lambda>") f co s1 H1 Q (fun E1 H2 Q2 => t E1 st0 H2 Q2) (fun W pn xe p1 p2 tk => act_at (i := 0) I1 L hf hfn hfr (hbind _ _ _ _ _) tk hr1 (fun A outer s H E1 hr2 => hbody A outer s H E1 f co hr2) hNg hva hd hcd) hco (hz H1 eN T1)
    exact ⟨t1, ht1.nox, hq1⟩
  refine wpAny_call (codeAny_mono rc fun r s2 hq => ?_)
  cases r with
  | error e => exact (show False from hq).elim
  | ok fl =>
    cases fl with
    | ret u => exact I1.after hq
    | next => exact False.elim hq
    | brk => exact False.elim hq
    | cont => exact False.elim hq
end
theorem tbu_ok {T : List (Addr × Str)} {P : Addr} {q : Str} (h : (T.all fun p => !decide (p.1 = P) || decide (p.2 = q)) = true) : ∀ p ∈ T, p.1 = P → p.2 = q := fun p hp e => by
  have := List.all_eq_true.mp h p hp
  simpa [e] using this
/-! ### calls that may raise -/
section
variable {X : Cx} {CX : CXT} {k : Nat} {C : Addr} {ps : List Str} {sp : Sp} {E : XK} {x m : Str} {p pos apos : Pos} {e o : Expr} {es : List Expr} {ta : TE} {t : TA}
theorem pe_mtE (h : MtH X.prog X.w X.K X.mg X.base CX k C m ps sp) (c : Cls X.K C) (hr : Room k X.A) (hx : Passes CX X E) (he : PE X o ta) (ha : PA X (e :: es) t) {pl : Sem Bool}
    (hst : starEach (e :: es) X.env = (false, eval e X.env) :: starEach es X.env := by rfl) (hpl : (backTo pos (starEach es X.env)).any (·.1) = false := by rfl)
    (ht : eval (.Call (.Attribute o m apos) (e :: es) [] pos) X.env = (do
      let ov ← eval o X.env
      standAt apos.atName
      let (f, first) ← holding [ov] (getMethod ov m pl)
      callWith pos f first (backTo pos (starEach (e :: es) X.env)) (backToKw pos (keywordEach [] X.env))) := by rfl) : PE X (.Call (.Attribute o m apos) (e :: es) [] pos) (tMeth C m sp [] E ta t) := by
  obtain ⟨f, fd, hm, hb, F⟩ := h
  exact pe_meth he c hm F hr hb .nil hx ha hst hpl ht
theorem pe_mkP (h : MkH X.prog X.w X.K X.mg X.base CX k x C ps sp) (hr : Room (k + 1) X.A) (hx : Passes CX X E) (ha : PA X (e :: es) t) (hg : Gl X x := by rfl) (hdb : (x == ("__debug__" : Str)) = false := by decide)
    (he : starEach (e :: es) X.env = (false, eval e X.env) :: starEach es X.env := by rfl) (hpl : (backTo pos (starEach es X.env)).any (·.1) = false := by rfl) : PE X (.Call (.Name x p) (e :: es) [] pos) (tMake C sp [] E t) := by
  obtain ⟨f, fd, hm, M, hb, F⟩ := h
  exact pe_make M F hr hg hm hb .nil hx ha hdb he hpl
end
section
variable {H H1 H2 : Hp}
theorem r_lam {T : List (Addr × Str)} {TT : (XK → Hp → VK → Prop) → Hp → VK → Prop} {t : XK → TE} {st0 : L2.St} {Q : VK} (hT : Tabs T H) (q : ∀ H1, ExtN H H1 → Tabs T H1 → TT (fun E1 H2 Q2 => t E1 st0 H2 Q2) H1 Q) : tLam T TT t st0 H Q := ⟨hT, q⟩
theorem ExtN.of_same (s : Same H H1) : ExtN H H1 := fun b o e _ => s b o e
end
theorem r_clear {l : Addr} {xs : List V} {H : Hp} {Q : VK} (h : H l = some (.lst xs)) (q : Q .non (upd H l (.lst []))) : rClear (.ref l) [] H Q := ⟨l, xs, rfl, rfl, h, q⟩
theorem op_inK {X : Cx} {K : PySem.W.Frag} (h : X.K = K) : OpR X (compareOp .In) (rIn K false) := h ▸ op_in_seq
theorem op_ninK {X : Cx} {K : PySem.W.Frag} (h : X.K = K) : OpR X (compareOp .NotIn) (rIn K true) := h ▸ op_notIn_seq
theorem lk_relabel {env : Env} {sc : Scope} {x : Str} (h : sc.names.lookup x = some .cell ∨ sc.names.lookup x = some .free) : (relabel sc env).names.lookup x = some .cell ∨ (relabel sc env).names.lookup x = some .free := by
  unfold relabel
  generalize sc.names = names at h ⊢
  show (names.map fun (n, k) => if (k == NameKind.free && env.scope.kind == .function && env.kindOf n == some .cell) then (n, NameKind.cell) else (n, k)).lookup x = some .cell ∨ (names.map fun (n, k) => if (k == NameKind.free && env.scope.kind == .function && env.kindOf n == some .cell) then (n, NameKind.cell) else (n, k)).lookup x = some .free
  induction names with
  | nil => simp at h
  | cons y r ih =>
    obtain ⟨n, k⟩ := y
    rw [List.map_cons]
    generalize List.map _ r = r' at ih ⊢
    show List.lookup x ((if (k == NameKind.free && env.scope.kind == .function && env.kindOf n == some .cell) = true then (n, NameKind.cell) else (n, k)) :: r') = some .cell ∨ List.lookup x ((if (k == NameKind.free && env.scope.kind == .function && env.kindOf n == some .cell) = true then (n, NameKind.cell) else (n, k)) :: r') = some .free
    by_cases hc : (k == NameKind.free && env.scope.kind == .function && env.kindOf n == some .cell) = true
    · rw [if_pos hc]
      cases hx : x == n with
      | true => simp [List.lookup_cons, hx]
      | false =>
        simp only [List.lookup_cons, hx] at h ⊢
        exact ih h
    · rw [if_neg hc]
      cases hx : x == n with
      | true =>
        simp only [List.lookup_cons, hx] at h ⊢
        exact h
      | false =>
        simp only [List.lookup_cons, hx] at h ⊢
        exact ih h
/-- a comprehension's block within another's -/
theorem blk_in {X : Cx} {N : List Str} {sc scope : Scope} {own : List (Str × Nat)} {s : Shared} {H : Hp} {C : Addr} {cl : List (Str × Addr)} {fp : List Addr} (hN : X.N = N) (h : blkC N sc scope own = true) : BlkOk (X.blk s H sc (compEnvC sc cl C X.env) fp).N (X.blk s H sc (compEnvC sc cl C X.env) fp).env.scope scope own := by
  subst hN
  have b := blkOk_by h
  refine ⟨b.kind, b.uniq, b.ix, fun y hy e => ?_, b.own⟩
  show (relabel sc X.env).names.lookup y.1 = some .cell ∨ (relabel sc X.env).names.lookup y.1 = some .free
  exact lk_relabel (b.free y hy e)
theorem sl_listK {X : Cx} {K : PySem.W.Frag} (h : X.K = K) : SlR X (rSlL K) := h ▸ sl_list
theorem op_catSK {X : Cx} {K : PySem.W.Frag} (h : X.K = K) : OpR X (binaryOp .Add) (rCatS K) := h ▸ op_catS
theorem op_eqDK {X : Cx} {K : PySem.W.Frag} (h : X.K = K) (hu : X.A.units + 64 < cLine) : OpR X (compareOp .Eq) (rEqD K) := h ▸ op_eqD hu
theorem op_neDK {X : Cx} {K : PySem.W.Frag} (h : X.K = K) (hu : X.A.units + 64 < cLine) : OpR X (compareOp .NotEq) (rNeD K) := h ▸ op_neD hu
theorem un65 {A : Around} {k : Nat} (hr : Room k A) : A.units + 65 < cLine := by
  have := hr.un
  omega
theorem pi_listK {X : Cx} {K : PySem.W.Frag} {tg l : Expr} {tl : TE} (h : X.K = K) (hl : PE X l tl) : PI X tg l (iList K tl) := h ▸ pi_list hl
theorem pi_tupK {X : Cx} {K : PySem.W.Frag} {tg l : Expr} {tl : TE} (h : X.K = K) (hl : PE X l tl) : PI X tg l (iTup K tl) := h ▸ pi_tup hl
end KrL

/-! A def called where an error may leave, told by the slots as they stand. -/
namespace KrE
open Kr L2 PySem PySem.Spec PyProof.Rows
section
variable {X : Cx} {CX : CXT} {k : Nat} {ps : List Str} {sp : Sp} {E : L2.St → XK} {x : Str} {p pos : Pos} {e : Expr} {es : List Expr} {t : TA}
theorem pe_clES (h : FnH X.prog X.w X.K X.mg X.base CX k x ps sp) (hr : Room k X.A) (hx : ∀ σ, PassesAt CX X σ (E σ)) (ha : PA X (e :: es) t) (hg : Gl X x := by rfl) (hdb : (x == ("__debug__" : Str)) = false := by decide)
    (he : starEach (e :: es) X.env = (false, eval e X.env) :: starEach es X.env := by rfl) (hpl : (backTo pos (starEach es X.env)).any (·.1) = false := by rfl) : PE X (.Call (.Name x p) (e :: es) [] pos) (tCallS sp E t) := by
  obtain ⟨f, fd, hm, hk, hb, F⟩ := h
  exact pe_callS F hr hg hm hk hb hx ha hdb he hpl
theorem r_clS {σ : L2.St} {H : Hp} {Q : VK} (q : t σ H fun vs H1 => sp vs H1 Q (E σ)) : tCallS sp E t σ H Q := q
end
end KrE
namespace KrT
open Kr L2 PySem PySem.Spec PyProof.Rows
/-! ### rows of texts compared -/
theorem dpStrs {K : PySem.W.Frag} {H : Hp} : ∀ xs : List Str, DpAll K H (xs.map V.str) (xs.map PyData.str)
  | [] => .nil
  | x :: r => .cons (.str x) (dpStrs r)
theorem eqvStrs : ∀ xs ys : List Str, PyData.eqvAll (xs.map PyData.str) (ys.map PyData.str) = decide (xs = ys)
  | [], [] => by simp [PyData.eqvAll]
  | [], _ :: _ => by simp [PyData.eqvAll]
  | _ :: _, [] => by simp [PyData.eqvAll]
  | a :: xs, b :: ys => by
    show (PyData.eqv (.str a) (.str b) && PyData.eqvAll (xs.map PyData.str) (ys.map PyData.str)) = _
    rw [eqvStrs xs ys]
    show ((a == b) && decide (xs = ys)) = decide (a :: xs = b :: ys)
    by_cases h : a = b <;> by_cases h2 : xs = ys <;> simp [h, h2]
theorem layStrs : ∀ {xs : List Str}, (∀ x ∈ xs, PyData.strOk x = true) → PyData.canLayAll0 (xs.map PyData.str) = true ∧ PyData.depthAll (xs.map PyData.str) = 0
  | [], _ => ⟨rfl, rfl⟩
  | x :: r, h => by
    have ih := layStrs (xs := r) fun z hz => h z (List.mem_cons_of_mem _ hz)
    have hx := h x List.mem_cons_self
    simp [PyData.canLayAll0, PyData.canLay0, PyData.depthAll, PyData.depth, ih, hx]
theorem shLS {xs : List Str} (h : ∀ x ∈ xs, PyData.strOk x = true) : SeqAt.shaped (.list (xs.map PyData.str)) = true := by simp [SeqAt.shaped, PyData.canLay0, PyData.depth, layStrs h]
section
variable {K : PySem.W.Frag} {H : Hp} {Q : VK} {a b : Addr} {xs ys : List Str}
theorem r_eqSS (ox : ∀ x ∈ xs, PyData.strOk x = true) (oy : ∀ x ∈ ys, PyData.strOk x = true) (h : SqL K H a (xs.map V.str)) (g : SqL K H b (ys.map V.str)) (q : Q (.bl (decide (xs = ys))) H) : rEqD K (.ref a) (.ref b) H Q :=
  ⟨_, _, .lst h (dpStrs xs), .lst g (dpStrs ys), shLS ox, shLS oy, by rw [show PyData.eqv (.list (xs.map PyData.str)) (.list (ys.map PyData.str)) = decide (xs = ys) from eqvStrs xs ys]; exact q⟩
theorem r_neSS (ox : ∀ x ∈ xs, PyData.strOk x = true) (oy : ∀ x ∈ ys, PyData.strOk x = true) (h : SqL K H a (xs.map V.str)) (g : SqL K H b (ys.map V.str)) (q : Q (.bl (!decide (xs = ys))) H) : rNeD K (.ref a) (.ref b) H Q :=
  ⟨_, _, .lst h (dpStrs xs), .lst g (dpStrs ys), shLS ox, shLS oy, by rw [show PyData.eqv (.list (xs.map PyData.str)) (.list (ys.map PyData.str)) = decide (xs = ys) from eqvStrs xs ys]; exact q⟩
end
/-! ### signs of a text -/
def rInS : V → V → Hp → VK → Prop := fun x y H Q => ∃ (c : Nat) (z : Str), x = .str ⟨#[c]⟩ ∧ y = .str z ∧ Q (.bl (decide (c ∈ z.cps.toList))) H
def rNinS : V → V → Hp → VK → Prop := fun x y H Q => ∃ (c : Nat) (z : Str), x = .str ⟨#[c]⟩ ∧ y = .str z ∧ Q (.bl (!decide (c ∈ z.cps.toList))) H
theorem op_inS {X : Cx} : OpR X (compareOp .In) rInS := op_in_sign
theorem op_ninS {X : Cx} : OpR X (compareOp .NotIn) rNinS := op_notIn_sign
def rIntS : List V → Hp → VK → Prop := fun xs H Q => ∃ a n, xs = [.str a] ∧ PySem.intText? a = some n ∧ a.length ≤ 640 ∧ Q (.int n) H
theorem c_intS {X : Cx} : CallR X (.type "int") rIntS := call_int_str
theorem r_intS {a : Str} {n : Int} {H : Hp} {Q : VK} (h : PySem.intText? a = some n) (hl : a.length ≤ 640) (q : Q (.int n) H) : rIntS [.str a] H Q := ⟨a, n, rfl, h, hl, q⟩
theorem r_iStr {te : TE} {σ : L2.St} {H : Hp} {R : It → Hp → Prop} (q : te σ H fun v H1 => ∃ x, v = .str x ∧ R (Its x) H1) : iStr te σ H R := q
theorem r_revL {K : PySem.W.Frag} {te : TE} {σ : L2.St} {H : Hp} {Q : VK} (q : te σ H fun x H1 => ∃ a xs, x = .ref a ∧ SqL K H1 a xs ∧ ∀ p, H1 p = none → Q (.ref p) (upd H1 p (.lst xs.reverse))) : tRevL K te σ H Q := q
/-- a comprehension over the signs of a text, with the slots written out -/
theorem lc_strS {z : Str} {g : TG} {tt : TT} {te : TE} {vs : List Nat} {σ : L2.St} {H1 : Hp} {D : Addr} {Qd : Hp → Prop} (σ' : L2.St) (hσ : wipe σ vs = σ') (Pv : Nat → Hp → Prop) (h0 : Pv 0 (upd H1 D (.lst [])))
    (hs : ∀ i c H, z.cps[i]? = some c → Pv i H → g (.str ⟨#[c]⟩) σ' H fun σ2 H2 => wipe σ2 vs = σ' ∧ tt σ2 H2 fun b H3 =>
      if b = true then te σ2 H3 fun y H4 => ∃ acc, H4 D = some (.lst acc) ∧ acc.length < sizeLine ∧ Pv (i + 1) (upd H4 D (.lst (acc ++ [y]))) else Pv (i + 1) H3) (hd : ∀ H, Pv z.cps.size H → Qd H) :
    ∃ W : Nat → Nat → Hp → Prop, (∃ m, W 0 m (upd H1 D (.lst []))) ∧ ∀ i m H, W i m H →
      ((Its z).stop i H ∧ Qd H) ∨ ((Its z).go i H ∧ ∃ Nx : Hp → Prop, (∀ H', Nx H' → ∃ m', m' < m ∧ W (i + 1) m' H') ∧ ∀ x H', (Its z).yld i H x H' → g x (wipe σ vs) H' fun σ2 H2 => wipe σ2 vs = wipe σ vs ∧ tt σ2 H2 fun b H3 =>
        if b = true then te σ2 H3 fun y H4 => ∃ acc, H4 D = some (.lst acc) ∧ acc.length < sizeLine ∧ Nx (upd H4 D (.lst (acc ++ [y]))) else Nx H3) := by
  subst hσ
  refine ⟨fun i m H => m = z.cps.size - i ∧ i ≤ z.cps.size ∧ Pv i H, ⟨z.cps.size, by simp, Nat.zero_le _, h0⟩, ?_⟩
  rintro i m H ⟨rfl, hi, hp⟩
  rcases Nat.lt_or_ge i z.cps.size with y | y
  · refine .inr ⟨y, fun H' => Pv (i + 1) H', fun H' hp' => ⟨z.cps.size - (i + 1), by omega, rfl, by omega, hp'⟩, ?_⟩
    rintro x H' ⟨rfl, c, hc, rfl⟩
    exact hs i c _ hc hp
  · have e : i = z.cps.size := by omega
    subst e
    exact .inl ⟨Nat.le_refl _, hd H hp⟩
end KrT
namespace KrT
open Kr L2 PySem PySem.Spec PyProof.Rows
/-! ### xs += ys -/
def ipE : TIp := rExt2
theorem ip_ext {X : Cx} : PIp X .Add ipE := fun p s t H x y v u Q I a b h => iop_ext p s t H x y v u Q I a b h
theorem r_ipE {l b : Addr} {xs zs : List V} {H : Hp} {Q : VK} (h : H l = some (.lst xs)) (g : H b = some (.lst zs)) (hz : xs.length + zs.length ≤ 100000) (q : Q (.ref l) (upd H l (.lst (xs ++ zs)))) : ipE (.ref l) (.ref b) H Q := ⟨l, b, xs, zs, rfl, rfl, h, g, Nat.le_trans hz (by rw [sizeLine_eq]; decide), q⟩
end KrT

/-! max of a tuple, gcd, x //= j, index of flat things. -/
namespace KrH
open L2 PySem PySem.Spec PyProof.Rows Kr
/-! ### max(t) of a tuple of ints -/
theorem max_intTup {prog : Program} {w : World} {A : Around} {E : Value → Shared → Prop} {s : Shared} {l : Addr} {its : List Value} {ns : List Int} {Q : Value → Shared → Prop} (hh : A.handled = none) (hl : s.heap.IsTuple l its.toArray) (hi : IntsAre its ns) (hne : 0 < ns.length)
    (h : ∀ h' tk M t', (∀ b o, s.heap.get? b = some o → h'.get? b = some o) → M ∈ ns → (∀ a, a ∈ ns → a ≤ M) → Q (.int M t') { s with heap := h', toks := tk }) : wpAny (model prog w) A (call (.builtin "max") [.ref l]) Q E s := by
  obtain ⟨xs, e⟩ := hi.allInts.items
  have hn : numsOf (intItems xs).toList = ns := by rw [← e]; exact hi.numsOf
  rw [nums_intItems] at hn
  subst hn
  rw [e] at hl
  have hsz : 0 < xs.size := by simpa using hne
  obtain ⟨o, ho, hrest⟩ := id hl
  have hlt : l < s.heap.objs.size := Heap.lt_size ho
  refine PySem.call_max_walk (wpAny_pyIter_tuple hl ?_)
  refine ⟨s.heap.objs.size, _, [s.heap.objs.size], _, _, _, _, rfl, Walks.tuple (A := A.in1) hh s.heap.objs.size l (Nat.ne_of_lt hlt) (intItems xs), ⟨⟨_, Heap.get?_push_size _ rfl, rfl, rfl⟩, IsTup.push hl _⟩, fun b hb => ?_, by simpa [intItems] using hsz, CmpOf.ints_gt (numAt xs) (fun _ _ => intItems_at), fun v h' tk hP hk => ?_⟩
  · rw [Heap.size_push]
    simp only [List.mem_cons, List.not_mem_nil, or_false] at hb
    rcases hb with rfl | rfl
    · exact Nat.lt_succ_self _
    · exact Nat.lt_succ_of_lt hlt
  have hP2 : (intItems xs)[argBest (fun i j => decide (numAt xs i > numAt xs j)) (xs.size - 1)]? = some v := by simpa [intItems] using hP
  obtain ⟨t, rfl⟩ := intItems_at hP2
  obtain ⟨h1, h2⟩ := argBest_gt (numAt xs) (xs.size - 1)
  refine h h' tk _ t (fun b o e => hk b o (fun z => by
    rw [List.mem_singleton] at z
    rw [z] at e
    exact absurd (Heap.lt_size e) (Nat.lt_irrefl _)) (Heap.get?_push_of_some _ e)) ?_ fun a ha => ?_
  · rw [numAt_eq]; exact PySem.getD_mem (by rw [List.length_map, Array.length_toList]; omega)
  · obtain ⟨j, hj, rfl⟩ := mem_getD ha
    rw [List.length_map, Array.length_toList] at hj
    rw [← numAt_eq]; exact h2 j (by omega)
def rMaxT (K : PySem.W.Frag) : List V → Hp → VK → Prop := fun vs H Q => ∃ (a : Addr) (ns : List Int), vs = [V.ref a] ∧ SqT K H a (ns.map V.int) ∧ 0 < ns.length ∧ ∀ m, m ∈ ns → (∀ y, y ∈ ns → y ≤ m) → Q (.int m) H
theorem c_maxT {X : Cx} (hc : X.calm = true) : CallR X (.builtin "max") (rMaxT X.K) := by
  intro pins s σ H vs us Q I r h
  obtain ⟨a, ns, rfl, hs, hne, q⟩ := h
  obtain ⟨its, rv, hl, _⟩ := I.tuple hs
  rw [Vals.ref1 r]
  have hh : X.A.in1.handled = none := by
    have := I.ok.hd hc
    simpa using this
  exact max_intTup (I.ok.hd hc) (show s.heap.IsTuple a its.toArray from hl) rv.ints hne fun h' tk m t' hk h1 h2 => ⟨.int _, H, I.kept hk, ⟨_, rfl⟩, q m h1 h2⟩
theorem r_maxT {K : PySem.W.Frag} {H : Hp} {Q : VK} {a : Addr} {ns : List Int} (h : SqT K H a (ns.map V.int)) (h0 : 0 < ns.length) (q : ∀ m, m ∈ ns → (∀ y, y ∈ ns → y ≤ m) → Q (.int m) H) : rMaxT K [.ref a] H Q := ⟨a, ns, rfl, h, h0, q⟩
theorem r_gcd {a b : Int} {H : Hp} {Q : VK} (q : Q (.int ((Nat.gcd a.natAbs b.natAbs : Nat) : Int)) H) : rGcd [.int a, .int b] H Q := ⟨a, b, rfl, q⟩
/-! ### x //= y -/
def ipF : TIp := fun x y H Q => ∃ i j : Int, x = .int i ∧ y = .int j ∧ CDivW i j ∧ Q (.int (i / j)) H
theorem ip_fdiv {X : Cx} : PIp X .FloorDiv ipF := by
  intro pins s0 st0 H x y v u Q I r1 r2 h
  obtain ⟨i, j, rfl, rfl, hm, q⟩ := h
  exact iop_fdivW pins s0 st0 H _ _ v u Q I r1 r2 ⟨i, j, rfl, rfl, hm, q⟩
theorem r_ipF {i j : Int} {H : Hp} {Q : VK} (h : CDivW i j) (q : Q (.int (i / j)) H) : ipF (.int i) (.int j) H Q := ⟨i, j, rfl, rfl, h, q⟩
/-! ### xs.index(k) of ints -/
theorem r_indexI {K : PySem.W.Frag} {H : Hp} {Q : VK} {a : Addr} {ns : List Int} {k : Int} {j : Nat} (h : SqL K H a (ns.map V.int)) (hj : ns[j]? = some k) (no : ∀ m k', m < j → ns[m]? = some k' → k' ≠ k) (q : Q (.int (j : Nat)) H) : rIndex K (.ref a) [.int k] H Q := by
  refine ⟨a, ns.map V.int, .int k, j, .int k, rfl, rfl, h, rfl, ?_, ?_, ?_, fun m z' hm hz => ?_, q⟩
  · rw [List.all_eq_true]
    intro x hx
    obtain ⟨n, _, rfl⟩ := List.mem_map.mp hx
    rfl
  · rw [List.getElem?_map, hj]
    rfl
  · simp [eqV]
  · rw [List.getElem?_map] at hz
    obtain ⟨k', h1, rfl⟩ := Option.map_eq_some_iff.mp hz
    have := no m k' hm h1
    simp [eqV, this]
theorem r_forT {K : PySem.W.Frag} {a : Addr} {xs : List V} {g : TG} {tb : TS} {D : Ends} {st0 : L2.St} {H : Hp} (Pv : Nat → L2.St → Hp → Prop) (h0 : Pv 0 st0 H) (hl : ∀ i st0 H, i ≤ xs.length → Pv i st0 H → SqT K H a xs)
    (hs : ∀ i x st0 H, xs[i]? = some x → Pv i st0 H → g x st0 H fun σ2 H2 => tb { D with nx := Pv (i + 1), ct := Pv (i + 1), bk := D.nx } σ2 H2) (hd : ∀ st0 H, Pv xs.length st0 H → D.nx st0 H) : rFor g tb D st0 (Itt K a) H := for_tup Pv h0 hl hs hd
/-! ### a test that is an if-expression -/
def tIfT (t u v : TT) : TT := fun st0 H Q => t st0 H fun c H1 => if c = true then u st0 H1 Q else v st0 H1 Q
theorem pt_ifExp {X : Cx} {c a b : Expr} {pos : Pos} {tc ta tb : TT} (hc : PT X c tc) (ha : PT X a ta) (hb : PT X b tb) : PT X (.IfExp c a b pos) (tIfT tc ta tb) := by
  refine ⟨fun pins s st0 H Q I h => ?_⟩
  refine isTrue_IfExp (thn (hc.run pins s st0 H _ I h) fun d s1 ⟨H1, I1, q1⟩ => ?_)
  cases d with
  | true => exact ha.run pins s1 st0 H1 Q I1 q1
  | false => exact hb.run pins s1 st0 H1 Q I1 q1
theorem r_ifT {t u v : TT} {st0 : L2.St} {H : Hp} {Q : Bool → Hp → Prop} (q : t st0 H fun c H1 => if c = true then u st0 H1 Q else v st0 H1 Q) : tIfT t u v st0 H Q := q
end KrH

/-! The mathematics of gaps that come again (k84, k85). No Python. -/
namespace Hm
/-- the sum of the first n -/
def S (g : Nat → Nat) : Nat → Nat
  | 0 => 0
  | n + 1 => S g n + g n
theorem S_mono (g : Nat → Nat) (a : Nat) : ∀ n, S g a ≤ S g (a + n)
  | 0 => Nat.le_refl _
  | n + 1 => Nat.le_trans (S_mono g a n) (Nat.le_add_right _ _)
/-- what stands between two counts is the same a turn later -/
theorem S_shift {g : Nat → Nat} {N P : Nat} (per : ∀ k, N ≤ k → g (k + P) = g k) {a : Nat} (ha : N ≤ a) : ∀ n, S g (a + P + n) - S g (a + P) = S g (a + n) - S g a
  | 0 => by simp
  | n + 1 => by
    have ih := S_shift per ha n
    have h1 := S_mono g (a + P) n
    have h2 := S_mono g a n
    have e : g (a + P + n) = g (a + n) := by
      have := per (a + n) (by omega)
      rw [← this]
      congr 1
      omega
    show S g (a + P + n) + g (a + P + n) - S g (a + P) = S g (a + n) + g (a + n) - S g a
    omega
/-- one turn more -/
theorem S_turn {g : Nat → Nat} {N P : Nat} (per : ∀ k, N ≤ k → g (k + P) = g k) (n : Nat) : S g (N + n + P) = S g (N + n) + (S g (N + P) - S g N) := by
  have h := S_shift per (Nat.le_refl N) n
  have h1 := S_mono g (N + P) n
  have h2 := S_mono g N n
  have h3 := S_mono g N P
  rw [show N + n + P = N + P + n by omega]
  omega
/-- many turns -/
theorem S_turns {g : Nat → Nat} {N P : Nat} (per : ∀ k, N ≤ k → g (k + P) = g k) (n : Nat) : ∀ t, S g (N + n + t * P) = S g (N + n) + t * (S g (N + P) - S g N)
  | 0 => by simp
  | t + 1 => by
    have := S_turn per (n + t * P)
    rw [show N + (n + t * P) + P = N + n + (t + 1) * P by rw [Nat.succ_mul]; omega, show N + (n + t * P) = N + n + t * P by omega, S_turns per n t] at this
    rw [this, Nat.succ_mul]
    omega
/-- what Gaps.sum_of reckons -/
theorem sum_of {g : Nat → Nat} {N P : Nat} (per : ∀ k, N ≤ k → g (k + P) = g k) (m : Nat) : S g m = S g (m - (m - N) / P * P) + (m - N) / P * (S g (N + P) - S g N) := by
  rcases Nat.le_total m N with h | h
  · rw [Nat.sub_eq_zero_of_le h, Nat.zero_div]
    simp
  · have le : (m - N) / P * P ≤ m - N := Nat.div_mul_le_self _ _
    have := S_turns per (m - N - (m - N) / P * P) ((m - N) / P)
    generalize (m - N) / P * P = w at this le ⊢
    rw [show N + (m - N - w) + w = m by omega, show N + (m - N - w) = m - w by omega] at this
    exact this
/-- the place at which the count is asked lies within the list -/
theorem sum_at {N P m : Nat} (hP : 0 < P) : m - (m - N) / P * P < N + P := by
  have h1 := Nat.div_add_mod (m - N) P
  have h2 := Nat.mod_lt (m - N) hP
  rw [Nat.mul_comm P] at h1
  generalize (m - N) / P * P = w at h1 ⊢
  omega
/-- a step times its turn is whole cycles -/
theorem gcd_turn {pages step : Nat} : ∃ c, pages / Nat.gcd pages step * step = c * pages := by
  obtain ⟨a, ha⟩ := Nat.gcd_dvd_left pages step
  obtain ⟨b, hb⟩ := Nat.gcd_dvd_right pages step
  rcases Nat.eq_zero_or_pos (Nat.gcd pages step) with z | z
  · exact ⟨0, by rw [z]; simp⟩
  · refine ⟨b, ?_⟩
    generalize Nat.gcd pages step = d at *
    subst ha
    subst hb
    rw [Nat.mul_div_cancel_left _ z, Nat.mul_left_comm, Nat.mul_comm a b, ← Nat.mul_assoc, Nat.mul_comm d b, Nat.mul_assoc]
open Pk
variable {ls : List Int} {sz : Int} {j k : Nat}
/-- the rows between border number n + 1 of a step and the next one, at most so many -/
def gap (ls : List Int) (sz : Int) (step most n : Nat) : Nat := min most (st ls sz ((n + 2) * step) - st ls sz ((n + 1) * step))
/-- behind the first borders the gaps come again -/
theorem gap_per (c : Cyc ls sz j k) (o : Ok ls sz) {step : Nat} (most : Nat) (hs : 0 < step) (n : Nat) (hn : j / step ≤ n) : gap ls sz step most (n + (k - j) / Nat.gcd (k - j) step) = gap ls sz step most n := by
  obtain ⟨m, hm⟩ := gcd_turn (pages := k - j) (step := step)
  generalize (k - j) / Nat.gcd (k - j) step = P at hm ⊢
  have hj : j ≤ (n + 1) * step := by
    have h1 := Nat.div_add_mod j step
    have h2 := Nat.mod_lt j hs
    have h3 : step * (j / step) ≤ step * n := Nat.mul_le_mul_left _ hn
    rw [Nat.succ_mul, Nat.mul_comm n]
    omega
  have hj2 : j ≤ (n + 2) * step := Nat.le_trans hj (Nat.mul_le_mul_right _ (by omega))
  have e1 : (n + P + 1) * step = (n + 1) * step + m * (k - j) := by
    rw [← hm, ← Nat.add_mul]
    congr 1
    omega
  have e2 : (n + P + 2) * step = (n + 2) * step + m * (k - j) := by
    rw [← hm, ← Nat.add_mul]
    congr 1
    omega
  unfold gap
  rw [e1, e2, c.steps o hj, c.steps o hj2, Nat.add_sub_add_right]
section
variable {f pg : Nat → Nat} {step most : Nat}
/-- what Heights.above reckons, over the starts f of pages and the pages pg of rows -/
def abv (f pg : Nat → Nat) (step most m : Nat) : Nat :=
  if m < 2 then 0 else if pg (m - 2) / step = 0 then 0 else S (fun n => min most (f ((n + 2) * step) - f ((n + 1) * step))) (pg (m - 2) / step - 1) + min most (m - 1 - f (pg (m - 2) / step * step))
/-- the height behind M rows is above the level: the last border at or before row M - 1 lies at most so many rows back -/
def Hi (f pg : Nat → Nat) (step most M : Nat) : Prop := pg (M - 1) / step ≠ 0 ∧ M ≤ f (pg (M - 1) / step * step) + most
theorem mono_of {f : Nat → Nat} (h : ∀ a, f a < f (a + 1)) {a b : Nat} (ab : a ≤ b) : f a ≤ f b := by
  obtain ⟨t, rfl⟩ := Nat.exists_eq_add_of_le ab
  induction t with
  | zero => exact Nat.le_refl _
  | succ t ih => exact Nat.le_trans (ih (by omega)) (Nat.le_of_lt (h _))
/-- the page of the next row is the same, or the next one, which then begins -/
theorem pg_next (h : ∀ a, f a < f (a + 1)) (on : ∀ r, f (pg r) ≤ r ∧ r < f (pg r + 1)) (r : Nat) : pg (r + 1) = pg r ∨ (pg (r + 1) = pg r + 1 ∧ f (pg r + 1) = r + 1) := by
  obtain ⟨a1, a2⟩ := on r
  obtain ⟨b1, b2⟩ := on (r + 1)
  have le : pg r ≤ pg (r + 1) := Nat.le_of_not_lt fun z => by
    have := mono_of h (show pg (r + 1) + 1 ≤ pg r by omega)
    omega
  rcases Nat.lt_or_ge (pg r) (pg (r + 1)) with z | z
  · have m1 := mono_of h (show pg r + 1 ≤ pg (r + 1) by omega)
    have e : pg (r + 1) = pg r + 1 := Nat.le_antisymm (Nat.le_of_not_lt fun y => by
      have m2 := mono_of h (show pg r + 1 + 1 ≤ pg (r + 1) by omega)
      have := h (pg r + 1)
      omega) (by omega)
    rw [e] at b1
    exact .inr ⟨e, by omega⟩
  · exact .inl (Nat.le_antisymm z le)
/-- one row more: one more if the height behind m rows is above the level -/
theorem abv_succ (h : ∀ a, f a < f (a + 1)) (f0 : f 0 = 0) (on : ∀ r, f (pg r) ≤ r ∧ r < f (pg r + 1)) {m : Nat} (hm : 1 ≤ m) [Decidable (Hi f pg step most m)] : abv f pg step most (m + 1) = abv f pg step most m + if Hi f pg step most m then 1 else 0 := by
  have p0 : pg 0 = 0 := by
    have a1 := (on 0).1
    rcases Nat.eq_zero_or_pos (pg 0) with z | z
    · exact z
    · have m1 : f 1 ≤ f (pg 0) := mono_of h (show 1 ≤ pg 0 from z)
      have m2 : f 0 < f 1 := h 0
      omega
  obtain ⟨r, rfl⟩ : ∃ r, m = r + 1 := ⟨m - 1, by omega⟩
  have e1 : abv f pg step most (r + 1 + 1) = if pg r / step = 0 then 0 else S (fun n => min most (f ((n + 2) * step) - f ((n + 1) * step))) (pg r / step - 1) + min most (r + 1 - f (pg r / step * step)) := by
    unfold abv
    rw [if_neg (by omega)]
    rfl
  rw [e1]
  clear e1
  have hdef : Hi f pg step most (r + 1) ↔ pg r / step ≠ 0 ∧ r + 1 ≤ f (pg r / step * step) + most := Iff.rfl
  have lo : f (pg r / step * step) ≤ r := Nat.le_trans (mono_of h (Nat.div_mul_le_self _ _)) (on r).1
  rcases Nat.eq_zero_or_pos r with z | z
  · subst z
    have e2 : abv f pg step most (0 + 1) = 0 := rfl
    rw [e2, p0, Nat.zero_div, if_pos rfl, if_neg (fun y => (hdef.mp y).1 (by rw [p0, Nat.zero_div]))]
  obtain ⟨t, rfl⟩ : ∃ t, r = t + 1 := ⟨r - 1, by omega⟩
  have e2 : abv f pg step most (t + 1 + 1) = if pg t / step = 0 then 0 else S (fun n => min most (f ((n + 2) * step) - f ((n + 1) * step))) (pg t / step - 1) + min most (t + 1 - f (pg t / step * step)) := by
    unfold abv
    rw [if_neg (by omega)]
    rfl
  rw [e2]
  clear e2
  have lo2 : f (pg t / step * step) ≤ t := Nat.le_trans (mono_of h (Nat.div_mul_le_self _ _)) (on t).1
  have same : pg (t + 1) / step = pg t / step ∨ (pg (t + 1) / step = pg t / step + 1 ∧ f ((pg t / step + 1) * step) = t + 1) := by
    rcases pg_next h on t with e | ⟨e, ef⟩
    · exact .inl (by rw [e])
    · rw [e, Nat.succ_div]
      by_cases d : step ∣ pg t + 1
      · rw [if_pos d]
        have : (pg t / step + 1) * step = pg t + 1 := by
          have q := Nat.div_mul_cancel d
          rw [Nat.succ_div, if_pos d] at q
          exact q
        exact .inr ⟨rfl, by rw [this, ef]⟩
      · rw [if_neg d]
        exact .inl rfl
  rcases same with e | ⟨e, ef⟩
  · rw [e] at hdef lo ⊢
    generalize pg t / step = q at *
    by_cases q0 : q = 0
    · rw [if_pos q0, if_pos q0, if_neg (fun y => (hdef.mp y).1 q0)]
    · rw [if_neg q0, if_neg q0]
      generalize S _ (q - 1) = w
      by_cases y : Hi f pg step most (t + 1 + 1)
      · rw [if_pos y]
        have := (hdef.mp y).2
        omega
      · rw [if_neg y]
        have : ¬ t + 1 + 1 ≤ f (q * step) + most := fun z => y (hdef.mpr ⟨q0, z⟩)
        omega
  · rw [e] at hdef lo ⊢
    generalize pg t / step = q at *
    rw [if_neg (by omega), Nat.add_sub_cancel, ef]
    rw [ef] at hdef
    have top : (if q = 0 then 0 else S (fun n => min most (f ((n + 2) * step) - f ((n + 1) * step))) (q - 1) + min most (t + 1 - f (q * step))) = S (fun n => min most (f ((n + 2) * step) - f ((n + 1) * step))) q := by
      by_cases q0 : q = 0
      · rw [if_pos q0, q0]
        rfl
      · rw [if_neg q0]
        obtain ⟨u, rfl⟩ : ∃ u, q = u + 1 := ⟨q - 1, by omega⟩
        show _ = S _ u + min most (f ((u + 2) * step) - f ((u + 1) * step))
        rw [show u + 1 + 1 = u + 2 from rfl] at ef
        rw [ef]
        rfl
    rw [top]
    generalize S _ q = w
    by_cases y : Hi f pg step most (t + 1 + 1)
    · rw [if_pos y]
      have := (hdef.mp y).2
      omega
    · rw [if_neg y]
      have : ¬ t + 1 + 1 ≤ t + 1 + most := fun z => y (hdef.mpr ⟨by omega, z⟩)
      omega
instance [∀ a b : Nat, Decidable (a = b)] (M : Nat) : Decidable (Hi f pg step most M) := inferInstanceAs (Decidable (_ ∧ _))
/-- Heights.above counts the numbers of rows below m behind which the height is above the level -/
theorem abv_count (h : ∀ a, f a < f (a + 1)) (f0 : f 0 = 0) (on : ∀ r, f (pg r) ≤ r ∧ r < f (pg r + 1)) : ∀ m, abv f pg step most m = ((List.range m).filter fun M => decide (M ≠ 0 ∧ Hi f pg step most M)).length
  | 0 => rfl
  | 1 => by
    show 0 = (([0] : List Nat).filter fun M => decide (M ≠ 0 ∧ Hi f pg step most M)).length
    rw [List.filter_cons_of_neg (by simp)]
    rfl
  | m + 2 => by
    rw [abv_succ h f0 on (by omega), abv_count h f0 on (m + 1), List.range_succ (n := m + 1), List.filter_append, List.length_append]
    congr 1
    by_cases y : Hi f pg step most (m + 1)
    · rw [if_pos y, List.filter_cons_of_pos (by simp [y])]
      rfl
    · rw [if_neg y, List.filter_cons_of_neg (by simp [y])]
      rfl
/-- the height is above a level when the first and the last live page stand under different nodes of it -/
theorem hi_iff (h : ∀ a, f a < f (a + 1)) (f0 : f 0 = 0) (on : ∀ r, f (pg r) ≤ r ∧ r < f (pg r + 1)) (hs : 0 < step) {keep M : Nat} (hk : 1 ≤ keep) (hM : 1 ≤ M) : Hi f pg step (keep - 1) M ↔ pg (M - keep) / step ≠ pg (M - 1) / step := by
  have mono : pg (M - keep) ≤ pg (M - 1) := Nat.le_of_not_lt fun z => by
    have m1 := mono_of h (show pg (M - 1) + 1 ≤ pg (M - keep) by omega)
    have m2 := (on (M - 1)).2
    have m3 := (on (M - keep)).1
    omega
  have dv : pg (M - keep) / step ≤ pg (M - 1) / step := Nat.div_le_div_right mono
  have lt : pg (M - keep) / step ≠ pg (M - 1) / step ↔ pg (M - keep) < pg (M - 1) / step * step := by
    rw [← Nat.div_lt_iff_lt_mul hs]
    omega
  have pl : ∀ p, pg (M - keep) < p ↔ M - keep < f p := fun p => by
    constructor
    · intro z
      exact Nat.lt_of_lt_of_le (on _).2 (mono_of h z)
    · intro z
      refine Nat.lt_of_not_le fun y => ?_
      have := mono_of h y
      have := (on (M - keep)).1
      omega
  rw [lt, pl]
  unfold Hi
  generalize pg (M - 1) / step = q
  rcases Nat.eq_zero_or_pos q with z | z
  · subst z
    rw [Nat.zero_mul, f0]
    omega
  · have m1 : f 1 ≤ f (q * step) := mono_of h (Nat.mul_pos z hs)
    have m2 : f 0 < f 1 := h 0
    omega
/-- pages that take so many rows at least -/
theorem rows_ge {rows : Nat} (hr : ∀ a, f a + rows ≤ f (a + 1)) (a : Nat) : ∀ t, f a + t * rows ≤ f (a + t)
  | 0 => by simp
  | t + 1 => by
    have := rows_ge hr a t
    have := hr (a + t)
    rw [Nat.succ_mul]
    show _ ≤ f (a + t + 1)
    omega
theorem S_const {g : Nat → Nat} {c : Nat} (h : ∀ n, g n = c) : ∀ n, S g n = n * c
  | 0 => by simp [S]
  | n + 1 => by
    show S g n + g n = _
    rw [S_const h n, h, Nat.succ_mul]
/-- borders that lie so far apart count in full -/
theorem gap_wide {rows : Nat} (hr : ∀ a, f a + rows ≤ f (a + 1)) (hw : most ≤ step * rows) (n : Nat) : min most (f ((n + 2) * step) - f ((n + 1) * step)) = most := by
  have := rows_ge hr ((n + 1) * step) step
  rw [show (n + 1) * step + step = (n + 2) * step by rw [← Nat.succ_mul]] at this
  omega
/-- on a level on which the last border counts in full, too, each border counts in full -/
theorem abv_full {rows : Nat} (hr : ∀ a, f a + rows ≤ f (a + 1)) (h1 : 1 ≤ rows) (on : ∀ r, f (pg r) ≤ r ∧ r < f (pg r + 1)) (hw : most ≤ step * rows) {m : Nat} (hm : 2 ≤ m) (hp : most ≤ pg (m - 2) % step) : abv f pg step most m = pg (m - 2) / step * most := by
  unfold abv
  rw [if_neg (by omega)]
  have a1 := (on (m - 2)).1
  have a2 := rows_ge hr (pg (m - 2) / step * step) (pg (m - 2) % step)
  have a3 : pg (m - 2) / step * step + pg (m - 2) % step = pg (m - 2) := by
    rw [Nat.mul_comm]
    exact Nat.div_add_mod _ _
  rw [a3] at a2
  have a4 : pg (m - 2) % step * 1 ≤ pg (m - 2) % step * rows := Nat.mul_le_mul_left _ h1
  generalize pg (m - 2) / step = q at *
  by_cases q0 : q = 0
  · rw [if_pos q0, q0, Nat.zero_mul]
  · rw [if_neg q0, S_const (gap_wide hr hw)]
    obtain ⟨u, rfl⟩ : ∃ u, q = u + 1 := ⟨q - 1, by omega⟩
    rw [Nat.add_sub_cancel, show (u + 1) * most = u * most + most from Nat.succ_mul u most]
    omega
/-- once it holds on a level it holds on the next -/
theorem full_up {fan : Nat} (hp : most ≤ n % step) : most ≤ n % (step * fan) := by
  refine Nat.le_trans hp ?_
  rw [← Nat.mod_mul_right_mod n step fan]
  exact Nat.mod_le _ _
end
/-- a level is not above the root's level when the two ends stand under different nodes of the level below it -/
theorem level_iff {f A B L : Nat} (h : A / f ^ (L + 1) = B / f ^ (L + 1) ∧ ∀ l, l < L → A / f ^ (l + 1) ≠ B / f ^ (l + 1)) {l : Nat} (hl : 1 ≤ l) : l ≤ L ↔ A / f ^ l ≠ B / f ^ l := by
  constructor
  · intro z
    have := h.2 (l - 1) (by omega)
    rw [show l - 1 + 1 = l by omega] at this
    exact this
  · intro z
    refine Nat.le_of_not_lt fun y => z ?_
    obtain ⟨t, rfl⟩ := Nat.exists_eq_add_of_le (show L + 1 ≤ l from y)
    rw [Nat.pow_add, ← Nat.div_div_eq_div_mul, ← Nat.div_div_eq_div_mul, h.1]
theorem S_add (g h : Nat → Nat) : ∀ n, S (fun k => g k + h k) n = S g n + S h n
  | 0 => rfl
  | n + 1 => by
    show S _ n + (g n + h n) = S g n + g n + (S h n + h n)
    rw [S_add g h n]
    omega
theorem S_congr {g h : Nat → Nat} (e : ∀ k, g k = h k) (n : Nat) : S g n = S h n := by rw [show g = h from funext e]
/-- as many levels lie below a number as it says -/
theorem S_below (c : Nat) : ∀ T, S (fun l => if l < c then 1 else 0) T = min c T
  | 0 => by simp [S]
  | T + 1 => by
    show S _ T + (if T < c then 1 else 0) = _
    rw [S_below c T]
    by_cases z : T < c
    · rw [if_pos z]
      omega
    · rw [if_neg z]
      omega
/-- the sum of heights is the sum over the levels of how many heights are above them -/
theorem sum_levels {hgt : Nat → Nat} {T : Nat} (hT : ∀ M, hgt M ≤ T) : ∀ m, S hgt m = S (fun l => ((List.range m).filter fun M => decide (l < hgt M)).length) T
  | 0 => by
    show 0 = S (fun _ => 0) T
    rw [S_const (c := 0) (fun _ => rfl), Nat.mul_zero]
  | m + 1 => by
    have e : ∀ l, ((List.range (m + 1)).filter fun M => decide (l < hgt M)).length = ((List.range m).filter fun M => decide (l < hgt M)).length + if l < hgt m then 1 else 0 := fun l => by
      rw [List.range_succ, List.filter_append, List.length_append]
      congr 1
      by_cases z : l < hgt m
      · rw [if_pos z, List.filter_cons_of_pos (by simpa using z)]
        rfl
      · rw [if_neg z, List.filter_cons_of_neg (by simpa using z)]
        rfl
    show S hgt m + hgt m = _
    rw [S_congr e, S_add, S_below, ← sum_levels hT m, Nat.min_eq_left (hT m)]
/-- a border between two pages -/
theorem mult_in {step low high : Nat} (hs : 0 < step) : (∃ q, low ≤ q * step ∧ q * step ≤ high) ↔ low ≤ high / step * step := by
  constructor
  · rintro ⟨q, h1, h2⟩
    exact Nat.le_trans h1 (Nat.mul_le_mul_right _ ((Nat.le_div_iff_mul_le hs).mpr h2))
  · intro h
    exact ⟨high / step, h, Nat.div_mul_le_self _ _⟩
/-- a border of a level is one of the level below -/
theorem mult_down {f k low high : Nat} (hf : 0 < f) (h : low ≤ high / f ^ (k + 1) * f ^ (k + 1)) : low ≤ high / f ^ k * f ^ k := by
  obtain ⟨q, h1, h2⟩ := (mult_in (Nat.pow_pos hf)).mpr h
  refine (mult_in (Nat.pow_pos hf)).mp ⟨q * f, ?_, ?_⟩ <;> rw [Nat.mul_assoc, Nat.mul_comm f, ← Nat.pow_succ]
  · exact h1
  · exact h2
/-- the first border from a page on -/
theorem ceil_least {step low : Nat} (hs : 0 < step) : low ≤ (low + step - 1) / step * step ∧ ∀ q, low ≤ q * step → (low + step - 1) / step * step ≤ q * step := by
  have h1 := Nat.div_add_mod (low + step - 1) step
  have h2 := Nat.mod_lt (low + step - 1) hs
  rw [Nat.mul_comm] at h1
  constructor
  · generalize (low + step - 1) / step * step = w at h1 ⊢
    omega
  · intro q hq
    refine Nat.mul_le_mul_right _ (Nat.le_of_lt_succ ((Nat.div_lt_iff_lt_mul hs).mpr ?_))
    rw [Nat.succ_mul]
    omega
section
variable {f pg : Nat → Nat} {step most : Nat}
theorem pg_mono (h : ∀ a, f a < f (a + 1)) (on : ∀ r, f (pg r) ≤ r ∧ r < f (pg r + 1)) {r s : Nat} (rs : r ≤ s) : pg r ≤ pg s := Nat.le_of_not_lt fun z => by
  have m1 := mono_of h (show pg s + 1 ≤ pg r by omega)
  have m2 := (on s).2
  have m3 := (on r).1
  omega
theorem pg_start (h : ∀ a, f a < f (a + 1)) (on : ∀ r, f (pg r) ≤ r ∧ r < f (pg r + 1)) (p : Nat) : pg (f p) = p := by
  obtain ⟨a1, a2⟩ := on (f p)
  refine Nat.le_antisymm (Nat.le_of_not_lt fun z => ?_) (Nat.le_of_not_lt fun z => ?_)
  · have := mono_of h (show p + 1 ≤ pg (f p) from z)
    have := h p
    omega
  · have := mono_of h (show pg (f p) + 1 ≤ p from z)
    omega
/-- up to the row with which the next border begins, no height is above the level if the first one is not -/
theorem hi_none (h : ∀ a, f a < f (a + 1)) (on : ∀ r, f (pg r) ≤ r ∧ r < f (pg r + 1)) (hs : 0 < step) {m p M : Nat} (hm : 1 ≤ m) (least : ∀ q, pg (m - 1) + 1 ≤ q * step → p ≤ q * step) (no : ¬ Hi f pg step most m) (h1 : m ≤ M) (h2 : M ≤ f p) : ¬ Hi f pg step most M := by
  intro y
  apply no
  have lt : pg (M - 1) < p := Nat.lt_of_not_le fun z => by
    have m1 := mono_of h z
    have m2 := (on (M - 1)).1
    omega
  have qle : pg (M - 1) / step * step ≤ pg (m - 1) := Nat.le_of_not_lt fun z => by
    have := least _ z
    have := Nat.div_mul_le_self (pg (M - 1)) step
    omega
  have e : pg (m - 1) / step = pg (M - 1) / step := Nat.le_antisymm (Nat.div_le_div_right (pg_mono h on (by omega))) ((Nat.le_div_iff_mul_le hs).mpr qle)
  unfold Hi at y ⊢
  rw [e]
  exact ⟨y.1, by omega⟩
/-- behind the first row of a border it is -/
theorem hi_at (h : ∀ a, f a < f (a + 1)) (on : ∀ r, f (pg r) ≤ r ∧ r < f (pg r + 1)) (hs : 0 < step) {q : Nat} (hq : 1 ≤ q) (h1 : 1 ≤ most) : Hi f pg step most (f (q * step) + 1) := by
  unfold Hi
  rw [Nat.add_sub_cancel, pg_start h on, Nat.mul_div_cancel _ hs]
  omega
end
theorem pre_up {mx : Int} (hm : ∀ r, lenAt ls r ≤ mx) (r : Nat) : ∀ n : Nat, pre ls r n ≤ n * mx
  | 0 => by
    show (0 : Int) ≤ _
    simp
  | n + 1 => by
    have := pre_up hm r n
    have := hm (r + n)
    show pre ls r n + lenAt ls (r + n) ≤ _
    rw [Int.natCast_add, Int.add_mul]
    omega
/-- each page takes so many rows at least -/
theorem st_rows (o : Ok ls sz) {mx : Int} (h1 : 1 ≤ mx) (hm : ∀ r, lenAt ls r ≤ mx) (a : Nat) : st ls sz a + (sz / mx).toNat ≤ st ls sz (a + 1) := by
  have f := (cnt_fill o (st ls sz a)).2
  have g := pre_up hm (st ls sz a) (cnt ls sz (st ls sz a) + 1)
  have : sz / mx < ((cnt ls sz (st ls sz a) + 1 : Nat) : Int) := (Int.ediv_lt_iff_lt_mul (by omega)).mpr (by omega)
  rw [st_succ]
  omega
end Hm

/-! set(a list of ints) with its order kept, sorted(a set of ints), both of any size. -/
namespace KrS
open Kr L2 PySem PySem.Spec PyProof.Rows
abbrev eSet (w : World) : Obj := { cls := .type "set", dict := none, data := .set #[] 0 (.fresh 0 0 (!w.params.followText "set-order")) }
section
variable {P : Program} {w : World} {A : Around} {E : Value → Shared → Prop} {s : Shared}
/-- set.__init__ of a new set from a list of ints -/
theorem set_fill {l : Addr} {xs : Array Value} {ns : List Int} {R : Result → Shared → Prop} (hh : A.handled = none) (hl : s.heap.IsList l xs) (hi : IntsAre xs.toList ns) (hb : ns.length + 1 < scanBound)
    (q : ∀ (h2 : Heap) (tk c : Nat), SetR w h2 s.heap.objs.size (fun j => decide (j ∈ ns)) c → c ≤ ns.length → (∀ b o, s.heap.get? b = some o → h2.get? b = some o) → R (.ok (.ret .none)) { s with heap := h2, toks := tk }) :
    codeAny (model P w) A (.call (.builtin "set.__init__") ⟨[.ref s.heap.objs.size, .ref l], []⟩) R { s with heap := s.heap.push (eSet w) } := by
  have n1 : xs.size = ns.length := by rw [← Array.length_toList]; exact IntsAre.length hi
  have gS : (s.heap.push (eSet w)).get? s.heap.objs.size = some (eSet w) := Heap.get?_push_size _ rfl
  have tS : Shared.TypeIs { s with heap := s.heap.push (eSet w) } (.ref s.heap.objs.size) "set" := ⟨_, gS, rfl⟩
  refine codeAny_mono (codeAny_call_builtin (R := R) F.called_set.init.plain F.entry_set_init (check_set_init_1 tS ?_)) fun _ _ z => z
  obtain ⟨ol, hol, hcl, nl, hdl⟩ := hl
  obtain ⟨c1, c2, c3, c4⟩ := ol
  simp only at hcl hdl
  subst hcl hdl
  have hl1 : (s.heap.push (eSet w)).IsList l xs := ⟨_, Heap.get?_push_of_some _ hol, rfl, nl, rfl⟩
  have k1 := F.sub_list_set
  have k2 := F.sub_list_frozenset
  have k3 : (Value.type "list" == Value.type "dict") = false := by decide
  unfold Builtin.«set.__init__» noKeywords
  unfold Builtin.Frozenset.updateFrom
  generalize hI : pyIter = walkIt
  wp_walk
  subst hI
  refine wpAny_pyIter_list hl1 (wpAny_bind (wpAny_runValue ?_))
  have sl : l < s.heap.objs.size := Heap.lt_size hol
  have sz : (s.heap.push (eSet w)).objs.size = s.heap.objs.size + 1 := Heap.size_push ..
  have a1 : l ≠ (s.heap.push (eSet w)).objs.size := by
    rw [sz]
    exact fun z => Nat.lt_irrefl _ (Nat.lt_trans (z ▸ sl) (Nat.lt_succ_self _))
  have a2 : s.heap.objs.size ∉ [(s.heap.push (eSet w)).objs.size, l] := by
    rw [sz, List.mem_cons, List.mem_singleton]
    rintro (z | z)
    · exact Nat.lt_irrefl _ (Nat.lt_of_lt_of_eq (Nat.lt_succ_self _) z.symm)
    · exact Nat.lt_irrefl _ (z ▸ sl)
  have vals : ∀ (i : Nat) (v : Value), xs[i]? = some v → ∃ k t, ns[i]? = some k ∧ v = .int k t := by
    intro i v hv
    have lt : i < ns.length := by
      rw [← n1]
      exact (Array.getElem?_eq_some_iff.mp hv).1
    obtain ⟨t, e⟩ := IntsAre.int_at hi i v (by rw [Array.getElem?_toList]; exact hv)
    rw [List.getD_eq_getElem?_getD, List.getElem?_eq_getElem lt] at e
    exact ⟨ns[i], t, List.getElem?_eq_getElem lt, e⟩
  have h3 : A.in1.in1.handled = none := by simp [hh]
  refine set_update_ints (P := P) (w := w) ((Walks.list h3 _ l a1 xs).toS) s.heap.objs.size a2 ns n1 hb vals xs.size 0 _ rfl (Nat.zero_le _) ⟨⟨_, Heap.get?_push_size _ rfl, rfl, rfl⟩, hl1.push _⟩ ⟨0, Nat.le_refl 0, setR_new_at (Heap.get?_push_of_some _ gS)⟩ fun s2 c mv hc hS => ?_
  have g1 : s2.gens = s.gens := mv.gens
  have g2 : s2.drawn = s.drawn := mv.drawn
  have g3 : s2.os = s.os := mv.os
  have all : ∀ b o, s.heap.get? b = some o → s2.heap.get? b = some o := by
    intro b o e
    have lt : b < s.heap.objs.size := Heap.lt_size e
    refine mv.heap b o ?_ (Heap.get?_push_of_some _ (Heap.get?_push_of_some _ e))
    rw [List.mem_cons, List.mem_singleton]
    rintro (z | z)
    · exact Nat.lt_irrefl _ (z ▸ lt)
    · have z2 : b = s.heap.objs.size + 1 := z.trans sz
      exact Nat.lt_irrefl _ (Nat.lt_trans (z2 ▸ lt) (Nat.lt_succ_self _))
  have fin := q s2.heap s2.toks c hS (by rw [← n1]; exact hc) all
  rw [← g1, ← g2, ← g3] at fin
  refine wpAny_pure ?_
  exact wpAny_pure fin
/-- set(l) of a list of ints: who is in it, and the order it was filled in -/
theorem set_ints {l : Addr} {xs : Array Value} {ns : List Int} {Q : Value → Shared → Prop} (hh : A.handled = none) (hl : s.heap.IsList l xs) (hi : IntsAre xs.toList ns) (hb : ns.length + 1 < scanBound)
    (q : ∀ (h2 : Heap) (tk c : Nat), SetR w h2 s.heap.objs.size (fun j => decide (j ∈ ns)) c → c ≤ ns.length → (∀ b o, s.heap.get? b = some o → h2.get? b = some o) → Q (.ref s.heap.objs.size) { s with heap := h2, toks := tk }) :
    wpAny (model P w) A (call (.type "set") [.ref l]) Q E s := by
  obtain ⟨c0, tl0, mro⟩ := F.called_set.mro
  have f1 := F.called_set.made
  have f2 := F.called_set.sub
  have f3 := F.called_set.notType
  have f4 := F.called_set.canCreate
  have f5 := F.typeCall_set_1 (.ref l)
  have f6 := F.called_set.init.lookup
  refine wpAny_call (codeAny_of_tree (show wpAny _ _ (callAny (.type "set") _) _ _ _ from wpAny_pure ⟨Code.quiet_builtin _ (by decide +kernel), codeAny_builtin F.entry_type_call ?_⟩))
  rw [Around.under_plain (weight_type_call_type "set" [.ref l] []) (Eq.refl _)]
  repeat (any_goals (first | assumption | wp_step))
  refine codeAny_mono (code_set_led1 (.ref l) (E := E) (Q₁ := fun v s1 => v = .ref s.heap.objs.size ∧ s1 = { s with heap := s.heap.push (eSet w) }) ⟨rfl, rfl⟩) fun r s1 z => ?_
  rcases r with er | fl
  · exact z
  rcases fl with _ | _ | _ | v
  · exact z.elim
  · exact z.elim
  · exact z.elim
  obtain ⟨rfl, rfl⟩ := z
  have gS : (s.heap.push (eSet w)).get? s.heap.objs.size = some (eSet w) := Heap.get?_push_size _ rfl
  have tS : Shared.TypeIs { s with heap := s.heap.push (eSet w) } (.ref s.heap.objs.size) "set" := ⟨_, gS, rfl⟩
  have bd := F.called_set.init.bind (.ref s.heap.objs.size)
  repeat (any_goals (first | assumption | wp_step))
  refine set_fill (by simp [hh]) hl hi hb fun h2 tk c hS hc all => ?_
  repeat (any_goals (first | assumption | wp_step))
  exact q _ _ _ hS hc all
/-- sorted(a set of ints), of any size -/
theorem sorted_ints {a : Addr} {S : Int → Bool} {n : Nat} {Q : Value → Shared → Prop} (R : SetR w s.heap a S n) (hh : A.handled = none)
    (q : ∀ s2 p (out : Array Value) (c : Nat) (ns : List Int), (∀ b o, s.heap.get? b = some o → s2.heap.get? b = some o) → s2.gens = s.gens → s2.os = s.os → s.heap.objs.size ≤ p → s2.heap.get? p = some (seqObj "list" out c) →
      IntsAre out.toList ns → ns.Pairwise (· < ·) → (∀ k, k ∈ ns ↔ S k = true) → ns.length = n → Q (.ref p) s2) : wpAny (model P w) A (call (.builtin "sorted") [.ref a]) Q E s := by
  obtain ⟨o, es, ep, t, ho, ex, hd, good, nodup, mem, small, fits, cnt, ris, led⟩ := R
  refine Calls.call_function_entry kind_sorted plain_sorted entry_sorted (args_sorted1 _) (show wpAny _ _ (Builtin.«sorted» _) _ _ _ from ?_)
  unfold Builtin.«sorted»
  refine wpAny_bind (m := checkCount "sorted" 1 1 _) (wpAny_pure (wpAny_bind (collect_set (A := A.in1) hh ⟨o, ho, ex.1, hd⟩ fits small ris led fun s1 vs k1 hz g1 o1 pm => ?_)))
  have len : vs.length = n := by
    rw [← cnt, pm.length_eq]
    simp
  have inI : IntsAre vs (vs.map Builtin.Re.reRawOf) := by
    refine ints_of vs fun v hv => ?_
    obtain ⟨e, he, rfl⟩ := List.mem_map.mp (pm.mem_iff.mp hv)
    obtain ⟨k, tk, h1, _⟩ := good e he
    exact ⟨k, tk, h1⟩
  have keys : (vs.map Builtin.Re.reRawOf).Perm (es.toList.map keyOf) := by
    have p2 := pm.map Builtin.Re.reRawOf
    rwa [List.map_map] at p2
  have fitL : vs.length ≤ sizeLine := by
    rw [len, ← cnt]
    exact fits_of_scanBound small
  refine wpAny_bind (wpAny_newList ?_ fitL)
  have gL : (s1.heap.push (seqObj "list" vs.toArray 0)).get? s1.heap.objs.size = some (seqObj "list" vs.toArray 0) := Heap.get?_push_size _ rfl
  refine wpAny_bind (wpAny_holding (wpAny_call_entry slot_list_sort ⟨_, gL, rfl⟩ entry_list_sort (SrtO.list_sort_ord SrtO.swo_int gL fitL (fun h2 => SrtO.ints_sortable inI h2) fun out o2 o3 => ⟨_, rfl, ?_⟩) (args_list_sort _)))
  obtain ⟨r1, r2, r3⟩ := SrtO.ints_out inI o2 o3
  obtain ⟨c, gc⟩ := sortedHeap_at (vs := vs) (out := out.toArray) gL
  have pn := r2.trans keys
  have nd := pn.nodup_iff.mpr nodup
  refine wpAny_pure ⟨_, rfl, q _ s1.heap.objs.size out.toArray c (out.map SrtO.iv) (fun b u e => ?_) g1 o1 hz gc r1 (lt_of_le_nodup _ r3 nd) (fun k => by rw [pn.mem_iff, ← mem k]) ?_⟩
  · have e2 := k1 b u e
    have lt := Heap.lt_size e2
    have old := sortedHeap_old (vs := vs) (out := out.toArray) (h := s1.heap.push (seqObj "list" vs.toArray 0)) (a := s1.heap.objs.size) (b := b)
    exact (old (Nat.ne_of_lt lt) (by rw [size_push']; exact Nat.lt_succ_of_lt lt)).trans (Heap.get?_push_of_some _ e2)
  · rw [pn.length_eq, List.length_map, Array.length_toList]
    exact cnt
end
section
variable {X : Cx}
def rSetL (K : PySem.W.Frag) (w : World) : List V → Hp → VK → Prop := fun xs H Q => ∃ (l : Addr) (ns : List Int), xs = [V.ref l] ∧ SqL K H l (ns.map V.int) ∧ ns.length ≤ 4000 ∧ ∀ (p : Addr) (c : Nat), H p = none → Q (.ref p) (upd H p (SetO w p (fun j => decide (j ∈ ns)) c))
theorem cr_setL (hc : X.calm = true) : CallR X (.type "set") (rSetL X.K X.w) := by
  intro pins s σ H vs us Q I r h
  obtain ⟨l, ns, rfl, hs, hn, q⟩ := h
  obtain ⟨its, rv, pl, pz⟩ := I.list hs
  rw [Vals.ref1 r]
  have inI := rv.ints
  refine set_ints (I.ok.hd hc) pl.isList (ns := ns) (by simpa using inI) (by unfold scanBound; omega) fun h2 tk c R _ all => ?_
  exact ⟨.ref _, upd H s.heap.objs.size (SetO X.w s.heap.objs.size (fun j => decide (j ∈ ns)) c), I.laid (t' := tk) all (Nat.le_refl _) (setO_new R), rfl, q _ c (I.hok.fresh (Nat.le_refl _))⟩
def rSrtS (w : World) : List V → Hp → VK → Prop := fun vs H Q => ∃ (a : Addr) (S : Int → Bool) (n : Nat), vs = [V.ref a] ∧ H a = some (SetO w a S n) ∧ ∀ (ns : List Int) (p : Addr), ns.Pairwise (· < ·) → (∀ k : Int, k ∈ ns ↔ S k = true) → H p = none → Q (.ref p) (upd H p (.lst (ns.map V.int)))
theorem cr_srtS (hc : X.calm = true) : CallR X (.builtin "sorted") (rSrtS X.w) := by
  intro pins s σ H vs us Q I r h
  obtain ⟨a, S, n, rfl, ha, q⟩ := h
  have R := setO_get I ha
  have small : n ≤ sizeLine := by
    obtain ⟨o, es, ep, t, -, -, -, -, -, -, sm, -, cnt, -, -⟩ := id R
    rw [← cnt]
    exact fits_of_scanBound sm
  rw [Vals.ref1 r]
  refine sorted_ints R (I.ok.hd hc) fun s2 p out c ns k g o hp hg hi hs hm hl => ?_
  have fresh : H p = none := I.hok.fresh hp
  have e : s2 = { s with heap := s2.heap, gens := s2.gens, drawn := s2.drawn, toks := s2.toks } := by
    cases s2
    cases s
    cases o
    rfl
  rw [e]
  refine ⟨.ref p, _, I.call (ch := []) (Un.laid k hp fresh) (I.hok.laid k hp ?_) (by rw [g]; exact I.bare) (fun _ z => nomatch z), rfl, q ns p hs hm fresh⟩
  exact ⟨by rw [List.length_map, hl]; exact small, out.toList, c, vals_of_ints hi, hg⟩
end
/-! ### xs[::n], told by whose things they are -/
theorem vals_pick {xs : List V} {its : List Value} (r : Vals xs its) : ∀ idx : List Nat, Vals (idx.filterMap (xs[·]?)) (idx.filterMap (its[·]?))
  | [] => .nil
  | i :: t => by
    have ih := vals_pick r t
    rcases hx : xs[i]? with _ | x
    · have hi : its[i]? = none := by
        rw [List.getElem?_eq_none_iff] at hx ⊢
        rw [← r.length]
        exact hx
      rw [List.filterMap_cons_none hx, List.filterMap_cons_none hi]
      exact ih
    · obtain ⟨u, hu, ru⟩ := r.get hx
      rw [List.filterMap_cons_some hx, List.filterMap_cons_some hu]
      exact .cons ru ih
def tStep (K : PySem.W.Frag) (te ts : TE) : TE := fun σ H Q => te σ H fun x H1 => tPart ts σ H1 fun k H2 => ∃ (a : Addr) (xs : List V) (n : Int), x = .ref a ∧ k = some n ∧ SqL K H2 a xs ∧ 1 ≤ n ∧ ∀ (ys : List V) (p : Addr), (∀ y ∈ ys, y ∈ xs) → ys.length ≤ xs.length → H2 p = none → Q (.ref p) (upd H2 p (.lst ys))
theorem r_step {K : PySem.W.Frag} {te ts : TE} {σ : L2.St} {H : Hp} {Q : VK} (q : te σ H fun x H1 => tPart ts σ H1 fun k H2 => ∃ (a : Addr) (xs : List V) (n : Int), x = .ref a ∧ k = some n ∧ SqL K H2 a xs ∧ 1 ≤ n ∧ ∀ (ys : List V) (p : Addr), (∀ y ∈ ys, y ∈ xs) → ys.length ≤ xs.length → H2 p = none → Q (.ref p) (upd H2 p (.lst ys))) : tStep K te ts σ H Q := q
theorem pe_step {X : Cx} {e st : Expr} {te ts : TE} {p3 pos : Pos} (he : PE X e te) (hs : PE X st ts) (tl : ∀ x y : Value, subscripted (.Slice none none (some st) p3) false x y = operate [x, y] (getItem x y) := by intro _ _; with_unfolding_all rfl) : PE X (.Subscript e (.Slice none none (some st) p3) pos) (tStep X.K te ts) := by
  refine ⟨fun pins s σ H Q I h => Subscript_ (thn (he.run pins s σ H _ I h) fun v s1 ⟨x, H1, I1, r1, q1⟩ => ?_)⟩
  refine wpAny_Slice (thn (po_none.run pins s1 σ H1 (fun o H2 => o = none ∧ H2 = H1) I1 ⟨rfl, rfl⟩) fun vl s2 z => ?_)
  obtain ⟨l, H2, I2, pl, rfl, rfl⟩ := z
  refine thn (po_none.run pins s2 σ H2 (fun o H3 => o = none ∧ H3 = H2) I2 ⟨rfl, rfl⟩) fun vu s3 z => ?_
  obtain ⟨u, H3, I3, pu, rfl, rfl⟩ := z
  refine thn ((po_some hs).run pins s3 σ H3 _ I3 q1) fun vs s4 z => ?_
  obtain ⟨o, H4, I4, ps, a, xs, n, rfl, rfl, hx, n1, q⟩ := z
  cases r1
  have I5 : Inv X pins σ H4 { s4 with heap := s4.heap.push { cls := .type "slice", data := .fields #[vl, vu, vs] } } := I4.kept (t' := s4.toks) fun b ob g => Heap.get?_push_of_some _ g
  obtain ⟨its, r, ht, hz⟩ := I5.list hx
  have len := r.length
  have big : (slicePick its.toArray none none (some n)).size ≤ its.length := slicePick_size_le its.toArray none none (some n)
  have got : (slicePick its.toArray none none (some n)).toList = (sliceRange (sliceBounds none none (some n) its.toArray.size).1 (sliceBounds none none (some n) its.toArray.size).2.1 (sliceBounds none none (some n) its.toArray.size).2.2).filterMap (its[·]?) := by
    unfold slicePick
    simp
  obtain ⟨idx, hidx⟩ : ∃ idx, idx = sliceRange (sliceBounds none none (some n) its.toArray.size).1 (sliceBounds none none (some n) its.toArray.size).2.1 (sliceBounds none none (some n) its.toArray.size).2.2 := ⟨_, rfl⟩
  rw [← hidx] at got
  have rr := vals_pick r idx
  rw [← got] at rr
  have ll : (idx.filterMap (xs[·]?)).length = (slicePick its.toArray none none (some n)).size := by
    rw [rr.length]
    exact Array.length_toList
  have mem : ∀ y ∈ idx.filterMap (xs[·]?), y ∈ xs := by
    intro y hy
    obtain ⟨i, -, hi⟩ := List.mem_filterMap.mp hy
    exact List.mem_of_getElem? hi
  have made : slicePick its.toArray none none (some n) = (idx.filterMap (its[·]?)).toArray := by
    rw [← got, Array.toArray_toList]
  have fitY : (idx.filterMap (xs[·]?)).length ≤ xs.length := by omega
  refine tail_any (ops := [.ref a, .ref s4.heap.objs.size]) ht.isList.typeIs (PySem.slot_list_getitem.lookup) ?_ (tl _ _)
  refine wpAny_getItem_list_slice ht.isList (Heap.IsSliceOf.new _ vl vu vs) pl pu ps (fun z => ?_) ?_ (by rw [List.size_toArray]; omega)
  · cases z
    omega
  rw [made]
  have fresh := I5.hok.fresh (Nat.le_refl _)
  refine ⟨.ref _, _, I5.laid (t' := s4.toks) (o := .lst (idx.filterMap (xs[·]?))) (fun b ob g => Heap.get?_push_of_some _ g) (Nat.le_refl _) ?_, rfl, q _ _ mem fitY fresh⟩
  rw [got] at rr
  exact ⟨Nat.le_trans fitY hz, _, 0, rr, Heap.get?_push_size _ rfl⟩
/-! ### the readings, by name -/
theorem r_setL {K : PySem.W.Frag} {w : World} {l : Addr} {ns : List Int} {H : Hp} {Q : VK} (h : SqL K H l (ns.map V.int)) (hz : ns.length ≤ 4000) (q : ∀ (p : Addr) (c : Nat) (H' : Hp), H p = none → Same H H' → H' p = some (SetO w p (fun j => decide (j ∈ ns)) c) → Q (.ref p) H') : rSetL K w [.ref l] H Q :=
  ⟨l, ns, rfl, h, hz, fun p c hp => q p c _ hp (same_new hp) upd_same⟩
theorem r_srtS {w : World} {a : Addr} {S : Int → Bool} {n : Nat} {H : Hp} {Q : VK} (h : H a = some (SetO w a S n)) (q : ∀ (ns : List Int) (p : Addr) (H' : Hp), ns.Pairwise (· < ·) → (∀ k : Int, k ∈ ns ↔ S k = true) → H p = none → Same H H' → H' p = some (.lst (ns.map V.int)) → Q (.ref p) H') : rSrtS w [.ref a] H Q :=
  ⟨a, S, n, rfl, h, fun ns p h1 h2 hp => q ns p _ h1 h2 hp (same_new hp) upd_same⟩
theorem lt_ext : ∀ {a b : List Int}, a.Pairwise (· < ·) → b.Pairwise (· < ·) → (∀ k, k ∈ a ↔ k ∈ b) → a = b
  | [], [], _, _, _ => rfl
  | [], y :: b, _, _, h => absurd ((h y).mpr List.mem_cons_self) (by simp)
  | x :: a, [], _, _, h => absurd ((h x).mp List.mem_cons_self) (by simp)
  | x :: a, y :: b, ha, hb, h => by
    obtain ⟨a1, a2⟩ := List.pairwise_cons.mp ha
    obtain ⟨b1, b2⟩ := List.pairwise_cons.mp hb
    have e : x = y := by
      rcases List.mem_cons.mp ((h x).mp List.mem_cons_self) with e | e
      · exact e
      · rcases List.mem_cons.mp ((h y).mpr List.mem_cons_self) with g | g
        · exact g.symm
        · have := a1 y g
          have := b1 x e
          omega
    subst e
    rw [lt_ext a2 b2 fun k => ?_]
    constructor
    · intro hk
      rcases List.mem_cons.mp ((h k).mp (List.mem_cons_of_mem _ hk)) with e | e
      · have := a1 k hk
        omega
      · exact e
    · intro hk
      rcases List.mem_cons.mp ((h k).mpr (List.mem_cons_of_mem _ hk)) with e | e
      · have := b1 k hk
        omega
      · exact e
end KrS

namespace Kw
open Kr L2 PySem PySem.Spec PyProof.Rows
def top (i : Nat) : Stmt := PySem.Challenge.pw_keeprows_k85_whole_heights_far_away.main.body.getD i (.Pass ⟨0, 0, 0, 0⟩)
abbrev s_is_from : Stmt := top 8
abbrev N_is_from : List Str := ["number", "least"]
theorem st_is_from (v0 v1 : V) : L2.start N_is_from [v0, v1] = [some v0, some v1] := rfl
theorem sc_is_from : FnScope N_is_from ["number", "least"] (defScope s_is_from) := ⟨rfl, rfl, rfl, by decide +kernel, rfl, by decide +kernel, by decide +kernel⟩
abbrev s_is_within : Stmt := top 9
abbrev N_is_within : List Str := ["number", "least", "most"]
theorem st_is_within (v0 v1 v2 : V) : L2.start N_is_within [v0, v1, v2] = [some v0, some v1, some v2] := rfl
theorem sc_is_within : FnScope N_is_within ["number", "least", "most"] (defScope s_is_within) := ⟨rfl, rfl, rfl, by decide +kernel, rfl, by decide +kernel, by decide +kernel⟩
abbrev s_check_number : Stmt := top 10
abbrev N_check_number : List Str := ["number", "least", "most"]
theorem st_check_number (v0 v1 v2 : V) : L2.start N_check_number [v0, v1, v2] = [some v0, some v1, some v2] := rfl
theorem sc_check_number : FnScope N_check_number ["number", "least", "most"] (defScope s_check_number) := ⟨rfl, rfl, rfl, by decide +kernel, rfl, by decide +kernel, by decide +kernel⟩
abbrev s_check_moment : Stmt := top 11
abbrev N_check_moment : List Str := ["moment"]
theorem st_check_moment (v0 : V) : L2.start N_check_moment [v0] = [some v0] := rfl
theorem sc_check_moment : FnScope N_check_moment ["moment"] (defScope s_check_moment) := ⟨rfl, rfl, rfl, by decide +kernel, rfl, by decide +kernel, by decide +kernel⟩
abbrev s_power : Stmt := top 13
abbrev N_power : List Str := ["base", "exponent", "number", "_"]
theorem st_power (v0 v1 : V) : L2.start N_power [v0, v1] = [some v0, some v1, none, none] := rfl
theorem sc_power : FnScope N_power ["base", "exponent"] (defScope s_power) := ⟨rfl, rfl, rfl, by decide +kernel, rfl, by decide +kernel, by decide +kernel⟩
abbrev s_root_level : Stmt := top 14
abbrev N_root_level : List Str := ["fanout", "first", "last", "level", "width"]
theorem st_root_level (v0 v1 v2 : V) : L2.start N_root_level [v0, v1, v2] = [some v0, some v1, some v2, none, none] := rfl
theorem sc_root_level : FnScope N_root_level ["fanout", "first", "last"] (defScope s_root_level) := ⟨rfl, rfl, rfl, by decide +kernel, rfl, by decide +kernel, by decide +kernel⟩
abbrev s_are_lengths : Stmt := top 18
abbrev N_are_lengths : List Str := ["lengths", "length"]
theorem st_are_lengths (v0 : V) : L2.start N_are_lengths [v0] = [some v0, none] := rfl
theorem sc_are_lengths : FnScope N_are_lengths ["lengths"] (defScope s_are_lengths) := ⟨rfl, rfl, rfl, by decide +kernel, rfl, by decide +kernel, by decide +kernel⟩
abbrev s_bounds_behind : Stmt := top 19
abbrev N_bounds_behind : List Str := ["lengths"]
theorem st_bounds_behind (v0 : V) : L2.start N_bounds_behind [v0] = [some v0] := rfl
theorem sc_bounds_behind : FnScope N_bounds_behind ["lengths"] (defScope s_bounds_behind) := ⟨rfl, rfl, rfl, by decide +kernel, rfl, by decide +kernel, by decide +kernel⟩
abbrev s_Settings___init__ : Stmt := inClass (top 20) 0
abbrev N_Settings___init__ : List Str := ["self", "lengths", "size", "fanout", "records", "every", "keep", "given", "part", "least", "most"]
theorem st_Settings___init__ (v0 v1 v2 v3 v4 v5 v6 : V) : L2.start N_Settings___init__ [v0, v1, v2, v3, v4, v5, v6] = [some v0, some v1, some v2, some v3, some v4, some v5, some v6, none, none, none, none] := rfl
theorem sc_Settings___init__ : FnScope N_Settings___init__ ["self", "lengths", "size", "fanout", "records", "every", "keep"] (defScope s_Settings___init__) := ⟨rfl, rfl, rfl, by decide +kernel, rfl, by decide +kernel, by decide +kernel⟩
abbrev s_check_settings : Stmt := top 21
abbrev N_check_settings : List Str := ["settings"]
theorem st_check_settings (v0 : V) : L2.start N_check_settings [v0] = [some v0] := rfl
theorem sc_check_settings : FnScope N_check_settings ["settings"] (defScope s_check_settings) := ⟨rfl, rfl, rfl, by decide +kernel, rfl, by decide +kernel, by decide +kernel⟩
abbrev s_rows_from : Stmt := top 23
abbrev N_rows_from : List Str := ["settings", "row", "lengths", "rows", "left"]
theorem st_rows_from (v0 v1 : V) : L2.start N_rows_from [v0, v1] = [some v0, some v1, none, none, none] := rfl
theorem sc_rows_from : FnScope N_rows_from ["settings", "row"] (defScope s_rows_from) := ⟨rfl, rfl, rfl, by decide +kernel, rfl, by decide +kernel, by decide +kernel⟩
abbrev s_Packing_page_with : Stmt := inClass (top 24) 10
abbrev N_Packing_page_with : List Str := ["self", "row", "turns", "near", "page"]
theorem st_Packing_page_with (v0 v1 : V) : L2.start N_Packing_page_with [v0, v1] = [some v0, some v1, none, none, none] := rfl
theorem sc_Packing_page_with : FnScope N_Packing_page_with ["self", "row"] (defScope s_Packing_page_with) := ⟨rfl, rfl, rfl, by decide +kernel, rfl, by decide +kernel, by decide +kernel⟩
abbrev s_Packing___init__ : Stmt := inClass (top 24) 0
abbrev N_Packing___init__ : List Str := ["self", "settings", "many", "starts", "page_of_place"]
theorem st_Packing___init__ (v0 v1 : V) : L2.start N_Packing___init__ [v0, v1] = [some v0, some v1, none, none, none] := rfl
theorem sc_Packing___init__ : FnScope N_Packing___init__ ["self", "settings"] (defScope s_Packing___init__) := ⟨rfl, rfl, rfl, by decide +kernel, rfl, by decide +kernel, by decide +kernel⟩
abbrev s_Packing_begun : Stmt := inClass (top 24) 6
abbrev N_Packing_begun : List Str := ["self", "moment"]
theorem st_Packing_begun (v0 v1 : V) : L2.start N_Packing_begun [v0, v1] = [some v0, some v1] := rfl
theorem sc_Packing_begun : FnScope N_Packing_begun ["self", "moment"] (defScope s_Packing_begun) := ⟨rfl, rfl, rfl, by decide +kernel, rfl, by decide +kernel, by decide +kernel⟩
abbrev s_Packing_cycle : Stmt := inClass (top 24) 7
abbrev N_Packing_cycle : List Str := ["self"]
theorem st_Packing_cycle (v0 : V) : L2.start N_Packing_cycle [v0] = [some v0] := rfl
theorem sc_Packing_cycle : FnScope N_Packing_cycle ["self"] (defScope s_Packing_cycle) := ⟨rfl, rfl, rfl, by decide +kernel, rfl, by decide +kernel, by decide +kernel⟩
abbrev s_Packing_start_of : Stmt := inClass (top 24) 9
abbrev N_Packing_start_of : List Str := ["self", "page", "turns"]
theorem st_Packing_start_of (v0 v1 : V) : L2.start N_Packing_start_of [v0, v1] = [some v0, some v1, none] := rfl
theorem sc_Packing_start_of : FnScope N_Packing_start_of ["self", "page"] (defScope s_Packing_start_of) := ⟨rfl, rfl, rfl, by decide +kernel, rfl, by decide +kernel, by decide +kernel⟩
abbrev s_border_level : Stmt := top 26
abbrev N_border_level : List Str := ["fanout", "low", "high", "level", "step"]
theorem st_border_level (v0 v1 v2 : V) : L2.start N_border_level [v0, v1, v2] = [some v0, some v1, some v2, none, none] := rfl
theorem sc_border_level : FnScope N_border_level ["fanout", "low", "high"] (defScope s_border_level) := ⟨rfl, rfl, rfl, by decide +kernel, rfl, by decide +kernel, by decide +kernel⟩
abbrev s_Gaps___init__ : Stmt := inClass (top 27) 0
abbrev N_Gaps___init__ : List Str := ["self", "packing", "step", "most", "first", "pages", "_", "starts", "at", "number"]
theorem st_Gaps___init__ (v0 v1 v2 v3 : V) : L2.start N_Gaps___init__ [v0, v1, v2, v3] = [some v0, some v1, some v2, some v3, none, none, none, none, none, none] := rfl
theorem sc_Gaps___init__ : FnScope N_Gaps___init__ ["self", "packing", "step", "most"] (defScope s_Gaps___init__) := ⟨rfl, rfl, rfl, by decide +kernel, rfl, by decide +kernel, by decide +kernel⟩
abbrev s_Gaps_sum_of : Stmt := inClass (top 27) 1
abbrev N_Gaps_sum_of : List Str := ["self", "many", "turns", "one_turn"]
theorem st_Gaps_sum_of (v0 v1 : V) : L2.start N_Gaps_sum_of [v0, v1] = [some v0, some v1, none, none] := rfl
theorem sc_Gaps_sum_of : FnScope N_Gaps_sum_of ["self", "many"] (defScope s_Gaps_sum_of) := ⟨rfl, rfl, rfl, by decide +kernel, rfl, by decide +kernel, by decide +kernel⟩
abbrev s_Heights___init__ : Stmt := inClass (top 28) 0
abbrev N_Heights___init__ : List Str := ["self", "settings"]
theorem st_Heights___init__ (v0 v1 : V) : L2.start N_Heights___init__ [v0, v1] = [some v0, some v1] := rfl
theorem sc_Heights___init__ : FnScope N_Heights___init__ ["self", "settings"] (defScope s_Heights___init__) := ⟨rfl, rfl, rfl, by decide +kernel, rfl, by decide +kernel, by decide +kernel⟩
abbrev s_Heights__is_wide : Stmt := inClass (top 28) 3
abbrev N_Heights__is_wide : List Str := ["self", "step"]
theorem st_Heights__is_wide (v0 v1 : V) : L2.start N_Heights__is_wide [v0, v1] = [some v0, some v1] := rfl
theorem sc_Heights__is_wide : FnScope N_Heights__is_wide ["self", "step"] (defScope s_Heights__is_wide) := ⟨rfl, rfl, rfl, by decide +kernel, rfl, by decide +kernel, by decide +kernel⟩
abbrev s_Heights__sum_of_gaps : Stmt := inClass (top 28) 4
abbrev N_Heights__sum_of_gaps : List Str := ["self", "step", "many"]
theorem st_Heights__sum_of_gaps (v0 v1 v2 : V) : L2.start N_Heights__sum_of_gaps [v0, v1, v2] = [some v0, some v1, some v2] := rfl
theorem sc_Heights__sum_of_gaps : FnScope N_Heights__sum_of_gaps ["self", "step", "many"] (defScope s_Heights__sum_of_gaps) := ⟨rfl, rfl, rfl, by decide +kernel, rfl, by decide +kernel, by decide +kernel⟩
abbrev s_Heights_above : Stmt := inClass (top 28) 1
abbrev N_Heights_above : List Str := ["self", "step", "moment", "last"]
theorem st_Heights_above (v0 v1 v2 : V) : L2.start N_Heights_above [v0, v1, v2] = [some v0, some v1, some v2, none] := rfl
theorem sc_Heights_above : FnScope N_Heights_above ["self", "step", "moment"] (defScope s_Heights_above) := ⟨rfl, rfl, rfl, by decide +kernel, rfl, by decide +kernel, by decide +kernel⟩
abbrev s_Heights_sum_below : Stmt := inClass (top 28) 2
abbrev N_Heights_sum_below : List Str := ["self", "moment", "total", "page", "step", "borders", "number"]
theorem st_Heights_sum_below (v0 v1 : V) : L2.start N_Heights_sum_below [v0, v1] = [some v0, some v1, none, none, none, none, none] := rfl
theorem sc_Heights_sum_below : FnScope N_Heights_sum_below ["self", "moment"] (defScope s_Heights_sum_below) := ⟨rfl, rfl, rfl, by decide +kernel, rfl, by decide +kernel, by decide +kernel⟩
abbrev s_live_pages : Stmt := top 31
abbrev N_live_pages : List Str := ["settings", "moment", "packing"]
theorem st_live_pages (v0 v1 : V) : L2.start N_live_pages [v0, v1] = [some v0, some v1, none] := rfl
theorem sc_live_pages : FnScope N_live_pages ["settings", "moment"] (defScope s_live_pages) := ⟨rfl, rfl, rfl, by decide +kernel, rfl, by decide +kernel, by decide +kernel⟩
abbrev s_next_border : Stmt := top 32
abbrev N_next_border : List Str := ["settings", "moment", "level", "packing", "step", "least", "page", "row"]
theorem st_next_border (v0 v1 v2 : V) : L2.start N_next_border [v0, v1, v2] = [some v0, some v1, some v2, none, none, none, none, none] := rfl
theorem sc_next_border : FnScope N_next_border ["settings", "moment", "level"] (defScope s_next_border) := ⟨rfl, rfl, rfl, by decide +kernel, rfl, by decide +kernel, by decide +kernel⟩
abbrev s_tree_height : Stmt := top 33
abbrev N_tree_height : List Str := ["settings", "moment", "first", "after"]
theorem st_tree_height (v0 v1 : V) : L2.start N_tree_height [v0, v1] = [some v0, some v1, none, none] := rfl
theorem sc_tree_height : FnScope N_tree_height ["settings", "moment"] (defScope s_tree_height) := ⟨rfl, rfl, rfl, by decide +kernel, rfl, by decide +kernel, by decide +kernel⟩
abbrev s_check_stretch : Stmt := top 36
abbrev N_check_stretch : List Str := ["first", "last"]
theorem st_check_stretch (v0 v1 : V) : L2.start N_check_stretch [v0, v1] = [some v0, some v1] := rfl
theorem sc_check_stretch : FnScope N_check_stretch ["first", "last"] (defScope s_check_stretch) := ⟨rfl, rfl, rfl, by decide +kernel, rfl, by decide +kernel, by decide +kernel⟩
abbrev s_height_count : Stmt := top 37
abbrev N_height_count : List Str := ["settings", "least", "first", "last", "heights", "step"]
theorem st_height_count (v0 v1 v2 v3 : V) : L2.start N_height_count [v0, v1, v2, v3] = [some v0, some v1, some v2, some v3, none, none] := rfl
theorem sc_height_count : FnScope N_height_count ["settings", "least", "first", "last"] (defScope s_height_count) := ⟨rfl, rfl, rfl, by decide +kernel, rfl, by decide +kernel, by decide +kernel⟩
abbrev s_height_sum : Stmt := top 38
abbrev N_height_sum : List Str := ["settings", "first", "last", "heights"]
theorem st_height_sum (v0 v1 v2 : V) : L2.start N_height_sum [v0, v1, v2] = [some v0, some v1, some v2, none] := rfl
theorem sc_height_sum : FnScope N_height_sum ["settings", "first", "last"] (defScope s_height_sum) := ⟨rfl, rfl, rfl, by decide +kernel, rfl, by decide +kernel, by decide +kernel⟩
abbrev s_next_height : Stmt := top 39
abbrev N_next_height : List Str := ["settings", "moment", "least", "border"]
theorem st_next_height (v0 v1 v2 : V) : L2.start N_next_height [v0, v1, v2] = [some v0, some v1, some v2, none] := rfl
theorem sc_next_height : FnScope N_next_height ["settings", "moment", "least"] (defScope s_next_height) := ⟨rfl, rfl, rfl, by decide +kernel, rfl, by decide +kernel, by decide +kernel⟩
abbrev s_greatest_height : Stmt := top 40
abbrev N_greatest_height : List Str := ["settings", "first", "last", "height", "packing", "low", "level", "step"]
theorem st_greatest_height (v0 v1 v2 : V) : L2.start N_greatest_height [v0, v1, v2] = [some v0, some v1, some v2, none, none, none, none, none] := rfl
theorem sc_greatest_height : FnScope N_greatest_height ["settings", "first", "last"] (defScope s_greatest_height) := ⟨rfl, rfl, rfl, by decide +kernel, rfl, by decide +kernel, by decide +kernel⟩
abbrev s__law_digits : Stmt := top 42
abbrev N__law_digits : List Str := ["cell", "many", "digits", "rest", "number", "k"]
theorem st__law_digits (v0 v1 : V) : L2.start N__law_digits [v0, v1] = [some v0, some v1, none, none, none, none] := rfl
theorem sc__law_digits : FnScope N__law_digits ["cell", "many"] (defScope s__law_digits) := ⟨rfl, rfl, rfl, by decide +kernel, rfl, by decide +kernel, by decide +kernel⟩
abbrev s__law_parts : Stmt := top 43
abbrev N__law_parts : List Str := ["digits", "size", "lengths", "parts", "k"]
theorem st__law_parts (v0 : V) : L2.start N__law_parts [v0] = [some v0, none, none, none, none] := rfl
theorem sc__law_parts : FnScope N__law_parts ["digits"] (defScope s__law_parts) := ⟨rfl, rfl, rfl, by decide +kernel, rfl, by decide +kernel, by decide +kernel⟩
abbrev s__law_settings : Stmt := top 44
abbrev N__law_settings : List Str := ["parts", "fan", "many", "pace", "kept", "word"]
theorem st__law_settings (v0 : V) : L2.start N__law_settings [v0] = [some v0, none, none, none, none, none] := rfl
theorem sc__law_settings : FnScope N__law_settings ["parts"] (defScope s__law_settings) := ⟨rfl, rfl, rfl, by decide +kernel, rfl, by decide +kernel, by decide +kernel⟩
abbrev s__law_moments : Stmt := top 45
abbrev N__law_moments : List Str := ["settings", "digits", "found", "k", "some", "told", "near"]
theorem st__law_moments (v0 v1 : V) : L2.start N__law_moments [v0, v1] = [some v0, some v1, none, none, none, none, none] := rfl
theorem sc__law_moments : FnScope N__law_moments ["settings", "digits"] (defScope s__law_moments) := ⟨rfl, rfl, rfl, by decide +kernel, rfl, by decide +kernel, by decide +kernel⟩
abbrev s__law_near_right : Stmt := top 46
abbrev N__law_near_right : List Str := ["settings", "moment", "heights", "least", "some", "told", "k", "one"]
theorem st__law_near_right (v0 v1 : V) : L2.start N__law_near_right [v0, v1] = [some v0, some v1, none, none, none, none, none, none] := rfl
theorem sc__law_near_right : FnScope N__law_near_right ["settings", "moment"] (defScope s__law_near_right) := ⟨rfl, rfl, rfl, by decide +kernel, rfl, by decide +kernel, by decide +kernel⟩
abbrev s__law_stretch_right : Stmt := top 47
abbrev N__law_stretch_right : List Str := ["settings", "one", "other", "far", "found", "best", "least", "many"]
theorem st__law_stretch_right (v0 v1 v2 v3 : V) : L2.start N__law_stretch_right [v0, v1, v2, v3] = [some v0, some v1, some v2, some v3, none, none, none, none] := rfl
theorem sc__law_stretch_right : FnScope N__law_stretch_right ["settings", "one", "other", "far"] (defScope s__law_stretch_right) := ⟨rfl, rfl, rfl, by decide +kernel, rfl, by decide +kernel, by decide +kernel⟩
abbrev s__law_end_right : Stmt := top 48
abbrev N__law_end_right : List Str := ["settings", "first", "heights", "least", "some", "k"]
theorem st__law_end_right (v0 : V) : L2.start N__law_end_right [v0] = [some v0, none, none, none, none, none] := rfl
theorem sc__law_end_right : FnScope N__law_end_right ["settings"] (defScope s__law_end_right) := ⟨rfl, rfl, rfl, by decide +kernel, rfl, by decide +kernel, by decide +kernel⟩
abbrev s_law : Stmt := top 49
abbrev N_law : List Str := ["script", "cell", "digits", "settings", "moments", "k", "moment"]
theorem st_law (v0 : V) : L2.start N_law [v0] = [some v0, none, none, none, none, none, none] := rfl
theorem sc_law : FnScope N_law ["script"] (defScope s_law) := ⟨rfl, rfl, rfl, by decide +kernel, rfl, by decide +kernel, by decide +kernel⟩
def d_is_from : He.DefD := ⟨("is_from", none), "is_from", "is_from", defArgs s_is_from, defBody s_is_from, defScope s_is_from, [], []⟩
def d_is_within : He.DefD := ⟨("is_within", none), "is_within", "is_within", defArgs s_is_within, defBody s_is_within, defScope s_is_within, [], []⟩
def d_check_number : He.DefD := ⟨("check_number", none), "check_number", "check_number", defArgs s_check_number, defBody s_check_number, defScope s_check_number, [], []⟩
def d_check_moment : He.DefD := ⟨("check_moment", none), "check_moment", "check_moment", defArgs s_check_moment, defBody s_check_moment, defScope s_check_moment, [], []⟩
def d_power : He.DefD := ⟨("power", none), "power", "power", defArgs s_power, defBody s_power, defScope s_power, [], []⟩
def d_root_level : He.DefD := ⟨("root_level", none), "root_level", "root_level", defArgs s_root_level, defBody s_root_level, defScope s_root_level, [], []⟩
def d_are_lengths : He.DefD := ⟨("are_lengths", none), "are_lengths", "are_lengths", defArgs s_are_lengths, defBody s_are_lengths, defScope s_are_lengths, [], []⟩
def d_bounds_behind : He.DefD := ⟨("bounds_behind", none), "bounds_behind", "bounds_behind", defArgs s_bounds_behind, defBody s_bounds_behind, defScope s_bounds_behind, [], []⟩
def d_Settings___init__ : He.DefD := ⟨("Settings", some "__init__"), "__init__", "Settings.__init__", defArgs s_Settings___init__, defBody s_Settings___init__, defScope s_Settings___init__, [], []⟩
def d_check_settings : He.DefD := ⟨("check_settings", none), "check_settings", "check_settings", defArgs s_check_settings, defBody s_check_settings, defScope s_check_settings, [], []⟩
def d_rows_from : He.DefD := ⟨("rows_from", none), "rows_from", "rows_from", defArgs s_rows_from, defBody s_rows_from, defScope s_rows_from, [], []⟩
def d_Packing_page_with : He.DefD := ⟨("Packing", some "page_with"), "page_with", "Packing.page_with", defArgs s_Packing_page_with, defBody s_Packing_page_with, defScope s_Packing_page_with, [], []⟩
def d_Packing___init__ : He.DefD := ⟨("Packing", some "__init__"), "__init__", "Packing.__init__", defArgs s_Packing___init__, defBody s_Packing___init__, defScope s_Packing___init__, [], []⟩
def d_Packing_begun : He.DefD := ⟨("Packing", some "begun"), "begun", "Packing.begun", defArgs s_Packing_begun, defBody s_Packing_begun, defScope s_Packing_begun, [], []⟩
def d_Packing_cycle : He.DefD := ⟨("Packing", some "cycle"), "cycle", "Packing.cycle", defArgs s_Packing_cycle, defBody s_Packing_cycle, defScope s_Packing_cycle, [], []⟩
def d_Packing_start_of : He.DefD := ⟨("Packing", some "start_of"), "start_of", "Packing.start_of", defArgs s_Packing_start_of, defBody s_Packing_start_of, defScope s_Packing_start_of, [], []⟩
def d_border_level : He.DefD := ⟨("border_level", none), "border_level", "border_level", defArgs s_border_level, defBody s_border_level, defScope s_border_level, [], []⟩
def d_Gaps___init__ : He.DefD := ⟨("Gaps", some "__init__"), "__init__", "Gaps.__init__", defArgs s_Gaps___init__, defBody s_Gaps___init__, defScope s_Gaps___init__, [], []⟩
def d_Gaps_sum_of : He.DefD := ⟨("Gaps", some "sum_of"), "sum_of", "Gaps.sum_of", defArgs s_Gaps_sum_of, defBody s_Gaps_sum_of, defScope s_Gaps_sum_of, [], []⟩
def d_Heights___init__ : He.DefD := ⟨("Heights", some "__init__"), "__init__", "Heights.__init__", defArgs s_Heights___init__, defBody s_Heights___init__, defScope s_Heights___init__, [], []⟩
def d_Heights__is_wide : He.DefD := ⟨("Heights", some "_is_wide"), "_is_wide", "Heights._is_wide", defArgs s_Heights__is_wide, defBody s_Heights__is_wide, defScope s_Heights__is_wide, [], []⟩
def d_Heights__sum_of_gaps : He.DefD := ⟨("Heights", some "_sum_of_gaps"), "_sum_of_gaps", "Heights._sum_of_gaps", defArgs s_Heights__sum_of_gaps, defBody s_Heights__sum_of_gaps, defScope s_Heights__sum_of_gaps, [], []⟩
def d_Heights_above : He.DefD := ⟨("Heights", some "above"), "above", "Heights.above", defArgs s_Heights_above, defBody s_Heights_above, defScope s_Heights_above, [], []⟩
def d_Heights_sum_below : He.DefD := ⟨("Heights", some "sum_below"), "sum_below", "Heights.sum_below", defArgs s_Heights_sum_below, defBody s_Heights_sum_below, defScope s_Heights_sum_below, [], []⟩
def d_live_pages : He.DefD := ⟨("live_pages", none), "live_pages", "live_pages", defArgs s_live_pages, defBody s_live_pages, defScope s_live_pages, [], []⟩
def d_next_border : He.DefD := ⟨("next_border", none), "next_border", "next_border", defArgs s_next_border, defBody s_next_border, defScope s_next_border, [], []⟩
def d_tree_height : He.DefD := ⟨("tree_height", none), "tree_height", "tree_height", defArgs s_tree_height, defBody s_tree_height, defScope s_tree_height, [], []⟩
def d_check_stretch : He.DefD := ⟨("check_stretch", none), "check_stretch", "check_stretch", defArgs s_check_stretch, defBody s_check_stretch, defScope s_check_stretch, [], []⟩
def d_height_count : He.DefD := ⟨("height_count", none), "height_count", "height_count", defArgs s_height_count, defBody s_height_count, defScope s_height_count, [], []⟩
def d_height_sum : He.DefD := ⟨("height_sum", none), "height_sum", "height_sum", defArgs s_height_sum, defBody s_height_sum, defScope s_height_sum, [], []⟩
def d_next_height : He.DefD := ⟨("next_height", none), "next_height", "next_height", defArgs s_next_height, defBody s_next_height, defScope s_next_height, [], []⟩
def d_greatest_height : He.DefD := ⟨("greatest_height", none), "greatest_height", "greatest_height", defArgs s_greatest_height, defBody s_greatest_height, defScope s_greatest_height, [], []⟩
def d__law_digits : He.DefD := ⟨("_law_digits", none), "_law_digits", "_law_digits", defArgs s__law_digits, defBody s__law_digits, defScope s__law_digits, [], []⟩
def d__law_parts : He.DefD := ⟨("_law_parts", none), "_law_parts", "_law_parts", defArgs s__law_parts, defBody s__law_parts, defScope s__law_parts, [], []⟩
def d__law_settings : He.DefD := ⟨("_law_settings", none), "_law_settings", "_law_settings", defArgs s__law_settings, defBody s__law_settings, defScope s__law_settings, [], []⟩
def d__law_moments : He.DefD := ⟨("_law_moments", none), "_law_moments", "_law_moments", defArgs s__law_moments, defBody s__law_moments, defScope s__law_moments, [], []⟩
def d__law_near_right : He.DefD := ⟨("_law_near_right", none), "_law_near_right", "_law_near_right", defArgs s__law_near_right, defBody s__law_near_right, defScope s__law_near_right, [], []⟩
def d__law_stretch_right : He.DefD := ⟨("_law_stretch_right", none), "_law_stretch_right", "_law_stretch_right", defArgs s__law_stretch_right, defBody s__law_stretch_right, defScope s__law_stretch_right, [], []⟩
def d__law_end_right : He.DefD := ⟨("_law_end_right", none), "_law_end_right", "_law_end_right", defArgs s__law_end_right, defBody s__law_end_right, defScope s__law_end_right, [], []⟩
def d_law : He.DefD := ⟨("law", none), "law", "law", defArgs s_law, defBody s_law, defScope s_law, [], []⟩
def fn : List He.DefD := [d_is_from, d_is_within, d_check_number, d_check_moment, d_power, d_root_level, d_are_lengths, d_bounds_behind, d_Settings___init__, d_check_settings, d_rows_from, d_Packing_page_with, d_Packing___init__, d_Packing_begun, d_Packing_cycle, d_Packing_start_of, d_border_level, d_Gaps___init__, d_Gaps_sum_of, d_Heights___init__, d_Heights__is_wide, d_Heights__sum_of_gaps, d_Heights_above, d_Heights_sum_below, d_live_pages, d_next_border, d_tree_height, d_check_stretch, d_height_count, d_height_sum, d_next_height, d_greatest_height, d__law_digits, d__law_parts, d__law_settings, d__law_moments, d__law_near_right, d__law_stretch_right, d__law_end_right, d_law]
def fa : List He.Fa := [.noat "Gaps" "_near", .noat "Gaps" "_period", .noat "Gaps" "_sums", .noat "Heights" "_fanout", .noat "Heights" "_gaps", .noat "Heights" "_most", .noat "Heights" "_packing", .noat "Heights" "_rows", .noat "Packing" "_first", .noat "Packing" "_last", .noat "Packing" "_pages", .noat "Packing" "_rows", .noat "Packing" "_settings", .noat "Packing" "_starts", .noat "Settings" "every", .noat "Settings" "fanout", .noat "Settings" "keep", .noat "Settings" "lengths", .noat "Settings" "records", .noat "Settings" "size", .cls "Gaps", .cls "Heights", .cls "Packing", .cls "Settings", .int "MOST_HEIGHT" 111, .int "MOST_LENGTHS" 6, .int "MOST_LEVEL" 110, .int "MOST_UNITS" 64, .int "ROWS" 1000000000000000000000000000000, .glo "Settings", .free "all", .free "bool", .free "int", .free "isinstance", .free "len", .free "list", .free "max", .free "min", .free "range", .free "set", .free "sorted", .free "sum", .free "tuple", .glo "is_from", .glo "is_within", .glo "check_number", .glo "check_moment", .glo "power", .glo "root_level", .glo "are_lengths", .glo "bounds_behind", .mkr "Settings", .glo "check_settings", .glo "rows_from", .meth "Packing" "page_with", .mkr "Packing", .glo "Packing", .meth "Packing" "begun", .meth "Packing" "cycle", .meth "Packing" "start_of", .glo "border_level", .mkr "Gaps", .glo "Gaps", .meth "Gaps" "sum_of", .mkr "Heights", .glo "Heights", .meth "Heights" "_is_wide", .meth "Heights" "_sum_of_gaps", .meth "Heights" "above", .meth "Heights" "sum_below", .glo "live_pages", .glo "next_border", .glo "tree_height", .glo "check_stretch", .glo "height_count", .glo "height_sum", .glo "next_height", .glo "greatest_height", .glo "_law_digits", .glo "_law_parts", .glo "_law_settings", .glo "_law_moments", .glo "_law_near_right", .glo "_law_stretch_right", .glo "_law_end_right", .glo "law"]
def exs : List (PySem.W.Frag → Bool) := [fun K => Kr.insB K (He.ga K "Settings"), fun K => decide (PySem.W.nsIn K mainGlobals "gcd" = some (some (.builtin "math.gcd")))]
def ex (K : PySem.W.Frag) : Bool := exs.all fun e => e K
theorem ex_at {K : PySem.W.Frag} (i : Nat) (h : ex K = true) {e : PySem.W.Frag → Bool} (hi : exs[i]? = some e := by rfl) : e K = true := Kr.ex_all h i hi
abbrev hk : PySem.W.Hook := Kr.hookM 8 fa fn ex
def ob (s : PySem.W.SharedT) : Kr.AlM := Kr.obsM 8 fa fn ex (HandSHeadRun.getT s)
theorem ob_eq (s : PySem.W.SharedT) : ob s = hk.obs s.abs := Kr.obsM_eq (HandSHeadRun.getT_eq s)
abbrev R0 : PySem.W.OpenRow := PySem.W.OpenLaw.row PySem.Challenge.rw_keeprows_k85_whole_heights_far_away
def loose : List Str := "_wall" :: "StoreError" :: "InvalidSettings" :: "InvalidNumber" :: "ROWS" :: "is_from" :: "is_within" :: "check_number" :: "check_moment" :: "power" :: "root_level" :: "MOST_LENGTHS" :: "MOST_UNITS" :: "are_lengths" :: "bounds_behind" :: "Settings" :: "check_settings" :: "rows_from" :: "Packing" :: "border_level" :: "Gaps" :: "Heights" :: "MOST_LEVEL" :: "live_pages" :: "next_border" :: "tree_height" :: "MOST_HEIGHT" :: "check_stretch" :: "height_count" :: "height_sum" :: "next_height" :: "greatest_height" :: "_law_digits" :: "_law_parts" :: "_law_settings" :: "_law_moments" :: "_law_near_right" :: "_law_stretch_right" :: "_law_end_right" :: []
theorem runs (w : World) : HandSHeadRun.RunEqI R0 (PySem.W.view R0.prog [0, 49]) hk ob 6000 loose w := by
  unfold HandSHeadRun.RunEqI
  kernel_rfl

/-- a positive number of at most forty digits: what draws are limited by -/
def Lim (n : Int) : Prop := 0 < n ∧ n ≤ 10 ^ 40
theorem Lim.div {n : Int} (h : Lim n) : CDivW 0 n := wide_div (b := 200) h.1 (by have := h.1; have := h.2; omega) (by decide) (by decide)
theorem emod_lt {a n : Int} (h : 0 < n) : 0 ≤ a % n ∧ a % n < n := ⟨Int.emod_nonneg _ (by omega), Int.emod_lt_of_pos _ h⟩
theorem mod_fit {a n : Int} (h : 0 < n) (hn : n < 2 ^ 64) : -(2 ^ 64) < a % n ∧ a % n < 2 ^ 64 := by
  have := @emod_lt a n h
  omega
/-- what drawn parts of settings keep -/
structure PartsOk (ls : List Int) (room fo re ev ke : Int) : Prop where
  l1 : 1 ≤ ls.length
  l6 : ls.length ≤ 6
  all : ∀ l ∈ ls, 1 ≤ l ∧ l ≤ room
  r1 : 1 ≤ room
  r64 : room ≤ 64
  fo : 2 ≤ fo ∧ fo ≤ 8
  re : 1 ≤ re ∧ re ≤ 16
  ev : 1 ≤ ev ∧ ev ≤ 40
  ke : 1 ≤ ke ∧ ke ≤ 100
/-- the bounds of the j-th further part -/
def Bd (j : Nat) (v : Int) : Prop := match j with
  | 0 => 2 ≤ v ∧ v ≤ 8
  | 1 => 1 ≤ v ∧ v ≤ 16
  | 2 => 1 ≤ v ∧ v ≤ 40
  | _ => 1 ≤ v ∧ v ≤ 100
/-- what a list of lengths keeps -/
structure LensOk (ls : List Int) (sz : Int) : Prop where
  l1 : 1 ≤ ls.length
  l6 : ls.length ≤ 6
  all : ∀ l ∈ ls, 1 ≤ l ∧ l ≤ sz
  r64 : sz ≤ 64
/-- what settings keep -/
structure SetOk (ls : List Int) (sz fo re ev ke : Int) : Prop extends LensOk ls sz where
  fo : 2 ≤ fo ∧ fo ≤ 8
  re : 1 ≤ re ∧ re ≤ 16
  ev : 1 ≤ ev ∧ ev ≤ 40
  ke : 1 ≤ ke ∧ ke ≤ 100
theorem PartsOk.set {ls : List Int} {room fo re ev ke : Int} (p : PartsOk ls room fo re ev ke) : SetOk ls room fo re ev ke := ⟨⟨p.l1, p.l6, p.all, p.r64⟩, p.fo, p.re, p.ev, p.ke⟩
/-- the attributes of Settings, in the order in which they are stored -/
def setF (t : Addr) (sz fo re ev ke : Int) : List (Str × V) := [("lengths", .ref t), ("size", .int sz), ("fanout", .int fo), ("records", .int re), ("every", .int ev), ("keep", .int ke)]
/-- Settings at a -/
def SetAt (K : PySem.W.Frag) (H : Hp) (a : Addr) (ls : List Int) (sz fo re ev ke : Int) : Prop := ∃ dx t, H a = some (.ins (He.ga K "Settings") dx (setF t sz fo re ev ke)) ∧ H t = some (.tup (ls.map V.int))
theorem SetAt.same {K : PySem.W.Frag} {H H' : Hp} {a : Addr} {ls : List Int} {sz fo re ev ke : Int} (h : SetAt K H a ls sz fo re ev ke) (s : Same H H') : SetAt K H' a ls sz fo re ev ke := by
  obtain ⟨dx, t, h1, h2⟩ := h
  exact ⟨dx, t, s _ _ h1, s _ _ h2⟩
theorem SetAt.dr {K : PySem.W.Frag} {H H' : Hp} {b a : Addr} {ls : List Int} {sz fo re ev ke : Int} (h : SetAt K H a ls sz fo re ev ke) (hs : Src H b) (s : Dr b H H') : SetAt K H' a ls sz fo re ev ke := by
  obtain ⟨dx, t, h1, h2⟩ := h
  exact ⟨dx, t, s.old _ _ (hs.ne_ins h1) h1, s.old _ _ (hs.ne_tup h2) h2⟩
/-- the list of the bounds of the other parts at L -/
def Bnds (H : Hp) (L : Addr) (m : Int) : Prop := ∃ t1 t2 t3 t4 t5 : Addr, H L = some (.lst [.ref t1, .ref t2, .ref t3, .ref t4, .ref t5]) ∧ H t1 = some (.tup [.str "size", .int m, .int 64]) ∧ H t2 = some (.tup [.str "fanout", .int 2, .int 8]) ∧
  H t3 = some (.tup [.str "records", .int 1, .int 16]) ∧ H t4 = some (.tup [.str "every", .int 1, .int 40]) ∧ H t5 = some (.tup [.str "keep", .int 1, .int 100])
/-- the further parts by their names -/
def givD (v1 v2 v3 v4 v5 : V) : List (Key × V) := [(.inr "size", v1), (.inr "fanout", v2), (.inr "records", v3), (.inr "every", v4), (.inr "keep", v5)]
theorem LensOk.pk {ls : List Int} {sz : Int} (h : LensOk ls sz) : Pk.Ok ls sz := ⟨h.l1, by have := h.l6; omega, h.all, by have := h.r64; omega⟩
theorem sum_pre (ls : List Int) : ∀ j, j ≤ ls.length → (ls.take j).sum = Pk.pre ls 0 j
  | 0, _ => rfl
  | j + 1, h => by
    have hj : j < ls.length := by omega
    rw [List.take_add_one, List.sum_append, sum_pre ls j (by omega), List.getElem?_eq_getElem hj]
    show _ + ([ls[j]] : List Int).sum = Pk.pre ls 0 j + Pk.lenAt ls (0 + j)
    have e : Pk.lenAt ls (0 + j) = ls[j] := by
      unfold Pk.lenAt
      rw [Nat.zero_add, Nat.mod_eq_of_lt hj, List.getD_eq_getElem?_getD, List.getElem?_eq_getElem hj]
      rfl
    rw [e, List.sum_cons]
    show _ + (_ + 0) = _
    rw [Int.add_zero]
theorem sum_round (ls : List Int) : ls.sum = Pk.pre ls 0 ls.length := by
  have := sum_pre ls ls.length (Nat.le_refl _)
  rw [List.take_length] at this
  exact this
/-- a whole round from any place has the same units -/
theorem round_any (ls : List Int) : ∀ r, Pk.pre ls r ls.length = Pk.pre ls 0 ls.length
  | 0 => rfl
  | r + 1 => by
    have ih := round_any ls r
    have e1 := Pk.pre_one (ls := ls) r ls.length
    have e2 : Pk.pre ls r (ls.length + 1) = Pk.pre ls r ls.length + Pk.lenAt ls (r + ls.length) := rfl
    have e3 : Pk.lenAt ls (r + ls.length) = Pk.lenAt ls r := Pk.len_mod (Nat.add_mod_right r ls.length)
    omega
theorem rounds (ls : List Int) (r : Nat) : ∀ q, Pk.pre ls r (q * ls.length) = q * ls.sum
  | 0 => by simp [Pk.pre]
  | q + 1 => by
    rw [Nat.succ_mul, Pk.pre_add, rounds ls r q, round_any, ← sum_round, Int.natCast_add, Int.add_mul]
    simp
/-- the first rows of the first heap pages -/
abbrev stV (ls : List Int) (sz : Int) (i : Nat) : V := .int (Pk.st ls sz i : Nat)
/-- what page_with and start_of lean on: the four fields of a Packing at a -/
structure PkF (K : PySem.W.Frag) (H : Hp) (a : Addr) (ls : List Int) (sz : Int) (j k : Nat) (lp dx : Addr) (fs : List (Str × V)) : Prop where
  at_ : H a = some (.ins (He.ga K "Packing") dx fs)
  l1 : fs.lookup ("_starts" : Str) = some (.ref lp)
  l2 : fs.lookup ("_first" : Str) = some (.int j)
  l3 : fs.lookup ("_pages" : Str) = some (.int (k - j : Nat))
  l4 : fs.lookup ("_rows" : Str) = some (.int (Pk.rws ls sz j k : Nat))
  l5 : fs.lookup ("page_with" : Str) = none
  l6 : fs.lookup ("start_of" : Str) = none
  lst : H lp = some (.lst (tabL (stV ls sz) (k + 1)))
  cyc : Pk.Cyc ls sz j k
  ok : LensOk ls sz
theorem PkF.small {K : PySem.W.Frag} {H : Hp} {a lp dx : Addr} {ls : List Int} {sz : Int} {j k : Nat} {fs : List (Str × V)} (F : PkF K H a ls sz j k lp dx fs) : k ≤ 6 ∧ Pk.st ls sz k ≤ 400 := by
  have o := F.ok.pk
  have h1 := F.cyc.le o
  have h2 := F.ok.l6
  have h3 := Pk.st_up o k
  have h4 := F.ok.r64
  have h5 : (k : Int) * sz ≤ 6 * 64 := by
    have a1 : (k : Int) * sz ≤ k * 64 := Int.mul_le_mul_of_nonneg_left h4 (by omega)
    have a2 : (k : Int) * 64 ≤ 6 * 64 := Int.mul_le_mul_of_nonneg_right (by omega) (by omega)
    omega
  omega
theorem PkF.same {K : PySem.W.Frag} {H H' : Hp} {a lp dx : Addr} {ls : List Int} {sz : Int} {j k : Nat} {fs : List (Str × V)} (F : PkF K H a ls sz j k lp dx fs) (s : Same H H') : PkF K H' a ls sz j k lp dx fs :=
  { F with at_ := s _ _ F.at_, lst := s _ _ F.lst }
/-- a Packing at a, of the settings at s -/
def PackAt (K : PySem.W.Frag) (H : Hp) (a s : Addr) (ls : List Int) (sz : Int) : Prop := ∃ (dx lp : Addr) (j k last : Nat), PkF K H a ls sz j k lp dx [("_settings", .ref s), ("_starts", .ref lp), ("_first", .int j), ("_pages", .int (k - j : Nat)), ("_rows", .int (Pk.rws ls sz j k : Nat)), ("_last", .int last)] ∧ Pk.On ls sz last (10 ^ 30 - 1) ∧
  ∃ dy t fo re ev ke, H s = some (.ins (He.ga K "Settings") dy (setF t sz fo re ev ke)) ∧ H t = some (.tup (ls.map V.int))
theorem PackAt.same {K : PySem.W.Frag} {H H' : Hp} {a x : Addr} {ls : List Int} {sz : Int} (h : PackAt K H a x ls sz) (s : Same H H') : PackAt K H' a x ls sz := by
  obtain ⟨dx, lp, j, k, last, F, on, dy, t, fo, re, ev, ke, h1, h2⟩ := h
  exact ⟨dx, lp, j, k, last, F.same s, on, dy, t, fo, re, ev, ke, s _ _ h1, s _ _ h2⟩
theorem pre_ahead (ls : List Int) (h : 1 ≤ ls.length) (r : Nat) : Pk.pre ls 0 r = ((r / ls.length : Nat) : Int) * ls.sum + (ls.take (r % ls.length)).sum := by
  have lt : r % ls.length < ls.length := Nat.mod_lt _ h
  have e : Pk.pre ls 0 (r / ls.length * ls.length + r % ls.length) = Pk.pre ls 0 (r / ls.length * ls.length) + Pk.pre ls (0 + r / ls.length * ls.length) (r % ls.length) := Pk.pre_add 0 _ _
  rw [Nat.mul_comm (r / ls.length), Nat.div_add_mod r, Nat.mul_comm ls.length] at e
  have e2 : Pk.pre ls (0 + r / ls.length * ls.length) (r % ls.length) = Pk.pre ls 0 (r % ls.length) := Pk.pre_mod (by simp) _
  rw [e, rounds, e2, sum_pre ls _ (Nat.le_of_lt lt)]
/-- what the units between two rows are -/
theorem pre_span (ls : List Int) (r n : Nat) : Pk.pre ls 0 (r + n) - Pk.pre ls 0 r = Pk.pre ls r n := by
  have := Pk.pre_add (ls := ls) 0 r n
  rw [Nat.zero_add] at this
  omega
/-- pages begun at a moment -/
def Bg (ls : List Int) (sz : Int) (r b : Nat) : Prop := (r = 0 ∧ b = 0) ∨ (0 < r ∧ ∃ m, Pk.On ls sz m (r - 1) ∧ b = m + 1)
theorem bg_ex {ls : List Int} {sz : Int} (o : Pk.Ok ls sz) (r : Nat) : ∃ b, Bg ls sz r b := by
  rcases Nat.eq_zero_or_pos r with z | z
  · exact ⟨0, .inl ⟨z, rfl⟩⟩
  · obtain ⟨m, h⟩ := Pk.on_ex o (r - 1)
    exact ⟨m + 1, .inr ⟨z, m, h, rfl⟩⟩
theorem bg_start {ls : List Int} {sz : Int} (o : Pk.Ok ls sz) (m : Nat) : Bg ls sz (Pk.st ls sz m) m := by
  rcases m with _ | m
  · exact .inl ⟨rfl, rfl⟩
  · have h := Pk.st_lt o m
    exact .inr ⟨by omega, m, ⟨by omega, by omega⟩, rfl⟩
/-- the dict of the parts of settings -/
def parD (q : Addr) (sz fo re ev ke : Int) : List (Key × V) := [(.inr "lengths", .ref q), (.inr "size", .int sz), (.inr "fanout", .int fo), (.inr "records", .int re), (.inr "every", .int ev), (.inr "keep", .int ke)]
structure PD (H : Hp) (p q : Addr) (ls : List Int) (sz fo re ev ke : Int) : Prop where
  d : H p = some (.dK (parD q sz fo re ev ke))
  l : H q = some (.lst (ls.map V.int))
theorem PD.same {H H' : Hp} {p q : Addr} {ls : List Int} {sz fo re ev ke : Int} (h : PD H p q ls sz fo re ev ke) (s : Same H H') : PD H' p q ls sz fo re ev ke := ⟨s _ _ h.d, s _ _ h.l⟩
theorem pd_l {q : Addr} {sz fo re ev ke : Int} : valV (parD q sz fo re ev ke) (Sum.inr "lengths") = some (.ref q) := rfl
theorem pd_s {q : Addr} {sz fo re ev ke : Int} : valV (parD q sz fo re ev ke) (Sum.inr "size") = some (.int sz) := rfl
theorem pd_f {q : Addr} {sz fo re ev ke : Int} : valV (parD q sz fo re ev ke) (Sum.inr "fanout") = some (.int fo) := rfl
theorem pd_r {q : Addr} {sz fo re ev ke : Int} : valV (parD q sz fo re ev ke) (Sum.inr "records") = some (.int re) := rfl
theorem pd_e {q : Addr} {sz fo re ev ke : Int} : valV (parD q sz fo re ev ke) (Sum.inr "every") = some (.int ev) := rfl
theorem pd_k {q : Addr} {sz fo re ev ke : Int} : valV (parD q sz fo re ev ke) (Sum.inr "keep") = some (.int ke) := rfl
/-- drawn digits -/
structure Dg (H : Hp) (p : Addr) (ds : List Int) : Prop where
  l : H p = some (.lst (ds.map V.int))
  n : ds.length = 40
  b : ∀ d ∈ ds, 0 ≤ d ∧ d < 1009
theorem Dg.same {H H' : Hp} {p : Addr} {ds : List Int} (h : Dg H p ds) (s : Same H H') : Dg H' p ds := ⟨s _ _ h.l, h.n, h.b⟩
theorem Dg.at_ {H : Hp} {p : Addr} {ds : List Int} (h : Dg H p ds) {z : Int} (h0 : 0 ≤ z) (h1 : z < 40) : atI (ds.map V.int) z = some (.int (ds.getD z.toNat 0)) := by
  refine at_of (j := z.toNat) (by omega) ?_
  have hz : z.toNat < ds.length := by rw [h.n]; omega
  rw [List.getElem?_map, List.getD_eq_getElem?_getD, List.getElem?_eq_getElem hz]
  rfl
theorem Dg.bd {H : Hp} {p : Addr} {ds : List Int} (h : Dg H p ds) (j : Nat) : 0 ≤ ds.getD j 0 ∧ ds.getD j 0 < 1009 := by
  rw [List.getD_eq_getElem?_getD]
  cases e : ds[j]? with
  | none => exact ⟨Int.le_refl _, by show (0 : Int) < 1009; decide⟩
  | some v => exact h.b v (List.mem_of_getElem? e)
theorem two_at {a b z : Int} (h0 : 0 ≤ z) (h1 : z < 2) : ∃ v, (v = a ∨ v = b) ∧ atI [V.int a, V.int b] z = some (.int v) := by
  rcases (show z = 0 ∨ z = 1 by omega) with rfl | rfl
  · exact ⟨a, .inl rfl, rfl⟩
  · exact ⟨b, .inr rfl, rfl⟩
/-- the page of a row -/
def pg (ls : List Int) (sz : Int) : Nat → Nat
  | 0 => 0
  | r + 1 => if r + 1 < Pk.st ls sz (pg ls sz r + 1) then pg ls sz r else pg ls sz r + 1
theorem pg_on {ls : List Int} {sz : Int} (o : Pk.Ok ls sz) : ∀ r, Pk.On ls sz (pg ls sz r) r
  | 0 => ⟨Nat.le_refl _, by
      have := Pk.st_lt o 0
      have e : Pk.st ls sz 0 = 0 := rfl
      show 0 < Pk.st ls sz (0 + 1)
      omega⟩
  | r + 1 => by
    obtain ⟨h1, h2⟩ := pg_on o r
    unfold pg
    split
    · exact ⟨by omega, by assumption⟩
    · exact ⟨by omega, by have := Pk.st_lt o (pg ls sz r + 1); omega⟩
theorem pg_is {ls : List Int} {sz : Int} (o : Pk.Ok ls sz) {m r : Nat} (h : Pk.On ls sz m r) : pg ls sz r = m := (pg_on o r).inj o h
theorem pg_st {ls : List Int} {sz : Int} (o : Pk.Ok ls sz) (m : Nat) : pg ls sz (Pk.st ls sz m) = m := pg_is o ⟨Nat.le_refl _, Pk.st_lt o m⟩
theorem pg_pre {ls : List Int} {sz : Int} (o : Pk.Ok ls sz) (m : Nat) : pg ls sz (Pk.st ls sz (m + 1) - 1) = m := by
  have := Pk.st_lt o m
  exact pg_is o ⟨by omega, by omega⟩
theorem pg_mono {ls : List Int} {sz : Int} (o : Pk.Ok ls sz) {r s : Nat} (h : r ≤ s) : pg ls sz r ≤ pg ls sz s := (pg_on o r).mono o (pg_on o s) h
theorem pg_le {ls : List Int} {sz : Int} (o : Pk.Ok ls sz) (r : Nat) : pg ls sz r ≤ r := Nat.le_trans (Pk.st_ge o _) (pg_on o r).1
/-- how many pages have begun behind so many rows -/
def bg (ls : List Int) (sz : Int) (r : Nat) : Nat := if r = 0 then 0 else pg ls sz (r - 1) + 1
theorem bg_Bg {ls : List Int} {sz : Int} (o : Pk.Ok ls sz) (r : Nat) : Bg ls sz r (bg ls sz r) := by
  unfold bg
  split
  · exact .inl ⟨by assumption, rfl⟩
  · exact .inr ⟨by omega, _, pg_on o _, rfl⟩
/-- a page has begun just when it begins ahead -/
theorem bg_lt {ls : List Int} {sz : Int} (o : Pk.Ok ls sz) (r m : Nat) : m < bg ls sz r ↔ Pk.st ls sz m < r := by
  unfold bg
  split
  · omega
  · obtain ⟨h1, h2⟩ := pg_on o (r - 1)
    constructor
    · intro h
      have := Pk.st_le o (show m ≤ pg ls sz (r - 1) by omega)
      omega
    · intro h
      rcases Nat.lt_or_ge m (pg ls sz (r - 1) + 1) with z | z
      · exact z
      · have := Pk.st_le o z
        omega
theorem bg_le {ls : List Int} {sz : Int} (o : Pk.Ok ls sz) (r : Nat) : bg ls sz r ≤ r := by
  unfold bg
  split
  · omega
  · have := pg_le o (r - 1)
    omega
abbrev pgV (ls : List Int) (sz : Int) (i : Nat) : V := .int (pg ls sz i : Nat)
theorem hat_len {ls : List Int} {sz : Int} (o : Pk.Ok ls sz) (r : Nat) : atI (ls.map V.int) ((r : Int) % (ls.length : Int)) = some (V.int (Pk.lenAt ls r)) := by
  refine at_of (j := r % ls.length) (by push_cast; rfl) ?_
  rw [List.getElem?_map, Pk.len_at o r]
  rfl
/-- the first rows up to a row, of the first pages -/
theorem st_upto {ls : List Int} {sz : Int} (o : Pk.Ok ls sz) (near : Nat) : ∀ k, ((tabL (stV ls sz) (k + 1)).filter fun v => match v with | .int i => decide (i ≤ (near : Int)) | _ => false).length = min (k + 1) (pg ls sz near + 1) := by
  intro k
  induction k with
  | zero =>
    have : min (0 + 1) (pg ls sz near + 1) = 1 := by omega
    rw [this]
    rfl
  | succ k ih =>
    rw [tabL_succ, List.filter_append, List.length_append, ih]
    obtain ⟨h1, h2⟩ := pg_on o near
    by_cases h : k + 1 ≤ pg ls sz near
    · have a1 := Pk.st_le o h
      rw [List.filter_cons_of_pos (by show decide _ = true; exact decide_eq_true (by omega))]
      show min (k + 1) _ + 1 = _
      omega
    · have a1 := Pk.st_le o (show pg ls sz near + 1 ≤ k + 1 by omega)
      rw [List.filter_cons_of_neg (by show ¬ decide _ = true; simp; omega)]
      show min (k + 1) _ + 0 = _
      omega
/-- the heap pages of the rows from a to b - 1 -/
def kpt (ls : List Int) (sz : Int) (a b : Nat) : List V := if a = b then [] else rgV (pg ls sz a) (pg ls sz (b - 1) + 1 : Nat)
theorem kpt_pos {ls : List Int} {sz : Int} {a b : Nat} (h : a < b) : kpt ls sz a b = rgV (pg ls sz a) (pg ls sz (b - 1) + 1 : Nat) := if_neg (by omega)
theorem pw_lt {b i : Nat} (hb : b ≤ 8) (hi : i ≤ 150) : b ^ i < 2 ^ 451 := by
  refine Nat.lt_of_le_of_lt (Nat.pow_le_pow_left hb i) ?_
  refine Nat.lt_of_le_of_lt (Nat.pow_le_pow_right (by decide) hi) ?_
  exact Nat.lt_of_lt_of_le (show 8 ^ 150 < 2 ^ 451 by decide +kernel) (Nat.le_refl _)
theorem pw_log {b i : Nat} (hb : b ≤ 8) (hi : i ≤ 150) : ((b ^ i : Nat) : Int).natAbs.log2 < 451 := by
  rw [Int.natAbs_natCast]
  rcases Nat.eq_zero_or_pos (b ^ i) with z | z
  · rw [z]
    decide
  · exact (Nat.log2_lt (by omega)).mpr (pw_lt hb hi)
theorem wd_pos {f l : Nat} (h : 2 ≤ f) : 0 < f ^ l := Nat.pow_pos (by omega)
theorem wd_div {f l : Nat} (h2 : 2 ≤ f) (h8 : f ≤ 8) (hl : l ≤ 150) : CDivW 0 ((f ^ l : Nat) : Int) := wide_div (b := 451) (by have := wd_pos (l := l) h2; omega) (by have := pw_lt h8 hl; exact_mod_cast this) (by decide) (by decide)
theorem r_whN {tb : TS} {D : Ends} {Pv : Nat → L2.St → Hp → Prop} {m : Nat} {σ : L2.St} {H1 : Hp} {p : Prop} [Decidable p] (h1 : ¬ p → tb { D with nx := fun σ' H' => ∃ m', m' < m ∧ Pv m' σ' H', ct := fun σ' H' => ∃ m', m' < m ∧ Pv m' σ' H', bk := D.nx } σ H1) (h2 : p → D.nx σ H1) : rWh tb D Pv m σ (!decide p) H1 := by
  by_cases h : p
  · rw [decide_eq_true h]
    exact r_whF (h2 h)
  · rw [decide_eq_false h]
    exact r_whT (h1 h)
/-- the level of the first node that covers pages a to b -/
def IsRl (f a b L : Nat) : Prop := a / f ^ (L + 1) = b / f ^ (L + 1) ∧ ∀ l, l < L → a / f ^ (l + 1) ≠ b / f ^ (l + 1)
theorem least_ex (P : Nat → Prop) : ∀ n, P n → ∃ L, L ≤ n ∧ P L ∧ ∀ l, l < L → ¬ P l := by
  intro n
  induction n using Nat.strongRecOn with
  | ind n ih =>
    intro h
    by_cases z : ∃ l, l < n ∧ P l
    · obtain ⟨l, hl, hp⟩ := z
      obtain ⟨L, h1, h2, h3⟩ := ih l hl hp
      exact ⟨L, by omega, h2, h3⟩
    · exact ⟨n, Nat.le_refl _, h, fun l hl hp => z ⟨l, hl, hp⟩⟩
theorem rl_ex {f a b : Nat} (h2 : 2 ≤ f) (hab : a ≤ b) (hb : b < 10 ^ 40) : ∃ L, L ≤ 132 ∧ IsRl f a b L := by
  have z : b / f ^ (132 + 1) = 0 := Nat.div_eq_of_lt (Nat.lt_of_lt_of_le hb (Nat.le_trans (show 10 ^ 40 ≤ 2 ^ 133 by decide +kernel) (Nat.pow_le_pow_left h2 133)))
  have za : a / f ^ (132 + 1) = 0 := Nat.div_eq_of_lt (Nat.lt_of_le_of_lt hab (Nat.lt_of_lt_of_le hb (Nat.le_trans (show 10 ^ 40 ≤ 2 ^ 133 by decide +kernel) (Nat.pow_le_pow_left h2 133))))
  obtain ⟨L, h1, h2', h3⟩ := least_ex (fun L => a / f ^ (L + 1) = b / f ^ (L + 1)) 132 (za.trans z.symm)
  exact ⟨L, h1, h2', h3⟩
theorem IsRl.inj {f a b L M : Nat} (h : IsRl f a b L) (g : IsRl f a b M) : L = M := by
  rcases Nat.lt_trichotomy L M with z | z | z
  · exact absurd h.1 (g.2 L z)
  · exact z
  · exact absurd g.1 (h.2 M z)
/-- a node's tuple -/
def ndO (n : Nat × Nat) : HO := .tup [.int (n.1 : Nat), .int (n.2 : Nat)]
/-- a list of nodes -/
structure NdL (H : Hp) (vs : List V) (ns : List (Nat × Nat)) : Prop where
  len : vs.length = ns.length
  at_ : ∀ (i : Nat) (n : Nat × Nat), ns[i]? = some n → ∃ t, vs[i]? = some (V.ref t) ∧ H t = some (ndO n)
theorem NdL.nil {H : Hp} : NdL H [] [] := ⟨rfl, fun i n h => by simp at h⟩
theorem NdL.keep {H H' : Hp} {vs : List V} {ns : List (Nat × Nat)} (h : NdL H vs ns) (s : ∀ b xs, H b = some (.tup xs) → H' b = some (.tup xs)) : NdL H' vs ns := ⟨h.len, fun i n e => by
  obtain ⟨t, h1, h2⟩ := h.at_ i n e
  exact ⟨t, h1, s _ _ h2⟩⟩
theorem NdL.same {H H' : Hp} {vs : List V} {ns : List (Nat × Nat)} (h : NdL H vs ns) (s : Same H H') : NdL H' vs ns := h.keep fun b xs e => s b _ e
theorem NdL.app {H : Hp} {vs ws : List V} {ns ms : List (Nat × Nat)} (h : NdL H vs ns) (g : NdL H ws ms) : NdL H (vs ++ ws) (ns ++ ms) := by
  refine ⟨by rw [List.length_append, List.length_append, h.len, g.len], fun i n e => ?_⟩
  rcases Nat.lt_or_ge i ns.length with z | z
  · rw [List.getElem?_append_left z] at e
    obtain ⟨t, h1, h2⟩ := h.at_ i n e
    exact ⟨t, by rw [List.getElem?_append_left (by rw [h.len]; exact z)]; exact h1, h2⟩
  · rw [List.getElem?_append_right z] at e
    obtain ⟨t, h1, h2⟩ := g.at_ _ n e
    exact ⟨t, by rw [List.getElem?_append_right (by rw [h.len]; exact z), h.len]; exact h1, h2⟩
theorem NdL.one {H : Hp} {t : Addr} {n : Nat × Nat} (h : H t = some (ndO n)) : NdL H [.ref t] [n] := ⟨rfl, fun i m e => by
  cases i with
  | zero => cases e; exact ⟨t, rfl, h⟩
  | succ k => simp at e⟩
/-- the numbers of a level's nodes, the nodes of a level, of the tree -/
def lvN (f a b l : Nat) : Nat := b / f ^ (l + 1) + 1 - a / f ^ (l + 1)
def lvR (f a b l : Nat) : List (Nat × Nat) := (List.range (lvN f a b l)).map fun k => (l, a / f ^ (l + 1) + k)
def nds (f a b L : Nat) : List (Nat × Nat) := (List.range (L + 1)).flatMap (lvR f a b)
theorem lvN_le {f a b l : Nat} (h2 : 2 ≤ f) (h : b ≤ a + 300) : lvN f a b l ≤ 302 := by
  unfold lvN
  have hp : 0 < f ^ (l + 1) := wd_pos h2
  have : b / f ^ (l + 1) ≤ (a + 300 * f ^ (l + 1)) / f ^ (l + 1) := Nat.div_le_div_right (Nat.le_trans h (Nat.add_le_add_left (Nat.le_mul_of_pos_right _ hp) _))
  rw [Nat.add_mul_div_right _ _ hp] at this
  omega
theorem flat_len {f a b : Nat} (h2 : 2 ≤ f) (h : b ≤ a + 300) : ∀ i, ((List.range i).flatMap (lvR f a b)).length ≤ 302 * i
  | 0 => by simp
  | i + 1 => by
    have ih := flat_len h2 h i
    have := lvN_le (l := i) h2 h
    rw [List.range_succ, List.flatMap_append, List.length_append, List.flatMap_singleton]
    unfold lvR at ih ⊢
    rw [List.length_map, List.length_range]
    omega
theorem flat_succ {f a b i : Nat} : (List.range (i + 1)).flatMap (lvR f a b) = (List.range i).flatMap (lvR f a b) ++ lvR f a b i := by
  rw [List.range_succ, List.flatMap_append, List.flatMap_singleton]
/-- the first heap page of the newest rows, and the one behind them -/
def lvA (ls : List Int) (sz ke : Int) (M : Nat) : Nat := if M = 0 then 0 else pg ls sz (M - ke.toNat)
def lvZ (ls : List Int) (sz : Int) (M : Nat) : Nat := if M = 0 then 0 else pg ls sz (M - 1) + 1
theorem lv_lt {ls : List Int} {sz ke : Int} (o : Pk.Ok ls sz) (k1 : 1 ≤ ke) {M : Nat} (h : M ≠ 0) : lvA ls sz ke M < lvZ ls sz M := by
  unfold lvA lvZ
  rw [if_neg h, if_neg h]
  have := pg_mono o (show M - ke.toNat ≤ M - 1 by omega)
  omega
theorem lv_le {ls : List Int} {sz : Int} (o : Pk.Ok ls sz) (M : Nat) : lvZ ls sz M ≤ M := by
  unfold lvZ
  split
  · omega
  · have := pg_le o (M - 1)
    omega
theorem pg_one (ls : List Int) (sz : Int) (r : Nat) : pg ls sz (r + 1) ≤ pg ls sz r + 1 := by
  show (if r + 1 < Pk.st ls sz (pg ls sz r + 1) then pg ls sz r else pg ls sz r + 1) ≤ _
  split <;> omega
theorem pg_step (ls : List Int) (sz : Int) (r : Nat) : ∀ n, pg ls sz (r + n) ≤ pg ls sz r + n
  | 0 => Nat.le_refl _
  | n + 1 => by
    have ih := pg_step ls sz r n
    have := pg_one ls sz (r + n)
    rw [show r + (n + 1) = (r + n) + 1 by omega]
    omega
theorem lv_near {ls : List Int} {sz ke : Int} (k1 : 1 ≤ ke) {M : Nat} (h : M ≠ 0) : lvZ ls sz M - 1 ≤ lvA ls sz ke M + ke.toNat := by
  unfold lvA lvZ
  rw [if_neg h, if_neg h]
  have := pg_step ls sz (M - ke.toNat) (M - 1 - (M - ke.toNat))
  rw [show M - ke.toNat + (M - 1 - (M - ke.toNat)) = M - 1 by omega] at this
  omega
theorem log_lt {n : Nat} (h : n < 2 ^ 500) : ((n : Nat) : Int).natAbs.log2 < 500 := by
  rw [Int.natAbs_natCast]
  rcases Nat.eq_zero_or_pos n with z | z
  · rw [z]
    decide
  · exact (Nat.log2_lt (by omega)).mpr h
theorem mulW_ok {a b : Nat} (h : a < 2 ^ 500) (g : b < 2 ^ 500) : CMulW (a : Int) (b : Int) := by
  have := log_lt h
  have := log_lt g
  show _ + _ < 1000000
  omega
theorem w500 {f l : Nat} (h8 : f ≤ 8) (hl : l ≤ 150) : f ^ l < 2 ^ 500 := Nat.lt_trans (pw_lt h8 hl) (by decide +kernel)
theorem i500 {n : Nat} (h : n ≤ 10 ^ 31) : n < 2 ^ 500 := Nat.lt_of_le_of_lt h (by decide +kernel)
theorem int30 {n : Nat} (h : n ≤ 10 ^ 30) : (n : Int) ≤ 1000000000000000000000000000000 := Int.ofNat_le.mpr h
/-- the first child of node i of level l, and how many there are -/
def chA (fo A l i : Nat) : Nat := max (i * fo) (A / fo ^ l)
def chN (fo A B l i : Nat) : Nat := min (i * fo + fo - 1) (B / fo ^ l) + 1 - chA fo A l i
theorem chA_int {A fo l i : Nat} : (if (A : Int) / ((fo ^ l : Nat) : Int) > (i : Int) * (fo : Int) then (A : Int) / ((fo ^ l : Nat) : Int) else (i : Int) * (fo : Int)) = ((chA fo A l i : Nat) : Int) := by
  rw [show (A : Int) / ((fo ^ l : Nat) : Int) = ((A / fo ^ l : Nat) : Int) from rfl, ← Int.natCast_mul]
  unfold chA
  generalize A / fo ^ l = x
  generalize i * fo = y
  split <;> omega
theorem chM_int {B fo l i : Nat} (h : 1 ≤ fo) : (if (B : Int) / ((fo ^ l : Nat) : Int) < (i : Int) * (fo : Int) + (fo : Int) - 1 then (B : Int) / ((fo ^ l : Nat) : Int) else (i : Int) * (fo : Int) + (fo : Int) - 1) = ((min (i * fo + fo - 1) (B / fo ^ l) : Nat) : Int) := by
  rw [show (B : Int) / ((fo ^ l : Nat) : Int) = ((B / fo ^ l : Nat) : Int) from rfl, ← Int.natCast_mul]
  generalize B / fo ^ l = x
  generalize i * fo = y
  split <;> omega
theorem chA_le {fo A l i : Nat} (h8 : fo ≤ 8) (hi : i ≤ 10 ^ 8) (hA : A ≤ 10 ^ 9) : chA fo A l i ≤ 10 ^ 9 := by
  unfold chA
  have h1 := Nat.div_le_self A (fo ^ l)
  have h2 := Nat.mul_le_mul hi h8
  omega
theorem chN_le {fo A B l i : Nat} (h8 : fo ≤ 8) : chN fo A B l i ≤ 8 := by
  unfold chN chA
  generalize A / fo ^ l = x
  generalize B / fo ^ l = z
  generalize i * fo = y
  omega
/-! the mathematics of heights -/
theorem st_on {ls : List Int} {sz : Int} (o : Pk.Ok ls sz) : ∀ r, Pk.st ls sz (pg ls sz r) ≤ r ∧ r < Pk.st ls sz (pg ls sz r + 1) := fun r => pg_on o r
theorem rl_any {f a b : Nat} (h2 : 2 ≤ f) : ∃ L, IsRl f a b L := by
  have z : ∀ x, x ≤ a + b → x / f ^ (a + b + 1) = 0 := fun x hx => Nat.div_eq_of_lt (Nat.lt_of_le_of_lt (Nat.le_succ_of_le hx) (Nat.lt_pow_self (by omega)))
  obtain ⟨L, _, h1, h3⟩ := least_ex (fun L => a / f ^ (L + 1) = b / f ^ (L + 1)) (a + b) ((z a (by omega)).trans (z b (by omega)).symm)
  exact ⟨L, h1, h3⟩
section
variable {ls : List Int} {sz ke : Int} {fo M : Nat}
open Classical in
/-- the height behind M rows -/
noncomputable def htM (ls : List Int) (sz ke : Int) (fo M : Nat) : Nat := if M = 0 then 0 else if h : ∃ L, IsRl fo (lvA ls sz ke M) (lvZ ls sz M - 1) L then Classical.choose h + 1 else 0
theorem htM_zero : htM ls sz ke fo 0 = 0 := if_pos rfl
theorem htM_rl {L : Nat} (M0 : M ≠ 0) (h : IsRl fo (lvA ls sz ke M) (lvZ ls sz M - 1) L) : htM ls sz ke fo M = L + 1 := by
  have ex : ∃ L, IsRl fo (lvA ls sz ke M) (lvZ ls sz M - 1) L := ⟨L, h⟩
  unfold htM
  rw [if_neg M0, dif_pos ex, (Classical.choose_spec ex).inj h]
theorem htM_ex (f2 : 2 ≤ fo) (M0 : M ≠ 0) : ∃ L, IsRl fo (lvA ls sz ke M) (lvZ ls sz M - 1) L ∧ htM ls sz ke fo M = L + 1 := by
  obtain ⟨L, h⟩ := rl_any (a := lvA ls sz ke M) (b := lvZ ls sz M - 1) f2
  exact ⟨L, h, htM_rl M0 h⟩
theorem htM_pos (f2 : 2 ≤ fo) (M0 : M ≠ 0) : 1 ≤ htM ls sz ke fo M := by
  obtain ⟨L, _, e⟩ := htM_ex (ls := ls) (sz := sz) (ke := ke) f2 M0
  omega
theorem htM_le (o : Pk.Ok ls sz) (k1 : 1 ≤ ke) (f2 : 2 ≤ fo) (hM : M < 10 ^ 40) : htM ls sz ke fo M ≤ 134 := by
  by_cases M0 : M = 0
  · rw [M0, htM_zero]
    omega
  · have lt := lv_lt o k1 M0
    have le := lv_le (sz := sz) o M
    obtain ⟨L, hL, hr⟩ := rl_ex (a := lvA ls sz ke M) (b := lvZ ls sz M - 1) f2 (by omega) (by omega)
    rw [htM_rl M0 hr]
    omega
theorem htM_le100 (o : Pk.Ok ls sz) (k1 : 1 ≤ ke) (f2 : 2 ≤ fo) (hM : M ≤ 10 ^ 30) : htM ls sz ke fo M ≤ 100 := by
  by_cases M0 : M = 0
  · rw [M0, htM_zero]
    omega
  · have lt := lv_lt o k1 M0
    have le := lv_le (sz := sz) o M
    obtain ⟨L, hr, e⟩ := htM_ex (ls := ls) (sz := sz) (ke := ke) f2 M0
    rw [e]
    refine Nat.le_of_not_lt fun z => hr.2 99 (by omega) ?_
    have p1 : 2 ^ 100 ≤ fo ^ (99 + 1) := Nat.pow_le_pow_left f2 100
    have p2 : (10 : Nat) ^ 30 < 2 ^ 100 := by decide +kernel
    rw [Nat.div_eq_of_lt (by omega), Nat.div_eq_of_lt (by omega)]
theorem ht_hi (o : Pk.Ok ls sz) (k1 : 1 ≤ ke) (f2 : 2 ≤ fo) (M1 : 1 ≤ M) {l : Nat} (l1 : 1 ≤ l) : l < htM ls sz ke fo M ↔ Hm.Hi (Pk.st ls sz) (pg ls sz) (fo ^ l) (ke.toNat - 1) M := by
  obtain ⟨L, hr, e⟩ := htM_ex (ls := ls) (sz := sz) (ke := ke) f2 (show M ≠ 0 by omega)
  have h1 := Hm.level_iff (f := fo) hr l1
  have h2 := Hm.hi_iff (Pk.st_lt o) rfl (st_on o) (wd_pos (l := l) f2) (keep := ke.toNat) (M := M) (by omega) M1
  rw [e, h2]
  unfold lvA lvZ at h1
  rw [if_neg (by omega), if_neg (by omega), Nat.add_sub_cancel] at h1
  exact Nat.lt_succ_iff.trans h1
/-- below m rows: how many heights are above the level -/
noncomputable def cntH (ls : List Int) (sz ke : Int) (fo l m : Nat) : Nat := ((List.range m).filter fun M => decide (l < htM ls sz ke fo M)).length
theorem cntH_zero (f2 : 2 ≤ fo) : ∀ m, cntH ls sz ke fo 0 m = m - 1
  | 0 => rfl
  | m + 1 => by
    have ih := cntH_zero f2 m
    unfold cntH at ih ⊢
    rw [List.range_succ, List.filter_append, List.length_append, ih]
    by_cases z : m = 0
    · subst z
      rw [List.filter_cons_of_neg (by rw [htM_zero]; simp)]
      rfl
    · have := htM_pos (ls := ls) (sz := sz) (ke := ke) f2 z
      rw [List.filter_cons_of_pos (by rw [decide_eq_true_iff]; omega)]
      show m - 1 + 1 = m + 1 - 1
      omega
theorem cntH_abv (o : Pk.Ok ls sz) (k1 : 1 ≤ ke) (f2 : 2 ≤ fo) {l : Nat} (l1 : 1 ≤ l) (m : Nat) : cntH ls sz ke fo l m = Hm.abv (Pk.st ls sz) (pg ls sz) (fo ^ l) (ke.toNat - 1) m := by
  rw [Hm.abv_count (Pk.st_lt o) rfl (st_on o)]
  unfold cntH
  congr 1
  refine List.filter_congr fun M _ => ?_
  refine decide_eq_decide.mpr ?_
  by_cases M0 : M = 0
  · rw [M0, htM_zero]
    constructor
    · intro h
      omega
    · intro h
      exact absurd rfl h.1
  · rw [ht_hi o k1 f2 (by omega) l1]
    exact ⟨fun h => ⟨M0, h⟩, fun h => h.2⟩
theorem S_congr_lt {g h : Nat → Nat} : ∀ n, (∀ k, k < n → g k = h k) → Hm.S g n = Hm.S h n
  | 0, _ => rfl
  | n + 1, e => by
    show Hm.S g n + g n = Hm.S h n + h n
    rw [S_congr_lt n (fun k hk => e k (by omega)), e n (by omega)]
theorem S_tail (c : Nat → Nat) (a : Nat) : ∀ n, Hm.S c (a + n) = Hm.S c a + Hm.S (fun t => c (a + t)) n
  | 0 => rfl
  | n + 1 => by
    show Hm.S c (a + n) + c (a + n) = Hm.S c a + (Hm.S (fun t => c (a + t)) n + c (a + n))
    rw [S_tail c a n]
    omega
theorem S_mul (g : Nat → Nat) (k : Nat) : ∀ n, Hm.S (fun t => g t * k) n = Hm.S g n * k
  | 0 => by
    show 0 = 0 * k
    rw [Nat.zero_mul]
  | n + 1 => by
    show Hm.S (fun t => g t * k) n + g n * k = (Hm.S g n + g n) * k
    rw [S_mul g k n, Nat.add_mul]
theorem sum_T {T m : Nat} (hT : ∀ M, M < m → htM ls sz ke fo M ≤ T) : Hm.S (htM ls sz ke fo) m = Hm.S (fun l => cntH ls sz ke fo l m) T := by
  have h := Hm.sum_levels (hgt := fun M => if M < m then htM ls sz ke fo M else 0) (T := T) (fun M => by
    by_cases z : M < m
    · show (if M < m then _ else _) ≤ T
      rw [if_pos z]
      exact hT M z
    · show (if M < m then _ else _) ≤ T
      rw [if_neg z]
      omega) m
  rw [S_congr_lt (g := htM ls sz ke fo) (h := fun M => if M < m then htM ls sz ke fo M else 0) m (fun k hk => by show _ = if k < m then _ else _; rw [if_pos hk]), h]
  refine Hm.S_congr (fun l => ?_) T
  unfold cntH
  congr 1
  refine List.filter_congr fun M hM => ?_
  rw [if_pos (List.mem_range.mp hM)]
theorem div_zero_up {x f a b : Nat} (h2 : 2 ≤ f) (h : x / f ^ a = 0) (ab : a ≤ b) : x / f ^ b = 0 := by
  rcases Nat.div_eq_zero_iff.mp h with z | z
  · have := wd_pos (l := a) h2
    omega
  · exact Nat.div_eq_of_lt (Nat.lt_of_lt_of_le z (Nat.pow_le_pow_right (by omega) ab))
/-- what sum_below comes to -/
theorem ht_sum (f2 : 2 ≤ fo) {m a n page most T : Nat} (hT : ∀ M, M < m → htM ls sz ke fo M ≤ T) (hr : ∀ l, a ≤ l → cntH ls sz ke fo l m = page / fo ^ l * most) (hz : page / fo ^ (a + n) = 0) :
    Hm.S (htM ls sz ke fo) m = Hm.S (fun l => cntH ls sz ke fo l m) a + Hm.S (fun t => page / fo ^ (a + t)) n * most := by
  have h := sum_T (ls := ls) (sz := sz) (ke := ke) (fo := fo) (T := a + (n + T)) (m := m) (fun M hM => by have := hT M hM; omega)
  rw [h, S_tail, Hm.S_congr (g := fun t => cntH ls sz ke fo (a + t) m) (h := fun t => page / fo ^ (a + t) * most) (fun t => hr (a + t) (by omega)), S_mul, S_tail]
  rw [Hm.S_congr (g := fun t => page / fo ^ (a + (n + t))) (h := fun _ => 0) (fun t => div_zero_up f2 hz (by omega)), Hm.S_const (c := 0) (fun _ => rfl), Nat.mul_zero, Nat.add_zero]
/-- the sum of heights if a page is kept alone -/
theorem ht_sum1 (o : Pk.Ok ls sz) (f2 : 2 ≤ fo) (k1 : ke = 1) (m : Nat) : Hm.S (htM ls sz ke fo) m = m - 1 := by
  have h1 : ∀ M, M < m → htM ls sz ke fo M ≤ 1 := fun M _ => by
    by_cases M0 : M = 0
    · rw [M0, htM_zero]
      omega
    · refine Nat.le_of_not_lt fun z => ?_
      have := (ht_hi o (by omega) f2 (by omega) (l := 1) (Nat.le_refl _)).mp z
      unfold Hm.Hi at this
      have h2 := (st_on o (M - 1)).1
      have h3 := Pk.st_le o (Nat.div_mul_le_self (pg ls sz (M - 1)) (fo ^ 1))
      rw [k1] at this
      have h4 : ((1 : Int).toNat - 1) = 0 := rfl
      omega
  rw [sum_T h1]
  show 0 + cntH ls sz ke fo 0 m = m - 1
  rw [cntH_zero f2, Nat.zero_add]
/-- on far levels no height is above -/
theorem cnt_far (o : Pk.Ok ls sz) (k1 : 1 ≤ ke) (f2 : 2 ≤ fo) {l m : Nat} (l1 : 1 ≤ l) (hp : pg ls sz (m - 2) < fo ^ l) : cntH ls sz ke fo l m = 0 := by
  rw [cntH_abv o k1 f2 l1]
  unfold Hm.abv
  split
  · rfl
  · rw [if_pos (Nat.div_eq_of_lt hp)]
end
theorem PackAt.butD {K : PySem.W.Frag} {H H' : Hp} {a x d : Addr} {ls : List Int} {sz : Int} {kvs : List (Key × V)} (h : PackAt K H a x ls sz) (e : H d = some (.dK kvs)) (s : But d H H') : PackAt K H' a x ls sz := by
  obtain ⟨dx, lp, j, k, last, F, on, dy, t, fo, re, ev, ke, h1, h2⟩ := h
  have n : ∀ {b o}, H b = some o → (∀ kvs, o ≠ .dK kvs) → H' b = some o := fun hb ho => s _ _ (fun z => by rw [z, e] at hb; injection hb with hb; exact ho _ hb.symm) hb
  exact ⟨dx, lp, j, k, last, { F with at_ := n F.at_ (by intro _ z; cases z), lst := n F.lst (by intro _ z; cases z) }, on, dy, t, fo, re, ev, ke, n h1 (by intro _ z; cases z), n h2 (by intro _ z; cases z)⟩
theorem PackAt.but0 {K : PySem.W.Frag} {H H' : Hp} {a x d C dx0 : Addr} {ls : List Int} {sz : Int} (h : PackAt K H a x ls sz) (e : H d = some (.ins C dx0 [])) (s : But d H H') : PackAt K H' a x ls sz := by
  obtain ⟨dx, lp, j, k, last, F, on, dy, t, fo, re, ev, ke, h1, h2⟩ := h
  have n : ∀ {b o}, H b = some o → (∀ C dx, o ≠ .ins C dx []) → H' b = some o := fun hb ho => s _ _ (fun z => by rw [z, e] at hb; injection hb with hb; exact ho _ _ hb.symm) hb
  exact ⟨dx, lp, j, k, last, { F with at_ := n F.at_ (by intro _ _ z; cases z), lst := n F.lst (by intro _ _ z; cases z) }, on, dy, t, fo, re, ev, ke, n h1 (by intro _ _ z; simp [setF] at z), n h2 (by intro _ _ z; cases z)⟩
/-- the sums of the gaps of a step, at g -/
def GapAt (K : PySem.W.Frag) (H : Hp) (g : Addr) (ls : List Int) (sz : Int) (step most : Nat) : Prop := ∃ (dx l : Addr) (j k : Nat), Pk.Cyc ls sz j k ∧ k ≤ 6 ∧ H g = some (.ins (He.ga K "Gaps") dx [("_near", .int (j / step : Nat)), ("_period", .int ((k - j) / Nat.gcd (k - j) step : Nat)), ("_sums", .ref l)]) ∧
  H l = some (.lst (tabL (fun i => .int (Hm.S (Hm.gap ls sz step most) i : Nat)) (j / step + (k - j) / Nat.gcd (k - j) step + 1)))
theorem GapAt.same {K : PySem.W.Frag} {H H' : Hp} {g : Addr} {ls : List Int} {sz : Int} {step most : Nat} (h : GapAt K H g ls sz step most) (s : Same H H') : GapAt K H' g ls sz step most := by
  obtain ⟨dx, l, j, k, c, k6, h1, h2⟩ := h
  exact ⟨dx, l, j, k, c, k6, s _ _ h1, s _ _ h2⟩
theorem GapAt.butD {K : PySem.W.Frag} {H H' : Hp} {g d : Addr} {ls : List Int} {sz : Int} {step most : Nat} {kvs : List (Key × V)} (h : GapAt K H g ls sz step most) (e : H d = some (.dK kvs)) (s : But d H H') : GapAt K H' g ls sz step most := by
  obtain ⟨dx, l, j, k, c, k6, h1, h2⟩ := h
  have n : ∀ {b o}, H b = some o → (∀ kvs, o ≠ .dK kvs) → H' b = some o := fun hb ho => s _ _ (fun z => by rw [z, e] at hb; injection hb with hb; exact ho _ hb.symm) hb
  exact ⟨dx, l, j, k, c, k6, n h1 (by intro _ z; cases z), n h2 (by intro _ z; cases z)⟩
theorem per_pos {j k step : Nat} (h : j < k) : 1 ≤ (k - j) / Nat.gcd (k - j) step := by
  have g := Nat.gcd_pos_of_pos_left step (show 0 < k - j by omega)
  exact (Nat.le_div_iff_mul_le g).mpr (by rw [Nat.one_mul]; exact Nat.le_of_dvd (by omega) (Nat.gcd_dvd_left _ _))
/-- Heights at h, with the dict of its gaps at d -/
def HeAt (K : PySem.W.Frag) (H : Hp) (h d : Addr) (ls : List Int) (sz : Int) (fo most rows c : Nat) : Prop := ∃ (dx p s : Addr) (kvs : List (Key × V)), H h = some (.ins (He.ga K "Heights") dx [("_packing", .ref p), ("_fanout", .int fo), ("_most", .int most), ("_rows", .int rows), ("_gaps", .ref d)]) ∧ PackAt K H p s ls sz ∧ H d = some (.dK kvs) ∧ kvs.length ≤ c ∧
  ∀ (x : Nat) (v : V), valV kvs (Sum.inl (x : Int)) = some v → ∃ g, v = .ref g ∧ GapAt K H g ls sz x most
theorem HeAt.same {K : PySem.W.Frag} {H H' : Hp} {h d : Addr} {ls : List Int} {sz : Int} {fo most rows c : Nat} (x : HeAt K H h d ls sz fo most rows c) (s : Same H H') : HeAt K H' h d ls sz fo most rows c := by
  obtain ⟨dx, p, s1, kvs, h1, h2, h3, h4, h5⟩ := x
  exact ⟨dx, p, s1, kvs, s _ _ h1, h2.same s, s _ _ h3, h4, fun x v e => by obtain ⟨g, e1, e2⟩ := h5 x v e; exact ⟨g, e1, e2.same s⟩⟩
theorem HeAt.mono {K : PySem.W.Frag} {H : Hp} {h d : Addr} {ls : List Int} {sz : Int} {fo most rows c c' : Nat} (x : HeAt K H h d ls sz fo most rows c) (l : c ≤ c') : HeAt K H h d ls sz fo most rows c' := by
  obtain ⟨dx, p, s1, kvs, h1, h2, h3, h4, h5⟩ := x
  exact ⟨dx, p, s1, kvs, h1, h2, h3, Nat.le_trans h4 l, h5⟩
/-- what is known of the pages of settings -/
structure HeOk (ls : List Int) (sz : Int) (fo most rows : Nat) : Prop where
  o : Pk.Ok ls sz
  fb : 2 ≤ fo ∧ fo ≤ 8
  mb : most ≤ 99
  rb : 1 ≤ rows ∧ rows ≤ 64
  sb : ∀ a, Pk.st ls sz a + rows ≤ Pk.st ls sz (a + 1)
theorem three_at {a b c z : Int} (h0 : 0 ≤ z) (h1 : z < 3) : ∃ v, (v = a ∨ v = b ∨ v = c) ∧ atI [V.int a, V.int b, V.int c] z = some (.int v) := by
  rcases (show z = 0 ∨ z = 1 ∨ z = 2 by omega) with rfl | rfl | rfl
  · exact ⟨a, .inl rfl, rfl⟩
  · exact ⟨b, .inr (.inl rfl), rfl⟩
  · exact ⟨c, .inr (.inr rfl), rfl⟩
theorem cut_rows (f : Nat → V) {lo M n : Nat} (h1 : lo ≤ M) (h2 : M ≤ n) : cutV (tabL f n) (some (lo : Int)) (some (M : Int)) = (List.range (M - lo)).map fun k => f (lo + k) := by
  unfold cutV
  rw [HT.sIx_nat, HT.sIx_nat, tabL_len, Nat.min_eq_left h2, Nat.min_eq_left (by omega)]
  refine List.ext_getElem? fun k => ?_
  by_cases z : k < M - lo
  · rw [List.getElem?_take_of_lt z, List.getElem?_drop, tabL_get f (by omega), List.getElem?_map, List.getElem?_range z]
    rfl
  · rw [List.getElem?_eq_none (by rw [List.length_take]; omega), List.getElem?_eq_none (by rw [List.length_map, List.length_range]; omega)]
theorem cut_len (xs : List V) (lo hi : Option Int) : (cutV xs lo hi).length ≤ xs.length := cutV_length xs lo hi
theorem cut_mem {xs : List V} {lo hi : Option Int} {x : V} (h : x ∈ cutV xs lo hi) : x ∈ xs := List.mem_of_mem_drop (List.mem_of_mem_take h)
/-- the heights of a stretch -/
noncomputable def nsH (ls : List Int) (sz ke : Int) (fo a b : Nat) : List Int := (List.range (b - a)).map fun k => ((htM ls sz ke fo (a + k) : Nat) : Int)
section
variable {ls : List Int} {sz ke : Int} {fo a b : Nat}
theorem nsH_len : (nsH ls sz ke fo a b).length = b - a := by unfold nsH; rw [List.length_map, List.length_range]
theorem nsH_get {k : Nat} (h : k < b - a) : (nsH ls sz ke fo a b)[k]? = some ((htM ls sz ke fo (a + k) : Nat) : Int) := by
  unfold nsH
  rw [List.getElem?_map, List.getElem?_range h]
  rfl
theorem nsH_mem {m : Int} (h : m ∈ nsH ls sz ke fo a b) : ∃ k, a ≤ k ∧ k < b ∧ m = ((htM ls sz ke fo k : Nat) : Int) := by
  obtain ⟨k, hk, rfl⟩ := List.mem_map.mp h
  have := List.mem_range.mp hk
  exact ⟨a + k, by omega, by omega, rfl⟩
theorem sum_nat (f : Nat → Nat) : ∀ n, ((List.range n).map fun k => ((f (a + k) : Nat) : Int)).sum = ((Hm.S f (a + n) : Nat) : Int) - ((Hm.S f a : Nat) : Int)
  | 0 => by simp
  | n + 1 => by
    rw [List.range_succ, List.map_append, List.sum_append, sum_nat f n]
    show _ + (((f (a + n) : Nat) : Int) + 0) = ((Hm.S f (a + n) + f (a + n) : Nat) : Int) - _
    omega
theorem nsH_sum (ab : a ≤ b) : (nsH ls sz ke fo a b).sum = ((Hm.S (htM ls sz ke fo) b : Nat) : Int) - ((Hm.S (htM ls sz ke fo) a : Nat) : Int) := by
  unfold nsH
  rw [sum_nat, show a + (b - a) = b by omega]
theorem cnt_nat (f : Nat → Bool) (a : Nat) : ∀ n, ((List.range (a + n)).filter f).length = ((List.range a).filter f).length + ((List.range n).filter fun k => f (a + k)).length
  | 0 => by simp
  | n + 1 => by
    have ih := cnt_nat f a n
    rw [← Nat.add_assoc, List.range_succ, List.filter_append, List.length_append, ih, List.range_succ, List.filter_append, List.length_append, Nat.add_assoc]
    congr 2
    cases e : f (a + n) <;> simp [e]
/-- the heights from so great on, counted -/
theorem nsH_cnt (l : Nat) (ab : a ≤ b) : (((nsH ls sz ke fo a b).filter fun x => decide (((l + 1 : Nat) : Int) ≤ x)).length : Int) = ((cntH ls sz ke fo l b : Nat) : Int) - ((cntH ls sz ke fo l a : Nat) : Int) := by
  have h := cnt_nat (fun M => decide (l < htM ls sz ke fo M)) a (b - a)
  rw [show a + (b - a) = b by omega] at h
  unfold cntH
  rw [h]
  have e : ((nsH ls sz ke fo a b).filter fun x => decide (((l + 1 : Nat) : Int) ≤ x)).length = ((List.range (b - a)).filter fun k => decide (l < htM ls sz ke fo (a + k))).length := by
    unfold nsH
    rw [List.filter_map, List.length_map]
    congr 1
    refine List.filter_congr fun k _ => ?_
    show decide (((l + 1 : Nat) : Int) ≤ ((htM ls sz ke fo (a + k) : Nat) : Int)) = _
    exact decide_eq_decide.mpr (by omega)
  rw [e]
  omega
end
/-- the numbers from a on at which something holds -/
def latL (f : Nat → Bool) (a n : Nat) : List Int := ((List.range n).filter fun k => f (a + k)).map fun k => ((a + k : Nat) : Int)
theorem latL_succ (f : Nat → Bool) (a n : Nat) : latL f a (n + 1) = latL f a n ++ if f (a + n) = true then [((a + n : Nat) : Int)] else [] := by
  unfold latL
  rw [List.range_succ, List.filter_append, List.map_append]
  congr 1
  cases e : f (a + n) <;> simp [e]
theorem latL_nil {f : Nat → Bool} {a : Nat} : ∀ n, (∀ k, k < n → f (a + k) = false) → latL f a n = []
  | 0, _ => rfl
  | n + 1, h => by
    rw [latL_succ, latL_nil n (fun k hk => h k (by omega)), h n (by omega)]
    rfl
theorem latL_len (f : Nat → Bool) (a : Nat) : ∀ n, (latL f a n).length ≤ n
  | 0 => Nat.le_refl _
  | n + 1 => by
    have := latL_len f a n
    rw [latL_succ, List.length_append]
    split
    · show _ + 1 ≤ _
      omega
    · show _ + 0 ≤ _
      omega
theorem latL_first {f : Nat → Bool} {a n : Nat} : ∀ m, n < m → f (a + n) = true → (∀ k, k < n → f (a + k) = false) → ∃ r, latL f a m = ((a + n : Nat) : Int) :: r
  | 0, h, _, _ => absurd h (by omega)
  | m + 1, h, h1, h2 => by
    rw [latL_succ]
    rcases Nat.lt_or_ge n m with z | z
    · obtain ⟨r, e⟩ := latL_first m z h1 h2
      rw [e]
      exact ⟨_, rfl⟩
    · have e : n = m := by omega
      subst e
      rw [latL_nil n h2, h1]
      exact ⟨[], rfl⟩
section
variable {ls : List Int} {sz ke : Int} {fo a b l : Nat}
theorem lat_cnt (l a : Nat) : ∀ n, ((latL (fun k => decide (l < htM ls sz ke fo (a + k))) 0 n).length : Int) = ((cntH ls sz ke fo l (a + n) : Nat) : Int) - ((cntH ls sz ke fo l a : Nat) : Int) := fun n => by
  have h := cnt_nat (fun M => decide (l < htM ls sz ke fo M)) a n
  unfold cntH
  rw [h]
  unfold latL
  rw [List.length_map]
  simp only [Nat.zero_add]
  omega
theorem cnt_step (l : Nat) (ab : a ≤ b) : cntH ls sz ke fo l b = cntH ls sz ke fo l a + ((List.range (b - a)).filter fun k => decide (l < htM ls sz ke fo (a + k))).length := by
  have h := cnt_nat (fun M => decide (l < htM ls sz ke fo M)) a (b - a)
  rw [show a + (b - a) = b by omega] at h
  exact h
theorem cnt_none (ab : a ≤ b) (h : ¬ cntH ls sz ke fo l a < cntH ls sz ke fo l b) {k : Nat} (ak : a ≤ k) (kb : k < b) : ¬ l < htM ls sz ke fo k := fun y => by
  have e := cnt_step (ls := ls) (sz := sz) (ke := ke) (fo := fo) l ab
  have : 0 < ((List.range (b - a)).filter fun k => decide (l < htM ls sz ke fo (a + k))).length := List.length_pos_of_mem (List.mem_filter.mpr ⟨List.mem_range.mpr (show k - a < b - a by omega), by rw [show a + (k - a) = k by omega]; exact decide_eq_true y⟩)
  omega
theorem cnt_some (ab : a ≤ b) (h : cntH ls sz ke fo l a < cntH ls sz ke fo l b) : ∃ k, a ≤ k ∧ k < b ∧ l < htM ls sz ke fo k := by
  have e := cnt_step (ls := ls) (sz := sz) (ke := ke) (fo := fo) l ab
  obtain ⟨k, hk⟩ := List.exists_mem_of_length_pos (show 0 < ((List.range (b - a)).filter fun k => decide (l < htM ls sz ke fo (a + k))).length by omega)
  obtain ⟨h1, h2⟩ := List.mem_filter.mp hk
  have := List.mem_range.mp h1
  exact ⟨a + k, by omega, by omega, of_decide_eq_true h2⟩
theorem cnt_le (l : Nat) (ab : a ≤ b) : cntH ls sz ke fo l a ≤ cntH ls sz ke fo l b := by
  have e := cnt_step (ls := ls) (sz := sz) (ke := ke) (fo := fo) l ab
  omega
theorem cnt_same (ab : a ≤ b) (h : ∀ k, a ≤ k → k < b → ¬ l < htM ls sz ke fo k) : cntH ls sz ke fo l b = cntH ls sz ke fo l a := by
  refine Nat.le_antisymm (Nat.le_of_not_lt fun z => ?_) (cnt_le l ab)
  obtain ⟨k, ak, kb, y⟩ := cnt_some ab z
  exact h k ak kb y
/-- the greatest of a row of heights and its first place, found twice -/
theorem gh_same (ab : a < b) {m : Int} {n : Nat} (hm : m ∈ nsH ls sz ke fo a b) (hmx : ∀ y ∈ nsH ls sz ke fo a b, y ≤ m) (an : a ≤ n) (nb : n < b) (up : ∀ k, a ≤ k → k < b → htM ls sz ke fo k ≤ htM ls sz ke fo n) (fst : ∀ k, a ≤ k → k < n → htM ls sz ke fo k < htM ls sz ke fo n) :
    m = ((htM ls sz ke fo n : Nat) : Int) ∧ (nsH ls sz ke fo a b)[n - a]? = some m ∧ ∀ i k', i < n - a → (nsH ls sz ke fo a b)[i]? = some k' → k' ≠ m := by
  obtain ⟨k0, ak0, kb0, ek0⟩ := nsH_mem hm
  have g : (nsH ls sz ke fo a b)[n - a]? = some ((htM ls sz ke fo n : Nat) : Int) := by rw [nsH_get (by omega), show a + (n - a) = n by omega]
  have h1 := hmx _ (List.mem_of_getElem? g)
  have h2 := up k0 ak0 kb0
  have e : m = ((htM ls sz ke fo n : Nat) : Int) := by omega
  refine ⟨e, by rw [g, e], fun i k' hi hk z => ?_⟩
  rw [nsH_get (by omega)] at hk
  injection hk with hk
  have := fst (a + i) (by omega) (by omega)
  omega
end
theorem srt_len {hi : Int} : ∀ (ns : List Int) (lo : Int), ns.Pairwise (· < ·) → (∀ k ∈ ns, lo ≤ k ∧ k ≤ hi) → ns.length ≤ (hi + 1 - lo).toNat
  | [], _, _, _ => Nat.zero_le _
  | x :: r, lo, h, b => by
    obtain ⟨h1, h2⟩ := List.pairwise_cons.mp h
    have bx := b x List.mem_cons_self
    have ih := srt_len r (x + 1) h2 (fun k hk => ⟨by have := h1 k hk; omega, (b k (List.mem_cons_of_mem _ hk)).2⟩)
    rw [List.length_cons]
    omega
theorem four_at {a b c d z : Int} (h0 : 0 ≤ z) (h1 : z < 4) : ∃ v, (v = a ∨ v = b ∨ v = c ∨ v = d) ∧ atI [V.int a, V.int b, V.int c, V.int d] z = some (.int v) := by
  rcases (show z = 0 ∨ z = 1 ∨ z = 2 ∨ z = 3 by omega) with rfl | rfl | rfl | rfl
  · exact ⟨a, .inl rfl, rfl⟩
  · exact ⟨b, .inr (.inl rfl), rfl⟩
  · exact ⟨c, .inr (.inr (.inl rfl)), rfl⟩
  · exact ⟨d, .inr (.inr (.inr rfl)), rfl⟩
def sp_is_from (K : PySem.W.Frag) : Sp := fun vs H Q _ => ∃ n a : Int, vs = [.int n, .int a] ∧ Q (.bl (decide (a ≤ n))) H
def sp_is_within (K : PySem.W.Frag) : Sp := fun vs H Q _ => ∃ n a b : Int, vs = [.int n, .int a, .int b] ∧ Q (.bl (decide (a ≤ n ∧ n ≤ b))) H
def sp_check_number (K : PySem.W.Frag) : Sp := fun vs H Q _ => ∃ n a b : Int, vs = [.int n, .int a, .int b] ∧ a ≤ n ∧ n ≤ b ∧ Q .non H
def sp_check_moment (K : PySem.W.Frag) : Sp := fun vs H Q _ => ∃ r : Nat, vs = [.int r] ∧ r ≤ 10 ^ 30 ∧ Q .non H
def sp_power (K : PySem.W.Frag) : Sp := fun vs H Q _ => ∃ b e : Nat, vs = [.int b, .int e] ∧ b ≤ 8 ∧ e ≤ 149 ∧ Q (.int (b ^ e : Nat)) H
def sp_root_level (K : PySem.W.Frag) : Sp := fun vs H Q _ => ∃ f a b : Nat, vs = [.int f, .int a, .int b] ∧ 2 ≤ f ∧ f ≤ 8 ∧ a ≤ b ∧ b < 10 ^ 40 ∧ ∀ L : Nat, L ≤ 132 → IsRl f a b L → Q (.int L) H
def sp_are_lengths (K : PySem.W.Frag) : Sp := fun vs H Q _ => ∃ (p : Addr) (ls : List Int), vs = [.ref p] ∧ H p = some (.lst (ls.map V.int)) ∧ LensOk ls 64 ∧ ∀ H', Same H H' → Q (.bl true) H'
def sp_bounds_behind (K : PySem.W.Frag) : Sp := fun vs H Q _ => ∃ (p : Addr) (ls : List Int), vs = [.ref p] ∧ H p = some (.lst (ls.map V.int)) ∧ 1 ≤ ls.length ∧ ls.length ≤ 6 ∧
  ∀ (m : Int) (L : Addr) (H' : Hp), m ∈ ls → (∀ y ∈ ls, y ≤ m) → Same H H' → Bnds H' L m → Q (.ref L) H'
def sp_Settings___init__ (K : PySem.W.Frag) : Sp := fun vs H Q _ => ∃ (a dx p : Addr) (ls : List Int) (sz fo re ev ke : Int), vs = [.ref a, .ref p, .int sz, .int fo, .int re, .int ev, .int ke] ∧ H a = some (.ins (He.ga K "Settings") dx []) ∧
  H p = some (.lst (ls.map V.int)) ∧ SetOk ls sz fo re ev ke ∧ ∀ (t : Addr) (H' : Hp), (∀ b o, b ≠ a → H b = some o → H' b = some o) → H' a = some (.ins (He.ga K "Settings") dx (setF t sz fo re ev ke)) → H' t = some (.tup (ls.map V.int)) → Q .non H'
def sp_check_settings (K : PySem.W.Frag) : Sp := fun vs H Q _ => ∃ (a dx : Addr) (fs : List (Str × V)), vs = [.ref a] ∧ H a = some (.ins (He.ga K "Settings") dx fs) ∧ Q .non H
def sp_rows_from (K : PySem.W.Frag) : Sp := fun vs H Q _ => ∃ (s : Addr) (r : Nat) (ls : List Int) (sz fo re ev ke : Int), vs = [.ref s, .int r] ∧ SetAt K H s ls sz fo re ev ke ∧ LensOk ls sz ∧ Q (.int (Pk.cnt ls sz r : Nat)) H
def sp_Packing_page_with (K : PySem.W.Frag) : Sp := fun vs H Q _ => ∃ (a lp dx : Addr) (ls : List Int) (sz : Int) (j k r : Nat) (fs : List (Str × V)), vs = [.ref a, .int r] ∧ PkF K H a ls sz j k lp dx fs ∧ r < 10 ^ 40 ∧ ∀ m, Pk.On ls sz m r → Q (.int (m : Nat)) H
def sp_Packing___init__ (K : PySem.W.Frag) : Sp := fun vs H Q _ => ∃ (a s dx : Addr) (ls : List Int) (sz fo re ev ke : Int), vs = [.ref a, .ref s] ∧ H a = some (.ins (He.ga K "Packing") dx []) ∧ SetAt K H s ls sz fo re ev ke ∧ LensOk ls sz ∧
  ∀ H', (∀ b o, b ≠ a → H b = some o → H' b = some o) → PackAt K H' a s ls sz → (∀ c zs H2, H c = some (.lst zs) → But c H' H2 → PackAt K H2 a s ls sz) → Q .non H'
def sp_Packing_begun (K : PySem.W.Frag) : Sp := fun vs H Q _ => ∃ (a s : Addr) (ls : List Int) (sz : Int) (r : Nat), vs = [.ref a, .int r] ∧ PackAt K H a s ls sz ∧ r ≤ 10 ^ 30 ∧ (r = 0 → Q (.int 0) H) ∧ ∀ m, 0 < r → Pk.On ls sz m (r - 1) → Q (.int (m + 1 : Nat)) H
theorem begun_one {K : PySem.W.Frag} {vs : List V} {H : Hp} {Q : VK} {E : XK} (h : ∃ (a s : Addr) (ls : List Int) (sz : Int) (r b : Nat), vs = [.ref a, .int r] ∧ PackAt K H a s ls sz ∧ r ≤ 10 ^ 30 ∧ Bg ls sz r b ∧ Q (.int b) H) : sp_Packing_begun K vs H Q E := by
  obtain ⟨a, s, ls, sz, r, b, rfl, PA, h30, hb, q⟩ := h
  obtain ⟨dx, lp, j, k, last, F, -, -⟩ := id PA
  refine ⟨a, s, ls, sz, r, rfl, PA, h30, fun e => ?_, fun m h om => ?_⟩
  · rcases hb with ⟨-, rfl⟩ | ⟨h, -⟩
    · exact q
    · omega
  · rcases hb with ⟨e, -⟩ | ⟨-, m2, om2, rfl⟩
    · omega
    · rw [Pk.On.inj F.ok.pk om om2]
      exact q
def sp_Packing_cycle (K : PySem.W.Frag) : Sp := fun vs H Q _ => ∃ (a lp dx : Addr) (ls : List Int) (sz : Int) (j k : Nat) (fs : List (Str × V)), vs = [.ref a] ∧ PkF K H a ls sz j k lp dx fs ∧
  ∀ (p : Addr) (H' : Hp), Same H H' → H p = none → H' p = some (.tup [.int j, .int (k - j : Nat), .int (Pk.rws ls sz j k : Nat)]) → Q (.ref p) H'
def sp_Packing_start_of (K : PySem.W.Frag) : Sp := fun vs H Q _ => ∃ (a s : Addr) (ls : List Int) (sz : Int) (m : Nat), vs = [.ref a, .int m] ∧ PackAt K H a s ls sz ∧ m < 10 ^ 120 ∧ Q (.int (Pk.st ls sz m : Nat)) H
def bdIn (f low : Nat) (hi : Int) (l : Nat) : Prop := (low : Int) ≤ hi / ((f ^ l : Nat) : Int) * ((f ^ l : Nat) : Int)
def sp_border_level (K : PySem.W.Frag) : Sp := fun vs H Q _ => ∃ (f low : Nat) (hi : Int), vs = [.int f, .int low, .int hi] ∧ 2 ≤ f ∧ f ≤ 8 ∧ 1 ≤ low ∧ -1 ≤ hi ∧ hi < 10 ^ 31 ∧
  ∀ L : Nat, (∀ l, 1 ≤ l → l ≤ L → bdIn f low hi l) → ¬ bdIn f low hi (L + 1) → L ≤ 110 → Q (.int L) H
theorem bd_no {f low : Nat} {hi : Int} (f2 : 2 ≤ f) (low1 : 1 ≤ low) (h0 : -1 ≤ hi) (h1 : hi < 10 ^ 31) {l : Nat} (hl : 110 ≤ l) : ¬ bdIn f low hi l := by
  unfold bdIn
  have p : 10 ^ 31 ≤ f ^ l := Nat.le_trans (Nat.le_trans (show 10 ^ 31 ≤ 2 ^ 110 by decide +kernel) (Nat.pow_le_pow_left f2 110)) (Nat.pow_le_pow_right (by omega) hl)
  intro h
  rcases Int.lt_or_le hi 0 with z | z
  · have : hi / ((f ^ l : Nat) : Int) < 0 := Int.ediv_neg_of_neg_of_pos z (by omega)
    have := Int.mul_nonneg (show 0 ≤ -(hi / ((f ^ l : Nat) : Int)) by omega) (show (0 : Int) ≤ ((f ^ l : Nat) : Int) by omega)
    rw [Int.neg_mul] at this
    omega
  · rw [Int.ediv_eq_zero_of_lt z (by omega), Int.zero_mul] at h
    omega
section
variable {ls : List Int} {sz ke : Int} {fo a b l : Nat}
theorem low_is (ls : List Int) (sz : Int) (a : Nat) : max 1 (bg ls sz a) = pg ls sz (max 1 a - 1) + 1 := by
  unfold bg
  split
  · rename_i e
    subst e
    rfl
  · rw [show max 1 a = a by omega]
    omega
theorem no_first (o : Pk.Ok ls sz) (k1 : 1 ≤ ke) (f2 : 2 ≤ fo) (l1 : 1 ≤ l) (h : htM ls sz ke fo a ≤ l) : ¬ Hm.Hi (Pk.st ls sz) (pg ls sz) (fo ^ l) (ke.toNat - 1) (max 1 a) := by
  by_cases a0 : a = 0
  · subst a0
    intro y
    exact y.1 (by show pg ls sz 0 / _ = 0; exact Nat.zero_div _)
  · rw [show max 1 a = a by omega, ← ht_hi o k1 f2 (by omega) l1]
    omega
/-- no border of the level, no height above it -/
theorem gh_none (o : Pk.Ok ls sz) (k1 : 1 ≤ ke) (f2 : 2 ≤ fo) (l1 : 1 ≤ l) (h : htM ls sz ke fo a ≤ l) (no : ¬ bdIn fo (max 1 (bg ls sz a)) ((bg ls sz (b - 1) : Nat) - 1) l) {k : Nat} (ak : a ≤ k) (kb : k < b) : ¬ l < htM ls sz ke fo k := by
  intro y
  have k0 : k ≠ 0 := by
    rintro rfl
    rw [htM_zero] at y
    omega
  rw [ht_hi o k1 f2 (by omega) l1] at y
  have hb : bg ls sz (b - 1) = pg ls sz (b - 2) + 1 := by
    unfold bg
    rw [if_neg (by omega), show b - 1 - 1 = b - 2 by omega]
  have w0 := wd_pos (f := fo) (l := l) f2
  have mono := pg_mono (sz := sz) o (show k - 1 ≤ b - 2 by omega)
  have nf := no_first o k1 f2 l1 h
  rw [low_is, hb, show ((pg ls sz (b - 2) + 1 : Nat) : Int) - 1 = ((pg ls sz (b - 2) : Nat) : Int) by omega] at no
  have no : ¬ (pg ls sz (max 1 a - 1) + 1 ≤ pg ls sz (b - 2) / fo ^ l * fo ^ l) := fun z => no (by
    unfold bdIn
    rw [show ((pg ls sz (b - 2) : Nat) : Int) / ((fo ^ l : Nat) : Int) = ((pg ls sz (b - 2) / fo ^ l : Nat) : Int) from rfl, ← Int.natCast_mul]
    exact Int.ofNat_le.mpr z)
  have le : pg ls sz (k - 1) / fo ^ l * fo ^ l ≤ pg ls sz (b - 2) / fo ^ l * fo ^ l := Nat.mul_le_mul_right _ (Nat.div_le_div_right mono)
  have e : pg ls sz (max 1 a - 1) / fo ^ l = pg ls sz (k - 1) / fo ^ l := Nat.le_antisymm (Nat.div_le_div_right (pg_mono o (by omega))) ((Nat.le_div_iff_mul_le w0).mpr (by omega))
  apply nf
  unfold Hm.Hi at y ⊢
  rw [e]
  exact ⟨y.1, by omega⟩
/-- up to the first border no height is above the level -/
theorem nb_none (o : Pk.Ok ls sz) (k1 : 1 ≤ ke) (f2 : 2 ≤ fo) (l1 : 1 ≤ l) (h : htM ls sz ke fo a ≤ l) {p : Nat} (hp : p = (max 1 (bg ls sz a) + fo ^ l - 1) / fo ^ l * fo ^ l) {k : Nat} (ak : a ≤ k) (kp : k ≤ Pk.st ls sz p) : ¬ l < htM ls sz ke fo k := by
  intro y
  have k0 : k ≠ 0 := by
    rintro rfl
    rw [htM_zero] at y
    omega
  rw [ht_hi o k1 f2 (by omega) l1] at y
  have w0 := wd_pos (f := fo) (l := l) f2
  obtain ⟨c1, c2⟩ := Hm.ceil_least (low := max 1 (bg ls sz a)) w0
  rw [← hp, low_is] at c2
  exact Hm.hi_none (Pk.st_lt o) (st_on o) w0 (m := max 1 a) (by omega) c2 (no_first o k1 f2 l1 h) (by omega) kp y
/-- behind its first row there is one -/
theorem nb_at (o : Pk.Ok ls sz) (k1 : 1 < ke) (f2 : 2 ≤ fo) (l1 : 1 ≤ l) {p : Nat} (hp : p = (max 1 (bg ls sz a) + fo ^ l - 1) / fo ^ l * fo ^ l) : l < htM ls sz ke fo (Pk.st ls sz p + 1) := by
  rw [ht_hi o (by omega) f2 (by omega) l1]
  have w0 := wd_pos (f := fo) (l := l) f2
  obtain ⟨c1, -⟩ := Hm.ceil_least (low := max 1 (bg ls sz a)) w0
  have q1 : 1 ≤ (max 1 (bg ls sz a) + fo ^ l - 1) / fo ^ l := Nat.pos_of_ne_zero fun z => by
    rw [z, Nat.zero_mul] at c1
    omega
  rw [hp]
  exact Hm.hi_at (Pk.st_lt o) (st_on o) w0 q1 (by omega)
theorem nb_ge (o : Pk.Ok ls sz) (f2 : 2 ≤ fo) {p : Nat} (hp : p = (max 1 (bg ls sz a) + fo ^ l - 1) / fo ^ l * fo ^ l) : a ≤ Pk.st ls sz p := by
  obtain ⟨c1, -⟩ := Hm.ceil_least (low := max 1 (bg ls sz a)) (wd_pos (f := fo) (l := l) f2)
  rw [← hp, low_is] at c1
  have h1 := Pk.st_le o c1
  have h2 := (st_on o (max 1 a - 1)).2
  omega
theorem bd_down {f low : Nat} {hi : Int} (f2 : 2 ≤ f) (low1 : 1 ≤ low) {l L : Nat} (h : bdIn f low hi L) (lL : l ≤ L) : bdIn f low hi l := by
  obtain ⟨u, rfl⟩ := Nat.exists_eq_add_of_le lL
  unfold bdIn at h ⊢
  have w0 := wd_pos (f := f) (l := l + u) f2
  rcases Int.lt_or_le hi 0 with z | z
  · exfalso
    have := Int.ediv_neg_of_neg_of_pos z (show (0 : Int) < ((f ^ (l + u) : Nat) : Int) by omega)
    have := Int.mul_nonneg (show 0 ≤ -(hi / ((f ^ (l + u) : Nat) : Int)) by omega) (show (0 : Int) ≤ ((f ^ (l + u) : Nat) : Int) by omega)
    rw [Int.neg_mul] at this
    omega
  · obtain ⟨h', rfl⟩ := Int.eq_ofNat_of_zero_le z
    have h2 : low ≤ h' / f ^ (l + u) * f ^ (l + u) := Int.ofNat_le.mp (by rw [Int.natCast_mul]; exact h)
    have key : ∀ u, low ≤ h' / f ^ (l + u) * f ^ (l + u) → low ≤ h' / f ^ l * f ^ l := fun u => by
      induction u with
      | zero => exact fun h => h
      | succ u ih => exact fun h => ih (Hm.mult_down (k := l + u) (by omega) h)
    have h3 := Int.ofNat_le.mpr (key u h2)
    rw [Int.natCast_mul] at h3
    exact h3
theorem ht_one (o : Pk.Ok ls sz) (f2 : 2 ≤ fo) (k1 : ke = 1) (k : Nat) : htM ls sz ke fo k ≤ 1 := by
  by_cases M0 : k = 0
  · rw [M0, htM_zero]
    omega
  · refine Nat.le_of_not_lt fun z => ?_
    have := (ht_hi o (by omega) f2 (by omega) (l := 1) (Nat.le_refl _)).mp z
    unfold Hm.Hi at this
    have h2 := (st_on o (k - 1)).1
    have h3 := Pk.st_le o (Nat.div_mul_le_self (pg ls sz (k - 1)) (fo ^ 1))
    rw [k1] at this
    have h4 : ((1 : Int).toNat - 1) = 0 := rfl
    omega
/-- what greatest_height finds at a border -/
theorem gh_at (o : Pk.Ok ls sz) (k1 : 1 < ke) (f2 : 2 ≤ fo) (l1 : 1 ≤ l) (h : htM ls sz ke fo a ≤ l) (ab : a < b) (yes : bdIn fo (max 1 (bg ls sz a)) ((bg ls sz (b - 1) : Nat) - 1) l) (no : ¬ bdIn fo (max 1 (bg ls sz a)) ((bg ls sz (b - 1) : Nat) - 1) (l + 1)) {p : Nat} (hp : p = (max 1 (bg ls sz a) + fo ^ l - 1) / fo ^ l * fo ^ l) :
    Pk.st ls sz p + 1 < b ∧ htM ls sz ke fo (Pk.st ls sz p + 1) = l + 1 ∧ (∀ k, a ≤ k → k < b → htM ls sz ke fo k ≤ l + 1) ∧ (∀ k, a ≤ k → k < Pk.st ls sz p + 1 → htM ls sz ke fo k < l + 1) := by
  have w0 := wd_pos (f := fo) (l := l) f2
  have b2 : 2 ≤ b := Nat.le_of_not_lt fun z => by
    have e : bg ls sz (b - 1) = 0 := by rw [show b - 1 = 0 by omega]; rfl
    rw [e] at yes
    unfold bdIn at yes
    have n1 : ((0 : Nat) : Int) - 1 = -1 := rfl
    rw [n1] at yes
    have : (-1 : Int) / ((fo ^ l : Nat) : Int) < 0 := Int.ediv_neg_of_neg_of_pos (by decide) (by omega)
    have := Int.mul_nonneg (show 0 ≤ -((-1 : Int) / ((fo ^ l : Nat) : Int)) by omega) (show (0 : Int) ≤ ((fo ^ l : Nat) : Int) by omega)
    rw [Int.neg_mul] at this
    omega
  have hb : bg ls sz (b - 1) = pg ls sz (b - 2) + 1 := by
    unfold bg
    rw [if_neg (by omega), show b - 1 - 1 = b - 2 by omega]
  have yes2 : max 1 (bg ls sz a) ≤ pg ls sz (b - 2) / fo ^ l * fo ^ l := by
    unfold bdIn at yes
    rw [hb, show ((pg ls sz (b - 2) + 1 : Nat) : Int) - 1 = ((pg ls sz (b - 2) : Nat) : Int) by omega, show ((pg ls sz (b - 2) : Nat) : Int) / ((fo ^ l : Nat) : Int) = ((pg ls sz (b - 2) / fo ^ l : Nat) : Int) from rfl, ← Int.natCast_mul] at yes
    exact Int.ofNat_le.mp yes
  obtain ⟨c1, c2⟩ := Hm.ceil_least (low := max 1 (bg ls sz a)) w0
  rw [← hp] at c1 c2
  have p1 := c2 _ yes2
  have p2 := Pk.st_le o (Nat.le_trans p1 (Nat.div_mul_le_self _ _))
  have p3 := (st_on o (b - 2)).1
  have nb : Pk.st ls sz p + 1 < b := by omega
  have up : ∀ k, a ≤ k → k < b → htM ls sz ke fo k ≤ l + 1 := fun k ak kb => Nat.le_of_not_lt (gh_none o (by omega) f2 (by omega) (by omega) no ak kb)
  have ge := nb_ge (l := l) (a := a) o f2 hp
  refine ⟨nb, Nat.le_antisymm (up _ (by omega) nb) (nb_at o k1 f2 l1 hp), up, fun k ak kp => ?_⟩
  have := nb_none (l := l) o (by omega) f2 l1 h hp ak (k := k) (by omega)
  omega
end
def sp_Gaps___init__ (K : PySem.W.Frag) : Sp := fun vs H Q _ => ∃ (a p s dx : Addr) (ls : List Int) (sz : Int) (step most : Nat), vs = [.ref a, .ref p, .int step, .int most] ∧ H a = some (.ins (He.ga K "Gaps") dx []) ∧ PackAt K H p s ls sz ∧ 1 ≤ step ∧ step ≤ 1000 ∧ most ≤ 100 ∧
  ∀ H', (∀ b o, b ≠ a → H b = some o → H' b = some o) → GapAt K H' a ls sz step most → Q .non H'
def sp_Gaps_sum_of (K : PySem.W.Frag) : Sp := fun vs H Q _ => ∃ (g : Addr) (ls : List Int) (sz : Int) (step most m : Nat), vs = [.ref g, .int m] ∧ GapAt K H g ls sz step most ∧ Pk.Ok ls sz ∧ 1 ≤ step ∧ most ≤ 100 ∧ m < 10 ^ 40 ∧ Q (.int (Hm.S (Hm.gap ls sz step most) m : Nat)) H
def sp_Heights___init__ (K : PySem.W.Frag) : Sp := fun vs H Q _ => ∃ (a s dx : Addr) (ls : List Int) (sz re ev ke : Int) (fo : Nat), vs = [.ref a, .ref s] ∧ H a = some (.ins (He.ga K "Heights") dx []) ∧ SetAt K H s ls sz fo re ev ke ∧ SetOk ls sz fo re ev ke ∧
  ∀ (rows : Nat) (d : Addr) (H' : Hp), (∀ b o, b ≠ a → H b = some o → H' b = some o) → H d = none → HeOk ls sz fo (ke.toNat - 1) rows → HeAt K H' a d ls sz fo (ke.toNat - 1) rows 0 → Q .non H'
def sp_Heights__is_wide (K : PySem.W.Frag) : Sp := fun vs H Q _ => ∃ (h d : Addr) (ls : List Int) (sz : Int) (fo most rows c step : Nat), vs = [.ref h, .int step] ∧ HeAt K H h d ls sz fo most rows c ∧ rows ≤ 64 ∧ Q (.bl (decide (most ≤ step * rows))) H
def sp_Heights__sum_of_gaps (K : PySem.W.Frag) : Sp := fun vs H Q _ => ∃ (h d : Addr) (ls : List Int) (sz : Int) (fo most rows c step many : Nat), vs = [.ref h, .int step, .int many] ∧ HeAt K H h d ls sz fo most rows c ∧ HeOk ls sz fo most rows ∧ c ≤ 50000 ∧ 1 ≤ step ∧ many < 10 ^ 40 ∧
  ∀ H', But d H H' → HeAt K H' h d ls sz fo most rows (c + 1) → Q (.int (Hm.S (Hm.gap ls sz step most) many : Nat)) H'
def sp_Heights_above (K : PySem.W.Frag) : Sp := fun vs H Q _ => ∃ (h d : Addr) (ls : List Int) (sz : Int) (fo most rows c step m : Nat), vs = [.ref h, .int step, .int m] ∧ HeAt K H h d ls sz fo most rows c ∧ HeOk ls sz fo most rows ∧ c ≤ 50000 ∧ 1 ≤ step ∧ step < 2 ^ 451 ∧ m ≤ 10 ^ 30 ∧
  ∀ H', But d H H' → HeAt K H' h d ls sz fo most rows (c + 1) → Q (.int (Hm.abv (Pk.st ls sz) (pg ls sz) step most m : Nat)) H'
def sp_Heights_sum_below (K : PySem.W.Frag) : Sp := fun vs H Q _ => ∃ (h d : Addr) (ls : List Int) (sz ke : Int) (fo rows c m : Nat), vs = [.ref h, .int m] ∧ HeAt K H h d ls sz fo (ke.toNat - 1) rows c ∧ HeOk ls sz fo (ke.toNat - 1) rows ∧ 1 ≤ ke ∧ ke ≤ 100 ∧ c ≤ 40000 ∧ m ≤ 10 ^ 30 ∧
  ∀ H', But d H H' → HeAt K H' h d ls sz fo (ke.toNat - 1) rows (c + 200) → Q (.int (Hm.S (htM ls sz ke fo) m : Nat)) H'
def sp_live_pages (K : PySem.W.Frag) : Sp := fun vs H Q _ => ∃ (s : Addr) (ls : List Int) (sz fo re ev ke : Int) (M : Nat), vs = [.ref s, .int M] ∧ SetAt K H s ls sz fo re ev ke ∧ SetOk ls sz fo re ev ke ∧ M ≤ 10 ^ 30 ∧
  ∀ (t : Addr) (H' : Hp), Same H H' → H' t = some (.tup [.int (lvA ls sz ke M : Nat), .int (lvZ ls sz M : Nat)]) → Q (.ref t) H'
def sp_next_border (K : PySem.W.Frag) : Sp := fun vs H Q _ => ∃ (s : Addr) (ls : List Int) (sz re ev ke : Int) (fo M l : Nat), vs = [.ref s, .int M, .int l] ∧ SetAt K H s ls sz fo re ev ke ∧ SetOk ls sz fo re ev ke ∧ l ≤ 110 ∧ M ≤ 10 ^ 30 ∧
  ∀ p : Nat, p = (max 1 (bg ls sz M) + fo ^ l - 1) / fo ^ l * fo ^ l → (10 ^ 30 ≤ Pk.st ls sz p → ∀ H', Same H H' → Q .non H') ∧ (Pk.st ls sz p < 10 ^ 30 → ∀ t H', Same H H' → H' t = some (.tup [.int (Pk.st ls sz p : Nat), .int p]) → Q (.ref t) H')
def sp_tree_height (K : PySem.W.Frag) : Sp := fun vs H Q _ => ∃ (s : Addr) (ls : List Int) (sz fo re ev ke : Int) (M : Nat), vs = [.ref s, .int M] ∧ SetAt K H s ls sz fo re ev ke ∧ SetOk ls sz fo re ev ke ∧ M ≤ 10 ^ 30 ∧
  (M = 0 → ∀ H', Same H H' → Q (.int 0) H') ∧ (M ≠ 0 → ∀ (L : Nat) (H' : Hp), Same H H' → IsRl fo.toNat (lvA ls sz ke M) (lvZ ls sz M - 1) L → Q (.int (L + 1 : Nat)) H')
theorem height_one {K : PySem.W.Frag} {vs : List V} {H : Hp} {Q : VK} {E : XK} (h : ∃ (s : Addr) (ls : List Int) (sz re ev ke : Int) (fo M : Nat), vs = [.ref s, .int M] ∧ SetAt K H s ls sz fo re ev ke ∧ SetOk ls sz fo re ev ke ∧ M ≤ 10 ^ 30 ∧ ∀ H', Same H H' → Q (.int (htM ls sz ke fo M : Nat)) H') : sp_tree_height K vs H Q E := by
  obtain ⟨s, ls, sz, re, ev, ke, fo, M, rfl, S, ok, hM, q⟩ := h
  refine ⟨s, ls, sz, fo, re, ev, ke, M, rfl, S, ok, hM, fun e H' s' => ?_, fun e L H' s' hr => ?_⟩
  · have q := q H' s'
    rw [e, htM_zero] at q
    exact q
  · have q := q H' s'
    rw [Int.toNat_natCast] at hr
    rw [htM_rl e hr] at q
    exact q
def sp_check_stretch (K : PySem.W.Frag) : Sp := fun vs H Q _ => ∃ a b : Nat, vs = [.int a, .int b] ∧ a ≤ b ∧ b ≤ 10 ^ 30 ∧ Q .non H
def sp_height_count (K : PySem.W.Frag) : Sp := fun vs H Q _ => ∃ (s : Addr) (ls : List Int) (sz re ev ke : Int) (fo l a b : Nat), vs = [.ref s, .int (l + 1 : Nat), .int a, .int b] ∧ SetAt K H s ls sz fo re ev ke ∧ SetOk ls sz fo re ev ke ∧ l ≤ 110 ∧ a ≤ b ∧ b ≤ 10 ^ 30 ∧
  ∀ H', Same H H' → Q (.int ((cntH ls sz ke fo l b : Nat) - (cntH ls sz ke fo l a : Nat) : Int)) H'
def sp_height_sum (K : PySem.W.Frag) : Sp := fun vs H Q _ => ∃ (s : Addr) (ls : List Int) (sz re ev ke : Int) (fo a b : Nat), vs = [.ref s, .int a, .int b] ∧ SetAt K H s ls sz fo re ev ke ∧ SetOk ls sz fo re ev ke ∧ a ≤ b ∧ b ≤ 10 ^ 30 ∧
  ∀ H', Same H H' → Q (.int ((Hm.S (htM ls sz ke fo) b : Nat) - (Hm.S (htM ls sz ke fo) a : Nat) : Int)) H'
def sp_next_height (K : PySem.W.Frag) : Sp := fun vs H Q _ => ∃ (s : Addr) (ls : List Int) (sz re ev ke : Int) (fo M l : Nat), vs = [.ref s, .int M, .int (l + 1 : Nat)] ∧ SetAt K H s ls sz fo re ev ke ∧ SetOk ls sz fo re ev ke ∧ l ≤ 110 ∧ M ≤ 10 ^ 30 ∧
  (∀ (n : Nat) H', Same H H' → M ≤ n → n ≤ 10 ^ 30 → l < htM ls sz ke fo n → (∀ k, M ≤ k → k < n → ¬ l < htM ls sz ke fo k) → Q (.int n) H') ∧ (∀ H', Same H H' → (∀ k, M ≤ k → k ≤ 10 ^ 30 → ¬ l < htM ls sz ke fo k) → Q .non H')
def sp_greatest_height (K : PySem.W.Frag) : Sp := fun vs H Q _ => ∃ (s : Addr) (ls : List Int) (sz re ev ke : Int) (fo a b : Nat), vs = [.ref s, .int a, .int b] ∧ SetAt K H s ls sz fo re ev ke ∧ SetOk ls sz fo re ev ke ∧ a ≤ b ∧ b ≤ 10 ^ 30 ∧
  (a = b → ∀ H', Same H H' → Q .non H') ∧ (a < b → ∀ (n : Nat) t H', Same H H' → a ≤ n → n < b → (∀ k, a ≤ k → k < b → htM ls sz ke fo k ≤ htM ls sz ke fo n) → (∀ k, a ≤ k → k < n → htM ls sz ke fo k < htM ls sz ke fo n) → H' t = some (.tup [.int (htM ls sz ke fo n : Nat), .int n]) → Q (.ref t) H')
theorem greatest_one {K : PySem.W.Frag} {vs : List V} {H : Hp} {Q : VK} {E : XK} (h : ∃ (s : Addr) (ls : List Int) (sz re ev ke : Int) (fo a b : Nat), vs = [.ref s, .int a, .int b] ∧ SetAt K H s ls sz fo re ev ke ∧ SetOk ls sz fo re ev ke ∧ a ≤ b ∧ b ≤ 10 ^ 30 ∧
  ∀ (x : V) (H' : Hp), Same H H' → ((a = b ∧ x = .non) ∨ (a < b ∧ ∃ (n : Nat) (t : Addr), x = .ref t ∧ a ≤ n ∧ n < b ∧ (∀ k, a ≤ k → k < b → htM ls sz ke fo k ≤ htM ls sz ke fo n) ∧ H' t = some (.tup [.int (htM ls sz ke fo n : Nat), .int n]))) → Q x H') : sp_greatest_height K vs H Q E := by
  obtain ⟨s, ls, sz, re, ev, ke, fo, a, b, rfl, S, ok, ab, hb, q⟩ := h
  exact ⟨s, ls, sz, re, ev, ke, fo, a, b, rfl, S, ok, ab, hb, fun e H' s' => q _ H' s' (.inl ⟨e, rfl⟩), fun lt n t H' s' an nb up _ et => q _ H' s' (.inr ⟨lt, n, t, rfl, an, nb, up, et⟩)⟩
def sp__law_digits (K : PySem.W.Frag) : Sp := fun vs H Q _ => ∃ (c : Int), vs = [.int c, .int 40] ∧ ∀ (p : Addr) (H' : Hp) (ds : List Int), Same H H' → H p = none → Dg H' p ds → Q (.ref p) H'
def sp__law_parts (K : PySem.W.Frag) : Sp := fun vs H Q _ => ∃ (d : Addr) (ds : List Int), vs = [.ref d] ∧ Dg H d ds ∧
  ∀ (p q : Addr) (ls : List Int) (sz fo re ev ke : Int) (H' : Hp), Same H H' → H p = none → H q = none → PD H' p q ls sz fo re ev ke → SetOk ls sz fo re ev ke → sz ≤ 6 → Q (.ref p) H'
def sp__law_settings (K : PySem.W.Frag) : Sp := fun vs H Q _ => ∃ (p q : Addr) (ls : List Int) (sz fo re ev ke : Int), vs = [.ref p] ∧ PD H p q ls sz fo re ev ke ∧ SetOk ls sz fo re ev ke ∧
  ∀ (a : Addr) (H' : Hp), Same H H' → H a = none → SetAt K H' a ls sz fo re ev ke → Q (.ref a) H'
def sp__law_moments (K : PySem.W.Frag) : Sp := fun vs H Q _ => ∃ (s d : Addr) (ls ds : List Int) (sz re ev ke : Int) (fo : Nat), vs = [.ref s, .ref d] ∧ SetAt K H s ls sz fo re ev ke ∧ SetOk ls sz fo re ev ke ∧ Dg H d ds ∧
  ∀ (t : Addr) (ms : List Nat) (H' : Hp), Same H H' → H' t = some (.lst (ms.map fun m : Nat => V.int (m : Nat))) → ms.length = 8 → ms.Pairwise (· ≤ ·) → (∀ m ∈ ms, m + 200 ≤ 10 ^ 30) → Q (.ref t) H'
def sp__law_near_right (K : PySem.W.Frag) : Sp := fun vs H Q _ => ∃ (s : Addr) (ls : List Int) (sz re ev ke : Int) (fo m : Nat), vs = [.ref s, .int m] ∧ SetAt K H s ls sz fo re ev ke ∧ SetOk ls sz fo re ev ke ∧ m + 200 ≤ 10 ^ 30 ∧ ∀ H', Same H H' → Q (.bl true) H'
def sp__law_stretch_right (K : PySem.W.Frag) : Sp := fun vs H Q _ => ∃ (s : Addr) (ls : List Int) (sz re ev ke : Int) (fo a c b : Nat), vs = [.ref s, .int a, .int c, .int b] ∧ SetAt K H s ls sz fo re ev ke ∧ SetOk ls sz fo re ev ke ∧ a ≤ c ∧ c ≤ b ∧ b ≤ 10 ^ 30 ∧ ∀ H', Same H H' → Q (.bl true) H'
def sp__law_end_right (K : PySem.W.Frag) : Sp := fun vs H Q _ => ∃ (s : Addr) (ls : List Int) (sz re ev ke : Int) (fo : Nat), vs = [.ref s] ∧ SetAt K H s ls sz fo re ev ke ∧ SetOk ls sz fo re ev ke ∧ ∀ H', Same H H' → Q (.bl true) H'
def sp_law (K : PySem.W.Frag) : Sp := fun vs H Q _ => ∃ (a : Addr) (ns : List Int), vs = [.ref a] ∧ SqL K H a (ns.map V.int) ∧ ns.length ≤ 63 ∧ ∀ H', Q (.bl true) H'
local macro_rules | `(tactic| walk_at "side") => `(tactic| first
  | assumption
  | decide
  | exact ⟨by decide, by decide⟩
  | exact ⟨by decide, by decide, by decide⟩
  | exact Or.inl ⟨by decide, by decide⟩
  | exact Or.inr ⟨by decide, by decide⟩
  | omega
  | exact ⟨by omega, by omega⟩
  | exact Or.inl ⟨by omega, by omega⟩
  | exact Or.inr ⟨by omega, by omega⟩)
local macro_rules | `(tactic| walk_at "seq") => `(tactic| first
  | assumption
  | exact SqL.of (by assumption)
  | exact SqT.of (by assumption)
  | exact SqL.of upd_same
  | exact SqT.of upd_same)
local macro_rules | `(tactic| walk_at "var") => `(tactic| first
  | with_reducible refine r_v0 ?_
  | with_reducible refine r_v1 ?_
  | with_reducible refine r_v2 ?_
  | with_reducible refine r_v3 ?_
  | with_reducible refine r_v4 ?_
  | with_reducible refine r_v5 ?_
  | with_reducible refine r_v6 ?_
  | with_reducible refine r_v7 ?_
  | with_reducible refine r_v8 ?_
  | with_reducible refine r_v9 ?_
  | with_reducible refine r_v10 ?_
  | with_reducible refine r_v11 ?_
  | with_reducible refine r_v12 ?_
  | with_reducible refine r_v13 ?_
  | with_reducible refine r_v14 ?_
  | with_reducible refine r_v15 ?_
  | with_reducible refine r_v16 ?_
  | with_reducible refine r_v17 ?_
  | with_reducible refine r_v18 ?_
  | with_reducible refine r_v19 ?_
  | with_reducible refine r_v20 ?_
  | with_reducible refine r_v21 ?_)
local macro_rules | `(tactic| walk_at "nam") => `(tactic| first
  | with_reducible refine r_g0 ?_
  | with_reducible refine r_g1 ?_
  | with_reducible refine r_g2 ?_
  | with_reducible refine r_g3 ?_
  | with_reducible refine r_g4 ?_
  | with_reducible refine r_g5 ?_
  | with_reducible refine r_g6 ?_
  | with_reducible refine r_g7 ?_
  | with_reducible refine r_g8 ?_
  | with_reducible refine r_g9 ?_
  | with_reducible refine r_g10 ?_
  | with_reducible refine r_g11 ?_
  | with_reducible refine r_g12 ?_
  | with_reducible refine r_g13 ?_
  | with_reducible refine r_g14 ?_
  | with_reducible refine r_g15 ?_
  | with_reducible refine r_g16 ?_
  | with_reducible refine r_g17 ?_
  | with_reducible refine r_g18 ?_
  | with_reducible refine r_g19 ?_
  | with_reducible refine r_g20 ?_
  | with_reducible refine r_g21 ?_)
local macro_rules | `(tactic| walk_at "aug") => `(tactic| first
  | with_reducible refine r_aug0 ?_
  | with_reducible refine r_aug1 ?_
  | with_reducible refine r_aug2 ?_
  | with_reducible refine r_aug3 ?_
  | with_reducible refine r_aug4 ?_
  | with_reducible refine r_aug5 ?_
  | with_reducible refine r_aug6 ?_
  | with_reducible refine r_aug7 ?_
  | with_reducible refine r_aug8 ?_
  | with_reducible refine r_aug9 ?_
  | with_reducible refine r_aug10 ?_
  | with_reducible refine r_aug11 ?_
  | with_reducible refine r_aug12 ?_
  | with_reducible refine r_aug13 ?_
  | with_reducible refine r_aug14 ?_
  | with_reducible refine r_aug15 ?_
  | with_reducible refine r_aug16 ?_
  | with_reducible refine r_aug17 ?_
  | with_reducible refine r_aug18 ?_
  | with_reducible refine r_aug19 ?_
  | with_reducible refine r_aug20 ?_
  | with_reducible refine r_aug21 ?_)
local macro_rules | `(tactic| walk_at "s") => `(tactic| first
  | walk_at "var"
  | with_reducible refine r_seq ?_
  | with_reducible refine r_asg ?_
  | with_reducible refine r_tC ?_
  | with_reducible refine r_op ?_
  | with_reducible refine r_cons ?_
  | with_reducible refine r_nil ?_
  | with_reducible refine r_CB ?_
  | with_reducible refine r_I0 ?_
  | with_reducible refine r_ret ?_
  | with_reducible refine r_call ?_
  | with_reducible refine r_ifS ?_
  | with_reducible refine r_test ?_
  | with_reducible refine r_tB ?_
  | with_reducible refine r_bl ?_
  | with_reducible refine r_int1 ?_
  | with_reducible refine r_max2 ?_
  | with_reducible refine r_min2 ?_
  | with_reducible refine r_and ?_
  | with_reducible refine r_or ?_
  | with_reducible refine r_not ?_
  | with_reducible refine r_andV ?_
  | with_reducible refine r_orV ?_
  | with_reducible refine r_notV ?_
  | with_reducible refine r_if ?_
  | with_reducible refine r_drop ?_
  | with_reducible refine r_next ?_
  | with_reducible refine r_gSub ?_
  | with_reducible refine r_gCons ?_
  | with_reducible refine r_gNil ?_
  | with_reducible refine r_tup ?_
  | with_reducible refine r_lst ?_
  | with_reducible refine r_un ?_
  | with_reducible refine r_U ?_
  | with_reducible refine r_chain ?_
  | with_reducible refine r_fld ?_
  | with_reducible refine r_sFld ?_
  | with_reducible refine r_meth ?_
  | with_reducible refine r_mkK ?_
  | with_reducible refine r_mk ?_
  | with_reducible refine r_sl ?_
  | with_reducible refine r_part ?_
  | with_reducible refine r_po ?_
  | with_reducible refine r_nopart ?_
  | with_reducible refine r_BM ?_
  | with_reducible refine r_tru ?_
  | with_reducible refine r_lc ?_
  | with_reducible refine r_dnotin ?_
  | with_reducible refine r_din ?_
  | with_reducible refine r_dget ?_
  | with_reducible refine r_dput ?_
  | with_reducible refine r_dnew ?_
  | with_reducible refine r_for ?_
  | with_reducible refine r_list ?_
  | with_reducible refine r_tupI ?_
  | with_reducible refine r_rng1 ?_
  | with_reducible refine r_rng2 ?_
  | with_reducible refine r_yes ?_
  | with_reducible refine r_par ?_
  | with_reducible refine r_two ?_
  | with_reducible refine r_par3 ?_
  | with_reducible refine r_tri ?_
  | with_reducible refine r_enum ?_
  | with_reducible refine r_ip ?_
  | with_reducible refine r_eqI ?_
  | with_reducible refine r_neI ?_
  | with_reducible refine r_eqS ?_
  | with_reducible refine r_neS ?_
  | with_reducible refine r_neB ?_
  | with_reducible refine r_eqB ?_
  | with_reducible refine r_BM0 ?_
  | with_reducible refine r_lstRg ?_
  | with_reducible refine r_rgA ?_
  | with_reducible refine iteT ?_
  | with_reducible refine iteF ?_
  | with_reducible refine iteNt ?_
  | with_reducible refine iteNf ?_
  | ((with_reducible refine' r_I ?k1 ?_); (case k1 => walk_at "side"))
  | ((with_reducible refine' r_ixL ?k1 ?k2 ?_); (case k1 => walk_at "seq"); (case k2 => rfl))
  | ((with_reducible refine' r_ixT ?k1 ?k2 ?_); (case k1 => walk_at "seq"); (case k2 => rfl))
  | ((with_reducible refine' r_lenL ?k1 ?_); (case k1 => walk_at "seq"))
  | ((with_reducible refine' r_lenT ?k1 ?_); (case k1 => walk_at "seq"))
  | ((with_reducible refine' r_sum ?k1 ?_); (case k1 => walk_at "seq"))
  | ((with_reducible refine' r_sumT ?k1 ?_); (case k1 => walk_at "seq"))
  | ((with_reducible refine' r_tupOf ?k1 ?_); (case k1 => walk_at "seq"))
  | ((with_reducible refine' r_listOf ?k1 ?_); (case k1 => walk_at "seq"))
  | ((with_reducible refine' r_slL ?k1 ?_); (case k1 => walk_at "seq"))
  | ((with_reducible refine' r_sq ?k1 ?_); (case k1 => walk_at "seq"))
  | ((with_reducible refine' r_sqT ?k1 ?_); (case k1 => walk_at "seq"))
  | ((with_reducible refine' r_en ?k1 ?_); (case k1 => walk_at "seq"))
  | ((with_reducible refine' r_tyL ?k1 ?_); (case k1 => walk_at "seq"))
  | ((with_reducible refine' r_gTup ?k1 ?k2 ?_); (case k1 => walk_at "seq"); (case k2 => rfl))
  | ((with_reducible refine' r_setL ?k1 ?k2 ?_); (case k1 => assumption); (case k2 => rfl))
  | ((with_reducible refine' r_fd ?k1 ?k2 ?k3 ?k4 ?_); (case k1 => assumption); (case k2 => assumption); (case k3 => assumption); (case k4 => first | rfl | assumption))
  | ((with_reducible refine' r_obj ?k1 ?k2 ?_); (case k1 => assumption); (case k2 => rfl))
  | ((with_reducible refine' r_rg1 ?k1 ?_); (case k1 => walk_at "side"))
  | ((with_reducible refine' r_rg2 ?k1 ?_); (case k1 => walk_at "side"))
  | ((with_reducible refine' r_sz ?k1 ?_); (case k1 => (show _ ≤ _; simp)))
  | walk_at "nam"
  | walk_at "aug")
local macro_rules | `(tactic| walk_at "ss") => `(tactic| repeat walk_at "s")

theorem ok_is_from {P : Program} {w : World} {K : PySem.W.Frag} {mg : Str → Option Value} {base : Heap} {f : Addr} {fd : FuncData} (F : FunD K "is_from" "is_from" (defArgs s_is_from) (defBody s_is_from) (defScope s_is_from) [] [] f fd) (n_bool : mg "bool" = none) (n_int : mg "int" = none) (n_isinstance : mg "isinstance" = none) : FnOk P w K mg base CX0 1 f fd ["number", "least"] (sp_is_from K) := by
  refine F.ok sc_is_from (fun vs H Q E h => by first | (obtain ⟨rfl, _⟩ := h; rfl) | (obtain ⟨_, rfl, _⟩ := h; rfl) | (obtain ⟨_, _, rfl, _⟩ := h; rfl) | (obtain ⟨_, _, _, rfl, _⟩ := h; rfl) | (obtain ⟨_, _, _, _, rfl, _⟩ := h; rfl) | (obtain ⟨_, _, _, _, _, rfl, _⟩ := h; rfl) | (obtain ⟨_, _, _, _, _, _, rfl, _⟩ := h; rfl) | (obtain ⟨_, _, _, _, _, _, _, rfl, _⟩ := h; rfl) | (obtain ⟨_, _, _, _, _, _, _, _, rfl, _⟩ := h; rfl) | (obtain ⟨_, _, _, _, _, _, _, _, _, rfl, _⟩ := h; rfl) | (obtain ⟨_, _, _, _, _, _, _, _, _, _, rfl, _⟩ := h; rfl) | (obtain ⟨_, _, _, _, _, _, _, _, _, _, _, rfl, _⟩ := h; rfl) | (obtain ⟨_, _, _, _, _, _, _, _, _, _, _, _, rfl, _⟩ := h; rfl) | (obtain ⟨_, _, _, _, _, _, _, _, _, _, _, _, _, rfl, _⟩ := h; rfl) | (obtain ⟨_, _, _, _, _, _, _, _, _, _, _, _, _, _, rfl, _⟩ := h; rfl) | (obtain ⟨_, _, _, _, _, _, _, _, _, _, _, _, _, _, _, rfl, _⟩ := h; rfl) | (obtain ⟨_, _, _, _, _, _, _, _, _, _, _, _, _, _, _, _, rfl, _⟩ := h; rfl) | (obtain ⟨_, _, _, _, _, _, _, _, _, _, _, _, _, _, _, _, _, rfl, _⟩ := h; rfl)) (fun cdv A outer s H vs Q E hr h => ?_)
  · have hu := hu_of hr
    obtain ⟨n, a, rfl, q⟩ := h
    refine ⟨_, PSs.nox (pss_one (ps_ret (pe_and (pe_callB (id := "isinstance") call_isi rfl n_isinstance (by decide +kernel) (pa_cons (pv 0) (pa_cons (Kr.pe_bty (T := "int") n_int) pa_nil))) (pe_and (pe_not (pe_callB (id := "isinstance") call_isi rfl n_isinstance (by decide +kernel) (pa_cons (pv 0) (pa_cons (Kr.pe_bty (T := "bool") n_bool) pa_nil)))) (pe_one (pe_cmpR op_le (pv 1) (pv 0) (nomark _))))))), ?_⟩
    rw [st_is_from]
    walk_at "ss"
    refine r_isiT (.base (.int n)) (b := true) (by decide +kernel) ?_
    walk_at "ss"
    refine r_isiT (.base (.int n)) (b := false) (by decide +kernel) ?_
    walk_at "ss"
    exact q
theorem ok_is_within {P : Program} {w : World} {K : PySem.W.Frag} {mg : Str → Option Value} {base : Heap} {f : Addr} {fd : FuncData} (F : FunD K "is_within" "is_within" (defArgs s_is_within) (defBody s_is_within) (defScope s_is_within) [] [] f fd) (h_is_from : Kr.FnH P w K mg base CX0 1 "is_from" ["number", "least"] (sp_is_from K)) : FnOk P w K mg base CX0 2 f fd ["number", "least", "most"] (sp_is_within K) := by
  refine F.ok sc_is_within (fun vs H Q E h => by first | (obtain ⟨rfl, _⟩ := h; rfl) | (obtain ⟨_, rfl, _⟩ := h; rfl) | (obtain ⟨_, _, rfl, _⟩ := h; rfl) | (obtain ⟨_, _, _, rfl, _⟩ := h; rfl) | (obtain ⟨_, _, _, _, rfl, _⟩ := h; rfl) | (obtain ⟨_, _, _, _, _, rfl, _⟩ := h; rfl) | (obtain ⟨_, _, _, _, _, _, rfl, _⟩ := h; rfl) | (obtain ⟨_, _, _, _, _, _, _, rfl, _⟩ := h; rfl) | (obtain ⟨_, _, _, _, _, _, _, _, rfl, _⟩ := h; rfl) | (obtain ⟨_, _, _, _, _, _, _, _, _, rfl, _⟩ := h; rfl) | (obtain ⟨_, _, _, _, _, _, _, _, _, _, rfl, _⟩ := h; rfl) | (obtain ⟨_, _, _, _, _, _, _, _, _, _, _, rfl, _⟩ := h; rfl) | (obtain ⟨_, _, _, _, _, _, _, _, _, _, _, _, rfl, _⟩ := h; rfl) | (obtain ⟨_, _, _, _, _, _, _, _, _, _, _, _, _, rfl, _⟩ := h; rfl) | (obtain ⟨_, _, _, _, _, _, _, _, _, _, _, _, _, _, rfl, _⟩ := h; rfl) | (obtain ⟨_, _, _, _, _, _, _, _, _, _, _, _, _, _, _, rfl, _⟩ := h; rfl) | (obtain ⟨_, _, _, _, _, _, _, _, _, _, _, _, _, _, _, _, rfl, _⟩ := h; rfl) | (obtain ⟨_, _, _, _, _, _, _, _, _, _, _, _, _, _, _, _, _, rfl, _⟩ := h; rfl)) (fun cdv A outer s H vs Q E hr h => ?_)
  · have hu := hu_of hr
    obtain ⟨n, a, b, rfl, q⟩ := h
    refine ⟨_, PSs.nox (pss_one (ps_ret (pe_and (Kr.pe_cl h_is_from (hr.mono (by decide)) (pa_cons (pv 0) (pa_cons (pv 1) pa_nil))) (pe_one (pe_cmpR op_le (pv 0) (pv 2) (nomark _)))))), ?_⟩
    rw [st_is_within]
    walk_at "ss"
    refine ⟨_, _, rfl, ?_⟩
    walk_at "ss"
    refine r_dec (fun h1 => ?_) fun h1 => ?_
    · walk_at "ss"
      have e : decide (n ≤ b) = decide (a ≤ n ∧ n ≤ b) := by simp [h1]
      rw [e]
      exact q
    · have e : false = decide (a ≤ n ∧ n ≤ b) := by simp [h1]
      rw [e]
      exact q
theorem ok_check_number {P : Program} {w : World} {K : PySem.W.Frag} {mg : Str → Option Value} {base : Heap} {f : Addr} {fd : FuncData} (F : FunD K "check_number" "check_number" (defArgs s_check_number) (defBody s_check_number) (defScope s_check_number) [] [] f fd) (h_is_within : Kr.FnH P w K mg base CX0 2 "is_within" ["number", "least", "most"] (sp_is_within K)) : FnOk P w K mg base CX0 3 f fd ["number", "least", "most"] (sp_check_number K) := by
  refine F.ok sc_check_number (fun vs H Q E h => by first | (obtain ⟨rfl, _⟩ := h; rfl) | (obtain ⟨_, rfl, _⟩ := h; rfl) | (obtain ⟨_, _, rfl, _⟩ := h; rfl) | (obtain ⟨_, _, _, rfl, _⟩ := h; rfl) | (obtain ⟨_, _, _, _, rfl, _⟩ := h; rfl) | (obtain ⟨_, _, _, _, _, rfl, _⟩ := h; rfl) | (obtain ⟨_, _, _, _, _, _, rfl, _⟩ := h; rfl) | (obtain ⟨_, _, _, _, _, _, _, rfl, _⟩ := h; rfl) | (obtain ⟨_, _, _, _, _, _, _, _, rfl, _⟩ := h; rfl) | (obtain ⟨_, _, _, _, _, _, _, _, _, rfl, _⟩ := h; rfl) | (obtain ⟨_, _, _, _, _, _, _, _, _, _, rfl, _⟩ := h; rfl) | (obtain ⟨_, _, _, _, _, _, _, _, _, _, _, rfl, _⟩ := h; rfl) | (obtain ⟨_, _, _, _, _, _, _, _, _, _, _, _, rfl, _⟩ := h; rfl) | (obtain ⟨_, _, _, _, _, _, _, _, _, _, _, _, _, rfl, _⟩ := h; rfl) | (obtain ⟨_, _, _, _, _, _, _, _, _, _, _, _, _, _, rfl, _⟩ := h; rfl) | (obtain ⟨_, _, _, _, _, _, _, _, _, _, _, _, _, _, _, rfl, _⟩ := h; rfl) | (obtain ⟨_, _, _, _, _, _, _, _, _, _, _, _, _, _, _, _, rfl, _⟩ := h; rfl) | (obtain ⟨_, _, _, _, _, _, _, _, _, _, _, _, _, _, _, _, _, rfl, _⟩ := h; rfl)) (fun cdv A outer s H vs Q E hr h => ?_)
  · have hu := hu_of hr
    obtain ⟨n, a, b, rfl, h1, h2, q⟩ := h
    refine ⟨_, PSs.nox (pss_one (ps_if (pt_not (pt_val (Kr.pe_cl h_is_within (hr.mono (by decide)) (pa_cons (pv 0) (pa_cons (pv 1) (pa_cons (pv 2) pa_nil)))))) (pss_one ps_never) pss_nil)), ?_⟩
    rw [st_check_number]
    walk_at "ss"
    refine ⟨_, _, _, rfl, ?_⟩
    walk_at "ss"
    refine r_decN (fun ne => absurd ⟨h1, h2⟩ ne) fun _ => ?_
    walk_at "ss"
    exact q
theorem ok_check_moment {P : Program} {w : World} {K : PySem.W.Frag} {mg : Str → Option Value} {base : Heap} {f : Addr} {fd : FuncData} (F : FunD K "check_moment" "check_moment" (defArgs s_check_moment) (defBody s_check_moment) (defScope s_check_moment) [] [] f fd) (g_ROWS : ∃ t, mg "ROWS" = some (.int 1000000000000000000000000000000 t)) (h_check_number : Kr.FnH P w K mg base CX0 3 "check_number" ["number", "least", "most"] (sp_check_number K)) : FnOk P w K mg base CX0 4 f fd ["moment"] (sp_check_moment K) := by
  refine F.ok sc_check_moment (fun vs H Q E h => by first | (obtain ⟨rfl, _⟩ := h; rfl) | (obtain ⟨_, rfl, _⟩ := h; rfl) | (obtain ⟨_, _, rfl, _⟩ := h; rfl) | (obtain ⟨_, _, _, rfl, _⟩ := h; rfl) | (obtain ⟨_, _, _, _, rfl, _⟩ := h; rfl) | (obtain ⟨_, _, _, _, _, rfl, _⟩ := h; rfl) | (obtain ⟨_, _, _, _, _, _, rfl, _⟩ := h; rfl) | (obtain ⟨_, _, _, _, _, _, _, rfl, _⟩ := h; rfl) | (obtain ⟨_, _, _, _, _, _, _, _, rfl, _⟩ := h; rfl) | (obtain ⟨_, _, _, _, _, _, _, _, _, rfl, _⟩ := h; rfl) | (obtain ⟨_, _, _, _, _, _, _, _, _, _, rfl, _⟩ := h; rfl) | (obtain ⟨_, _, _, _, _, _, _, _, _, _, _, rfl, _⟩ := h; rfl) | (obtain ⟨_, _, _, _, _, _, _, _, _, _, _, _, rfl, _⟩ := h; rfl) | (obtain ⟨_, _, _, _, _, _, _, _, _, _, _, _, _, rfl, _⟩ := h; rfl) | (obtain ⟨_, _, _, _, _, _, _, _, _, _, _, _, _, _, rfl, _⟩ := h; rfl) | (obtain ⟨_, _, _, _, _, _, _, _, _, _, _, _, _, _, _, rfl, _⟩ := h; rfl) | (obtain ⟨_, _, _, _, _, _, _, _, _, _, _, _, _, _, _, _, rfl, _⟩ := h; rfl) | (obtain ⟨_, _, _, _, _, _, _, _, _, _, _, _, _, _, _, _, _, rfl, _⟩ := h; rfl)) (fun cdv A outer s H vs Q E hr h => ?_)
  · have hu := hu_of hr
    obtain ⟨r, rfl, h30, q⟩ := h
    refine ⟨_, PSs.nox (pss_one (ps_expr (Kr.pe_cl h_check_number (hr.mono (by decide)) (pa_cons (pv 0) (pa_cons pe_int (pa_cons (Kr.pe_gint g_ROWS) pa_nil)))))), ?_⟩
    rw [st_check_moment]
    walk_at "ss"
    refine ⟨_, _, _, rfl, by omega, by omega, ?_⟩
    walk_at "ss"
    exact q
theorem ok_power {P : Program} {w : World} {K : PySem.W.Frag} {mg : Str → Option Value} {base : Heap} {f : Addr} {fd : FuncData} (F : FunD K "power" "power" (defArgs s_power) (defBody s_power) (defScope s_power) [] [] f fd) (n_range : mg "range" = none) : FnOk P w K mg base CX0 1 f fd ["base", "exponent"] (sp_power K) := by
  refine F.ok sc_power (fun vs H Q E h => by first | (obtain ⟨rfl, _⟩ := h; rfl) | (obtain ⟨_, rfl, _⟩ := h; rfl) | (obtain ⟨_, _, rfl, _⟩ := h; rfl) | (obtain ⟨_, _, _, rfl, _⟩ := h; rfl) | (obtain ⟨_, _, _, _, rfl, _⟩ := h; rfl) | (obtain ⟨_, _, _, _, _, rfl, _⟩ := h; rfl) | (obtain ⟨_, _, _, _, _, _, rfl, _⟩ := h; rfl) | (obtain ⟨_, _, _, _, _, _, _, rfl, _⟩ := h; rfl) | (obtain ⟨_, _, _, _, _, _, _, _, rfl, _⟩ := h; rfl) | (obtain ⟨_, _, _, _, _, _, _, _, _, rfl, _⟩ := h; rfl) | (obtain ⟨_, _, _, _, _, _, _, _, _, _, rfl, _⟩ := h; rfl) | (obtain ⟨_, _, _, _, _, _, _, _, _, _, _, rfl, _⟩ := h; rfl) | (obtain ⟨_, _, _, _, _, _, _, _, _, _, _, _, rfl, _⟩ := h; rfl) | (obtain ⟨_, _, _, _, _, _, _, _, _, _, _, _, _, rfl, _⟩ := h; rfl) | (obtain ⟨_, _, _, _, _, _, _, _, _, _, _, _, _, _, rfl, _⟩ := h; rfl) | (obtain ⟨_, _, _, _, _, _, _, _, _, _, _, _, _, _, _, rfl, _⟩ := h; rfl) | (obtain ⟨_, _, _, _, _, _, _, _, _, _, _, _, _, _, _, _, rfl, _⟩ := h; rfl) | (obtain ⟨_, _, _, _, _, _, _, _, _, _, _, _, _, _, _, _, _, rfl, _⟩ := h; rfl)) (fun cdv A outer s H vs Q E hr h => ?_)
  · have hu := hu_of hr
    obtain ⟨b, e, rfl, hb, he, q⟩ := h
    refine ⟨_, PSs.nox (pss_cons (ps_set (i := 2) sc_power.nd rfl (.inl rfl) pe_int) (pss_cons (ps_for PassesOwn.never rfl (pi_range1 rfl n_range (pa_cons (pv 1) pa_nil)) (pg_name (i := 3) sc_power.nd rfl (.inl rfl)) (pss_one (ps_aug (i := 2) sc_power.nd rfl (.inl rfl) (pv 0) Kr.ip_mul))) (pss_one (ps_ret (pv 2))))), ?_⟩
    rw [st_power]
    walk_at "ss"
    refine r_forR (fun i σ H' => ∃ x3 : Option V, σ = [some (.int b), some (.int e), some (.int (b ^ i : Nat)), x3] ∧ H' = H) ⟨_, rfl, rfl⟩ ?_ ?_
    · rintro i σ H' hi ⟨x3, rfl, rfl⟩
      walk_at "ss"
      refine r_ipM ?_ ?_
      · have h1 := pw_log (b := b) (i := i) hb (by omega)
        have h2 := pw_log (b := b) (i := 1) hb (by omega)
        rw [Nat.pow_one] at h2
        show _ + _ < 1000000
        omega
      walk_at "ss"
      rw [show ((b ^ i : Nat) : Int) * (b : Int) = ((b ^ (i + 1) : Nat) : Int) by rw [Nat.pow_succ, Int.natCast_mul]]
      exact ⟨_, rfl, rfl⟩
    · rintro σ H' ⟨x3, rfl, rfl⟩
      walk_at "ss"
      have e1 : ((e : Int) - 0).toNat = e := by omega
      first
      | exact q
      | (rw [e1]; exact q)
      | (rw [Int.toNat_natCast]; exact q)
theorem ok_root_level {P : Program} {w : World} {K : PySem.W.Frag} {mg : Str → Option Value} {base : Heap} {f : Addr} {fd : FuncData} (F : FunD K "root_level" "root_level" (defArgs s_root_level) (defBody s_root_level) (defScope s_root_level) [] [] f fd) : FnOk P w K mg base CX0 1 f fd ["fanout", "first", "last"] (sp_root_level K) := by
  refine F.ok sc_root_level (fun vs H Q E h => by first | (obtain ⟨rfl, _⟩ := h; rfl) | (obtain ⟨_, rfl, _⟩ := h; rfl) | (obtain ⟨_, _, rfl, _⟩ := h; rfl) | (obtain ⟨_, _, _, rfl, _⟩ := h; rfl) | (obtain ⟨_, _, _, _, rfl, _⟩ := h; rfl) | (obtain ⟨_, _, _, _, _, rfl, _⟩ := h; rfl) | (obtain ⟨_, _, _, _, _, _, rfl, _⟩ := h; rfl) | (obtain ⟨_, _, _, _, _, _, _, rfl, _⟩ := h; rfl) | (obtain ⟨_, _, _, _, _, _, _, _, rfl, _⟩ := h; rfl) | (obtain ⟨_, _, _, _, _, _, _, _, _, rfl, _⟩ := h; rfl) | (obtain ⟨_, _, _, _, _, _, _, _, _, _, rfl, _⟩ := h; rfl) | (obtain ⟨_, _, _, _, _, _, _, _, _, _, _, rfl, _⟩ := h; rfl) | (obtain ⟨_, _, _, _, _, _, _, _, _, _, _, _, rfl, _⟩ := h; rfl) | (obtain ⟨_, _, _, _, _, _, _, _, _, _, _, _, _, rfl, _⟩ := h; rfl) | (obtain ⟨_, _, _, _, _, _, _, _, _, _, _, _, _, _, rfl, _⟩ := h; rfl) | (obtain ⟨_, _, _, _, _, _, _, _, _, _, _, _, _, _, _, rfl, _⟩ := h; rfl) | (obtain ⟨_, _, _, _, _, _, _, _, _, _, _, _, _, _, _, _, rfl, _⟩ := h; rfl) | (obtain ⟨_, _, _, _, _, _, _, _, _, _, _, _, _, _, _, _, _, rfl, _⟩ := h; rfl)) (fun cdv A outer s H vs Q E hr h => ?_)
  · have hu := hu_of hr
    obtain ⟨f, a, b, rfl, f2, f8, ab, hb, q⟩ := h
    obtain ⟨L, hL, hr⟩ := rl_ex f2 ab hb
    refine ⟨_, PSs.nox (pss_cons (ps_set (i := 3) sc_root_level.nd rfl (.inl rfl) pe_int) (pss_cons (ps_set (i := 4) sc_root_level.nd rfl (.inl rfl) (pv 0)) (pss_cons (ps_while PassesOwn.never (pt_cmpR op_ne (pe_op op_fdivW (pv 1) (pv 4)) (pe_op op_fdivW (pv 2) (pv 4)) (nomark _)) (pss_cons (ps_aug (i := 3) sc_root_level.nd rfl (.inl rfl) pe_int ip_add) (pss_one (ps_aug (i := 4) sc_root_level.nd rfl (.inl rfl) (pv 0) Kr.ip_mul)))) (pss_one (ps_ret (pv 3)))))), ?_⟩
    rw [st_root_level]
    walk_at "ss"
    refine r_while (fun m σ H' => H' = H ∧ ∃ l : Nat, m = L - l ∧ l ≤ L ∧ σ = [some (.int f), some (.int a), some (.int b), some (.int l), some (.int (f ^ (l + 1) : Nat))]) _ ⟨rfl, 0, rfl, by omega, by rw [Nat.zero_add, Nat.pow_one]; rfl⟩ ?_
    rintro m σ H' ⟨rfl, l, rfl, hl, rfl⟩
    have cd := wd_div (l := l + 1) f2 f8 (by omega)
    walk_at "ss"
    have da : (a : Int) / ((f ^ (l + 1) : Nat) : Int) = ((a / f ^ (l + 1) : Nat) : Int) := rfl
    have db : (b : Int) / ((f ^ (l + 1) : Nat) : Int) = ((b / f ^ (l + 1) : Nat) : Int) := rfl
    rw [da, db]
    refine r_whN (fun ne => ?_) fun e => ?_
    · have lt : l < L := by
        rcases Nat.lt_or_ge l L with z | z
        · exact z
        · have e : l = L := by omega
          rw [e] at ne
          exact absurd (by rw [hr.1]) ne
      walk_at "ss"
      refine r_ipM ?_ ?_
      · have h1 := pw_log (b := f) (i := l + 1) f8 (by omega)
        have h2 := pw_log (b := f) (i := 1) f8 (by omega)
        rw [Nat.pow_one] at h2
        show _ + _ < 1000000
        omega
      walk_at "ss"
      rw [show ((f ^ (l + 1) : Nat) : Int) * (f : Int) = ((f ^ (l + 1 + 1) : Nat) : Int) by rw [Nat.pow_succ f (l + 1), Int.natCast_mul]]
      exact ⟨_, by omega, rfl, l + 1, rfl, by omega, rfl⟩
    · have lt : l = L := by
        rcases Nat.lt_or_ge l L with z | z
        · exact absurd (by omega) (hr.2 l z)
        · omega
      walk_at "ss"
      rw [lt]
      exact q L hL hr
theorem ok_are_lengths {P : Program} {w : World} {K : PySem.W.Frag} {mg : Str → Option Value} {base : Heap} {f : Addr} {fd : FuncData} (F : FunD K "are_lengths" "are_lengths" (defArgs s_are_lengths) (defBody s_are_lengths) (defScope s_are_lengths) [] [] f fd) (g_MOST_LENGTHS : ∃ t, mg "MOST_LENGTHS" = some (.int 6 t)) (g_MOST_UNITS : ∃ t, mg "MOST_UNITS" = some (.int 64 t)) (h_is_within : Kr.FnH P w K mg base CX0 2 "is_within" ["number", "least", "most"] (sp_is_within K)) (n_all : mg "all" = none) (n_isinstance : mg "isinstance" = none) (n_len : mg "len" = none) (n_list : mg "list" = none) : FnOk P w K mg base CX0 3 f fd ["lengths"] (sp_are_lengths K) := by
  refine F.ok sc_are_lengths (fun vs H Q E h => by first | (obtain ⟨rfl, _⟩ := h; rfl) | (obtain ⟨_, rfl, _⟩ := h; rfl) | (obtain ⟨_, _, rfl, _⟩ := h; rfl) | (obtain ⟨_, _, _, rfl, _⟩ := h; rfl) | (obtain ⟨_, _, _, _, rfl, _⟩ := h; rfl) | (obtain ⟨_, _, _, _, _, rfl, _⟩ := h; rfl) | (obtain ⟨_, _, _, _, _, _, rfl, _⟩ := h; rfl) | (obtain ⟨_, _, _, _, _, _, _, rfl, _⟩ := h; rfl) | (obtain ⟨_, _, _, _, _, _, _, _, rfl, _⟩ := h; rfl) | (obtain ⟨_, _, _, _, _, _, _, _, _, rfl, _⟩ := h; rfl) | (obtain ⟨_, _, _, _, _, _, _, _, _, _, rfl, _⟩ := h; rfl) | (obtain ⟨_, _, _, _, _, _, _, _, _, _, _, rfl, _⟩ := h; rfl) | (obtain ⟨_, _, _, _, _, _, _, _, _, _, _, _, rfl, _⟩ := h; rfl) | (obtain ⟨_, _, _, _, _, _, _, _, _, _, _, _, _, rfl, _⟩ := h; rfl) | (obtain ⟨_, _, _, _, _, _, _, _, _, _, _, _, _, _, rfl, _⟩ := h; rfl) | (obtain ⟨_, _, _, _, _, _, _, _, _, _, _, _, _, _, _, rfl, _⟩ := h; rfl) | (obtain ⟨_, _, _, _, _, _, _, _, _, _, _, _, _, _, _, _, rfl, _⟩ := h; rfl) | (obtain ⟨_, _, _, _, _, _, _, _, _, _, _, _, _, _, _, _, _, rfl, _⟩ := h; rfl)) (fun cdv A outer s H vs Q E hr h => ?_)
  · have hu := hu_of hr
    obtain ⟨p, ls, rfl, hp, ok, q⟩ := h
    have l1 := ok.l1
    have l6 := ok.l6
    have hl : (ls.map V.int).length = ls.length := List.length_map ..
    refine ⟨_, PSs.nox (pss_cons (ps_if (PW.pt (pw_or (pt_not (pt_val (pe_callB (id := "isinstance") call_isi rfl n_isinstance (by decide +kernel) (pa_cons (pv 0) (pa_cons (Kr.pe_bty (T := "list") n_list) pa_nil))))) (pw_or1 (pt_not (pt_chain op_le op_le pe_int (pe_callB (id := "len") Kr.c_len rfl n_len (by decide +kernel) (pa_cons (pv 0) pa_nil)) (Kr.pe_gint g_MOST_LENGTHS)))))) (pss_one (ps_ret pe_bl)) pss_nil) (pss_one (ps_ret (pe_callB (id := "all") (cr_all rfl) rfl n_all (by decide +kernel) (pa_cons (pe_lc (own := [("length", 1)]) rfl sc_are_lengths.nd (pi_list (pv 0)) (blkOk_by (own := [("length", 1)]) (N := N_are_lengths) (sc := defScope s_are_lengths) (by decide +kernel)) (fun _ _ _ _ _ => (pg_name (i := 1) sc_are_lengths.nd rfl (.inl rfl))) (fun _ _ _ _ _ => pts_nil) (fun _ _ _ _ _ => (Kr.pe_cl h_is_within (hr.mono (by decide)) (pa_cons (pv 1) (pa_cons pe_int (pa_cons (Kr.pe_gint g_MOST_UNITS) pa_nil)))))) pa_nil))))), ?_⟩
    rw [st_are_lengths]
    walk_at "ss"
    refine r_isiT (.base (.lst hp)) (b := true) (by decide +kernel) ?_
    walk_at "ss"
    rw [hl]
    refine r_dec (fun _ => ?_) fun z => absurd (show (1 : Int) ≤ ls.length by omega) z
    walk_at "ss"
    refine r_decN (fun z => absurd (show (ls.length : Int) ≤ 6 by omega) z) fun _ => ?_
    walk_at "ss"
    intro D hD
    refine lc_listS (xs := ls.map V.int) [some (.ref p), none] rfl (fun i H5 => H5 D = some (.lst ((List.replicate i true).map V.bl)) ∧ Same H H5) ⟨upd_same, same_new hD⟩ (fun i H5 _ hh => hh.2.seq (SqL.of hp)) ?_ ?_
    · rintro i x H5 hx ⟨h5, s5⟩
      obtain ⟨l, hm, rfl⟩ : ∃ l, l ∈ ls ∧ x = V.int l := by
        rw [List.getElem?_map] at hx
        obtain ⟨l, h1, h2⟩ := Option.map_eq_some_iff.mp hx
        exact ⟨l, List.mem_of_getElem? h1, h2.symm⟩
      have hi : i < ls.length := by
        have := (List.getElem?_eq_some_iff.mp hx).1
        omega
      obtain ⟨b1, b2⟩ := ok.all l hm
      walk_at "ss"
      refine ⟨rfl, ?_⟩
      walk_at "ss"
      refine ⟨_, _, _, rfl, ?_⟩
      rw [decide_eq_true (⟨b1, b2⟩ : 1 ≤ l ∧ l ≤ 64)]
      refine ⟨_, h5, by rw [List.length_map, List.length_replicate]; exact szl (by omega), ?_, fun b o e => ?_⟩
      · rw [upd_same, List.replicate_succ', List.map_append]
        rfl
      · rw [upd_ne (ne_of_none e hD)]
        exact s5 b o e
    · rintro H5 ⟨h5, s5⟩
      walk_at "ss"
      refine r_all (SqL.of h5) ?_
      rw [take_map_bl (fun b hb => (List.mem_replicate.mp hb).2)]
      walk_at "ss"
      exact q _ s5
theorem ok_bounds_behind {P : Program} {w : World} {K : PySem.W.Frag} {mg : Str → Option Value} {base : Heap} {f : Addr} {fd : FuncData} (F : FunD K "bounds_behind" "bounds_behind" (defArgs s_bounds_behind) (defBody s_bounds_behind) (defScope s_bounds_behind) [] [] f fd) (g_MOST_UNITS : ∃ t, mg "MOST_UNITS" = some (.int 64 t)) (n_max : mg "max" = none) : FnOk P w K mg base CX0 1 f fd ["lengths"] (sp_bounds_behind K) := by
  refine F.ok sc_bounds_behind (fun vs H Q E h => by first | (obtain ⟨rfl, _⟩ := h; rfl) | (obtain ⟨_, rfl, _⟩ := h; rfl) | (obtain ⟨_, _, rfl, _⟩ := h; rfl) | (obtain ⟨_, _, _, rfl, _⟩ := h; rfl) | (obtain ⟨_, _, _, _, rfl, _⟩ := h; rfl) | (obtain ⟨_, _, _, _, _, rfl, _⟩ := h; rfl) | (obtain ⟨_, _, _, _, _, _, rfl, _⟩ := h; rfl) | (obtain ⟨_, _, _, _, _, _, _, rfl, _⟩ := h; rfl) | (obtain ⟨_, _, _, _, _, _, _, _, rfl, _⟩ := h; rfl) | (obtain ⟨_, _, _, _, _, _, _, _, _, rfl, _⟩ := h; rfl) | (obtain ⟨_, _, _, _, _, _, _, _, _, _, rfl, _⟩ := h; rfl) | (obtain ⟨_, _, _, _, _, _, _, _, _, _, _, rfl, _⟩ := h; rfl) | (obtain ⟨_, _, _, _, _, _, _, _, _, _, _, _, rfl, _⟩ := h; rfl) | (obtain ⟨_, _, _, _, _, _, _, _, _, _, _, _, _, rfl, _⟩ := h; rfl) | (obtain ⟨_, _, _, _, _, _, _, _, _, _, _, _, _, _, rfl, _⟩ := h; rfl) | (obtain ⟨_, _, _, _, _, _, _, _, _, _, _, _, _, _, _, rfl, _⟩ := h; rfl) | (obtain ⟨_, _, _, _, _, _, _, _, _, _, _, _, _, _, _, _, rfl, _⟩ := h; rfl) | (obtain ⟨_, _, _, _, _, _, _, _, _, _, _, _, _, _, _, _, _, rfl, _⟩ := h; rfl)) (fun cdv A outer s H vs Q E hr h => ?_)
  · have hu := hu_of hr
    obtain ⟨p, ls, rfl, hp, l1, l6, q⟩ := h
    refine ⟨_, PSs.nox (pss_one (ps_ret (pe_lst (pa_cons (pe_tup (pa_cons pe_str (pa_cons (pe_callB (id := "max") (cr_max rfl) rfl n_max (by decide +kernel) (pa_cons (pv 0) pa_nil)) (pa_cons (Kr.pe_gint g_MOST_UNITS) pa_nil)))) (pa_cons (pe_tup (pa_cons pe_str (pa_cons pe_int (pa_cons pe_int pa_nil)))) (pa_cons (pe_tup (pa_cons pe_str (pa_cons pe_int (pa_cons pe_int pa_nil)))) (pa_cons (pe_tup (pa_cons pe_str (pa_cons pe_int (pa_cons pe_int pa_nil)))) (pa_cons (pe_tup (pa_cons pe_str (pa_cons pe_int (pa_cons pe_int pa_nil)))) pa_nil)))))))), ?_⟩
    rw [st_bounds_behind]
    walk_at "ss"
    refine r_max (SqL.of hp) l1 fun m hm hmx => ?_
    walk_at "ss"
    refine r_newS fun t1 G1 _ u1 e1 => ?_
    walk_at "ss"
    refine r_newS fun t2 G2 _ u2 e2 => ?_
    walk_at "ss"
    refine r_newS fun t3 G3 _ u3 e3 => ?_
    walk_at "ss"
    refine r_newS fun t4 G4 _ u4 e4 => ?_
    walk_at "ss"
    refine r_newS fun t5 G5 _ u5 e5 => ?_
    walk_at "ss"
    refine r_newS fun L G6 _ u6 e6 => ?_
    have f5 := u6 _ _ e5
    have f4 := u6 _ _ (u5 _ _ e4)
    have f3 := u6 _ _ (u5 _ _ (u4 _ _ e3))
    have f2 := u6 _ _ (u5 _ _ (u4 _ _ (u3 _ _ e2)))
    have f1 := u6 _ _ (u5 _ _ (u4 _ _ (u3 _ _ (u2 _ _ e1))))
    exact q m L G6 hm hmx (((((u1.trans u2).trans u3).trans u4).trans u5).trans u6) ⟨_, _, _, _, _, e6, f1, f2, f3, f4, f5⟩
theorem ok_Settings___init__ {P : Program} {w : World} {K : PySem.W.Frag} {mg : Str → Option Value} {base : Heap} {f : Addr} {fd : FuncData} (F : FunD K "__init__" "Settings.__init__" (defArgs s_Settings___init__) (defBody s_Settings___init__) (defScope s_Settings___init__) [] [] f fd) (a_Settings_every : NoAttr K (He.ga K "Settings") "every") (a_Settings_fanout : NoAttr K (He.ga K "Settings") "fanout") (a_Settings_keep : NoAttr K (He.ga K "Settings") "keep") (a_Settings_lengths : NoAttr K (He.ga K "Settings") "lengths") (a_Settings_records : NoAttr K (He.ga K "Settings") "records") (a_Settings_size : NoAttr K (He.ga K "Settings") "size") (c_Settings : Cls K (He.ga K "Settings")) (h_are_lengths : Kr.FnH P w K mg base CX0 3 "are_lengths" ["lengths"] (sp_are_lengths K)) (h_bounds_behind : Kr.FnH P w K mg base CX0 1 "bounds_behind" ["lengths"] (sp_bounds_behind K)) (h_is_within : Kr.FnH P w K mg base CX0 2 "is_within" ["number", "least", "most"] (sp_is_within K)) (n_tuple : mg "tuple" = none) : FnOk P w K mg base CX0 4 f fd ["self", "lengths", "size", "fanout", "records", "every", "keep"] (sp_Settings___init__ K) := by
  refine F.ok sc_Settings___init__ (fun vs H Q E h => by first | (obtain ⟨rfl, _⟩ := h; rfl) | (obtain ⟨_, rfl, _⟩ := h; rfl) | (obtain ⟨_, _, rfl, _⟩ := h; rfl) | (obtain ⟨_, _, _, rfl, _⟩ := h; rfl) | (obtain ⟨_, _, _, _, rfl, _⟩ := h; rfl) | (obtain ⟨_, _, _, _, _, rfl, _⟩ := h; rfl) | (obtain ⟨_, _, _, _, _, _, rfl, _⟩ := h; rfl) | (obtain ⟨_, _, _, _, _, _, _, rfl, _⟩ := h; rfl) | (obtain ⟨_, _, _, _, _, _, _, _, rfl, _⟩ := h; rfl) | (obtain ⟨_, _, _, _, _, _, _, _, _, rfl, _⟩ := h; rfl) | (obtain ⟨_, _, _, _, _, _, _, _, _, _, rfl, _⟩ := h; rfl) | (obtain ⟨_, _, _, _, _, _, _, _, _, _, _, rfl, _⟩ := h; rfl) | (obtain ⟨_, _, _, _, _, _, _, _, _, _, _, _, rfl, _⟩ := h; rfl) | (obtain ⟨_, _, _, _, _, _, _, _, _, _, _, _, _, rfl, _⟩ := h; rfl) | (obtain ⟨_, _, _, _, _, _, _, _, _, _, _, _, _, _, rfl, _⟩ := h; rfl) | (obtain ⟨_, _, _, _, _, _, _, _, _, _, _, _, _, _, _, rfl, _⟩ := h; rfl) | (obtain ⟨_, _, _, _, _, _, _, _, _, _, _, _, _, _, _, _, rfl, _⟩ := h; rfl) | (obtain ⟨_, _, _, _, _, _, _, _, _, _, _, _, _, _, _, _, _, rfl, _⟩ := h; rfl)) (fun cdv A outer s H vs Q E hr h => ?_)
  · have hu := hu_of hr
    obtain ⟨a, dx, p, ls, sz, fo, re, ev, ke, rfl, ha, hp, ok, q⟩ := h
    have l1 := ok.l1
    have l6 := ok.l6
    have r64 := ok.r64
    have cc := c_Settings
    have n1 := a_Settings_lengths
    have n2 := a_Settings_size
    have n3 := a_Settings_fanout
    have n4 := a_Settings_records
    have n5 := a_Settings_every
    have n6 := a_Settings_keep
    refine ⟨_, PSs.nox (pss_cons (ps_if (pt_not (pt_val (Kr.pe_cl h_are_lengths (hr.mono (by decide)) (pa_cons (pv 1) pa_nil)))) (pss_one ps_never) pss_nil) (pss_cons (ps_set (i := 7) sc_Settings___init__.nd rfl (.inl rfl) (pe_disp (pps_cons pe_str (pv 2) (pps_cons pe_str (pv 3) (pps_cons pe_str (pv 4) (pps_cons pe_str (pv 5) (pps_cons pe_str (pv 6) pps_nil))))) (by rfl) (by rfl) (fun z => by cases z) (by decide))) (pss_cons (ps_for PassesOwn.never rfl (pi_list (Kr.pe_cl h_bounds_behind (hr.mono (by decide)) (pa_cons (pv 1) pa_nil))) (pg_tup rfl (pgs_cons (pg_name (i := 8) sc_Settings___init__.nd rfl (.inl rfl)) (pgs_cons (pg_name (i := 9) sc_Settings___init__.nd rfl (.inl rfl)) (pgs_cons (pg_name (i := 10) sc_Settings___init__.nd rfl (.inl rfl)) pgs_nil)))) (pss_one (ps_if (pt_not (pt_val (Kr.pe_cl h_is_within (hr.mono (by decide)) (pa_cons (pe_dget hu (pv 7) (pv 8) (fun _ _ => rfl)) (pa_cons (pv 9) (pa_cons (pv 10) pa_nil)))))) (pss_one ps_never) pss_nil))) (pss_cons (ps_fld (pv 0) (pe_callTy (T := "tuple") Kr.c_tuple rfl n_tuple (by decide +kernel) (pa_cons (pv 1) pa_nil)) rfl) (pss_cons (ps_fld (pv 0) (pv 2) rfl) (pss_cons (ps_fld (pv 0) (pv 3) rfl) (pss_cons (ps_fld (pv 0) (pv 4) rfl) (pss_cons (ps_fld (pv 0) (pv 5) rfl) (pss_one (ps_fld (pv 0) (pv 6) rfl)))))))))), ?_⟩
    rw [st_Settings___init__]
    walk_at "ss"
    refine ⟨_, _, rfl, hp, ⟨l1, l6, fun l hl => ⟨(ok.all l hl).1, by have := (ok.all l hl).2; omega⟩, by decide⟩, fun H1 s1 => ?_⟩
    have hp1 := s1 _ _ hp
    have ha1 := s1 _ _ ha
    walk_at "ss"
    refine r_disp fun g hg => ?_
    refine r_pairs ?_
    walk_at "ss"
    refine r_pairs ?_
    walk_at "ss"
    refine r_pairs ?_
    walk_at "ss"
    refine r_pairs ?_
    walk_at "ss"
    refine r_pairs ?_
    walk_at "ss"
    refine r_pairs0 ?_
    refine r_dispE (givD (.int sz) (.int fo) (.int re) (.int ev) (.int ke)) upd_same rfl (by show 5 ≤ 15; decide) ?_
    rw [upd_upd]
    have s2 : Same H (upd H1 g (.dK (mergeK [] (givD (.int sz) (.int fo) (.int re) (.int ev) (.int ke))))) := s1.trans (same_new hg)
    have e2 : upd H1 g (.dK (mergeK [] (givD (.int sz) (.int fo) (.int re) (.int ev) (.int ke)))) g = some (.dK (givD (.int sz) (.int fo) (.int re) (.int ev) (.int ke))) := upd_same
    generalize upd H1 g (.dK (mergeK [] (givD (.int sz) (.int fo) (.int re) (.int ev) (.int ke)))) = H2 at s2 e2 ⊢
    walk_at "ss"
    refine ⟨p, ls, rfl, s2 _ _ hp, l1, l6, fun m L G6 hm _ s3 hB => ?_⟩
    have hmz := (ok.all m hm).2
    have hm1 := (ok.all m hm).1
    obtain ⟨t1, t2, t3, t4, t5, e6, f1, f2, f3, f4, f5⟩ := hB
    have s6 : Same H G6 := s2.trans s3
    have eg := s3 _ _ e2
    walk_at "ss"
    refine r_forL (xs := [.ref t1, .ref t2, .ref t3, .ref t4, .ref t5]) (fun i σ H' => H' = G6 ∧ ∃ y1 y2 y3 : Option V, σ = [some (.ref a), some (.ref p), some (.int sz), some (.int fo), some (.int re), some (.int ev), some (.int ke), some (.ref g), y1, y2, y3])
      ⟨rfl, _, _, _, rfl⟩ (fun i σ H' _ hh => by obtain ⟨rfl, _⟩ := hh; exact SqL.of e6) ?_ ?_
    · rintro i x σ H' hx ⟨rfl, y1, y2, y3, rfl⟩
      obtain ⟨t, w, n, lo, hi, rfl, ht, hv, hlo, hhi⟩ : ∃ (t : Addr) (w : Str) (n lo hi : Int), x = .ref t ∧ H' t = some (.tup [.str w, .int lo, .int hi]) ∧ valV (givD (.int sz) (.int fo) (.int re) (.int ev) (.int ke)) (Sum.inr w) = some (.int n) ∧ lo ≤ n ∧ n ≤ hi := by
        rcases i with _ | _ | _ | _ | _ | i
        · cases hx
          exact ⟨_, _, _, _, _, rfl, f1, rfl, hmz, r64⟩
        · cases hx
          exact ⟨_, _, _, _, _, rfl, f2, rfl, ok.fo.1, ok.fo.2⟩
        · cases hx
          exact ⟨_, _, _, _, _, rfl, f3, rfl, ok.re.1, ok.re.2⟩
        · cases hx
          exact ⟨_, _, _, _, _, rfl, f4, rfl, ok.ev.1, ok.ev.2⟩
        · cases hx
          exact ⟨_, _, _, _, _, rfl, f5, rfl, ok.ke.1, ok.ke.2⟩
        · cases hx
      walk_at "ss"
      refine r_dgS eg hv ?_
      walk_at "ss"
      refine ⟨_, _, _, rfl, ?_⟩
      rw [decide_eq_true (⟨hlo, hhi⟩ : lo ≤ n ∧ n ≤ hi)]
      walk_at "ss"
      exact ⟨rfl, _, _, _, rfl⟩
    · rintro σ H' ⟨rfl, y1, y2, y3, rfl⟩
      have hp6 := s6 _ _ hp
      have ha6 := s6 _ _ ha
      walk_at "ss"
      refine r_new fun t ht => ?_
      have nta : t ≠ a := (ne_of_none ha6 ht).symm
      walk_at "ss"
      refine r_st (upd_free ha6 ht) cc n1 (by decide) rfl ?_
      walk_at "ss"
      refine r_st upd_same cc n2 (by show 1 < 1000; decide) rfl ?_
      walk_at "ss"
      refine r_st upd_same cc n3 (by show 2 < 1000; decide) rfl ?_
      walk_at "ss"
      refine r_st upd_same cc n4 (by show 3 < 1000; decide) rfl ?_
      walk_at "ss"
      refine r_st upd_same cc n5 (by show 4 < 1000; decide) rfl ?_
      walk_at "ss"
      refine r_st upd_same cc n6 (by show 5 < 1000; decide) rfl ?_
      simp only [upd_upd]
      refine q t _ (fun b o n e => ?_) upd_same ?_
      · rw [upd_ne n]
        exact upd_free (s6 b o e) ht
      · rw [upd_ne nta]
        exact upd_same
theorem ok_check_settings {P : Program} {w : World} {K : PySem.W.Frag} {mg : Str → Option Value} {base : Heap} {f : Addr} {fd : FuncData} (F : FunD K "check_settings" "check_settings" (defArgs s_check_settings) (defBody s_check_settings) (defScope s_check_settings) [] [] f fd) (i_Settings : Kr.InsI K (He.ga K "Settings")) (k_Settings : mg "Settings" = some (.ref (He.ga K "Settings"))) (n_isinstance : mg "isinstance" = none) : FnOk P w K mg base CX0 1 f fd ["settings"] (sp_check_settings K) := by
  refine F.ok sc_check_settings (fun vs H Q E h => by first | (obtain ⟨rfl, _⟩ := h; rfl) | (obtain ⟨_, rfl, _⟩ := h; rfl) | (obtain ⟨_, _, rfl, _⟩ := h; rfl) | (obtain ⟨_, _, _, rfl, _⟩ := h; rfl) | (obtain ⟨_, _, _, _, rfl, _⟩ := h; rfl) | (obtain ⟨_, _, _, _, _, rfl, _⟩ := h; rfl) | (obtain ⟨_, _, _, _, _, _, rfl, _⟩ := h; rfl) | (obtain ⟨_, _, _, _, _, _, _, rfl, _⟩ := h; rfl) | (obtain ⟨_, _, _, _, _, _, _, _, rfl, _⟩ := h; rfl) | (obtain ⟨_, _, _, _, _, _, _, _, _, rfl, _⟩ := h; rfl) | (obtain ⟨_, _, _, _, _, _, _, _, _, _, rfl, _⟩ := h; rfl) | (obtain ⟨_, _, _, _, _, _, _, _, _, _, _, rfl, _⟩ := h; rfl) | (obtain ⟨_, _, _, _, _, _, _, _, _, _, _, _, rfl, _⟩ := h; rfl) | (obtain ⟨_, _, _, _, _, _, _, _, _, _, _, _, _, rfl, _⟩ := h; rfl) | (obtain ⟨_, _, _, _, _, _, _, _, _, _, _, _, _, _, rfl, _⟩ := h; rfl) | (obtain ⟨_, _, _, _, _, _, _, _, _, _, _, _, _, _, _, rfl, _⟩ := h; rfl) | (obtain ⟨_, _, _, _, _, _, _, _, _, _, _, _, _, _, _, _, rfl, _⟩ := h; rfl) | (obtain ⟨_, _, _, _, _, _, _, _, _, _, _, _, _, _, _, _, _, rfl, _⟩ := h; rfl)) (fun cdv A outer s H vs Q E hr h => ?_)
  · have hu := hu_of hr
    obtain ⟨a, dx, fs, rfl, ha, q⟩ := h
    refine ⟨_, PSs.nox (pss_one (ps_if (pt_not (pt_val (pe_callB (id := "isinstance") call_isi rfl n_isinstance (by decide +kernel) (pa_cons (pv 0) (pa_cons (Kr.pe_gcls k_Settings) pa_nil))))) (pss_one ps_never) pss_nil)), ?_⟩
    rw [st_check_settings]
    walk_at "ss"
    refine r_isiC i_Settings ha ?_
    walk_at "ss"
    exact q
theorem ok_rows_from {P : Program} {w : World} {K : PySem.W.Frag} {mg : Str → Option Value} {base : Heap} {f : Addr} {fd : FuncData} (F : FunD K "rows_from" "rows_from" (defArgs s_rows_from) (defBody s_rows_from) (defScope s_rows_from) [] [] f fd) (a_Settings_lengths : NoAttr K (He.ga K "Settings") "lengths") (a_Settings_size : NoAttr K (He.ga K "Settings") "size") (c_Settings : Cls K (He.ga K "Settings")) (n_len : mg "len" = none) (n_sum : mg "sum" = none) : FnOk P w K mg base CX0 1 f fd ["settings", "row"] (sp_rows_from K) := by
  refine F.ok sc_rows_from (fun vs H Q E h => by first | (obtain ⟨rfl, _⟩ := h; rfl) | (obtain ⟨_, rfl, _⟩ := h; rfl) | (obtain ⟨_, _, rfl, _⟩ := h; rfl) | (obtain ⟨_, _, _, rfl, _⟩ := h; rfl) | (obtain ⟨_, _, _, _, rfl, _⟩ := h; rfl) | (obtain ⟨_, _, _, _, _, rfl, _⟩ := h; rfl) | (obtain ⟨_, _, _, _, _, _, rfl, _⟩ := h; rfl) | (obtain ⟨_, _, _, _, _, _, _, rfl, _⟩ := h; rfl) | (obtain ⟨_, _, _, _, _, _, _, _, rfl, _⟩ := h; rfl) | (obtain ⟨_, _, _, _, _, _, _, _, _, rfl, _⟩ := h; rfl) | (obtain ⟨_, _, _, _, _, _, _, _, _, _, rfl, _⟩ := h; rfl) | (obtain ⟨_, _, _, _, _, _, _, _, _, _, _, rfl, _⟩ := h; rfl) | (obtain ⟨_, _, _, _, _, _, _, _, _, _, _, _, rfl, _⟩ := h; rfl) | (obtain ⟨_, _, _, _, _, _, _, _, _, _, _, _, _, rfl, _⟩ := h; rfl) | (obtain ⟨_, _, _, _, _, _, _, _, _, _, _, _, _, _, rfl, _⟩ := h; rfl) | (obtain ⟨_, _, _, _, _, _, _, _, _, _, _, _, _, _, _, rfl, _⟩ := h; rfl) | (obtain ⟨_, _, _, _, _, _, _, _, _, _, _, _, _, _, _, _, rfl, _⟩ := h; rfl) | (obtain ⟨_, _, _, _, _, _, _, _, _, _, _, _, _, _, _, _, _, rfl, _⟩ := h; rfl)) (fun cdv A outer s H vs Q E hr h => ?_)
  · have hu := hu_of hr
    obtain ⟨s1, r, ls, sz, fo, re, ev, ke, rfl, ⟨dx, t, hs, ht⟩, ok, q⟩ := h
    have cc := c_Settings
    have n1 := a_Settings_lengths
    have n2 := a_Settings_size
    have o := ok.pk
    have l1 := ok.l1
    have l6 := ok.l6
    have hl : (ls.map V.int).length = ls.length := List.length_map ..
    have hsum : ls.sum = Pk.pre ls 0 ls.length := sum_round ls
    have hpos : (ls.length : Int) ≤ ls.sum := by rw [hsum]; exact Pk.pre_ge o 0 _
    have hsz : 1 ≤ sz := by
      have := Pk.len_pos o 0
      omega
    have r64 := ok.r64
    have hsm : ls.sum ≤ 6 * sz := by
      rw [hsum]
      have key : ∀ k : Nat, Pk.pre ls 0 k ≤ k * sz := by
        intro k
        induction k with
        | zero => simp [Pk.pre]
        | succ k ih =>
          have := (Pk.len_pos o (0 + k)).2
          have e : ((k + 1 : Nat) : Int) * sz = k * sz + sz := by rw [Int.natCast_add, Int.add_mul]; simp
          show Pk.pre ls 0 k + Pk.lenAt ls (0 + k) ≤ _
          rw [e]
          omega
      have h1 := key ls.length
      have h2 : (ls.length : Int) * sz ≤ 6 * sz := Int.mul_le_mul_of_nonneg_right (by omega) (by omega)
      omega
    have hs1 : 0 < ls.sum := by omega
    have q0 : 0 ≤ sz / ls.sum := Int.ediv_nonneg (by omega) (by omega)
    have q1 : sz / ls.sum ≤ sz := Int.ediv_le_self _ (by omega)
    obtain ⟨n, hn⟩ := Int.eq_ofNat_of_zero_le q0
    have hm := Int.emod_nonneg sz (show ls.sum ≠ 0 by omega)
    have hdm := Int.emod_add_mul_ediv sz ls.sum
    have hat : ∀ k : Nat, atI (ls.map V.int) (((r : Int) + (k : Int)) % ((ls.map V.int).length : Int)) = some (V.int (Pk.lenAt ls (r + k))) := fun k => by
      refine at_of (j := (r + k) % ls.length) (by rw [hl]; push_cast; rfl) ?_
      rw [List.getElem?_map, Pk.len_at o (r + k)]
      rfl
    refine ⟨_, PSs.nox (pss_cons (ps_set (i := 2) sc_rows_from.nd rfl (.inl rfl) (pe_fld (pv 0) rfl)) (pss_cons (ps_set (i := 3) sc_rows_from.nd rfl (.inl rfl) (pe_op op_mul (pe_op op_fdivW (pe_fld (pv 0) rfl) (pe_callB (id := "sum") (Kr.c_sumT rfl) rfl n_sum (by decide +kernel) (pa_cons (pv 2) pa_nil))) (pe_callB (id := "len") Kr.c_len rfl n_len (by decide +kernel) (pa_cons (pv 2) pa_nil)))) (pss_cons (ps_set (i := 4) sc_rows_from.nd rfl (.inl rfl) (pe_op op_mod (pe_fld (pv 0) rfl) (pe_callB (id := "sum") (Kr.c_sumT rfl) rfl n_sum (by decide +kernel) (pa_cons (pv 2) pa_nil)))) (pss_cons (ps_while PassesOwn.never (pt_cmpR op_le (pe_ix ix_tup (pv 2) (pe_op op_mod (pe_op op_add (pv 1) (pv 3)) (pe_callB (id := "len") Kr.c_len rfl n_len (by decide +kernel) (pa_cons (pv 2) pa_nil))) (fun _ _ => rfl)) (pv 4) (nomark _)) (pss_cons (ps_aug (i := 4) sc_rows_from.nd rfl (.inl rfl) (pe_ix ix_tup (pv 2) (pe_op op_mod (pe_op op_add (pv 1) (pv 3)) (pe_callB (id := "len") Kr.c_len rfl n_len (by decide +kernel) (pa_cons (pv 2) pa_nil))) (fun _ _ => rfl)) ip_sub) (pss_one (ps_aug (i := 3) sc_rows_from.nd rfl (.inl rfl) pe_int ip_add)))) (pss_one (ps_ret (pv 3))))))), ?_⟩
    rw [st_rows_from]
    walk_at "ss"
    refine r_I (wide_div (b := 64) hs1 (by omega) (by decide) (by decide)) ?_
    walk_at "ss"
    rw [hn, hl]
    refine r_while (fun m σ H' => H' = H ∧ ∃ (k : Nat) (left : Int), m = left.toNat ∧ σ = [some (.ref s1), some (.int r), some (.ref t), some (.int k), some (.int left)] ∧ Pk.pre ls r k + left = sz ∧ 0 ≤ left) _
      ⟨rfl, n * ls.length, sz % ls.sum, rfl, by rw [Int.natCast_mul], ?_, hm⟩ ?_
    · rw [rounds]
      rw [hn] at hdm
      have e : (n : Int) * ls.sum = ls.sum * n := Int.mul_comm _ _
      omega
    rintro m σ H' ⟨rfl, k, left, rfl, rfl, hpre, hleft⟩
    walk_at "ss"
    refine r_ixT (SqT.of ht) (hat k) ?_
    walk_at "ss"
    have lp := Pk.len_pos o (r + k)
    refine r_whD (fun hle => ?_) fun hle => ?_
    · walk_at "ss"
      refine r_ixT (SqT.of ht) (hat k) ?_
      walk_at "ss"
      refine ⟨_, ?_, rfl, k + 1, left - Pk.lenAt ls (r + k), rfl, rfl, ?_, by omega⟩
      · omega
      · show Pk.pre ls r k + Pk.lenAt ls (r + k) + _ = sz
        omega
    · walk_at "ss"
      have e : Pk.cnt ls sz r = k := Pk.cnt_is o ⟨by omega, by
        show sz < Pk.pre ls r k + Pk.lenAt ls (r + k)
        omega⟩
      rw [e] at q
      exact q
theorem ok_Packing_page_with {P : Program} {w : World} {K : PySem.W.Frag} {mg : Str → Option Value} {base : Heap} {f : Addr} {fd : FuncData} (F : FunD K "page_with" "Packing.page_with" (defArgs s_Packing_page_with) (defBody s_Packing_page_with) (defScope s_Packing_page_with) [] [] f fd) (a_Packing__first : NoAttr K (He.ga K "Packing") "_first") (a_Packing__pages : NoAttr K (He.ga K "Packing") "_pages") (a_Packing__rows : NoAttr K (He.ga K "Packing") "_rows") (a_Packing__starts : NoAttr K (He.ga K "Packing") "_starts") (c_Packing : Cls K (He.ga K "Packing")) (n_max : mg "max" = none) : FnOk P w K mg base CX0 1 f fd ["self", "row"] (sp_Packing_page_with K) := by
  refine F.ok sc_Packing_page_with (fun vs H Q E h => by first | (obtain ⟨rfl, _⟩ := h; rfl) | (obtain ⟨_, rfl, _⟩ := h; rfl) | (obtain ⟨_, _, rfl, _⟩ := h; rfl) | (obtain ⟨_, _, _, rfl, _⟩ := h; rfl) | (obtain ⟨_, _, _, _, rfl, _⟩ := h; rfl) | (obtain ⟨_, _, _, _, _, rfl, _⟩ := h; rfl) | (obtain ⟨_, _, _, _, _, _, rfl, _⟩ := h; rfl) | (obtain ⟨_, _, _, _, _, _, _, rfl, _⟩ := h; rfl) | (obtain ⟨_, _, _, _, _, _, _, _, rfl, _⟩ := h; rfl) | (obtain ⟨_, _, _, _, _, _, _, _, _, rfl, _⟩ := h; rfl) | (obtain ⟨_, _, _, _, _, _, _, _, _, _, rfl, _⟩ := h; rfl) | (obtain ⟨_, _, _, _, _, _, _, _, _, _, _, rfl, _⟩ := h; rfl) | (obtain ⟨_, _, _, _, _, _, _, _, _, _, _, _, rfl, _⟩ := h; rfl) | (obtain ⟨_, _, _, _, _, _, _, _, _, _, _, _, _, rfl, _⟩ := h; rfl) | (obtain ⟨_, _, _, _, _, _, _, _, _, _, _, _, _, _, rfl, _⟩ := h; rfl) | (obtain ⟨_, _, _, _, _, _, _, _, _, _, _, _, _, _, _, rfl, _⟩ := h; rfl) | (obtain ⟨_, _, _, _, _, _, _, _, _, _, _, _, _, _, _, _, rfl, _⟩ := h; rfl) | (obtain ⟨_, _, _, _, _, _, _, _, _, _, _, _, _, _, _, _, _, rfl, _⟩ := h; rfl)) (fun cdv A outer s H vs Q E hr h => ?_)
  · have hu := hu_of hr
    obtain ⟨a, lp, dx, ls, sz, j, k, r, fs, rfl, F, hr40, q⟩ := h
    have cc := c_Packing
    have n1 := a_Packing__starts
    have n2 := a_Packing__first
    have n3 := a_Packing__pages
    have n4 := a_Packing__rows
    have h0 := F.at_
    have h1 := F.l1
    have h2 := F.l2
    have h3 := F.l3
    have h4 := F.l4
    have h5 := F.lst
    have o := F.ok.pk
    have cr := F.cyc.rows o
    have clt := F.cyc.lt
    obtain ⟨k6, st400⟩ := F.small
    have rle : Pk.rws ls sz j k ≤ 400 := by unfold Pk.rws; omega
    have ht : ∀ {i : Nat} {z : Int}, z = (i : Int) → i < k + 1 → atI (tabL (stV ls sz) (k + 1)) z = some (V.int (Pk.st ls sz i : Nat)) := fun e h => tabL_at (stV ls sz) e h
    obtain ⟨t, et, t1, t2, t3, t4⟩ := F.cyc.turns o r
    have rc : CDivW 0 ((Pk.rws ls sz j k : Nat) : Int) := wide_div (b := 64) (by omega) (by omega) (by decide) (by decide)
    refine ⟨_, PSs.nox (pss_cons (ps_set (i := 2) sc_Packing_page_with.nd rfl (.inl rfl) (pe_callB (id := "max") (Kr.c_max2 rfl) rfl n_max (by decide +kernel) (pa_cons pe_int (pa_cons (pe_op op_fdivW (pe_op op_sub (pv 1) (pe_ix ix_list (pe_fld (pv 0) rfl) (pe_fld (pv 0) rfl) (fun _ _ => rfl))) (pe_fld (pv 0) rfl)) pa_nil)))) (pss_cons (ps_set (i := 3) sc_Packing_page_with.nd rfl (.inl rfl) (pe_op op_sub (pv 1) (pe_op op_mul (pv 2) (pe_fld (pv 0) rfl)))) (pss_cons (ps_set (i := 4) sc_Packing_page_with.nd rfl (.inl rfl) pe_int) (pss_cons (ps_while PassesOwn.never (pt_cmpR op_le (pe_ix ix_list (pe_fld (pv 0) rfl) (pe_op op_add (pv 4) pe_int) (fun _ _ => rfl)) (pv 3) (nomark _)) (pss_one (ps_aug (i := 4) sc_Packing_page_with.nd rfl (.inl rfl) pe_int ip_add))) (pss_one (ps_ret (pe_op op_add (pv 4) (pe_op op_mul (pv 2) (pe_fld (pv 0) rfl))))))))), ?_⟩
    rw [st_Packing_page_with]
    walk_at "ss"
    refine r_ixL (SqL.of h5) (ht rfl (by omega)) ?_
    walk_at "ss"
    rw [et]
    walk_at "ss"
    refine r_while (fun m σ H' => H' = H ∧ ∃ p : Nat, m = k - p ∧ p < k ∧ Pk.st ls sz p ≤ r - t * Pk.rws ls sz j k ∧ σ = [some (.ref a), some (.int r), some (.int t), some (.int (r - t * (Pk.rws ls sz j k : Nat))), some (.int p)]) _ ⟨rfl, 0, rfl, by omega, Nat.zero_le _, rfl⟩ ?_
    rintro m σ H' ⟨rfl, p, rfl, hp, hle, rfl⟩
    walk_at "ss"
    refine r_ixL (SqL.of h5) (ht (i := p + 1) rfl (by omega)) ?_
    walk_at "ss"
    have en : (r : Int) - t * (Pk.rws ls sz j k : Nat) = ((r - t * Pk.rws ls sz j k : Nat) : Int) := by
      rw [Int.ofNat_sub t1, Int.natCast_mul]
    refine r_whD (fun hle2 => ?_) fun hlt => ?_
    · have hle3 : Pk.st ls sz (p + 1) ≤ r - t * Pk.rws ls sz j k := by
        rw [en] at hle2
        omega
      have hpk : p + 1 < k := by
        rcases Nat.lt_or_ge (p + 1) k with z | z
        · exact z
        · have e : p + 1 = k := by omega
          rw [e] at hle3
          omega
      walk_at "ss"
      exact ⟨_, by omega, rfl, p + 1, rfl, hpk, hle3, rfl⟩
    · have hlt3 : r - t * Pk.rws ls sz j k < Pk.st ls sz (p + 1) := by
        rw [en] at hlt
        omega
      walk_at "ss"
      have e : (p : Int) + t * ((k - j : Nat) : Int) = ((p + t * (k - j) : Nat) : Int) := by
        rw [Int.natCast_add, Int.natCast_mul]
      rw [e]
      exact q _ (F.cyc.on o t1 t2 ⟨hle, hlt3⟩)
theorem ok_Packing___init__ {P : Program} {w : World} {K : PySem.W.Frag} {mg : Str → Option Value} {base : Heap} {f : Addr} {fd : FuncData} (F : FunD K "__init__" "Packing.__init__" (defArgs s_Packing___init__) (defBody s_Packing___init__) (defScope s_Packing___init__) [] [] f fd) (a_Packing__first : NoAttr K (He.ga K "Packing") "_first") (a_Packing__last : NoAttr K (He.ga K "Packing") "_last") (a_Packing__pages : NoAttr K (He.ga K "Packing") "_pages") (a_Packing__rows : NoAttr K (He.ga K "Packing") "_rows") (a_Packing__settings : NoAttr K (He.ga K "Packing") "_settings") (a_Packing__starts : NoAttr K (He.ga K "Packing") "_starts") (a_Settings_lengths : NoAttr K (He.ga K "Settings") "lengths") (c_Packing : Cls K (He.ga K "Packing")) (c_Settings : Cls K (He.ga K "Settings")) (g_ROWS : ∃ t, mg "ROWS" = some (.int 1000000000000000000000000000000 t)) (h_check_settings : Kr.FnH P w K mg base CX0 1 "check_settings" ["settings"] (sp_check_settings K)) (h_rows_from : Kr.FnH P w K mg base CX0 1 "rows_from" ["settings", "row"] (sp_rows_from K)) (m_Packing_page_with : Kr.MtH P w K mg base CX0 1 (He.ga K "Packing") "page_with" ["self", "row"] (sp_Packing_page_with K)) (n_len : mg "len" = none) : FnOk P w K mg base CX0 2 f fd ["self", "settings"] (sp_Packing___init__ K) := by
  refine F.ok sc_Packing___init__ (fun vs H Q E h => by first | (obtain ⟨rfl, _⟩ := h; rfl) | (obtain ⟨_, rfl, _⟩ := h; rfl) | (obtain ⟨_, _, rfl, _⟩ := h; rfl) | (obtain ⟨_, _, _, rfl, _⟩ := h; rfl) | (obtain ⟨_, _, _, _, rfl, _⟩ := h; rfl) | (obtain ⟨_, _, _, _, _, rfl, _⟩ := h; rfl) | (obtain ⟨_, _, _, _, _, _, rfl, _⟩ := h; rfl) | (obtain ⟨_, _, _, _, _, _, _, rfl, _⟩ := h; rfl) | (obtain ⟨_, _, _, _, _, _, _, _, rfl, _⟩ := h; rfl) | (obtain ⟨_, _, _, _, _, _, _, _, _, rfl, _⟩ := h; rfl) | (obtain ⟨_, _, _, _, _, _, _, _, _, _, rfl, _⟩ := h; rfl) | (obtain ⟨_, _, _, _, _, _, _, _, _, _, _, rfl, _⟩ := h; rfl) | (obtain ⟨_, _, _, _, _, _, _, _, _, _, _, _, rfl, _⟩ := h; rfl) | (obtain ⟨_, _, _, _, _, _, _, _, _, _, _, _, _, rfl, _⟩ := h; rfl) | (obtain ⟨_, _, _, _, _, _, _, _, _, _, _, _, _, _, rfl, _⟩ := h; rfl) | (obtain ⟨_, _, _, _, _, _, _, _, _, _, _, _, _, _, _, rfl, _⟩ := h; rfl) | (obtain ⟨_, _, _, _, _, _, _, _, _, _, _, _, _, _, _, _, rfl, _⟩ := h; rfl) | (obtain ⟨_, _, _, _, _, _, _, _, _, _, _, _, _, _, _, _, _, rfl, _⟩ := h; rfl)) (fun cdv A outer s H vs Q E hr h => ?_)
  · have hu := hu_of hr
    obtain ⟨a, s1, dx, ls, sz, fo, re, ev, ke, rfl, ha, S, ok, q⟩ := h
    obtain ⟨dy, t, hs, ht⟩ := id S
    have cs := c_Settings
    have cc := c_Packing
    have m1 := a_Settings_lengths
    have n0 := a_Packing__settings
    have n1 := a_Packing__starts
    have n2 := a_Packing__first
    have n3 := a_Packing__pages
    have n4 := a_Packing__rows
    have n5 := a_Packing__last
    have o := ok.pk
    have l1 := ok.l1
    have l6 := ok.l6
    have hl : (ls.map V.int).length = ls.length := List.length_map ..
    have nsa : s1 ≠ a := fun e => by
      rw [e, ha] at hs
      injection hs with hs
      injection hs with _ _ h3
      exact absurd h3 (by simp [setF])
    refine ⟨_, PSs.nox (pss_cons (ps_expr (Kr.pe_cl h_check_settings (hr.mono (by decide)) (pa_cons (pv 1) pa_nil))) (pss_cons (ps_set (i := 2) sc_Packing___init__.nd rfl (.inl rfl) (pe_callB (id := "len") Kr.c_len rfl n_len (by decide +kernel) (pa_cons (pe_fld (pv 1) rfl) pa_nil))) (pss_cons (ps_set (i := 3) sc_Packing___init__.nd rfl (.inl rfl) (pe_lst (pa_cons pe_int pa_nil))) (pss_cons (ps_set (i := 4) sc_Packing___init__.nd rfl (.inl rfl) pe_dnewK) (pss_cons (ps_while PassesOwn.never (pt_cmp (pc_dnotin hu (pe_op op_mod (pe_ix ix_list (pv 3) (pe_un un_neg pe_int) (fun _ _ => rfl)) (pv 2)) (pv 4))) (pss_cons (ps_dput hu (pv 4) (pe_op op_mod (pe_ix ix_list (pv 3) (pe_un un_neg pe_int) (fun _ _ => rfl)) (pv 2)) (pe_op op_sub (pe_callB (id := "len") Kr.c_len rfl n_len (by decide +kernel) (pa_cons (pv 3) pa_nil)) pe_int) rfl) (pss_one (ps_expr (pe_bm PySem.F.plainAttrs_list PySem.F.slot_list_append PySem.F.type_list_append mt_append (pv 3) (pa_cons (pe_op op_add (pe_ix ix_list (pv 3) (pe_un un_neg pe_int) (fun _ _ => rfl)) (Kr.pe_cl h_rows_from (hr.mono (by decide)) (pa_cons (pv 1) (pa_cons (pe_ix ix_list (pv 3) (pe_un un_neg pe_int) (fun _ _ => rfl)) pa_nil)))) pa_nil)))))) (pss_cons (ps_fld (pv 0) (pv 1) rfl) (pss_cons (ps_fld (pv 0) (pv 3) rfl) (pss_cons (ps_fld (pv 0) (pe_dget hu (pv 4) (pe_op op_mod (pe_ix ix_list (pv 3) (pe_un un_neg pe_int) (fun _ _ => rfl)) (pv 2)) (fun _ _ => rfl)) rfl) (pss_cons (ps_fld (pv 0) (pe_op op_sub (pe_op op_sub (pe_callB (id := "len") Kr.c_len rfl n_len (by decide +kernel) (pa_cons (pv 3) pa_nil)) pe_int) (pe_fld (pv 0) rfl)) rfl) (pss_cons (ps_fld (pv 0) (pe_op op_sub (pe_ix ix_list (pv 3) (pe_un un_neg pe_int) (fun _ _ => rfl)) (pe_ix ix_list (pv 3) (pe_fld (pv 0) rfl) (fun _ _ => rfl))) rfl) (pss_one (ps_fld (pv 0) (Kr.pe_mt m_Packing_page_with c_Packing (hr.mono (by decide)) (pv 0) (pa_cons (pe_op op_sub (Kr.pe_gint g_ROWS) pe_int) pa_nil)) rfl)))))))))))), ?_⟩
    rw [st_Packing___init__]
    walk_at "ss"
    refine ⟨_, _, _, rfl, hs, ?_⟩
    walk_at "ss"
    refine r_newS fun L H1 hL s1' eL => ?_
    walk_at "ss"
    refine r_newS fun d H2 hd s2 ed => ?_
    have s02 := s1'.trans s2
    have nLd : L ≠ d := ne_of (s2 _ _ eL) ed (by intro z; cases z)
    have nLa : a ≠ L := ne_of_none ha hL
    have hda : H d = none := s1'.free hd
    have nda : a ≠ d := ne_of_none ha hda
    have nLs : s1 ≠ L := ne_of_none hs hL
    have nds : s1 ≠ d := ne_of_none hs hda
    have hst := fun (H' : Hp) (e : ∀ b o, H b = some o → H' b = some o) => e _ _ hs
    have hz1 : tabL (stV ls sz) 1 = [V.int 0] := rfl
    walk_at "ss"
    rw [hl]
    refine r_while (fun m σ H' => ∃ (c : Nat) (kvs : List (Key × V)), m = ls.length + 1 - c ∧ σ = [some (.ref a), some (.ref s1), some (.int ls.length), some (.ref L), some (.ref d)] ∧ (∀ b o, H b = some o → H' b = some o) ∧
        H' L = some (.lst (tabL (stV ls sz) (c + 1))) ∧ H' d = some (.dK kvs) ∧ kvs.length ≤ c ∧ c ≤ ls.length ∧ (∀ i, i < c → valV kvs (Sum.inl ((Pk.st ls sz i % ls.length : Nat) : Int)) = some (.int i)) ∧
        (∀ p : Nat, (∀ i, i < c → Pk.st ls sz i % ls.length ≠ p) → valV kvs (Sum.inl ((p : Nat) : Int)) = none) ∧ (∀ x y, x < y → y < c → Pk.st ls sz x % ls.length ≠ Pk.st ls sz y % ls.length)) _
      ⟨0, [], rfl, rfl, s02, by rw [hz1]; exact s2 _ _ eL, ed, Nat.le_refl _, Nat.zero_le _, fun i h => absurd h (by omega), fun p _ => rfl, fun x y _ h => absurd h (by omega)⟩ ?_
    rintro m σ H3 ⟨c, kvs, rfl, rfl, s3, e3L, e3d, hkl, hc, hin, hout, hdis⟩
    have l3 : atI (tabL (stV ls sz) (c + 1)) (-1) = some (V.int (Pk.st ls sz c : Nat)) := tabL_last _ _
    have em : ((Pk.st ls sz c : Nat) : Int) % (ls.length : Int) = ((Pk.st ls sz c % ls.length : Nat) : Int) := by push_cast; rfl
    walk_at "ss"
    refine r_ixL (SqL.of e3L) l3 ?_
    walk_at "ss"
    rw [em]
    refine r_dk e3d ?_
    walk_at "ss"
    by_cases hx : ∃ i, i < c ∧ Pk.st ls sz i % ls.length = Pk.st ls sz c % ls.length
    · obtain ⟨j, hj, ej⟩ := hx
      have v := hin j hj
      rw [ej] at v
      have cyc : Pk.Cyc ls sz j c := ⟨hj, ej, hdis⟩
      have c6 := cyc.le o
      have st4 := Pk.st_mono o hj
      rw [v]
      refine r_whF ?_
      have ha3 := s3 _ _ ha
      have nad : d ≠ a := Ne.symm nda
      have naL : L ≠ a := Ne.symm nLa
      walk_at "ss"
      refine r_st ha3 cc n0 (by decide) rfl ?_
      walk_at "ss"
      refine r_st upd_same cc n1 (by show 1 < 1000; decide) rfl ?_
      rw [upd_upd]
      walk_at "ss"
      have f1 : ∀ x, (upd H3 a x) L = some (.lst (tabL (stV ls sz) (c + 1))) := fun x => by rw [upd_ne naL]; exact e3L
      have f2 : ∀ x, (upd H3 a x) d = some (.dK kvs) := fun x => by rw [upd_ne nad]; exact e3d
      refine r_ixL (SqL.of (f1 _)) l3 ?_
      walk_at "ss"
      rw [em]
      refine r_dg (f2 _) v ?_
      walk_at "ss"
      refine r_st upd_same cc n2 (by show 2 < 1000; decide) rfl ?_
      rw [upd_upd]
      walk_at "ss"
      refine r_lenL (SqL.of (f1 _)) ?_
      walk_at "ss"
      refine r_fd upd_same cc n2 rfl ?_
      walk_at "ss"
      rw [show (((tabL (stV ls sz) (c + 1)).length : Nat) : Int) - 1 - (j : Int) = ((c - j : Nat) : Int) by rw [tabL_len]; omega]
      refine r_st upd_same cc n3 (by show 3 < 1000; decide) rfl ?_
      rw [upd_upd]
      walk_at "ss"
      refine r_ixL (SqL.of (f1 _)) l3 ?_
      walk_at "ss"
      refine r_fd upd_same cc n2 rfl ?_
      refine r_ixL (SqL.of (f1 _)) (tabL_at (stV ls sz) rfl (by omega)) ?_
      walk_at "ss"
      walk_at "ss"
      rw [show ((Pk.st ls sz c : Nat) : Int) - ((Pk.st ls sz j : Nat) : Int) = ((Pk.rws ls sz j c : Nat) : Int) by unfold Pk.rws; omega]
      refine r_st upd_same cc n4 (by show 4 < 1000; decide) rfl ?_
      rw [upd_upd]
      walk_at "ss"
      refine r_obj upd_same rfl ?_
      walk_at "ss"
      have F4 : PkF K (upd H3 a (.ins (He.ga K "Packing") dx [("_settings", .ref s1), ("_starts", .ref L), ("_first", .int j), ("_pages", .int (c - j : Nat)), ("_rows", .int (Pk.rws ls sz j c : Nat))])) a ls sz j c L dx [("_settings", .ref s1), ("_starts", .ref L), ("_first", .int j), ("_pages", .int (c - j : Nat)), ("_rows", .int (Pk.rws ls sz j c : Nat))] :=
        ⟨upd_same, rfl, rfl, rfl, rfl, rfl, rfl, f1 _, cyc, ok⟩
      refine ⟨a, L, dx, ls, sz, j, c, 10 ^ 30 - 1, _, rfl, F4, by decide, fun m hm => ?_⟩
      walk_at "ss"
      refine r_st upd_same cc n5 (by show 5 < 1000; decide) rfl ?_
      rw [upd_upd]
      have nta : t ≠ a := fun e => by
        rw [e, ha] at ht
        cases ht
      have made : ∀ H2 : Hp, H2 a = some (.ins (He.ga K "Packing") dx [("_settings", .ref s1), ("_starts", .ref L), ("_first", .int j), ("_pages", .int (c - j : Nat)), ("_rows", .int (Pk.rws ls sz j c : Nat)), ("_last", .int m)]) → H2 L = some (.lst (tabL (stV ls sz) (c + 1))) →
          H2 s1 = some (.ins (He.ga K "Settings") dy (setF t sz fo re ev ke)) → H2 t = some (.tup (ls.map V.int)) → PackAt K H2 a s1 ls sz := fun H2 g1 g2 g3 g4 => ⟨dx, L, j, c, m, ⟨g1, rfl, rfl, rfl, rfl, rfl, rfl, g2, cyc, ok⟩, hm, dy, t, fo, re, ev, ke, g3, g4⟩
      have k3 : ∀ x, (upd H3 a x) s1 = some (.ins (He.ga K "Settings") dy (setF t sz fo re ev ke)) := fun x => by
        rw [upd_ne nsa]
        exact s3 _ _ hs
      have k4 : ∀ x, (upd H3 a x) t = some (.tup (ls.map V.int)) := fun x => by
        rw [upd_ne nta]
        exact s3 _ _ ht
      refine q _ (fun b o n e => ?_) (made _ upd_same (f1 _) (k3 _) (k4 _)) fun b zs H2 hb bt => made H2 (bt a _ (fun e => ?_) upd_same) (bt L _ (Ne.symm (ne_of_none hb hL)) (f1 _)) (bt s1 _ (fun e => ?_) (k3 _)) (bt t _ (fun e => ?_) (k4 _))
      · rw [upd_ne n]
        exact s3 b o e
      · rw [← e, ha] at hb
        cases hb
      · rw [← e, hs] at hb
        cases hb
      · rw [← e, ht] at hb
        cases hb
    · have v := hout (Pk.st ls sz c % ls.length) fun i hi e => hx ⟨i, hi, e⟩
      have cl : c + 1 ≤ ls.length := Pk.dis_le o (k := c + 1) (sz := sz) fun x y hxy hy => by
        rcases Nat.lt_or_ge y c with z | z
        · exact hdis x y hxy z
        · have e : y = c := by omega
          rw [e]
          exact fun e2 => hx ⟨x, by omega, e2⟩
      rw [v]
      refine r_whT ?_
      have ln : (((tabL (stV ls sz) (c + 1)).length : Nat) : Int) - 1 = (c : Int) := by rw [tabL_len]; omega
      walk_at "ss"
      rw [ln]
      walk_at "ss"
      refine r_ixL (SqL.of e3L) l3 ?_
      walk_at "ss"
      rw [em]
      refine r_dp e3d (by omega) ?_
      have g1 : (upd H3 d (.dK (putK kvs (Sum.inl ((Pk.st ls sz c % ls.length : Nat) : Int)) (V.int c)))) L = some (.lst (tabL (stV ls sz) (c + 1))) := by rw [upd_ne nLd]; exact e3L
      have g2 : ∀ b o, H b = some o → (upd H3 d (.dK (putK kvs (Sum.inl ((Pk.st ls sz c % ls.length : Nat) : Int)) (V.int c)))) b = some o := fun b o e => by rw [upd_ne (ne_of_none e hda)]; exact s3 b o e
      walk_at "ss"
      refine r_ixL (SqL.of g1) l3 ?_
      walk_at "ss"
      refine r_ixL (SqL.of g1) l3 ?_
      walk_at "ss"
      refine ⟨s1, Pk.st ls sz c, ls, sz, fo, re, ev, ke, rfl, ⟨dy, t, g2 _ _ hs, g2 _ _ ht⟩, ok, ?_⟩
      walk_at "ss"
      refine r_append g1 (by rw [tabL_len]; omega) ?_
      walk_at "ss"
      refine ⟨_, ?_, c + 1, putK kvs (Sum.inl ((Pk.st ls sz c % ls.length : Nat) : Int)) (V.int c), rfl, rfl, fun b o e => ?_, ?_, ?_, ?_, cl, fun i hi => ?_, fun p hp => ?_, fun x y hxy hy => ?_⟩
      · omega
      · rw [upd_ne (ne_of_none e hL)]
        exact g2 b o e
      · rw [upd_same, tabL_succ _ (c + 1)]
        have e : stV ls sz (c + 1) = V.int ((Pk.st ls sz c : Nat) + (Pk.cnt ls sz (Pk.st ls sz c) : Nat)) := by
          unfold stV
          rw [Pk.st_succ, Int.natCast_add]
        rw [e]
      · rw [upd_ne (Ne.symm nLd), upd_same]
      · have := length_putK kvs (Sum.inl ((Pk.st ls sz c % ls.length : Nat) : Int)) (V.int c)
        omega
      · rw [valV_put]
        rcases Nat.lt_or_ge i c with z | z
        · rw [if_neg (fun e => hx ⟨i, z, by have := Sum.inl.inj e; omega⟩)]
          exact hin i z
        · have e : i = c := by omega
          rw [e, if_pos rfl]
      · rw [valV_put, if_neg (fun e => hp c (by omega) (by have := Sum.inl.inj e; omega))]
        exact hout p fun i hi => hp i (by omega)
      · rcases Nat.lt_or_ge y c with z | z
        · exact hdis x y hxy z
        · have e : y = c := by omega
          rw [e]
          exact fun e2 => hx ⟨x, by omega, e2⟩
theorem ok_Packing_begun {P : Program} {w : World} {K : PySem.W.Frag} {mg : Str → Option Value} {base : Heap} {f : Addr} {fd : FuncData} (F : FunD K "begun" "Packing.begun" (defArgs s_Packing_begun) (defBody s_Packing_begun) (defScope s_Packing_begun) [] [] f fd) (c_Packing : Cls K (He.ga K "Packing")) (h_check_moment : Kr.FnH P w K mg base CX0 4 "check_moment" ["moment"] (sp_check_moment K)) (m_Packing_page_with : Kr.MtH P w K mg base CX0 1 (He.ga K "Packing") "page_with" ["self", "row"] (sp_Packing_page_with K)) : FnOk P w K mg base CX0 5 f fd ["self", "moment"] (sp_Packing_begun K) := by
  refine F.ok sc_Packing_begun (fun vs H Q E h => by first | (obtain ⟨rfl, _⟩ := h; rfl) | (obtain ⟨_, rfl, _⟩ := h; rfl) | (obtain ⟨_, _, rfl, _⟩ := h; rfl) | (obtain ⟨_, _, _, rfl, _⟩ := h; rfl) | (obtain ⟨_, _, _, _, rfl, _⟩ := h; rfl) | (obtain ⟨_, _, _, _, _, rfl, _⟩ := h; rfl) | (obtain ⟨_, _, _, _, _, _, rfl, _⟩ := h; rfl) | (obtain ⟨_, _, _, _, _, _, _, rfl, _⟩ := h; rfl) | (obtain ⟨_, _, _, _, _, _, _, _, rfl, _⟩ := h; rfl) | (obtain ⟨_, _, _, _, _, _, _, _, _, rfl, _⟩ := h; rfl) | (obtain ⟨_, _, _, _, _, _, _, _, _, _, rfl, _⟩ := h; rfl) | (obtain ⟨_, _, _, _, _, _, _, _, _, _, _, rfl, _⟩ := h; rfl) | (obtain ⟨_, _, _, _, _, _, _, _, _, _, _, _, rfl, _⟩ := h; rfl) | (obtain ⟨_, _, _, _, _, _, _, _, _, _, _, _, _, rfl, _⟩ := h; rfl) | (obtain ⟨_, _, _, _, _, _, _, _, _, _, _, _, _, _, rfl, _⟩ := h; rfl) | (obtain ⟨_, _, _, _, _, _, _, _, _, _, _, _, _, _, _, rfl, _⟩ := h; rfl) | (obtain ⟨_, _, _, _, _, _, _, _, _, _, _, _, _, _, _, _, rfl, _⟩ := h; rfl) | (obtain ⟨_, _, _, _, _, _, _, _, _, _, _, _, _, _, _, _, _, rfl, _⟩ := h; rfl)) (fun cdv A outer s H vs Q E hr h => ?_)
  · have hu := hu_of hr
    obtain ⟨a, s1, ls, sz, r, rfl, PA, h30, q0, q⟩ := h
    obtain ⟨dx, lp, j, k, last, F, on, -⟩ := id PA
    have h0 := F.at_
    refine ⟨_, PSs.nox (pss_cons (ps_expr (Kr.pe_cl h_check_moment (hr.mono (by decide)) (pa_cons (pv 1) pa_nil))) (pss_cons (ps_if (pt_cmpR op_eq (pv 1) pe_int (nomark _)) (pss_one (ps_ret pe_int)) pss_nil) (pss_one (ps_ret (pe_op op_add (Kr.pe_mt m_Packing_page_with c_Packing (hr.mono (by decide)) (pv 0) (pa_cons (pe_op op_sub (pv 1) pe_int) pa_nil)) pe_int))))), ?_⟩
    rw [st_Packing_begun]
    walk_at "ss"
    refine ⟨r, rfl, h30, ?_⟩
    walk_at "ss"
    refine r_dec (fun e => ?_) fun e => ?_
    · walk_at "ss"
      exact q0 (by omega)
    · walk_at "ss"
      have er : (r : Int) - 1 = ((r - 1 : Nat) : Int) := by omega
      rw [er]
      refine ⟨a, lp, dx, ls, sz, j, k, r - 1, _, rfl, F, by omega, fun m om => ?_⟩
      walk_at "ss"
      exact q m (by omega) om
theorem ok_Packing_cycle {P : Program} {w : World} {K : PySem.W.Frag} {mg : Str → Option Value} {base : Heap} {f : Addr} {fd : FuncData} (F : FunD K "cycle" "Packing.cycle" (defArgs s_Packing_cycle) (defBody s_Packing_cycle) (defScope s_Packing_cycle) [] [] f fd) (a_Packing__first : NoAttr K (He.ga K "Packing") "_first") (a_Packing__pages : NoAttr K (He.ga K "Packing") "_pages") (a_Packing__rows : NoAttr K (He.ga K "Packing") "_rows") (c_Packing : Cls K (He.ga K "Packing")) : FnOk P w K mg base CX0 1 f fd ["self"] (sp_Packing_cycle K) := by
  refine F.ok sc_Packing_cycle (fun vs H Q E h => by first | (obtain ⟨rfl, _⟩ := h; rfl) | (obtain ⟨_, rfl, _⟩ := h; rfl) | (obtain ⟨_, _, rfl, _⟩ := h; rfl) | (obtain ⟨_, _, _, rfl, _⟩ := h; rfl) | (obtain ⟨_, _, _, _, rfl, _⟩ := h; rfl) | (obtain ⟨_, _, _, _, _, rfl, _⟩ := h; rfl) | (obtain ⟨_, _, _, _, _, _, rfl, _⟩ := h; rfl) | (obtain ⟨_, _, _, _, _, _, _, rfl, _⟩ := h; rfl) | (obtain ⟨_, _, _, _, _, _, _, _, rfl, _⟩ := h; rfl) | (obtain ⟨_, _, _, _, _, _, _, _, _, rfl, _⟩ := h; rfl) | (obtain ⟨_, _, _, _, _, _, _, _, _, _, rfl, _⟩ := h; rfl) | (obtain ⟨_, _, _, _, _, _, _, _, _, _, _, rfl, _⟩ := h; rfl) | (obtain ⟨_, _, _, _, _, _, _, _, _, _, _, _, rfl, _⟩ := h; rfl) | (obtain ⟨_, _, _, _, _, _, _, _, _, _, _, _, _, rfl, _⟩ := h; rfl) | (obtain ⟨_, _, _, _, _, _, _, _, _, _, _, _, _, _, rfl, _⟩ := h; rfl) | (obtain ⟨_, _, _, _, _, _, _, _, _, _, _, _, _, _, _, rfl, _⟩ := h; rfl) | (obtain ⟨_, _, _, _, _, _, _, _, _, _, _, _, _, _, _, _, rfl, _⟩ := h; rfl) | (obtain ⟨_, _, _, _, _, _, _, _, _, _, _, _, _, _, _, _, _, rfl, _⟩ := h; rfl)) (fun cdv A outer s H vs Q E hr h => ?_)
  · have hu := hu_of hr
    obtain ⟨a, lp, dx, ls, sz, j, k, fs, rfl, F, q⟩ := h
    have cc := c_Packing
    have n2 := a_Packing__first
    have n3 := a_Packing__pages
    have n4 := a_Packing__rows
    have h0 := F.at_
    have h2 := F.l2
    have h3 := F.l3
    have h4 := F.l4
    refine ⟨_, PSs.nox (pss_one (ps_ret (pe_tup (pa_cons (pe_fld (pv 0) rfl) (pa_cons (pe_fld (pv 0) rfl) (pa_cons (pe_fld (pv 0) rfl) pa_nil)))))), ?_⟩
    rw [st_Packing_cycle]
    walk_at "ss"
    exact r_newS fun p H' hp s hn => q p H' s hp hn
theorem ok_Packing_start_of {P : Program} {w : World} {K : PySem.W.Frag} {mg : Str → Option Value} {base : Heap} {f : Addr} {fd : FuncData} (F : FunD K "start_of" "Packing.start_of" (defArgs s_Packing_start_of) (defBody s_Packing_start_of) (defScope s_Packing_start_of) [] [] f fd) (a_Packing__first : NoAttr K (He.ga K "Packing") "_first") (a_Packing__pages : NoAttr K (He.ga K "Packing") "_pages") (a_Packing__rows : NoAttr K (He.ga K "Packing") "_rows") (a_Packing__starts : NoAttr K (He.ga K "Packing") "_starts") (c_Packing : Cls K (He.ga K "Packing")) (n_max : mg "max" = none) : FnOk P w K mg base CX0 1 f fd ["self", "page"] (sp_Packing_start_of K) := by
  refine F.ok sc_Packing_start_of (fun vs H Q E h => by first | (obtain ⟨rfl, _⟩ := h; rfl) | (obtain ⟨_, rfl, _⟩ := h; rfl) | (obtain ⟨_, _, rfl, _⟩ := h; rfl) | (obtain ⟨_, _, _, rfl, _⟩ := h; rfl) | (obtain ⟨_, _, _, _, rfl, _⟩ := h; rfl) | (obtain ⟨_, _, _, _, _, rfl, _⟩ := h; rfl) | (obtain ⟨_, _, _, _, _, _, rfl, _⟩ := h; rfl) | (obtain ⟨_, _, _, _, _, _, _, rfl, _⟩ := h; rfl) | (obtain ⟨_, _, _, _, _, _, _, _, rfl, _⟩ := h; rfl) | (obtain ⟨_, _, _, _, _, _, _, _, _, rfl, _⟩ := h; rfl) | (obtain ⟨_, _, _, _, _, _, _, _, _, _, rfl, _⟩ := h; rfl) | (obtain ⟨_, _, _, _, _, _, _, _, _, _, _, rfl, _⟩ := h; rfl) | (obtain ⟨_, _, _, _, _, _, _, _, _, _, _, _, rfl, _⟩ := h; rfl) | (obtain ⟨_, _, _, _, _, _, _, _, _, _, _, _, _, rfl, _⟩ := h; rfl) | (obtain ⟨_, _, _, _, _, _, _, _, _, _, _, _, _, _, rfl, _⟩ := h; rfl) | (obtain ⟨_, _, _, _, _, _, _, _, _, _, _, _, _, _, _, rfl, _⟩ := h; rfl) | (obtain ⟨_, _, _, _, _, _, _, _, _, _, _, _, _, _, _, _, rfl, _⟩ := h; rfl) | (obtain ⟨_, _, _, _, _, _, _, _, _, _, _, _, _, _, _, _, _, rfl, _⟩ := h; rfl)) (fun cdv A outer s H vs Q E hr h => ?_)
  · have hu := hu_of hr
    obtain ⟨a, s1, ls, sz, m, rfl, ⟨dx, lp, j, k, last, F, on, dy, t, fo, re, ev, ke, hs, ht⟩, h40, q⟩ := h
    have cc := c_Packing
    have n1 := a_Packing__starts
    have n2 := a_Packing__first
    have n3 := a_Packing__pages
    have n4 := a_Packing__rows
    have h0 := F.at_
    have h5 := F.lst
    have o := F.ok.pk
    have clt := F.cyc.lt
    obtain ⟨k6, st400⟩ := F.small
    have pc : CDivW ((m : Int) - (j : Int)) ((k - j : Nat) : Int) := wide_div (b := 64) (by omega) (by omega) (by decide) (by decide)
    obtain ⟨u, eu, u1, u2, u3, u4⟩ := F.cyc.pturns m
    have rle : Pk.rws ls sz j k ≤ 400 := by unfold Pk.rws; omega
    refine ⟨_, PSs.nox (pss_cons (ps_set (i := 2) sc_Packing_start_of.nd rfl (.inl rfl) (pe_callB (id := "max") (Kr.c_max2 rfl) rfl n_max (by decide +kernel) (pa_cons pe_int (pa_cons (pe_op op_fdivW (pe_op op_sub (pv 1) (pe_fld (pv 0) rfl)) (pe_fld (pv 0) rfl)) pa_nil)))) (pss_one (ps_ret (pe_op op_add (pe_ix ix_list (pe_fld (pv 0) rfl) (pe_op op_sub (pv 1) (pe_op op_mul (pv 2) (pe_fld (pv 0) rfl))) (fun _ _ => rfl)) (pe_op op_mul (pv 2) (pe_fld (pv 0) rfl)))))), ?_⟩
    rw [st_Packing_start_of]
    walk_at "ss"
    rw [eu]
    walk_at "ss"
    have ei : (m : Int) - (u : Int) * ((k - j : Nat) : Int) = ((m - u * (k - j) : Nat) : Int) := by
      rw [Int.ofNat_sub u1, Int.natCast_mul]
    refine r_ixL (SqL.of h5) (tabL_at (stV ls sz) ei (by omega)) ?_
    walk_at "ss"
    have es := F.cyc.start o u1 u2
    have e : ((Pk.st ls sz (m - u * (k - j)) : Nat) : Int) + (u : Int) * ((Pk.rws ls sz j k : Nat) : Int) = ((Pk.st ls sz m : Nat) : Int) := by
      rw [es, Int.natCast_add, Int.natCast_mul]
    rw [e]
    exact q
theorem ok_border_level {P : Program} {w : World} {K : PySem.W.Frag} {mg : Str → Option Value} {base : Heap} {f : Addr} {fd : FuncData} (F : FunD K "border_level" "border_level" (defArgs s_border_level) (defBody s_border_level) (defScope s_border_level) [] [] f fd) : FnOk P w K mg base CX0 1 f fd ["fanout", "low", "high"] (sp_border_level K) := by
  refine F.ok sc_border_level (fun vs H Q E h => by first | (obtain ⟨rfl, _⟩ := h; rfl) | (obtain ⟨_, rfl, _⟩ := h; rfl) | (obtain ⟨_, _, rfl, _⟩ := h; rfl) | (obtain ⟨_, _, _, rfl, _⟩ := h; rfl) | (obtain ⟨_, _, _, _, rfl, _⟩ := h; rfl) | (obtain ⟨_, _, _, _, _, rfl, _⟩ := h; rfl) | (obtain ⟨_, _, _, _, _, _, rfl, _⟩ := h; rfl) | (obtain ⟨_, _, _, _, _, _, _, rfl, _⟩ := h; rfl) | (obtain ⟨_, _, _, _, _, _, _, _, rfl, _⟩ := h; rfl) | (obtain ⟨_, _, _, _, _, _, _, _, _, rfl, _⟩ := h; rfl) | (obtain ⟨_, _, _, _, _, _, _, _, _, _, rfl, _⟩ := h; rfl) | (obtain ⟨_, _, _, _, _, _, _, _, _, _, _, rfl, _⟩ := h; rfl) | (obtain ⟨_, _, _, _, _, _, _, _, _, _, _, _, rfl, _⟩ := h; rfl) | (obtain ⟨_, _, _, _, _, _, _, _, _, _, _, _, _, rfl, _⟩ := h; rfl) | (obtain ⟨_, _, _, _, _, _, _, _, _, _, _, _, _, _, rfl, _⟩ := h; rfl) | (obtain ⟨_, _, _, _, _, _, _, _, _, _, _, _, _, _, _, rfl, _⟩ := h; rfl) | (obtain ⟨_, _, _, _, _, _, _, _, _, _, _, _, _, _, _, _, rfl, _⟩ := h; rfl) | (obtain ⟨_, _, _, _, _, _, _, _, _, _, _, _, _, _, _, _, _, rfl, _⟩ := h; rfl)) (fun cdv A outer s H vs Q E hr h => ?_)
  · have hu := hu_of hr
    obtain ⟨f, low, hi, rfl, f2, f8, low1, h0, h1, q⟩ := h
    refine ⟨_, PSs.nox (pss_cons (ps_set (i := 3) sc_border_level.nd rfl (.inl rfl) pe_int) (pss_cons (ps_set (i := 4) sc_border_level.nd rfl (.inl rfl) (pv 0)) (pss_cons (ps_while PassesOwn.never (pt_cmpR op_ge (pe_op op_mulW (pe_op op_fdivW (pv 2) (pv 4)) (pv 4)) (pv 1) (nomark _)) (pss_cons (ps_aug (i := 3) sc_border_level.nd rfl (.inl rfl) pe_int ip_add) (pss_one (ps_aug (i := 4) sc_border_level.nd rfl (.inl rfl) (pv 0) Kr.ip_mul)))) (pss_one (ps_ret (pv 3)))))), ?_⟩
    rw [st_border_level]
    walk_at "ss"
    refine r_while (fun m σ H' => H' = H ∧ ∃ i : Nat, m = 110 - i ∧ i ≤ 110 ∧ (∀ l, 1 ≤ l → l ≤ i → bdIn f low hi l) ∧ σ = [some (.int f), some (.int low), some (.int hi), some (.int i), some (.int (f ^ (i + 1) : Nat))]) _ ⟨rfl, 0, rfl, by omega, fun l h1 h2 => absurd h1 (by omega), by rw [Nat.zero_add, Nat.pow_one]; rfl⟩ ?_
    rintro m σ H' ⟨rfl, i, rfl, hi', hb, rfl⟩
    have cd := wd_div (l := i + 1) f2 f8 (by omega)
    have dl : -1 ≤ hi / ((f ^ (i + 1) : Nat) : Int) ∧ hi / ((f ^ (i + 1) : Nat) : Int) < 10 ^ 31 := by
      have p := wd_pos (l := i + 1) f2
      constructor
      · refine (Int.le_ediv_iff_mul_le (by omega)).mpr ?_
        omega
      · rcases Int.lt_or_le hi 0 with z | z
        · have := Int.ediv_neg_of_neg_of_pos z (show (0 : Int) < ((f ^ (i + 1) : Nat) : Int) by omega)
          omega
        · have := Int.ediv_le_self ((f ^ (i + 1) : Nat) : Int) z
          omega
    have cm : CMulW (hi / ((f ^ (i + 1) : Nat) : Int)) ((f ^ (i + 1) : Nat) : Int) := wide_mul (a := 110) (b := 451) (by omega) (by have := pw_lt (i := i + 1) f8 (by omega); exact_mod_cast this) (by decide) (by decide) (by decide)
    walk_at "ss"
    refine r_whD (fun hle => ?_) fun hle => ?_
    · have lt : i < 110 := by
        rcases Nat.lt_or_ge i 110 with z | z
        · exact z
        · exact absurd hle (bd_no f2 low1 h0 h1 (l := i + 1) (by omega))
      walk_at "ss"
      refine r_ipM ?_ ?_
      · have h1 := pw_log (b := f) (i := i + 1) f8 (by omega)
        have h2 := pw_log (b := f) (i := 1) f8 (by omega)
        rw [Nat.pow_one] at h2
        show _ + _ < 1000000
        omega
      walk_at "ss"
      rw [show ((f ^ (i + 1) : Nat) : Int) * (f : Int) = ((f ^ (i + 1 + 1) : Nat) : Int) by rw [Nat.pow_succ f (i + 1), Int.natCast_mul]]
      refine ⟨_, by omega, rfl, i + 1, rfl, by omega, fun l l1 l2 => ?_, rfl⟩
      rcases Nat.lt_or_ge l (i + 1) with z | z
      · exact hb l l1 (by omega)
      · rw [show l = i + 1 by omega]
        exact hle
    · walk_at "ss"
      exact q i hb hle hi'
theorem ok_Gaps___init__ {P : Program} {w : World} {K : PySem.W.Frag} {mg : Str → Option Value} {base : Heap} {f : Addr} {fd : FuncData} (F : FunD K "__init__" "Gaps.__init__" (defArgs s_Gaps___init__) (defBody s_Gaps___init__) (defScope s_Gaps___init__) [] [] f fd) (a_Gaps__near : NoAttr K (He.ga K "Gaps") "_near") (a_Gaps__period : NoAttr K (He.ga K "Gaps") "_period") (a_Gaps__sums : NoAttr K (He.ga K "Gaps") "_sums") (c_Gaps : Cls K (He.ga K "Gaps")) (c_Packing : Cls K (He.ga K "Packing")) (m_Packing_cycle : Kr.MtH P w K mg base CX0 1 (He.ga K "Packing") "cycle" ["self"] (sp_Packing_cycle K)) (m_Packing_start_of : Kr.MtH P w K mg base CX0 1 (He.ga K "Packing") "start_of" ["self", "page"] (sp_Packing_start_of K)) (n_len : mg "len" = none) (n_min : mg "min" = none) (n_range : mg "range" = none) (x_gcd : mg "gcd" = some (.builtin "math.gcd")) : FnOk P w K mg base CX0 2 f fd ["self", "packing", "step", "most"] (sp_Gaps___init__ K) := by
  refine F.ok sc_Gaps___init__ (fun vs H Q E h => by first | (obtain ⟨rfl, _⟩ := h; rfl) | (obtain ⟨_, rfl, _⟩ := h; rfl) | (obtain ⟨_, _, rfl, _⟩ := h; rfl) | (obtain ⟨_, _, _, rfl, _⟩ := h; rfl) | (obtain ⟨_, _, _, _, rfl, _⟩ := h; rfl) | (obtain ⟨_, _, _, _, _, rfl, _⟩ := h; rfl) | (obtain ⟨_, _, _, _, _, _, rfl, _⟩ := h; rfl) | (obtain ⟨_, _, _, _, _, _, _, rfl, _⟩ := h; rfl) | (obtain ⟨_, _, _, _, _, _, _, _, rfl, _⟩ := h; rfl) | (obtain ⟨_, _, _, _, _, _, _, _, _, rfl, _⟩ := h; rfl) | (obtain ⟨_, _, _, _, _, _, _, _, _, _, rfl, _⟩ := h; rfl) | (obtain ⟨_, _, _, _, _, _, _, _, _, _, _, rfl, _⟩ := h; rfl) | (obtain ⟨_, _, _, _, _, _, _, _, _, _, _, _, rfl, _⟩ := h; rfl) | (obtain ⟨_, _, _, _, _, _, _, _, _, _, _, _, _, rfl, _⟩ := h; rfl) | (obtain ⟨_, _, _, _, _, _, _, _, _, _, _, _, _, _, rfl, _⟩ := h; rfl) | (obtain ⟨_, _, _, _, _, _, _, _, _, _, _, _, _, _, _, rfl, _⟩ := h; rfl) | (obtain ⟨_, _, _, _, _, _, _, _, _, _, _, _, _, _, _, _, rfl, _⟩ := h; rfl) | (obtain ⟨_, _, _, _, _, _, _, _, _, _, _, _, _, _, _, _, _, rfl, _⟩ := h; rfl)) (fun cdv A outer s H vs Q E hr h => ?_)
  · have hu := hu_of hr
    obtain ⟨a, p, s1, dx, ls, sz, step, most, rfl, ha, PA, st1, st2, mo, q⟩ := h
    have cp := c_Packing
    have cc := c_Gaps
    have n0 := a_Gaps__near
    have n1 := a_Gaps__period
    have n2 := a_Gaps__sums
    obtain ⟨dx2, lp, j, k, last, F, on, -⟩ := id PA
    have o := F.ok.pk
    have h0 := F.at_
    have cyc := F.cyc
    have clt := F.cyc.lt
    obtain ⟨k6, st400⟩ := F.small
    have P1 := per_pos (step := step) clt
    have cds : ∀ z : Int, CDivW z (step : Int) := fun z => wide_div (b := 64) (by omega) (by omega) (by decide) (by decide)
    have gp := Nat.gcd_pos_of_pos_left step (show 0 < k - j by omega)
    have gle : Nat.gcd (k - j) step ≤ k - j := Nat.le_of_dvd (by omega) (Nat.gcd_dvd_left _ _)
    have Ple : (k - j) / Nat.gcd (k - j) step ≤ k - j := Nat.div_le_self _ _
    have Nle : j / step ≤ j := Nat.div_le_self _ _
    have cdg : ∀ z : Int, CDivW z ((Nat.gcd (k - j) step : Nat) : Int) := fun z => wide_div (b := 64) (by omega) (by omega) (by decide) (by decide)
    refine ⟨_, PSs.nox (pss_cons (ps_asg (Kr.pe_mt0 m_Packing_cycle c_Packing (hr.mono (by decide)) (pv 1)) (pg_tup rfl (pgs_cons (pg_name (i := 4) sc_Gaps___init__.nd rfl (.inl rfl)) (pgs_cons (pg_name (i := 5) sc_Gaps___init__.nd rfl (.inl rfl)) (pgs_cons (pg_name (i := 6) sc_Gaps___init__.nd rfl (.inl rfl)) pgs_nil))))) (pss_cons (ps_fld (pv 0) (pe_op op_fdivW (pv 4) (pv 2)) rfl) (pss_cons (ps_fld (pv 0) (pe_op op_fdivW (pv 5) (pe_callBfun cr_gcd rfl x_gcd (pa_cons (pv 5) (pa_cons (pv 2) pa_nil)))) rfl) (pss_cons (ps_setLc (i := 7) (own := [("number", 9)]) rfl sc_Gaps___init__.nd rfl rfl (sw_true rfl rfl rfl (by decide +kernel)) (pi_range2 rfl n_range (pa_cons pe_int (pa_cons (pe_op op_add (pe_op op_add (pe_fld (pv 0) rfl) (pe_fld (pv 0) rfl)) pe_int) pa_nil))) (blkOk_by (own := [("number", 9)]) (N := N_Gaps___init__) (sc := defScope s_Gaps___init__) (by decide +kernel)) (fun _ _ _ _ _ => (pg_name (i := 9) sc_Gaps___init__.nd rfl (.inl rfl))) (fun _ _ _ _ _ => pts_nil) (fun _ _ _ _ _ => (Kr.pe_mt m_Packing_start_of c_Packing (hr.mono (by decide)) (pv 1) (pa_cons (pe_op op_mul (pv 9) (pv 2)) pa_nil)))) (pss_cons (ps_fld (pv 0) (pe_lst (pa_cons pe_int pa_nil)) rfl) (pss_one (ps_for PassesOwn.never rfl (pi_range1 rfl n_range (pa_cons (pe_op op_sub (pe_callB (id := "len") Kr.c_len rfl n_len (by decide +kernel) (pa_cons (pv 7) pa_nil)) pe_int) pa_nil)) (pg_name (i := 8) sc_Gaps___init__.nd rfl (.inl rfl)) (pss_one (ps_expr (pe_bm PySem.F.plainAttrs_list PySem.F.slot_list_append PySem.F.type_list_append mt_append (pe_fld (pv 0) rfl) (pa_cons (pe_op op_add (pe_ix ix_list (pe_fld (pv 0) rfl) (pe_un un_neg pe_int) (fun _ _ => rfl)) (pe_callB (id := "min") (Kr.c_min2 rfl) rfl n_min (by decide +kernel) (pa_cons (pv 3) (pa_cons (pe_op op_sub (pe_ix ix_list (pv 7) (pe_op op_add (pv 8) pe_int) (fun _ _ => rfl)) (pe_ix ix_list (pv 7) (pv 8) (fun _ _ => rfl))) pa_nil)))) pa_nil))))))))))), ?_⟩
    rw [st_Gaps___init__]
    walk_at "ss"
    refine ⟨p, lp, dx2, ls, sz, j, k, _, rfl, F, fun t H1 s2 ht et => ?_⟩
    have ha1 := s2 _ _ ha
    have PA1 := PA.same s2
    walk_at "ss"
    have c1 := cds j
    walk_at "ss"
    refine r_st (gs := [("_near", .int ((j : Int) / (step : Int)))]) ha1 cc n0 (by decide) rfl ?_
    have eN : (j : Int) / (step : Int) = ((j / step : Nat) : Int) := rfl
    rw [eN]
    walk_at "ss"
    refine KrH.r_gcd ?_
    rw [Int.natAbs_natCast, Int.natAbs_natCast]
    have c2 := cdg ((k - j : Nat) : Int)
    walk_at "ss"
    have eP : ((k - j : Nat) : Int) / ((Nat.gcd (k - j) step : Nat) : Int) = (((k - j) / Nat.gcd (k - j) step : Nat) : Int) := rfl
    rw [eP]
    refine r_st (gs := [("_near", .int (j / step : Nat)), ("_period", .int ((k - j) / Nat.gcd (k - j) step : Nat))]) upd_same cc n1 (by show 1 < 1000; decide) rfl ?_
    rw [upd_upd]
    obtain ⟨N, hN⟩ : ∃ N, N = j / step := ⟨_, rfl⟩
    obtain ⟨R, hR⟩ : ∃ R, R = (k - j) / Nat.gcd (k - j) step := ⟨_, rfl⟩
    rw [← hN, ← hR]
    have e2 : (upd H1 a (.ins (He.ga K "Gaps") dx [("_near", .int N), ("_period", .int R)])) a = some (.ins (He.ga K "Gaps") dx [("_near", .int N), ("_period", .int R)]) := upd_same
    have b2 : But a H1 (upd H1 a (.ins (He.ga K "Gaps") dx [("_near", .int N), ("_period", .int R)])) := (But.refl a H1).upd
    generalize hH2 : upd H1 a (.ins (He.ga K "Gaps") dx [("_near", .int N), ("_period", .int R)]) = H2 at e2 b2
    rw [← hN] at Nle
    rw [← hR] at Ple P1
    have PA2 := PA1.but0 ha1 b2
    have b02 : ∀ b o, b ≠ a → H b = some o → H2 b = some o := fun b o n e => b2 b o n (s2 b o e)
    clear hH2
    obtain ⟨dx3, lp3, j3, k3, last3, F3, -, -⟩ := id PA2
    have h02 := F3.at_
    walk_at "ss"
    intro D hD
    rw [show ((N : Int) + (R : Int) + 2 - 1).toNat = N + R + 1 by omega]
    refine lc_rangeS [some (.ref a), some (.ref p), some (.int step), some (.int most), some (.int j), some (.int (k - j : Nat)), some (.int (Pk.rws ls sz j k : Nat)), none, none, none] rfl (fun i H5 => Same H2 H5 ∧ H5 D = some (.lst (tabL (fun n => .int (Pk.st ls sz ((n + 1) * step) : Nat)) i))) ⟨same_new hD, upd_same⟩ ?_ ?_
    · rintro i H5 hi ⟨s5, h5⟩
      have h05 := s5 _ _ h02
      walk_at "ss"
      refine ⟨rfl, ?_⟩
      walk_at "ss"
      rw [show ((1 : Int) + (i : Int)) * (step : Int) = (((i + 1) * step : Nat) : Int) by rw [Int.natCast_mul, Int.natCast_add, Int.add_comm]; rfl]
      have bd : (i + 1) * step ≤ 13 * 1000 := Nat.mul_le_mul (by omega) st2
      refine ⟨p, s1, ls, sz, (i + 1) * step, rfl, PA2.same s5, Nat.lt_of_le_of_lt bd (by decide), ?_⟩
      refine ⟨_, h5, by rw [tabL_len]; exact szl (by omega), fun b' o e => ?_, ?_⟩
      · rw [upd_ne (ne_of_none e hD)]
        exact s5 b' o e
      · rw [upd_same, tabL_succ]
    rintro H5 ⟨s5, h5⟩
    have h5a := s5 _ _ e2
    walk_at "ss"
    refine r_newS fun l H6 hl s6 e6 => ?_
    have h6a := s6 _ _ h5a
    have h6D := s6 _ _ h5
    have nla : l ≠ a := (ne_of_none h5a hl).symm
    have nDa : D ≠ a := ne_of h6D h6a (by intro z; cases z)
    have nlD : l ≠ D := (ne_of_none h5 hl).symm
    have hl0 : H l = none := by
      cases e : H l with
      | none => rfl
      | some o =>
        have := s5 _ _ (b02 l o nla e)
        rw [hl] at this
        cases this
    have b06 : ∀ b o, b ≠ a → H b = some o → H6 b = some o := fun b o n e => s6 _ _ (s5 _ _ (b02 b o n e))
    walk_at "ss"
    refine r_st (gs := [("_near", .int N), ("_period", .int R), ("_sums", .ref l)]) h6a cc n2 (by show 2 < 1000; decide) rfl ?_
    have b07 : ∀ b o, b ≠ a → H b = some o → (upd H6 a (.ins (He.ga K "Gaps") dx [("_near", .int N), ("_period", .int R), ("_sums", .ref l)])) b = some o := fun b o n e => by rw [upd_ne n]; exact b06 b o n e
    have h7a : (upd H6 a (.ins (He.ga K "Gaps") dx [("_near", .int N), ("_period", .int R), ("_sums", .ref l)])) a = some (.ins (He.ga K "Gaps") dx [("_near", .int N), ("_period", .int R), ("_sums", .ref l)]) := upd_same
    have h7D : (upd H6 a (.ins (He.ga K "Gaps") dx [("_near", .int N), ("_period", .int R), ("_sums", .ref l)])) D = some (.lst (tabL (fun n => .int (Pk.st ls sz ((n + 1) * step) : Nat)) (N + R + 1))) := by rw [upd_ne nDa]; exact h6D
    have h7l : (upd H6 a (.ins (He.ga K "Gaps") dx [("_near", .int N), ("_period", .int R), ("_sums", .ref l)])) l = some (.lst (tabL (fun i => .int (Hm.S (Hm.gap ls sz step most) i : Nat)) 1)) := by rw [upd_ne nla]; exact e6
    generalize upd H6 a (.ins (He.ga K "Gaps") dx [("_near", .int N), ("_period", .int R), ("_sums", .ref l)]) = H7 at b07 h7a h7D h7l
    walk_at "ss"
    rw [tabL_len]
    refine r_rg1 ⟨by omega, by omega⟩ ?_
    rw [show (((N + R + 1 : Nat) : Int) - 1).toNat = N + R by omega]
    refine r_forR (fun i σ H' => ∃ x8 : Option V, σ = [some (.ref a), some (.ref p), some (.int step), some (.int most), some (.int j), some (.int (k - j : Nat)), some (.int (Pk.rws ls sz j k : Nat)), some (.ref D), x8, none] ∧ (∀ b o, b ≠ a → H b = some o → H' b = some o) ∧
        H' a = some (.ins (He.ga K "Gaps") dx [("_near", .int N), ("_period", .int R), ("_sums", .ref l)]) ∧ H' D = some (.lst (tabL (fun n => .int (Pk.st ls sz ((n + 1) * step) : Nat)) (N + R + 1))) ∧ H' l = some (.lst (tabL (fun i => .int (Hm.S (Hm.gap ls sz step most) i : Nat)) (i + 1)))) ⟨_, rfl, b07, h7a, h7D, h7l⟩ ?_ ?_
    · rintro i σ H8 hi ⟨x8, rfl, b8, h8a, h8D, h8l⟩
      have hli : l ≠ a := ne_of h8l h8a (by intro z; cases z)
      walk_at "ss"
      refine r_ixL (SqL.of h8l) (tabL_last _ _) ?_
      walk_at "ss"
      rw [Int.zero_add]
      refine r_ixL (SqL.of h8D) (tabL_at (i := i + 1) _ rfl (by omega)) ?_
      walk_at "ss"
      refine r_ixL (SqL.of h8D) (tabL_at (i := i) _ rfl (by omega)) ?_
      walk_at "ss"
      have em : (if ((Pk.st ls sz ((i + 1 + 1) * step) : Nat) : Int) - ((Pk.st ls sz ((i + 1) * step) : Nat) : Int) < (most : Int) then ((Pk.st ls sz ((i + 1 + 1) * step) : Nat) : Int) - ((Pk.st ls sz ((i + 1) * step) : Nat) : Int) else (most : Int)) = ((Hm.gap ls sz step most i : Nat) : Int) := by
        have le := Pk.st_le o (show (i + 1) * step ≤ (i + 1 + 1) * step from Nat.mul_le_mul_right _ (by omega))
        have e : Hm.gap ls sz step most i = min most (Pk.st ls sz ((i + 1 + 1) * step) - Pk.st ls sz ((i + 1) * step)) := rfl
        rw [e]
        split <;> omega
      rw [em]
      refine r_append h8l (by rw [tabL_len]; omega) ?_
      walk_at "ss"
      refine ⟨_, rfl, fun b o' n e => ?_, ?_, ?_, ?_⟩
      · rw [upd_ne (fun z => by rw [z] at e; rw [hl0] at e; cases e)]
        exact b8 b o' n e
      · rw [upd_ne (Ne.symm hli)]
        exact h8a
      · rw [upd_ne (Ne.symm nlD)]
        exact h8D
      · rw [upd_same, tabL_succ _ (i + 1)]
        show some (HO.lst (_ ++ [V.int (((Hm.S (Hm.gap ls sz step most) i : Nat) : Int) + ((Hm.gap ls sz step most i : Nat) : Int))])) = some (HO.lst (_ ++ [V.int ((Hm.S (Hm.gap ls sz step most) i + Hm.gap ls sz step most i : Nat) : Int)]))
        rw [Int.natCast_add]
    · rintro σ H8 ⟨x8, rfl, b8, h8a, h8D, h8l⟩
      walk_at "ss"
      rw [hN, hR] at h8a h8l
      exact q H8 b8 ⟨dx, l, j, k, cyc, k6, h8a, h8l⟩
theorem ok_Gaps_sum_of {P : Program} {w : World} {K : PySem.W.Frag} {mg : Str → Option Value} {base : Heap} {f : Addr} {fd : FuncData} (F : FunD K "sum_of" "Gaps.sum_of" (defArgs s_Gaps_sum_of) (defBody s_Gaps_sum_of) (defScope s_Gaps_sum_of) [] [] f fd) (a_Gaps__near : NoAttr K (He.ga K "Gaps") "_near") (a_Gaps__period : NoAttr K (He.ga K "Gaps") "_period") (a_Gaps__sums : NoAttr K (He.ga K "Gaps") "_sums") (c_Gaps : Cls K (He.ga K "Gaps")) (n_max : mg "max" = none) : FnOk P w K mg base CX0 1 f fd ["self", "many"] (sp_Gaps_sum_of K) := by
  refine F.ok sc_Gaps_sum_of (fun vs H Q E h => by first | (obtain ⟨rfl, _⟩ := h; rfl) | (obtain ⟨_, rfl, _⟩ := h; rfl) | (obtain ⟨_, _, rfl, _⟩ := h; rfl) | (obtain ⟨_, _, _, rfl, _⟩ := h; rfl) | (obtain ⟨_, _, _, _, rfl, _⟩ := h; rfl) | (obtain ⟨_, _, _, _, _, rfl, _⟩ := h; rfl) | (obtain ⟨_, _, _, _, _, _, rfl, _⟩ := h; rfl) | (obtain ⟨_, _, _, _, _, _, _, rfl, _⟩ := h; rfl) | (obtain ⟨_, _, _, _, _, _, _, _, rfl, _⟩ := h; rfl) | (obtain ⟨_, _, _, _, _, _, _, _, _, rfl, _⟩ := h; rfl) | (obtain ⟨_, _, _, _, _, _, _, _, _, _, rfl, _⟩ := h; rfl) | (obtain ⟨_, _, _, _, _, _, _, _, _, _, _, rfl, _⟩ := h; rfl) | (obtain ⟨_, _, _, _, _, _, _, _, _, _, _, _, rfl, _⟩ := h; rfl) | (obtain ⟨_, _, _, _, _, _, _, _, _, _, _, _, _, rfl, _⟩ := h; rfl) | (obtain ⟨_, _, _, _, _, _, _, _, _, _, _, _, _, _, rfl, _⟩ := h; rfl) | (obtain ⟨_, _, _, _, _, _, _, _, _, _, _, _, _, _, _, rfl, _⟩ := h; rfl) | (obtain ⟨_, _, _, _, _, _, _, _, _, _, _, _, _, _, _, _, rfl, _⟩ := h; rfl) | (obtain ⟨_, _, _, _, _, _, _, _, _, _, _, _, _, _, _, _, _, rfl, _⟩ := h; rfl)) (fun cdv A outer s H vs Q E hr h => ?_)
  · have hu := hu_of hr
    obtain ⟨g, ls, sz, step, most, m, rfl, ⟨dx, l, j, k, cyc, k6, h1, h2⟩, o, st1, mo, hm, q⟩ := h
    have cc := c_Gaps
    have n0 := a_Gaps__near
    have n1 := a_Gaps__period
    have n2 := a_Gaps__sums
    have P1 := per_pos (step := step) cyc.lt
    have Ple : (k - j) / Nat.gcd (k - j) step ≤ k - j := Nat.div_le_self _ _
    have Nle : j / step ≤ j := Nat.div_le_self _ _
    have per := fun n hn => Hm.gap_per cyc o most (step := step) (by omega) n hn
    have so := Hm.sum_of (g := Hm.gap ls sz step most) (N := j / step) (P := (k - j) / Nat.gcd (k - j) step) per m
    have sa := Hm.sum_at (N := j / step) (P := (k - j) / Nat.gcd (k - j) step) (m := m) P1
    obtain ⟨N, hN⟩ : ∃ N, N = j / step := ⟨_, rfl⟩
    obtain ⟨R, hR⟩ : ∃ R, R = (k - j) / Nat.gcd (k - j) step := ⟨_, rfl⟩
    rw [← hN, ← hR] at so sa h1 h2
    rw [← hR] at Ple P1
    rw [← hN] at Nle
    have cd : ∀ z : Int, CDivW z (R : Int) := fun z => wide_div (b := 64) (by omega) (by omega) (by decide) (by decide)
    have et : (if (m : Int) - (N : Int) > 0 then (m : Int) - (N : Int) else 0) = ((m - N : Nat) : Int) := by split <;> omega
    have Sle : ∀ n, Hm.S (Hm.gap ls sz step most) n ≤ n * 100 := fun n => by
      induction n with
      | zero => exact Nat.zero_le _
      | succ n ih =>
        have : Hm.gap ls sz step most n ≤ most := Nat.min_le_left _ _
        show Hm.S _ n + Hm.gap ls sz step most n ≤ _
        omega
    have s1 := Sle (N + R)
    have mono := Hm.S_mono (Hm.gap ls sz step most) N R
    have ht : ∀ {i : Nat} {z : Int}, z = (i : Int) → i < N + R + 1 → atI (tabL (fun i => V.int (Hm.S (Hm.gap ls sz step most) i : Nat)) (N + R + 1)) z = some (V.int (Hm.S (Hm.gap ls sz step most) i : Nat)) := fun e h => tabL_at _ e h
    refine ⟨_, PSs.nox (pss_cons (ps_set (i := 2) sc_Gaps_sum_of.nd rfl (.inl rfl) (pe_op op_fdivW (pe_callB (id := "max") (Kr.c_max2 rfl) rfl n_max (by decide +kernel) (pa_cons pe_int (pa_cons (pe_op op_sub (pv 1) (pe_fld (pv 0) rfl)) pa_nil))) (pe_fld (pv 0) rfl))) (pss_cons (ps_set (i := 3) sc_Gaps_sum_of.nd rfl (.inl rfl) (pe_op op_sub (pe_ix ix_list (pe_fld (pv 0) rfl) (pe_op op_add (pe_fld (pv 0) rfl) (pe_fld (pv 0) rfl)) (fun _ _ => rfl)) (pe_ix ix_list (pe_fld (pv 0) rfl) (pe_fld (pv 0) rfl) (fun _ _ => rfl)))) (pss_one (ps_ret (pe_op op_add (pe_ix ix_list (pe_fld (pv 0) rfl) (pe_op op_sub (pv 1) (pe_op op_mul (pv 2) (pe_fld (pv 0) rfl))) (fun _ _ => rfl)) (pe_op op_mul (pv 2) (pv 3))))))), ?_⟩
    rw [st_Gaps_sum_of]
    walk_at "ss"
    rw [et]
    have cd1 := cd ((m - N : Nat) : Int)
    walk_at "ss"
    rw [show ((m - N : Nat) : Int) / (R : Int) = (((m - N) / R : Nat) : Int) from rfl]
    refine r_ixL (SqL.of h2) (ht rfl (by omega)) ?_
    walk_at "ss"
    refine r_ixL (SqL.of h2) (ht rfl (by omega)) ?_
    walk_at "ss"
    have lem : (m - N) / R * R ≤ m := Nat.le_trans (Nat.div_mul_le_self _ _) (Nat.sub_le _ _)
    refine r_ixL (SqL.of h2) (ht (i := m - (m - N) / R * R) (by rw [← Int.natCast_mul, Int.ofNat_sub lem]) (by omega)) ?_
    walk_at "ss"
    rw [so] at q
    rw [Int.natCast_add, Int.natCast_mul, Int.ofNat_sub mono] at q
    exact q
theorem ok_Heights___init__ {P : Program} {w : World} {K : PySem.W.Frag} {mg : Str → Option Value} {base : Heap} {f : Addr} {fd : FuncData} (F : FunD K "__init__" "Heights.__init__" (defArgs s_Heights___init__) (defBody s_Heights___init__) (defScope s_Heights___init__) [] [] f fd) (a_Heights__fanout : NoAttr K (He.ga K "Heights") "_fanout") (a_Heights__gaps : NoAttr K (He.ga K "Heights") "_gaps") (a_Heights__most : NoAttr K (He.ga K "Heights") "_most") (a_Heights__packing : NoAttr K (He.ga K "Heights") "_packing") (a_Heights__rows : NoAttr K (He.ga K "Heights") "_rows") (a_Settings_fanout : NoAttr K (He.ga K "Settings") "fanout") (a_Settings_keep : NoAttr K (He.ga K "Settings") "keep") (a_Settings_lengths : NoAttr K (He.ga K "Settings") "lengths") (a_Settings_size : NoAttr K (He.ga K "Settings") "size") (c_Heights : Cls K (He.ga K "Heights")) (c_Settings : Cls K (He.ga K "Settings")) (mk_Packing : Kr.MkH P w K mg base CX0 2 "Packing" (He.ga K "Packing") ["self", "settings"] (sp_Packing___init__ K)) (n_max : mg "max" = none) : FnOk P w K mg base CX0 4 f fd ["self", "settings"] (sp_Heights___init__ K) := by
  refine F.ok sc_Heights___init__ (fun vs H Q E h => by first | (obtain ⟨rfl, _⟩ := h; rfl) | (obtain ⟨_, rfl, _⟩ := h; rfl) | (obtain ⟨_, _, rfl, _⟩ := h; rfl) | (obtain ⟨_, _, _, rfl, _⟩ := h; rfl) | (obtain ⟨_, _, _, _, rfl, _⟩ := h; rfl) | (obtain ⟨_, _, _, _, _, rfl, _⟩ := h; rfl) | (obtain ⟨_, _, _, _, _, _, rfl, _⟩ := h; rfl) | (obtain ⟨_, _, _, _, _, _, _, rfl, _⟩ := h; rfl) | (obtain ⟨_, _, _, _, _, _, _, _, rfl, _⟩ := h; rfl) | (obtain ⟨_, _, _, _, _, _, _, _, _, rfl, _⟩ := h; rfl) | (obtain ⟨_, _, _, _, _, _, _, _, _, _, rfl, _⟩ := h; rfl) | (obtain ⟨_, _, _, _, _, _, _, _, _, _, _, rfl, _⟩ := h; rfl) | (obtain ⟨_, _, _, _, _, _, _, _, _, _, _, _, rfl, _⟩ := h; rfl) | (obtain ⟨_, _, _, _, _, _, _, _, _, _, _, _, _, rfl, _⟩ := h; rfl) | (obtain ⟨_, _, _, _, _, _, _, _, _, _, _, _, _, _, rfl, _⟩ := h; rfl) | (obtain ⟨_, _, _, _, _, _, _, _, _, _, _, _, _, _, _, rfl, _⟩ := h; rfl) | (obtain ⟨_, _, _, _, _, _, _, _, _, _, _, _, _, _, _, _, rfl, _⟩ := h; rfl) | (obtain ⟨_, _, _, _, _, _, _, _, _, _, _, _, _, _, _, _, _, rfl, _⟩ := h; rfl)) (fun cdv A outer s H vs Q E hr h => ?_)
  · have hu := hu_of hr
    obtain ⟨a, s1, dx, ls, sz, re, ev, ke, fo, rfl, ha, S, ok, q⟩ := h
    obtain ⟨dy, t, hs, ht⟩ := id S
    obtain ⟨k1, k2⟩ := ok.ke
    obtain ⟨f1, f2⟩ := ok.fo
    have cs := c_Settings
    have cc := c_Heights
    have m1 := a_Settings_lengths
    have m2 := a_Settings_size
    have m3 := a_Settings_fanout
    have m4 := a_Settings_keep
    have n0 := a_Heights__packing
    have n1 := a_Heights__fanout
    have n2 := a_Heights__most
    have n3 := a_Heights__rows
    have n4 := a_Heights__gaps
    have o := ok.toLensOk.pk
    have l1 := ok.l1
    have l6 := ok.l6
    have nsa : s1 ≠ a := fun e => by
      rw [e, ha] at hs
      injection hs with hs
      injection hs with _ _ h3
      exact absurd h3 (by simp [setF])
    have nta : t ≠ a := ne_of ht ha (by intro z; cases z)
    refine ⟨_, PSs.nox (pss_cons (ps_fld (pv 0) (Kr.pe_mk mk_Packing (hr.mono (by decide)) (pa_cons (pv 1) pa_nil)) rfl) (pss_cons (ps_fld (pv 0) (pe_fld (pv 1) rfl) rfl) (pss_cons (ps_fld (pv 0) (pe_op op_sub (pe_fld (pv 1) rfl) pe_int) rfl) (pss_cons (ps_fld (pv 0) (pe_op op_fdivW (pe_fld (pv 1) rfl) (pe_callB (id := "max") (KrH.c_maxT rfl) rfl n_max (by decide +kernel) (pa_cons (pe_fld (pv 1) rfl) pa_nil))) rfl) (pss_one (ps_fld (pv 0) pe_dnewK rfl)))))), ?_⟩
    rw [st_Heights___init__]
    walk_at "ss"
    intro x dx2 hx hdx ne
    have sx : Same H (upd (upd H dx2 (.own x)) x (.ins (He.ga K "Packing") dx2 [])) := (same_new hdx).trans (same_new (by rw [upd_ne ne.symm]; exact hx))
    refine ⟨x, s1, dx2, ls, sz, fo, re, ev, ke, rfl, upd_same, S.same sx, ok.toLensOk, fun H3 s3 PA pk0 => ⟨rfl, ?_⟩⟩
    have s03 : Same H H3 := fun b o e => s3 b o (ne_of_none e hx) (sx b o e)
    have ha3 := s03 _ _ ha
    walk_at "ss"
    refine r_st (gs := [("_packing", .ref x)]) ha3 cc n0 (by decide) rfl ?_
    have hsA : ∀ y, (upd H3 a y) s1 = some (.ins (He.ga K "Settings") dy (setF t sz fo re ev ke)) := fun y => by rw [upd_ne nsa]; exact s03 _ _ hs
    have htA : ∀ y, (upd H3 a y) t = some (.tup (ls.map V.int)) := fun y => by rw [upd_ne nta]; exact s03 _ _ ht
    walk_at "ss"
    refine r_fd (hsA _) cs m3 rfl ?_
    walk_at "ss"
    refine r_st (gs := [("_packing", .ref x), ("_fanout", .int fo)]) upd_same cc n1 (by show 1 < 1000; decide) rfl ?_
    rw [upd_upd]
    walk_at "ss"
    refine r_fd (hsA _) cs m4 rfl ?_
    walk_at "ss"
    rw [show ke - 1 = ((ke.toNat - 1 : Nat) : Int) by omega]
    refine r_st (gs := [("_packing", .ref x), ("_fanout", .int fo), ("_most", .int (ke.toNat - 1 : Nat))]) upd_same cc n2 (by show 2 < 1000; decide) rfl ?_
    rw [upd_upd]
    walk_at "ss"
    refine r_fd (hsA _) cs m2 rfl ?_
    walk_at "ss"
    refine r_fd (hsA _) cs m1 rfl ?_
    walk_at "ss"
    refine KrH.r_maxT (SqT.of (htA _)) (by omega) fun mx hm hmx => ?_
    obtain ⟨b1, b2⟩ := ok.all mx hm
    have r64 := ok.r64
    have cd : CDivW sz mx := wide_div (b := 64) (by omega) (by omega) (by decide) (by decide)
    walk_at "ss"
    have r1 : 1 ≤ sz / mx := (Int.le_ediv_iff_mul_le (by omega)).mpr (by omega)
    have r2 : sz / mx ≤ sz := Int.ediv_le_self _ (by omega)
    have hst := Hm.st_rows o (mx := mx) (by omega) (fun r => hmx _ (List.mem_of_getElem? (Pk.len_at o r)))
    obtain ⟨rows, hrows⟩ : ∃ rows : Nat, rows = (sz / mx).toNat := ⟨_, rfl⟩
    rw [← hrows] at hst
    rw [show sz / mx = (rows : Int) by omega]
    refine r_st (gs := [("_packing", .ref x), ("_fanout", .int fo), ("_most", .int (ke.toNat - 1 : Nat)), ("_rows", .int rows)]) upd_same cc n3 (by show 3 < 1000; decide) rfl ?_
    rw [upd_upd]
    walk_at "ss"
    refine r_newS fun d H4 hd s4 e4 => ?_
    have h4a := s4 _ _ (upd_same (H := H3) (a := a) (o := .ins (He.ga K "Heights") dx [("_packing", .ref x), ("_fanout", .int fo), ("_most", .int (ke.toNat - 1 : Nat)), ("_rows", .int rows)]))
    have nda : d ≠ a := ne_of e4 h4a (by intro z; cases z)
    walk_at "ss"
    refine r_st (gs := [("_packing", .ref x), ("_fanout", .int fo), ("_most", .int (ke.toNat - 1 : Nat)), ("_rows", .int rows), ("_gaps", .ref d)]) h4a cc n4 (by show 4 < 1000; decide) rfl ?_
    walk_at "ss"
    have b34 : ∀ b o, b ≠ a → H3 b = some o → (upd H4 a (.ins (He.ga K "Heights") dx [("_packing", .ref x), ("_fanout", .int fo), ("_most", .int (ke.toNat - 1 : Nat)), ("_rows", .int rows), ("_gaps", .ref d)])) b = some o := fun b o n e => by
      rw [upd_ne n]
      exact s4 _ _ (by rw [upd_ne n]; exact e)
    refine q rows d _ (fun b o n e => b34 b o n (s03 _ _ e)) ?_ ⟨o, ⟨by omega, by omega⟩, by omega, ⟨by omega, by omega⟩, hst⟩ ⟨dx, x, s1, [], upd_same, PA.but0 ha3 b34, by rw [upd_ne nda]; exact e4, Nat.le_refl _, fun x v e => by cases e⟩
    cases e : H d with
    | none => rfl
    | some o' =>
      have := s03 _ _ e
      rw [upd_ne nda, this] at hd
      cases hd
theorem ok_Heights__is_wide {P : Program} {w : World} {K : PySem.W.Frag} {mg : Str → Option Value} {base : Heap} {f : Addr} {fd : FuncData} (F : FunD K "_is_wide" "Heights._is_wide" (defArgs s_Heights__is_wide) (defBody s_Heights__is_wide) (defScope s_Heights__is_wide) [] [] f fd) (a_Heights__most : NoAttr K (He.ga K "Heights") "_most") (a_Heights__rows : NoAttr K (He.ga K "Heights") "_rows") (c_Heights : Cls K (He.ga K "Heights")) : FnOk P w K mg base CX0 1 f fd ["self", "step"] (sp_Heights__is_wide K) := by
  refine F.ok sc_Heights__is_wide (fun vs H Q E h => by first | (obtain ⟨rfl, _⟩ := h; rfl) | (obtain ⟨_, rfl, _⟩ := h; rfl) | (obtain ⟨_, _, rfl, _⟩ := h; rfl) | (obtain ⟨_, _, _, rfl, _⟩ := h; rfl) | (obtain ⟨_, _, _, _, rfl, _⟩ := h; rfl) | (obtain ⟨_, _, _, _, _, rfl, _⟩ := h; rfl) | (obtain ⟨_, _, _, _, _, _, rfl, _⟩ := h; rfl) | (obtain ⟨_, _, _, _, _, _, _, rfl, _⟩ := h; rfl) | (obtain ⟨_, _, _, _, _, _, _, _, rfl, _⟩ := h; rfl) | (obtain ⟨_, _, _, _, _, _, _, _, _, rfl, _⟩ := h; rfl) | (obtain ⟨_, _, _, _, _, _, _, _, _, _, rfl, _⟩ := h; rfl) | (obtain ⟨_, _, _, _, _, _, _, _, _, _, _, rfl, _⟩ := h; rfl) | (obtain ⟨_, _, _, _, _, _, _, _, _, _, _, _, rfl, _⟩ := h; rfl) | (obtain ⟨_, _, _, _, _, _, _, _, _, _, _, _, _, rfl, _⟩ := h; rfl) | (obtain ⟨_, _, _, _, _, _, _, _, _, _, _, _, _, _, rfl, _⟩ := h; rfl) | (obtain ⟨_, _, _, _, _, _, _, _, _, _, _, _, _, _, _, rfl, _⟩ := h; rfl) | (obtain ⟨_, _, _, _, _, _, _, _, _, _, _, _, _, _, _, _, rfl, _⟩ := h; rfl) | (obtain ⟨_, _, _, _, _, _, _, _, _, _, _, _, _, _, _, _, _, rfl, _⟩ := h; rfl)) (fun cdv A outer s H vs Q E hr h => ?_)
  · have hu := hu_of hr
    obtain ⟨h, d, ls, sz, fo, most, rows, c, step, rfl, HE, r64, q⟩ := h
    obtain ⟨dx, p, s1, kvs, h1, -⟩ := id HE
    have cc := c_Heights
    have n2 := a_Heights__most
    have n3 := a_Heights__rows
    refine ⟨_, PSs.nox (pss_one (ps_ret (pe_cmpR op_ge (pe_op op_mul (pv 1) (pe_fld (pv 0) rfl)) (pe_fld (pv 0) rfl) (nomark _)))), ?_⟩
    rw [st_Heights__is_wide]
    walk_at "ss"
    rw [show decide ((most : Int) ≤ (step : Int) * (rows : Int)) = decide (most ≤ step * rows) from decide_eq_decide.mpr (by rw [← Int.natCast_mul]; exact Int.ofNat_le)]
    exact q
theorem ok_Heights__sum_of_gaps {P : Program} {w : World} {K : PySem.W.Frag} {mg : Str → Option Value} {base : Heap} {f : Addr} {fd : FuncData} (F : FunD K "_sum_of_gaps" "Heights._sum_of_gaps" (defArgs s_Heights__sum_of_gaps) (defBody s_Heights__sum_of_gaps) (defScope s_Heights__sum_of_gaps) [] [] f fd) (a_Heights__gaps : NoAttr K (He.ga K "Heights") "_gaps") (a_Heights__most : NoAttr K (He.ga K "Heights") "_most") (a_Heights__packing : NoAttr K (He.ga K "Heights") "_packing") (c_Gaps : Cls K (He.ga K "Gaps")) (c_Heights : Cls K (He.ga K "Heights")) (m_Gaps_sum_of : Kr.MtH P w K mg base CX0 1 (He.ga K "Gaps") "sum_of" ["self", "many"] (sp_Gaps_sum_of K)) (m_Heights__is_wide : Kr.MtH P w K mg base CX0 1 (He.ga K "Heights") "_is_wide" ["self", "step"] (sp_Heights__is_wide K)) (mk_Gaps : Kr.MkH P w K mg base CX0 2 "Gaps" (He.ga K "Gaps") ["self", "packing", "step", "most"] (sp_Gaps___init__ K)) : FnOk P w K mg base CX0 4 f fd ["self", "step", "many"] (sp_Heights__sum_of_gaps K) := by
  refine F.ok sc_Heights__sum_of_gaps (fun vs H Q E h => by first | (obtain ⟨rfl, _⟩ := h; rfl) | (obtain ⟨_, rfl, _⟩ := h; rfl) | (obtain ⟨_, _, rfl, _⟩ := h; rfl) | (obtain ⟨_, _, _, rfl, _⟩ := h; rfl) | (obtain ⟨_, _, _, _, rfl, _⟩ := h; rfl) | (obtain ⟨_, _, _, _, _, rfl, _⟩ := h; rfl) | (obtain ⟨_, _, _, _, _, _, rfl, _⟩ := h; rfl) | (obtain ⟨_, _, _, _, _, _, _, rfl, _⟩ := h; rfl) | (obtain ⟨_, _, _, _, _, _, _, _, rfl, _⟩ := h; rfl) | (obtain ⟨_, _, _, _, _, _, _, _, _, rfl, _⟩ := h; rfl) | (obtain ⟨_, _, _, _, _, _, _, _, _, _, rfl, _⟩ := h; rfl) | (obtain ⟨_, _, _, _, _, _, _, _, _, _, _, rfl, _⟩ := h; rfl) | (obtain ⟨_, _, _, _, _, _, _, _, _, _, _, _, rfl, _⟩ := h; rfl) | (obtain ⟨_, _, _, _, _, _, _, _, _, _, _, _, _, rfl, _⟩ := h; rfl) | (obtain ⟨_, _, _, _, _, _, _, _, _, _, _, _, _, _, rfl, _⟩ := h; rfl) | (obtain ⟨_, _, _, _, _, _, _, _, _, _, _, _, _, _, _, rfl, _⟩ := h; rfl) | (obtain ⟨_, _, _, _, _, _, _, _, _, _, _, _, _, _, _, _, rfl, _⟩ := h; rfl) | (obtain ⟨_, _, _, _, _, _, _, _, _, _, _, _, _, _, _, _, _, rfl, _⟩ := h; rfl)) (fun cdv A outer s H vs Q E hr h => ?_)
  · have hu := hu_of hr
    obtain ⟨h, d, ls, sz, fo, most, rows, c, step, many, rfl, HE, HO, hc, st1, hm, q⟩ := h
    obtain ⟨dx, p, s1, kvs, h1, PA, h3, h4, h5⟩ := id HE
    have cc := c_Heights
    have n0 := a_Heights__packing
    have n2 := a_Heights__most
    have n4 := a_Heights__gaps
    have cg := c_Gaps
    have mb := HO.mb
    have rb := HO.rb
    refine ⟨_, PSs.nox (pss_cons (ps_if (pt_val (Kr.pe_mt m_Heights__is_wide c_Heights (hr.mono (by decide)) (pv 0) (pa_cons (pv 1) pa_nil))) (pss_one (ps_ret (pe_op op_mul (pv 2) (pe_fld (pv 0) rfl)))) pss_nil) (pss_cons (ps_if (pt_cmp (pc_dnotin hu (pv 1) (pe_fld (pv 0) rfl))) (pss_one (ps_dput hu (pe_fld (pv 0) rfl) (pv 1) (Kr.pe_mk mk_Gaps (hr.mono (by decide)) (pa_cons (pe_fld (pv 0) rfl) (pa_cons (pv 1) (pa_cons (pe_fld (pv 0) rfl) pa_nil)))) rfl)) pss_nil) (pss_one (ps_ret (Kr.pe_mt m_Gaps_sum_of c_Gaps (hr.mono (by decide)) (pe_dget hu (pe_fld (pv 0) rfl) (pv 1) (fun _ _ => rfl)) (pa_cons (pv 2) pa_nil)))))), ?_⟩
    rw [st_Heights__sum_of_gaps]
    walk_at "ss"
    refine ⟨h, d, ls, sz, fo, most, rows, c, step, rfl, HE, rb.2, ?_⟩
    walk_at "ss"
    refine r_dec (fun hw => ?_) fun hw => ?_
    · walk_at "ss"
      have q := q H (But.refl _ _) (HE.mono (by omega))
      rw [Hm.S_const (g := Hm.gap ls sz step most) (c := most) (fun n => Hm.gap_wide (f := Pk.st ls sz) HO.sb hw n), Int.natCast_mul] at q
      exact q
    have st99 : step ≤ 1000 := by
      have : step * 1 ≤ step * rows := Nat.mul_le_mul_left _ rb.1
      omega
    walk_at "ss"
    refine r_dk h3 ?_
    walk_at "ss"
    cases hv : valV kvs (Sum.inl (step : Int)) with
    | none =>
      refine iteT ?_
      walk_at "ss"
      intro x dx2 hx hdx ne
      have sx : Same H (upd (upd H dx2 (.own x)) x (.ins (He.ga K "Gaps") dx2 [])) := (same_new hdx).trans (same_new (by rw [upd_ne ne.symm]; exact hx))
      refine ⟨x, p, s1, dx2, ls, sz, step, most, rfl, upd_same, PA.same sx, st1, st99, by omega, fun H3 s3 GA => ⟨rfl, ?_⟩⟩
      have s03 : Same H H3 := fun b o e => s3 b o (ne_of_none e hx) (sx b o e)
      have g3 := s03 _ _ h3
      have g1 := s03 _ _ h1
      walk_at "ss"
      refine r_dp g3 (by omega) ?_
      have nhd : h ≠ d := ne_of g1 g3 (by intro z; cases z)
      have b4 : But d H3 (upd H3 d (.dK (putK kvs (Sum.inl (step : Int)) (.ref x)))) := (But.refl d H3).upd
      have e4 : (upd H3 d (.dK (putK kvs (Sum.inl (step : Int)) (.ref x)))) d = some (.dK (putK kvs (Sum.inl (step : Int)) (.ref x))) := upd_same
      generalize upd H3 d (.dK (putK kvs (Sum.inl (step : Int)) (.ref x))) = H4 at b4 e4 ⊢
      have b04 : But d H H4 := fun b o n e => b4 b o n (s03 b o e)
      have g14 := b4 _ _ nhd g1
      have vv : valV (putK kvs (Sum.inl (step : Int)) (.ref x)) (Sum.inl (step : Int)) = some (.ref x) := by rw [valV_put, if_pos rfl]
      have GA4 := GA.butD g3 b4
      have HE4 : HeAt K H4 h d ls sz fo most rows (c + 1) := by
        refine ⟨dx, p, s1, _, g14, PA.butD h3 b04, e4, Nat.le_trans (length_putK _ _ _) (by omega), fun y v e => ?_⟩
        rw [valV_put] at e
        split at e
        · rename_i ey
          injection ey with ey
          have ey : y = step := by omega
          cases e
          rw [ey]
          exact ⟨x, rfl, GA4⟩
        · obtain ⟨g, e1, e2⟩ := h5 y v e
          exact ⟨g, e1, e2.butD h3 b04⟩
      obtain ⟨dx5, l5, j5, k5, cy5, k65, gg, gl⟩ := id GA4
      walk_at "ss"
      refine r_dg e4 vv ?_
      walk_at "ss"
      exact ⟨x, ls, sz, step, most, many, rfl, GA4, HO.o, st1, by omega, hm, q H4 b04 HE4⟩
    | some v =>
      obtain ⟨g, rfl, GA⟩ := h5 step v hv
      obtain ⟨dx5, l5, j5, k5, cy5, k65, gg, gl⟩ := id GA
      refine iteF ?_
      walk_at "ss"
      refine r_dg h3 hv ?_
      walk_at "ss"
      exact ⟨g, ls, sz, step, most, many, rfl, GA, HO.o, st1, by omega, hm, q H (But.refl _ _) (HE.mono (by omega))⟩
theorem ok_Heights_above {P : Program} {w : World} {K : PySem.W.Frag} {mg : Str → Option Value} {base : Heap} {f : Addr} {fd : FuncData} (F : FunD K "above" "Heights.above" (defArgs s_Heights_above) (defBody s_Heights_above) (defScope s_Heights_above) [] [] f fd) (a_Heights__most : NoAttr K (He.ga K "Heights") "_most") (a_Heights__packing : NoAttr K (He.ga K "Heights") "_packing") (c_Heights : Cls K (He.ga K "Heights")) (c_Packing : Cls K (He.ga K "Packing")) (m_Heights__sum_of_gaps : Kr.MtH P w K mg base CX0 4 (He.ga K "Heights") "_sum_of_gaps" ["self", "step", "many"] (sp_Heights__sum_of_gaps K)) (m_Packing_page_with : Kr.MtH P w K mg base CX0 1 (He.ga K "Packing") "page_with" ["self", "row"] (sp_Packing_page_with K)) (m_Packing_start_of : Kr.MtH P w K mg base CX0 1 (He.ga K "Packing") "start_of" ["self", "page"] (sp_Packing_start_of K)) (n_min : mg "min" = none) : FnOk P w K mg base CX0 5 f fd ["self", "step", "moment"] (sp_Heights_above K) := by
  refine F.ok sc_Heights_above (fun vs H Q E h => by first | (obtain ⟨rfl, _⟩ := h; rfl) | (obtain ⟨_, rfl, _⟩ := h; rfl) | (obtain ⟨_, _, rfl, _⟩ := h; rfl) | (obtain ⟨_, _, _, rfl, _⟩ := h; rfl) | (obtain ⟨_, _, _, _, rfl, _⟩ := h; rfl) | (obtain ⟨_, _, _, _, _, rfl, _⟩ := h; rfl) | (obtain ⟨_, _, _, _, _, _, rfl, _⟩ := h; rfl) | (obtain ⟨_, _, _, _, _, _, _, rfl, _⟩ := h; rfl) | (obtain ⟨_, _, _, _, _, _, _, _, rfl, _⟩ := h; rfl) | (obtain ⟨_, _, _, _, _, _, _, _, _, rfl, _⟩ := h; rfl) | (obtain ⟨_, _, _, _, _, _, _, _, _, _, rfl, _⟩ := h; rfl) | (obtain ⟨_, _, _, _, _, _, _, _, _, _, _, rfl, _⟩ := h; rfl) | (obtain ⟨_, _, _, _, _, _, _, _, _, _, _, _, rfl, _⟩ := h; rfl) | (obtain ⟨_, _, _, _, _, _, _, _, _, _, _, _, _, rfl, _⟩ := h; rfl) | (obtain ⟨_, _, _, _, _, _, _, _, _, _, _, _, _, _, rfl, _⟩ := h; rfl) | (obtain ⟨_, _, _, _, _, _, _, _, _, _, _, _, _, _, _, rfl, _⟩ := h; rfl) | (obtain ⟨_, _, _, _, _, _, _, _, _, _, _, _, _, _, _, _, rfl, _⟩ := h; rfl) | (obtain ⟨_, _, _, _, _, _, _, _, _, _, _, _, _, _, _, _, _, rfl, _⟩ := h; rfl)) (fun cdv A outer s H vs Q E hr h => ?_)
  · have hu := hu_of hr
    obtain ⟨h, d, ls, sz, fo, most, rows, c, step, m, rfl, HE, HO, hc, st1, st2, hm, q⟩ := h
    obtain ⟨dx, p, s1, kvs, h1, PA, h3, h4, h5⟩ := id HE
    obtain ⟨dx2, lp, j, k, last, F, on, -⟩ := id PA
    have cc := c_Heights
    have n0 := a_Heights__packing
    have n2 := a_Heights__most
    have cp := c_Packing
    have o := HO.o
    have hp := F.at_
    have mb := HO.mb
    have e30 : (10 : Nat) ^ 30 < 10 ^ 40 := by decide
    have cd : ∀ z : Int, CDivW z (step : Int) := fun z => wide_div (b := 451) (by omega) (by rw [Int.natAbs_natCast]; exact st2) (by decide) (by decide)
    refine ⟨_, PSs.nox (pss_cons (ps_if (pt_cmpR op_lt (pv 2) pe_int (nomark _)) (pss_one (ps_ret pe_int)) pss_nil) (pss_cons (ps_set (i := 3) sc_Heights_above.nd rfl (.inl rfl) (pe_op op_fdivW (Kr.pe_mt m_Packing_page_with c_Packing (hr.mono (by decide)) (pe_fld (pv 0) rfl) (pa_cons (pe_op op_sub (pv 2) pe_int) pa_nil)) (pv 1))) (pss_cons (ps_if (pt_cmpR op_eq (pv 3) pe_int (nomark _)) (pss_one (ps_ret pe_int)) pss_nil) (pss_one (ps_ret (pe_op op_add (Kr.pe_mt m_Heights__sum_of_gaps c_Heights (hr.mono (by decide)) (pv 0) (pa_cons (pv 1) (pa_cons (pe_op op_sub (pv 3) pe_int) pa_nil))) (pe_callB (id := "min") (Kr.c_min2 rfl) rfl n_min (by decide +kernel) (pa_cons (pe_fld (pv 0) rfl) (pa_cons (pe_op op_sub (pe_op op_sub (pv 2) pe_int) (Kr.pe_mt m_Packing_start_of c_Packing (hr.mono (by decide)) (pe_fld (pv 0) rfl) (pa_cons (pe_op op_mulW (pv 3) (pv 1)) pa_nil))) pa_nil))))))))), ?_⟩
    rw [st_Heights_above]
    walk_at "ss"
    refine r_dec (fun e => ?_) fun e => ?_
    · walk_at "ss"
      have q := q H (But.refl _ _) (HE.mono (by omega))
      unfold Hm.abv at q
      rw [if_pos (by omega)] at q
      exact q
    walk_at "ss"
    rw [show (m : Int) - 2 = ((m - 2 : Nat) : Int) by omega]
    refine ⟨p, lp, dx2, ls, sz, j, k, m - 2, _, rfl, F, by omega, fun n om => ?_⟩
    have en := pg_is o om
    have nle := pg_le (sz := sz) o (m - 2)
    have cdn := cd (n : Int)
    walk_at "ss"
    rw [show (n : Int) / (step : Int) = ((n / step : Nat) : Int) from rfl]
    obtain ⟨v, hv⟩ : ∃ v, v = n / step := ⟨_, rfl⟩
    have dle : v ≤ n := by rw [hv]; exact Nat.div_le_self _ _
    have lle : v * step ≤ n := by rw [hv]; exact Nat.div_mul_le_self _ _
    have q : ∀ H', But d H H' → HeAt K H' h d ls sz fo most rows (c + 1) → Q (.int ((if v = 0 then 0 else Hm.S (fun n => min most (Pk.st ls sz ((n + 2) * step) - Pk.st ls sz ((n + 1) * step))) (v - 1) + min most (m - 1 - Pk.st ls sz (v * step)) : Nat) : Int)) H' := fun H' b HE' => by
      have q := q H' b HE'
      unfold Hm.abv at q
      rw [if_neg (by omega), en, ← hv] at q
      exact q
    rw [← hv]
    walk_at "ss"
    refine r_dec (fun e0 => ?_) fun e0 => ?_
    · walk_at "ss"
      have q := q H (But.refl _ _) (HE.mono (by omega))
      rw [if_pos (by omega)] at q
      exact q
    walk_at "ss"
    rw [show (v : Int) - 1 = ((v - 1 : Nat) : Int) by omega]
    refine ⟨h, d, ls, sz, fo, most, rows, c, step, v - 1, rfl, HE, HO, hc, st1, by omega, fun H4 b4 HE4 => ?_⟩
    obtain ⟨dx4, p4, s4, kvs4, g1, PA4, g3, g4, g5⟩ := id HE4
    obtain ⟨dx5, lp5, j5, k5, last5, F5, on5, -⟩ := id PA4
    have hp5 := F5.at_
    have cm : CMulW (v : Int) (step : Int) := mulW_ok (i500 (by omega)) (Nat.lt_trans st2 (by decide +kernel))
    walk_at "ss"
    rw [← Int.natCast_mul]
    refine ⟨p4, s4, ls, sz, v * step, rfl, PA4, Nat.lt_of_le_of_lt (show _ ≤ 10 ^ 30 by omega) (by decide +kernel), ?_⟩
    walk_at "ss"
    have q := q H4 b4 HE4
    rw [if_neg (by omega)] at q
    have sle : Pk.st ls sz (v * step) ≤ m - 1 := Nat.le_trans (Pk.st_le o lle) (by have := om.1; omega)
    rw [show (if (m : Int) - 1 - ((Pk.st ls sz (v * step) : Nat) : Int) < (most : Int) then (m : Int) - 1 - ((Pk.st ls sz (v * step) : Nat) : Int) else (most : Int)) = ((min most (m - 1 - Pk.st ls sz (v * step)) : Nat) : Int) by split <;> omega]
    rw [Int.natCast_add] at q
    exact q
theorem ok_Heights_sum_below {P : Program} {w : World} {K : PySem.W.Frag} {mg : Str → Option Value} {base : Heap} {f : Addr} {fd : FuncData} (F : FunD K "sum_below" "Heights.sum_below" (defArgs s_Heights_sum_below) (defBody s_Heights_sum_below) (defScope s_Heights_sum_below) [] [] f fd) (a_Heights__fanout : NoAttr K (He.ga K "Heights") "_fanout") (a_Heights__most : NoAttr K (He.ga K "Heights") "_most") (a_Heights__packing : NoAttr K (He.ga K "Heights") "_packing") (c_Heights : Cls K (He.ga K "Heights")) (c_Packing : Cls K (He.ga K "Packing")) (m_Heights__is_wide : Kr.MtH P w K mg base CX0 1 (He.ga K "Heights") "_is_wide" ["self", "step"] (sp_Heights__is_wide K)) (m_Heights_above : Kr.MtH P w K mg base CX0 5 (He.ga K "Heights") "above" ["self", "step", "moment"] (sp_Heights_above K)) (m_Packing_page_with : Kr.MtH P w K mg base CX0 1 (He.ga K "Packing") "page_with" ["self", "row"] (sp_Packing_page_with K)) (n_max : mg "max" = none) : FnOk P w K mg base CX0 6 f fd ["self", "moment"] (sp_Heights_sum_below K) := by
  refine F.ok sc_Heights_sum_below (fun vs H Q E h => by first | (obtain ⟨rfl, _⟩ := h; rfl) | (obtain ⟨_, rfl, _⟩ := h; rfl) | (obtain ⟨_, _, rfl, _⟩ := h; rfl) | (obtain ⟨_, _, _, rfl, _⟩ := h; rfl) | (obtain ⟨_, _, _, _, rfl, _⟩ := h; rfl) | (obtain ⟨_, _, _, _, _, rfl, _⟩ := h; rfl) | (obtain ⟨_, _, _, _, _, _, rfl, _⟩ := h; rfl) | (obtain ⟨_, _, _, _, _, _, _, rfl, _⟩ := h; rfl) | (obtain ⟨_, _, _, _, _, _, _, _, rfl, _⟩ := h; rfl) | (obtain ⟨_, _, _, _, _, _, _, _, _, rfl, _⟩ := h; rfl) | (obtain ⟨_, _, _, _, _, _, _, _, _, _, rfl, _⟩ := h; rfl) | (obtain ⟨_, _, _, _, _, _, _, _, _, _, _, rfl, _⟩ := h; rfl) | (obtain ⟨_, _, _, _, _, _, _, _, _, _, _, _, rfl, _⟩ := h; rfl) | (obtain ⟨_, _, _, _, _, _, _, _, _, _, _, _, _, rfl, _⟩ := h; rfl) | (obtain ⟨_, _, _, _, _, _, _, _, _, _, _, _, _, _, rfl, _⟩ := h; rfl) | (obtain ⟨_, _, _, _, _, _, _, _, _, _, _, _, _, _, _, rfl, _⟩ := h; rfl) | (obtain ⟨_, _, _, _, _, _, _, _, _, _, _, _, _, _, _, _, rfl, _⟩ := h; rfl) | (obtain ⟨_, _, _, _, _, _, _, _, _, _, _, _, _, _, _, _, _, rfl, _⟩ := h; rfl)) (fun cdv A outer s H vs Q E hr h => ?_)
  · have hu := hu_of hr
    obtain ⟨h, d, ls, sz, ke, fo, rows, c, m, rfl, HE, HO, k1, k2, hc, hm, q⟩ := h
    obtain ⟨dx, p, s1, kvs, h1, PA, h3, h4, h5⟩ := id HE
    obtain ⟨dx2, lp, j, k, last, F, on, -⟩ := id PA
    have cc := c_Heights
    have n0 := a_Heights__packing
    have n1 := a_Heights__fanout
    have n2 := a_Heights__most
    have cp := c_Packing
    have o := HO.o
    obtain ⟨f2, f8⟩ := HO.fb
    have rb := HO.rb
    have hp := F.at_
    have e30 : (10 : Nat) ^ 30 < 10 ^ 40 := by decide
    have et : (if (m : Int) - 1 > 0 then (m : Int) - 1 else 0) = ((m - 1 : Nat) : Int) := by split <;> omega
    refine ⟨_, PSs.nox (pss_cons (ps_set (i := 2) sc_Heights_sum_below.nd rfl (.inl rfl) (pe_callB (id := "max") (Kr.c_max2 rfl) rfl n_max (by decide +kernel) (pa_cons pe_int (pa_cons (pe_op op_sub (pv 1) pe_int) pa_nil)))) (pss_cons (ps_if (PW.pt (pw_or (pt_cmpR op_lt (pv 1) pe_int (nomark _)) (pw_or1 (pt_cmpR op_eq (pe_fld (pv 0) rfl) pe_int (nomark _))))) (pss_one (ps_ret (pv 2))) pss_nil) (pss_cons (ps_set (i := 3) sc_Heights_sum_below.nd rfl (.inl rfl) (Kr.pe_mt m_Packing_page_with c_Packing (hr.mono (by decide)) (pe_fld (pv 0) rfl) (pa_cons (pe_op op_sub (pv 1) pe_int) pa_nil))) (pss_cons (ps_set (i := 4) sc_Heights_sum_below.nd rfl (.inl rfl) (pe_fld (pv 0) rfl)) (pss_cons (ps_while PassesOwn.never (PW.pt (pw_and (pt_cmpR op_le (pv 4) (pv 3) (nomark _)) (pw_and1 (PW.pt (pw_or (pt_not (pt_val (Kr.pe_mt m_Heights__is_wide c_Heights (hr.mono (by decide)) (pv 0) (pa_cons (pv 4) pa_nil)))) (pw_or1 (pt_cmpR op_lt (pe_op op_mod (pv 3) (pv 4)) (pe_fld (pv 0) rfl) (nomark _)))))))) (pss_cons (ps_aug (i := 2) sc_Heights_sum_below.nd rfl (.inl rfl) (Kr.pe_mt m_Heights_above c_Heights (hr.mono (by decide)) (pv 0) (pa_cons (pv 4) (pa_cons (pv 1) pa_nil))) ip_add) (pss_one (ps_aug (i := 4) sc_Heights_sum_below.nd rfl (.inl rfl) (pe_fld (pv 0) rfl) Kr.ip_mul)))) (pss_cons (ps_set (i := 5) sc_Heights_sum_below.nd rfl (.inl rfl) pe_int) (pss_cons (ps_set (i := 6) sc_Heights_sum_below.nd rfl (.inl rfl) (pe_op op_fdivW (pv 3) (pv 4))) (pss_cons (ps_while PassesOwn.never (pt_cmpR op_gt (pv 6) pe_int (nomark _)) (pss_cons (ps_aug (i := 5) sc_Heights_sum_below.nd rfl (.inl rfl) (pv 6) ip_add) (pss_one (ps_aug (i := 6) sc_Heights_sum_below.nd rfl (.inl rfl) (pe_fld (pv 0) rfl) KrH.ip_fdiv)))) (pss_one (ps_ret (pe_op op_add (pv 2) (pe_op op_mul (pv 5) (pe_fld (pv 0) rfl))))))))))))), ?_⟩
    rw [st_Heights_sum_below]
    walk_at "ss"
    rw [et]
    have m1 : (m : Int) < 2 → m - 1 = Hm.S (htM ls sz ke fo) m := fun e => by
      rcases (show m = 0 ∨ m = 1 by omega) with rfl | rfl
      · rfl
      · show 0 = 0 + htM ls sz ke fo 0
        rw [htM_zero]
    refine r_dec (fun e => ?_) fun e => ?_
    · walk_at "ss"
      rw [m1 e]
      exact q H (But.refl _ _) (HE.mono (by omega))
    walk_at "ss"
    refine r_dec (fun e1 => ?_) fun e1 => ?_
    · walk_at "ss"
      rw [← ht_sum1 o f2 (show ke = 1 by omega) m]
      exact q H (But.refl _ _) (HE.mono (by omega))
    walk_at "ss"
    rw [show (m : Int) - 2 = ((m - 2 : Nat) : Int) by omega]
    refine ⟨p, lp, dx2, ls, sz, j, k, m - 2, _, rfl, F, by omega, fun n om => ?_⟩
    have en := pg_is o om
    have nle := pg_le (sz := sz) o (m - 2)
    have n30 : n < 10 ^ 30 := by omega
    walk_at "ss"
    refine r_while (fun mm σ H' => ∃ i : Nat, mm = 134 - i ∧ i ≤ 133 ∧ But d H H' ∧ HeAt K H' h d ls sz fo (ke.toNat - 1) rows (c + i) ∧ σ = [some (.ref h), some (.int m), some (.int (Hm.S (fun l => cntH ls sz ke fo l m) (i + 1) : Nat)), some (.int n), some (.int (fo ^ (i + 1) : Nat)), none, none]) _
      ⟨0, rfl, by omega, But.refl _ _, HE, by
        rw [Nat.zero_add, Nat.pow_one, show Hm.S (fun l => cntH ls sz ke fo l m) 1 = m - 1 from by
          show 0 + cntH ls sz ke fo 0 m = m - 1
          rw [cntH_zero f2, Nat.zero_add]]⟩ ?_
    rintro mm σ H5 ⟨i, rfl, hi, b5, HE5, rfl⟩
    obtain ⟨dx5, p5, s5, kvs5, g1, PA5, g3, g4, g5⟩ := id HE5
    have w0 := wd_pos (f := fo) (l := i + 1) f2
    have w4 := pw_lt (b := fo) (i := i + 1) f8 (by omega)
    have cd := wd_div (l := i + 1) f2 f8 (by omega)
    obtain ⟨W, hW⟩ : ∃ W, W = fo ^ (i + 1) := ⟨_, rfl⟩
    rw [← hW] at w0 w4 cd ⊢
    walk_at "ss"
    by_cases hC : W ≤ n ∧ (¬ (ke.toNat - 1 ≤ W * rows) ∨ n % W < ke.toNat - 1)
    · rw [decide_eq_true (show (W : Int) ≤ (n : Int) by omega)]
      have ilt : i < 110 := Nat.lt_of_not_le fun z => by
        have a1 : 2 ^ 110 ≤ fo ^ (i + 1) := Nat.le_trans (Nat.pow_le_pow_left f2 110) (Nat.pow_le_pow_right (by omega) (by omega))
        have a2 : (10 : Nat) ^ 30 < 2 ^ 110 := by decide +kernel
        omega
      walk_at "ss"
      refine ⟨h, d, ls, sz, fo, ke.toNat - 1, rows, c + i, W, rfl, HE5, rb.2, ?_⟩
      walk_at "ss"
      by_cases hw : ke.toNat - 1 ≤ W * rows
      case' pos =>
        rw [decide_eq_true hw]
        have hw2 : n % W < ke.toNat - 1 := by
          rcases hC.2 with z | z
          · exact absurd hw z
          · exact z
        walk_at "ss"
        rw [decide_eq_true (show (n : Int) % (W : Int) < ((ke.toNat - 1 : Nat) : Int) from Int.ofNat_lt.mpr hw2)]
        refine r_whT ?_
      case' neg =>
        rw [decide_eq_false hw]
        walk_at "ss"
        refine r_whT ?_
      all_goals
        walk_at "ss"
        refine ⟨h, d, ls, sz, fo, ke.toNat - 1, rows, c + i, W, m, rfl, HE5, HO, by omega, w0, w4, hm, fun H6 b6 HE6 => ?_⟩
        obtain ⟨dx7, p7, s7, kvs7, y1, PA7, y3, y4, y5⟩ := id HE6
        walk_at "ss"
        refine r_ipM ?_ ?_
        · have h1 := pw_log (b := fo) (i := i + 1) f8 (by omega)
          have h2 := pw_log (b := fo) (i := 1) f8 (by omega)
          rw [Nat.pow_one] at h2
          rw [hW]
          show _ + _ < 1000000
          omega
        walk_at "ss"
        refine ⟨_, ?_, i + 1, rfl, by omega, fun b o n e => b6 b o n (b5 b o n e), HE6, ?_⟩
        · omega
        · rw [show ((W : Nat) : Int) * (fo : Int) = ((fo ^ (i + 1 + 1) : Nat) : Int) by rw [Nat.pow_succ fo (i + 1), Int.natCast_mul, hW], hW, ← cntH_abv o k1 f2 (by omega), ← Int.natCast_add]
          rfl
    · have hrest : ∀ l, i + 1 ≤ l → cntH ls sz ke fo l m = n / fo ^ l * (ke.toNat - 1) := fun l hl => by
        obtain ⟨u, rfl⟩ := Nat.exists_eq_add_of_le hl
        by_cases z : n < W
        · have : fo ^ (i + 1) ≤ fo ^ (i + 1 + u) := Nat.pow_le_pow_right (by omega) (by omega)
          rw [cnt_far o k1 f2 (by omega) (by rw [en]; omega), Nat.div_eq_of_lt (by omega), Nat.zero_mul]
        · have hw : ke.toNat - 1 ≤ W * rows := Classical.byContradiction fun y => hC ⟨by omega, .inl y⟩
          have hf : ke.toNat - 1 ≤ n % W := Nat.le_of_not_lt fun y => hC ⟨by omega, .inr y⟩
          have hp := Hm.full_up (fan := fo ^ u) hf
          have hw2 : ke.toNat - 1 ≤ W * fo ^ u * rows := Nat.le_trans hw (Nat.mul_le_mul_right _ (Nat.le_mul_of_pos_right _ (wd_pos f2)))
          rw [hW, ← Nat.pow_add] at hp hw2
          rw [cntH_abv o k1 f2 (by omega), Hm.abv_full HO.sb rb.1 (st_on o) hw2 (by omega) (by rw [en]; exact hp), en]
      have fin : ∀ t, n / fo ^ (i + 1 + t) = 0 → ((Hm.S (fun l => cntH ls sz ke fo l m) (i + 1) : Nat) : Int) + ((Hm.S (fun t => n / fo ^ (i + 1 + t)) t : Nat) : Int) * ((ke.toNat - 1 : Nat) : Int) = ((Hm.S (htM ls sz ke fo) m : Nat) : Int) := fun t hz => by
        rw [ht_sum f2 (T := 134) (fun M hM => htM_le o k1 f2 (by omega)) hrest hz, Int.natCast_add, Int.natCast_mul]
      have q := q H5 b5 (HE5.mono (by omega))
      have ex : ∀ (D : Ends), D.rt = Q → True := fun _ _ => trivial
      by_cases h1 : W ≤ n
      case' neg =>
        rw [decide_eq_false (show ¬ (W : Int) ≤ (n : Int) by omega)]
        walk_at "ss"
        refine r_whF ?_
      case' pos =>
        rw [decide_eq_true (show (W : Int) ≤ (n : Int) by omega)]
        have hw : ke.toNat - 1 ≤ W * rows := Classical.byContradiction fun y => hC ⟨h1, .inl y⟩
        have hf : ¬ n % W < ke.toNat - 1 := fun y => hC ⟨h1, .inr y⟩
        walk_at "ss"
        refine ⟨h, d, ls, sz, fo, ke.toNat - 1, rows, c + i, W, rfl, HE5, rb.2, ?_⟩
        walk_at "ss"
        rw [decide_eq_true hw]
        walk_at "ss"
        rw [decide_eq_false (show ¬ (n : Int) % (W : Int) < ((ke.toNat - 1 : Nat) : Int) from fun z => hf (Int.ofNat_lt.mp z))]
        refine r_whF ?_
      all_goals
        walk_at "ss"
        rw [show (n : Int) / (W : Int) = ((n / fo ^ (i + 1 + 0) : Nat) : Int) by rw [Nat.add_zero, ← hW]; rfl]
        refine r_while (fun mm σ H' => H' = H5 ∧ ∃ t : Nat, mm = n / fo ^ (i + 1 + t) ∧ σ = [some (.ref h), some (.int m), some (.int (Hm.S (fun l => cntH ls sz ke fo l m) (i + 1) : Nat)), some (.int n), some (.int W), some (.int (Hm.S (fun t => n / fo ^ (i + 1 + t)) t : Nat)), some (.int (n / fo ^ (i + 1 + t) : Nat))]) _ ⟨rfl, 0, rfl, rfl⟩ ?_
        rintro mm σ H' ⟨rfl, t, rfl, rfl⟩
        have up : n / fo ^ (i + 1 + (t + 1)) = n / fo ^ (i + 1 + t) / fo := by rw [show i + 1 + (t + 1) = i + 1 + t + 1 by omega, Nat.pow_succ, ← Nat.div_div_eq_div_mul]
        have St : Hm.S (fun t => n / fo ^ (i + 1 + t)) (t + 1) = Hm.S (fun t => n / fo ^ (i + 1 + t)) t + n / fo ^ (i + 1 + t) := rfl
        have fin := fin t
        obtain ⟨B, hB⟩ : ∃ B, B = n / fo ^ (i + 1 + t) := ⟨_, rfl⟩
        rw [← hB] at up St fin ⊢
        have cf : CDivW (B : Int) (fo : Int) := wide_div (b := 64) (by omega) (by omega) (by decide) (by decide)
        walk_at "ss"
        refine r_whD (fun hgt => ?_) fun hle => ?_
        · walk_at "ss"
          refine KrH.r_ipF cf ?_
          walk_at "ss"
          refine ⟨_, ?_, rfl, t + 1, rfl, ?_⟩
          · rw [up]
            exact Nat.div_lt_self (by omega) f2
          · rw [St, up, Int.natCast_add]
            rfl
        · walk_at "ss"
          rw [fin (by omega)]
          exact q
theorem ok_live_pages {P : Program} {w : World} {K : PySem.W.Frag} {mg : Str → Option Value} {base : Heap} {f : Addr} {fd : FuncData} (F : FunD K "live_pages" "live_pages" (defArgs s_live_pages) (defBody s_live_pages) (defScope s_live_pages) [] [] f fd) (a_Settings_keep : NoAttr K (He.ga K "Settings") "keep") (c_Packing : Cls K (He.ga K "Packing")) (c_Settings : Cls K (He.ga K "Settings")) (h_check_moment : Kr.FnH P w K mg base CX0 4 "check_moment" ["moment"] (sp_check_moment K)) (h_check_settings : Kr.FnH P w K mg base CX0 1 "check_settings" ["settings"] (sp_check_settings K)) (m_Packing_page_with : Kr.MtH P w K mg base CX0 1 (He.ga K "Packing") "page_with" ["self", "row"] (sp_Packing_page_with K)) (mk_Packing : Kr.MkH P w K mg base CX0 2 "Packing" (He.ga K "Packing") ["self", "settings"] (sp_Packing___init__ K)) (n_max : mg "max" = none) : FnOk P w K mg base CX0 5 f fd ["settings", "moment"] (sp_live_pages K) := by
  refine F.ok sc_live_pages (fun vs H Q E h => by first | (obtain ⟨rfl, _⟩ := h; rfl) | (obtain ⟨_, rfl, _⟩ := h; rfl) | (obtain ⟨_, _, rfl, _⟩ := h; rfl) | (obtain ⟨_, _, _, rfl, _⟩ := h; rfl) | (obtain ⟨_, _, _, _, rfl, _⟩ := h; rfl) | (obtain ⟨_, _, _, _, _, rfl, _⟩ := h; rfl) | (obtain ⟨_, _, _, _, _, _, rfl, _⟩ := h; rfl) | (obtain ⟨_, _, _, _, _, _, _, rfl, _⟩ := h; rfl) | (obtain ⟨_, _, _, _, _, _, _, _, rfl, _⟩ := h; rfl) | (obtain ⟨_, _, _, _, _, _, _, _, _, rfl, _⟩ := h; rfl) | (obtain ⟨_, _, _, _, _, _, _, _, _, _, rfl, _⟩ := h; rfl) | (obtain ⟨_, _, _, _, _, _, _, _, _, _, _, rfl, _⟩ := h; rfl) | (obtain ⟨_, _, _, _, _, _, _, _, _, _, _, _, rfl, _⟩ := h; rfl) | (obtain ⟨_, _, _, _, _, _, _, _, _, _, _, _, _, rfl, _⟩ := h; rfl) | (obtain ⟨_, _, _, _, _, _, _, _, _, _, _, _, _, _, rfl, _⟩ := h; rfl) | (obtain ⟨_, _, _, _, _, _, _, _, _, _, _, _, _, _, _, rfl, _⟩ := h; rfl) | (obtain ⟨_, _, _, _, _, _, _, _, _, _, _, _, _, _, _, _, rfl, _⟩ := h; rfl) | (obtain ⟨_, _, _, _, _, _, _, _, _, _, _, _, _, _, _, _, _, rfl, _⟩ := h; rfl)) (fun cdv A outer s H vs Q E hr h => ?_)
  · have hu := hu_of hr
    obtain ⟨s1, ls, sz, fo, re, ev, ke, M, rfl, S, ok, hM, q⟩ := h
    obtain ⟨dx, t, h1, h2⟩ := id S
    have cc := c_Settings
    have n6 := a_Settings_keep
    have cp := c_Packing
    have o := ok.toLensOk.pk
    obtain ⟨k1, k2⟩ := ok.ke
    refine ⟨_, PSs.nox (pss_cons (ps_expr (Kr.pe_cl h_check_settings (hr.mono (by decide)) (pa_cons (pv 0) pa_nil))) (pss_cons (ps_expr (Kr.pe_cl h_check_moment (hr.mono (by decide)) (pa_cons (pv 1) pa_nil))) (pss_cons (ps_if (pt_cmpR op_eq (pv 1) pe_int (nomark _)) (pss_one (ps_ret (pe_tup (pa_cons pe_int (pa_cons pe_int pa_nil))))) pss_nil) (pss_cons (ps_set (i := 2) sc_live_pages.nd rfl (.inl rfl) (Kr.pe_mk mk_Packing (hr.mono (by decide)) (pa_cons (pv 0) pa_nil))) (pss_one (ps_ret (pe_tup (pa_cons (Kr.pe_mt m_Packing_page_with c_Packing (hr.mono (by decide)) (pv 2) (pa_cons (pe_callB (id := "max") (Kr.c_max2 rfl) rfl n_max (by decide +kernel) (pa_cons pe_int (pa_cons (pe_op op_sub (pv 1) (pe_fld (pv 0) rfl)) pa_nil))) pa_nil)) (pa_cons (pe_op op_add (Kr.pe_mt m_Packing_page_with c_Packing (hr.mono (by decide)) (pv 2) (pa_cons (pe_op op_sub (pv 1) pe_int) pa_nil)) pe_int) pa_nil))))))))), ?_⟩
    rw [st_live_pages]
    walk_at "ss"
    refine ⟨s1, _, _, rfl, h1, ?_⟩
    walk_at "ss"
    refine ⟨M, rfl, hM, ?_⟩
    walk_at "ss"
    refine r_dec (fun e => ?_) fun e => ?_
    · walk_at "ss"
      refine r_newS fun p H1 hp s2 e1 => ?_
      have M0 : M = 0 := by omega
      refine q p H1 s2 ?_
      rw [e1]
      unfold lvA lvZ
      rw [if_pos M0, if_pos M0]
      rfl
    have M0 : ¬ M = 0 := by omega
    unfold lvA lvZ at q
    rw [if_neg M0, if_neg M0] at q
    walk_at "ss"
    intro x dx2 hx hdx ne
    have sx : Same H (upd (upd H dx2 (.own x)) x (.ins (He.ga K "Packing") dx2 [])) := (same_new hdx).trans (same_new (by rw [upd_ne ne.symm]; exact hx))
    refine ⟨x, s1, dx2, ls, sz, fo, re, ev, ke, rfl, upd_same, S.same sx, ok.toLensOk, fun H3 s3 PA pk0 => ⟨rfl, ?_⟩⟩
    have s03 : Same H H3 := fun b o e => s3 b o (ne_of_none e hx) (sx b o e)
    obtain ⟨dx3, lp, j, k, last, F, on, -⟩ := id PA
    have h13 := s03 _ _ h1
    have h0 := F.at_
    walk_at "ss"
    have em : (if (M : Int) - ke > 0 then (M : Int) - ke else 0) = ((M - ke.toNat : Nat) : Int) := by
      split <;> omega
    have e30 : (10 : Nat) ^ 30 < 10 ^ 40 := by decide
    rw [em]
    refine ⟨x, lp, dx3, ls, sz, j, k, M - ke.toNat, _, rfl, F, by omega, fun m om => ?_⟩
    walk_at "ss"
    rw [show (M : Int) - 1 = ((M - 1 : Nat) : Int) by omega]
    refine ⟨x, lp, dx3, ls, sz, j, k, M - 1, _, rfl, F, by omega, fun n on => ?_⟩
    walk_at "ss"
    refine r_newS fun p H4 hp s4 e4 => ?_
    refine q p H4 (s03.trans s4) ?_
    rw [e4, pg_is o om, pg_is o on, Int.natCast_add]
    rfl
theorem ok_next_border {P : Program} {w : World} {K : PySem.W.Frag} {mg : Str → Option Value} {base : Heap} {f : Addr} {fd : FuncData} (F : FunD K "next_border" "next_border" (defArgs s_next_border) (defBody s_next_border) (defScope s_next_border) [] [] f fd) (a_Settings_fanout : NoAttr K (He.ga K "Settings") "fanout") (c_Packing : Cls K (He.ga K "Packing")) (c_Settings : Cls K (He.ga K "Settings")) (g_MOST_LEVEL : ∃ t, mg "MOST_LEVEL" = some (.int 110 t)) (g_ROWS : ∃ t, mg "ROWS" = some (.int 1000000000000000000000000000000 t)) (h_check_moment : Kr.FnH P w K mg base CX0 4 "check_moment" ["moment"] (sp_check_moment K)) (h_check_number : Kr.FnH P w K mg base CX0 3 "check_number" ["number", "least", "most"] (sp_check_number K)) (h_check_settings : Kr.FnH P w K mg base CX0 1 "check_settings" ["settings"] (sp_check_settings K)) (h_power : Kr.FnH P w K mg base CX0 1 "power" ["base", "exponent"] (sp_power K)) (m_Packing_begun : Kr.MtH P w K mg base CX0 5 (He.ga K "Packing") "begun" ["self", "moment"] (sp_Packing_begun K)) (m_Packing_start_of : Kr.MtH P w K mg base CX0 1 (He.ga K "Packing") "start_of" ["self", "page"] (sp_Packing_start_of K)) (mk_Packing : Kr.MkH P w K mg base CX0 2 "Packing" (He.ga K "Packing") ["self", "settings"] (sp_Packing___init__ K)) (n_max : mg "max" = none) : FnOk P w K mg base CX0 6 f fd ["settings", "moment", "level"] (sp_next_border K) := by
  refine F.ok sc_next_border (fun vs H Q E h => by first | (obtain ⟨rfl, _⟩ := h; rfl) | (obtain ⟨_, rfl, _⟩ := h; rfl) | (obtain ⟨_, _, rfl, _⟩ := h; rfl) | (obtain ⟨_, _, _, rfl, _⟩ := h; rfl) | (obtain ⟨_, _, _, _, rfl, _⟩ := h; rfl) | (obtain ⟨_, _, _, _, _, rfl, _⟩ := h; rfl) | (obtain ⟨_, _, _, _, _, _, rfl, _⟩ := h; rfl) | (obtain ⟨_, _, _, _, _, _, _, rfl, _⟩ := h; rfl) | (obtain ⟨_, _, _, _, _, _, _, _, rfl, _⟩ := h; rfl) | (obtain ⟨_, _, _, _, _, _, _, _, _, rfl, _⟩ := h; rfl) | (obtain ⟨_, _, _, _, _, _, _, _, _, _, rfl, _⟩ := h; rfl) | (obtain ⟨_, _, _, _, _, _, _, _, _, _, _, rfl, _⟩ := h; rfl) | (obtain ⟨_, _, _, _, _, _, _, _, _, _, _, _, rfl, _⟩ := h; rfl) | (obtain ⟨_, _, _, _, _, _, _, _, _, _, _, _, _, rfl, _⟩ := h; rfl) | (obtain ⟨_, _, _, _, _, _, _, _, _, _, _, _, _, _, rfl, _⟩ := h; rfl) | (obtain ⟨_, _, _, _, _, _, _, _, _, _, _, _, _, _, _, rfl, _⟩ := h; rfl) | (obtain ⟨_, _, _, _, _, _, _, _, _, _, _, _, _, _, _, _, rfl, _⟩ := h; rfl) | (obtain ⟨_, _, _, _, _, _, _, _, _, _, _, _, _, _, _, _, _, rfl, _⟩ := h; rfl)) (fun cdv A outer s H vs Q E hr h => ?_)
  · have hu := hu_of hr
    obtain ⟨s1, ls, sz, re, ev, ke, fo, M, l, rfl, S, ok, hl, hM, q⟩ := h
    obtain ⟨dx, t, h1, h2⟩ := id S
    have cc := c_Settings
    have n3 := a_Settings_fanout
    have cp := c_Packing
    have o := ok.toLensOk.pk
    obtain ⟨f1, f2⟩ := ok.fo
    obtain ⟨qa, qb⟩ := q _ rfl
    have w0 := wd_pos (f := fo) (l := l) (by omega)
    have w4 := pw_lt (b := fo) (i := l) (by omega) (by omega)
    have cd := wd_div (f := fo) (l := l) (by omega) (by omega) (by omega)
    have bl := bg_le (sz := sz) o M
    refine ⟨_, PSs.nox (pss_cons (ps_expr (Kr.pe_cl h_check_settings (hr.mono (by decide)) (pa_cons (pv 0) pa_nil))) (pss_cons (ps_expr (Kr.pe_cl h_check_moment (hr.mono (by decide)) (pa_cons (pv 1) pa_nil))) (pss_cons (ps_expr (Kr.pe_cl h_check_number (hr.mono (by decide)) (pa_cons (pv 2) (pa_cons pe_int (pa_cons (Kr.pe_gint g_MOST_LEVEL) pa_nil))))) (pss_cons (ps_set (i := 3) sc_next_border.nd rfl (.inl rfl) (Kr.pe_mk mk_Packing (hr.mono (by decide)) (pa_cons (pv 0) pa_nil))) (pss_cons (ps_set (i := 4) sc_next_border.nd rfl (.inl rfl) (Kr.pe_cl h_power (hr.mono (by decide)) (pa_cons (pe_fld (pv 0) rfl) (pa_cons (pv 2) pa_nil)))) (pss_cons (ps_set (i := 5) sc_next_border.nd rfl (.inl rfl) (pe_callB (id := "max") (Kr.c_max2 rfl) rfl n_max (by decide +kernel) (pa_cons pe_int (pa_cons (Kr.pe_mt m_Packing_begun c_Packing (hr.mono (by decide)) (pv 3) (pa_cons (pv 1) pa_nil)) pa_nil)))) (pss_cons (ps_set (i := 6) sc_next_border.nd rfl (.inl rfl) (pe_op op_mulW (pe_op op_fdivW (pe_op op_sub (pe_op op_add (pv 5) (pv 4)) pe_int) (pv 4)) (pv 4))) (pss_cons (ps_set (i := 7) sc_next_border.nd rfl (.inl rfl) (Kr.pe_mt m_Packing_start_of c_Packing (hr.mono (by decide)) (pv 3) (pa_cons (pv 6) pa_nil))) (pss_cons (ps_if (pt_cmpR op_ge (pv 7) (Kr.pe_gint g_ROWS) (nomark _)) (pss_one (ps_ret pe_non)) pss_nil) (pss_one (ps_ret (pe_tup (pa_cons (pv 7) (pa_cons (pv 6) pa_nil)))))))))))))), ?_⟩
    rw [st_next_border]
    walk_at "ss"
    refine ⟨s1, _, _, rfl, h1, ?_⟩
    walk_at "ss"
    refine ⟨M, rfl, hM, ?_⟩
    walk_at "ss"
    refine ⟨_, _, _, rfl, by omega, by omega, ?_⟩
    walk_at "ss"
    intro x dx2 hx hdx ne
    have sx : Same H (upd (upd H dx2 (.own x)) x (.ins (He.ga K "Packing") dx2 [])) := (same_new hdx).trans (same_new (by rw [upd_ne ne.symm]; exact hx))
    refine ⟨x, s1, dx2, ls, sz, fo, re, ev, ke, rfl, upd_same, S.same sx, ok.toLensOk, fun H3 s3 PA pk0 => ⟨rfl, ?_⟩⟩
    have s03 : Same H H3 := fun b o e => s3 b o (ne_of_none e hx) (sx b o e)
    obtain ⟨dx3, lp, j, k, last, F, on, -⟩ := id PA
    have h13 := s03 _ _ h1
    have h0 := F.at_
    walk_at "ss"
    refine ⟨fo, l, rfl, by omega, by omega, ?_⟩
    walk_at "ss"
    refine begun_one ⟨x, s1, ls, sz, M, bg ls sz M, rfl, PA, hM, bg_Bg o M, ?_⟩
    walk_at "ss"
    rw [show (if ((bg ls sz M : Nat) : Int) > 1 then ((bg ls sz M : Nat) : Int) else 1) = ((max 1 (bg ls sz M) : Nat) : Int) by split <;> omega]
    have mb : max 1 (bg ls sz M) ≤ 10 ^ 30 := by omega
    obtain ⟨B, hB⟩ : ∃ B, B = max 1 (bg ls sz M) := ⟨_, rfl⟩
    obtain ⟨W, hW⟩ : ∃ W, W = fo ^ l := ⟨_, rfl⟩
    rw [← hB, ← hW] at qa qb
    rw [← hB] at mb ⊢
    rw [← hW] at w0 w4 cd ⊢
    rw [show (B : Int) + (W : Int) - 1 = ((B + W - 1 : Nat) : Int) by omega]
    have cd2 : CDivW ((B + W - 1 : Nat) : Int) (W : Int) := cd
    have dle : (B + W - 1) / W ≤ B := by
      refine Nat.le_of_lt_succ ((Nat.div_lt_iff_lt_mul w0).mpr ?_)
      rw [Nat.succ_mul]
      have : B * 1 ≤ B * W := Nat.mul_le_mul_left _ w0
      omega
    have cm : CMulW (((B + W - 1) / W : Nat) : Int) (W : Int) := mulW_ok (i500 (by omega)) (Nat.lt_trans w4 (by decide +kernel))
    walk_at "ss"
    rw [show ((B + W - 1 : Nat) : Int) / (W : Int) = (((B + W - 1) / W : Nat) : Int) from rfl]
    rw [← Int.natCast_mul]
    have w5 : W < 10 ^ 110 := by
      rw [hW]
      exact Nat.lt_of_le_of_lt (Nat.le_trans (Nat.pow_le_pow_left (show fo ≤ 8 by omega) l) (Nat.pow_le_pow_right (by decide) hl)) (by decide +kernel)
    have ple : (B + W - 1) / W * W ≤ B + W - 1 := Nat.div_mul_le_self _ _
    obtain ⟨p, hp⟩ : ∃ p, p = (B + W - 1) / W * W := ⟨_, rfl⟩
    rw [← hp] at ple qa qb ⊢
    have e120 : (10 : Nat) ^ 30 + 10 ^ 110 < 10 ^ 120 := by decide +kernel
    refine ⟨x, s1, ls, sz, p, rfl, PA, by omega, ?_⟩
    walk_at "ss"
    refine r_dec (fun e => ?_) fun e => ?_
    · walk_at "ss"
      refine qa (Nat.le_of_not_lt fun z => ?_) H3 s03
      have : ((Pk.st ls sz p : Nat) : Int) < ((10 ^ 30 : Nat) : Int) := Int.ofNat_lt.mpr z
      exact absurd e (Int.not_le.mpr this)
    · walk_at "ss"
      refine r_newS fun t H4 ht s4 e4 => ?_
      refine qb (Nat.lt_of_not_le fun z => e ?_) t H4 (s03.trans s4) e4
      exact (show ((10 ^ 30 : Nat) : Int) ≤ ((Pk.st ls sz p : Nat) : Int) from Int.ofNat_le.mpr z)
theorem ok_tree_height {P : Program} {w : World} {K : PySem.W.Frag} {mg : Str → Option Value} {base : Heap} {f : Addr} {fd : FuncData} (F : FunD K "tree_height" "tree_height" (defArgs s_tree_height) (defBody s_tree_height) (defScope s_tree_height) [] [] f fd) (a_Settings_fanout : NoAttr K (He.ga K "Settings") "fanout") (c_Settings : Cls K (He.ga K "Settings")) (h_live_pages : Kr.FnH P w K mg base CX0 5 "live_pages" ["settings", "moment"] (sp_live_pages K)) (h_root_level : Kr.FnH P w K mg base CX0 1 "root_level" ["fanout", "first", "last"] (sp_root_level K)) : FnOk P w K mg base CX0 6 f fd ["settings", "moment"] (sp_tree_height K) := by
  refine F.ok sc_tree_height (fun vs H Q E h => by first | (obtain ⟨rfl, _⟩ := h; rfl) | (obtain ⟨_, rfl, _⟩ := h; rfl) | (obtain ⟨_, _, rfl, _⟩ := h; rfl) | (obtain ⟨_, _, _, rfl, _⟩ := h; rfl) | (obtain ⟨_, _, _, _, rfl, _⟩ := h; rfl) | (obtain ⟨_, _, _, _, _, rfl, _⟩ := h; rfl) | (obtain ⟨_, _, _, _, _, _, rfl, _⟩ := h; rfl) | (obtain ⟨_, _, _, _, _, _, _, rfl, _⟩ := h; rfl) | (obtain ⟨_, _, _, _, _, _, _, _, rfl, _⟩ := h; rfl) | (obtain ⟨_, _, _, _, _, _, _, _, _, rfl, _⟩ := h; rfl) | (obtain ⟨_, _, _, _, _, _, _, _, _, _, rfl, _⟩ := h; rfl) | (obtain ⟨_, _, _, _, _, _, _, _, _, _, _, rfl, _⟩ := h; rfl) | (obtain ⟨_, _, _, _, _, _, _, _, _, _, _, _, rfl, _⟩ := h; rfl) | (obtain ⟨_, _, _, _, _, _, _, _, _, _, _, _, _, rfl, _⟩ := h; rfl) | (obtain ⟨_, _, _, _, _, _, _, _, _, _, _, _, _, _, rfl, _⟩ := h; rfl) | (obtain ⟨_, _, _, _, _, _, _, _, _, _, _, _, _, _, _, rfl, _⟩ := h; rfl) | (obtain ⟨_, _, _, _, _, _, _, _, _, _, _, _, _, _, _, _, rfl, _⟩ := h; rfl) | (obtain ⟨_, _, _, _, _, _, _, _, _, _, _, _, _, _, _, _, _, rfl, _⟩ := h; rfl)) (fun cdv A outer s H vs Q E hr h => ?_)
  · have hu := hu_of hr
    obtain ⟨s1, ls, sz, fo, re, ev, ke, M, rfl, S, ok, hM, q0, q1⟩ := h
    have o := ok.toLensOk.pk
    obtain ⟨k1, k2⟩ := ok.ke
    obtain ⟨f1, f2⟩ := ok.fo
    have cc := c_Settings
    have n3 := a_Settings_fanout
    have le := lv_le (sz := sz) o M
    have e30 : (10 : Nat) ^ 30 < 10 ^ 40 := by decide
    refine ⟨_, PSs.nox (pss_cons (ps_asg (Kr.pe_cl h_live_pages (hr.mono (by decide)) (pa_cons (pv 0) (pa_cons (pv 1) pa_nil))) (pg_tup rfl (pgs_cons (pg_name (i := 2) sc_tree_height.nd rfl (.inl rfl)) (pgs_cons (pg_name (i := 3) sc_tree_height.nd rfl (.inl rfl)) pgs_nil)))) (pss_cons (ps_if (pt_cmpR op_eq (pv 2) (pv 3) (nomark _)) (pss_one (ps_ret pe_int)) pss_nil) (pss_one (ps_ret (pe_op op_add (Kr.pe_cl h_root_level (hr.mono (by decide)) (pa_cons (pe_fld (pv 0) rfl) (pa_cons (pv 2) (pa_cons (pe_op op_sub (pv 3) pe_int) pa_nil)))) pe_int))))), ?_⟩
    rw [st_tree_height]
    walk_at "ss"
    refine ⟨s1, ls, sz, fo, re, ev, ke, M, rfl, S, ok, hM, fun t H1 s1' e1 => ?_⟩
    obtain ⟨dx, t', h1, h2⟩ := S.same s1'
    walk_at "ss"
    refine r_dec (fun e => ?_) fun e => ?_
    · have M0 : M = 0 := Classical.byContradiction fun z => by
        have := lv_lt o k1 z
        omega
      walk_at "ss"
      exact q0 M0 H1 s1'
    have M0 : M ≠ 0 := by
      rintro rfl
      exact e rfl
    have lt := lv_lt o k1 M0
    have q1 := q1 M0
    obtain ⟨A, hA⟩ : ∃ A, A = lvA ls sz ke M := ⟨_, rfl⟩
    obtain ⟨Z, hZ⟩ : ∃ Z, Z = lvZ ls sz M := ⟨_, rfl⟩
    obtain ⟨fn, hf⟩ : ∃ fn : Nat, fo = fn := ⟨fo.toNat, by omega⟩
    rw [← hA, ← hZ] at e1 lt e q1 ⊢
    rw [← hZ] at le
    rw [hf, Int.toNat_natCast] at q1
    walk_at "ss"
    rw [show (Z : Int) - 1 = ((Z - 1 : Nat) : Int) by omega, hf]
    refine ⟨fn, A, Z - 1, rfl, by omega, by omega, by omega, by omega, fun L hL hr => ?_⟩
    walk_at "ss"
    exact q1 L H1 s1' hr
theorem ok_check_stretch {P : Program} {w : World} {K : PySem.W.Frag} {mg : Str → Option Value} {base : Heap} {f : Addr} {fd : FuncData} (F : FunD K "check_stretch" "check_stretch" (defArgs s_check_stretch) (defBody s_check_stretch) (defScope s_check_stretch) [] [] f fd) (g_ROWS : ∃ t, mg "ROWS" = some (.int 1000000000000000000000000000000 t)) (h_check_moment : Kr.FnH P w K mg base CX0 4 "check_moment" ["moment"] (sp_check_moment K)) (h_check_number : Kr.FnH P w K mg base CX0 3 "check_number" ["number", "least", "most"] (sp_check_number K)) : FnOk P w K mg base CX0 5 f fd ["first", "last"] (sp_check_stretch K) := by
  refine F.ok sc_check_stretch (fun vs H Q E h => by first | (obtain ⟨rfl, _⟩ := h; rfl) | (obtain ⟨_, rfl, _⟩ := h; rfl) | (obtain ⟨_, _, rfl, _⟩ := h; rfl) | (obtain ⟨_, _, _, rfl, _⟩ := h; rfl) | (obtain ⟨_, _, _, _, rfl, _⟩ := h; rfl) | (obtain ⟨_, _, _, _, _, rfl, _⟩ := h; rfl) | (obtain ⟨_, _, _, _, _, _, rfl, _⟩ := h; rfl) | (obtain ⟨_, _, _, _, _, _, _, rfl, _⟩ := h; rfl) | (obtain ⟨_, _, _, _, _, _, _, _, rfl, _⟩ := h; rfl) | (obtain ⟨_, _, _, _, _, _, _, _, _, rfl, _⟩ := h; rfl) | (obtain ⟨_, _, _, _, _, _, _, _, _, _, rfl, _⟩ := h; rfl) | (obtain ⟨_, _, _, _, _, _, _, _, _, _, _, rfl, _⟩ := h; rfl) | (obtain ⟨_, _, _, _, _, _, _, _, _, _, _, _, rfl, _⟩ := h; rfl) | (obtain ⟨_, _, _, _, _, _, _, _, _, _, _, _, _, rfl, _⟩ := h; rfl) | (obtain ⟨_, _, _, _, _, _, _, _, _, _, _, _, _, _, rfl, _⟩ := h; rfl) | (obtain ⟨_, _, _, _, _, _, _, _, _, _, _, _, _, _, _, rfl, _⟩ := h; rfl) | (obtain ⟨_, _, _, _, _, _, _, _, _, _, _, _, _, _, _, _, rfl, _⟩ := h; rfl) | (obtain ⟨_, _, _, _, _, _, _, _, _, _, _, _, _, _, _, _, _, rfl, _⟩ := h; rfl)) (fun cdv A outer s H vs Q E hr h => ?_)
  · have hu := hu_of hr
    obtain ⟨a, b, rfl, ab, hb, q⟩ := h
    refine ⟨_, PSs.nox (pss_cons (ps_expr (Kr.pe_cl h_check_moment (hr.mono (by decide)) (pa_cons (pv 0) pa_nil))) (pss_one (ps_expr (Kr.pe_cl h_check_number (hr.mono (by decide)) (pa_cons (pv 1) (pa_cons (pv 0) (pa_cons (Kr.pe_gint g_ROWS) pa_nil))))))), ?_⟩
    rw [st_check_stretch]
    walk_at "ss"
    refine ⟨a, rfl, by omega, ?_⟩
    walk_at "ss"
    refine ⟨_, _, _, rfl, by omega, int30 hb, ?_⟩
    walk_at "ss"
    exact q
theorem ok_height_count {P : Program} {w : World} {K : PySem.W.Frag} {mg : Str → Option Value} {base : Heap} {f : Addr} {fd : FuncData} (F : FunD K "height_count" "height_count" (defArgs s_height_count) (defBody s_height_count) (defScope s_height_count) [] [] f fd) (a_Settings_fanout : NoAttr K (He.ga K "Settings") "fanout") (c_Heights : Cls K (He.ga K "Heights")) (c_Settings : Cls K (He.ga K "Settings")) (g_MOST_HEIGHT : ∃ t, mg "MOST_HEIGHT" = some (.int 111 t)) (h_check_number : Kr.FnH P w K mg base CX0 3 "check_number" ["number", "least", "most"] (sp_check_number K)) (h_check_settings : Kr.FnH P w K mg base CX0 1 "check_settings" ["settings"] (sp_check_settings K)) (h_check_stretch : Kr.FnH P w K mg base CX0 5 "check_stretch" ["first", "last"] (sp_check_stretch K)) (h_power : Kr.FnH P w K mg base CX0 1 "power" ["base", "exponent"] (sp_power K)) (m_Heights_above : Kr.MtH P w K mg base CX0 5 (He.ga K "Heights") "above" ["self", "step", "moment"] (sp_Heights_above K)) (mk_Heights : Kr.MkH P w K mg base CX0 4 "Heights" (He.ga K "Heights") ["self", "settings"] (sp_Heights___init__ K)) (n_max : mg "max" = none) : FnOk P w K mg base CX0 6 f fd ["settings", "least", "first", "last"] (sp_height_count K) := by
  refine F.ok sc_height_count (fun vs H Q E h => by first | (obtain ⟨rfl, _⟩ := h; rfl) | (obtain ⟨_, rfl, _⟩ := h; rfl) | (obtain ⟨_, _, rfl, _⟩ := h; rfl) | (obtain ⟨_, _, _, rfl, _⟩ := h; rfl) | (obtain ⟨_, _, _, _, rfl, _⟩ := h; rfl) | (obtain ⟨_, _, _, _, _, rfl, _⟩ := h; rfl) | (obtain ⟨_, _, _, _, _, _, rfl, _⟩ := h; rfl) | (obtain ⟨_, _, _, _, _, _, _, rfl, _⟩ := h; rfl) | (obtain ⟨_, _, _, _, _, _, _, _, rfl, _⟩ := h; rfl) | (obtain ⟨_, _, _, _, _, _, _, _, _, rfl, _⟩ := h; rfl) | (obtain ⟨_, _, _, _, _, _, _, _, _, _, rfl, _⟩ := h; rfl) | (obtain ⟨_, _, _, _, _, _, _, _, _, _, _, rfl, _⟩ := h; rfl) | (obtain ⟨_, _, _, _, _, _, _, _, _, _, _, _, rfl, _⟩ := h; rfl) | (obtain ⟨_, _, _, _, _, _, _, _, _, _, _, _, _, rfl, _⟩ := h; rfl) | (obtain ⟨_, _, _, _, _, _, _, _, _, _, _, _, _, _, rfl, _⟩ := h; rfl) | (obtain ⟨_, _, _, _, _, _, _, _, _, _, _, _, _, _, _, rfl, _⟩ := h; rfl) | (obtain ⟨_, _, _, _, _, _, _, _, _, _, _, _, _, _, _, _, rfl, _⟩ := h; rfl) | (obtain ⟨_, _, _, _, _, _, _, _, _, _, _, _, _, _, _, _, _, rfl, _⟩ := h; rfl)) (fun cdv A outer s H vs Q E hr h => ?_)
  · have hu := hu_of hr
    obtain ⟨s1, ls, sz, re, ev, ke, fo, l, a, b, rfl, S, ok, hl, ab, hb, q⟩ := h
    obtain ⟨dx, t, h1, h2⟩ := id S
    have cc := c_Settings
    have n3 := a_Settings_fanout
    have o := ok.toLensOk.pk
    obtain ⟨k1, k2⟩ := ok.ke
    obtain ⟨f1, f2⟩ := ok.fo
    refine ⟨_, PSs.nox (pss_cons (ps_expr (Kr.pe_cl h_check_settings (hr.mono (by decide)) (pa_cons (pv 0) pa_nil))) (pss_cons (ps_expr (Kr.pe_cl h_check_number (hr.mono (by decide)) (pa_cons (pv 1) (pa_cons pe_int (pa_cons (Kr.pe_gint g_MOST_HEIGHT) pa_nil))))) (pss_cons (ps_expr (Kr.pe_cl h_check_stretch (hr.mono (by decide)) (pa_cons (pv 2) (pa_cons (pv 3) pa_nil)))) (pss_cons (ps_if (pt_cmpR op_eq (pv 1) pe_int (nomark _)) (pss_one (ps_ret (pe_op op_sub (pe_callB (id := "max") (Kr.c_max2 rfl) rfl n_max (by decide +kernel) (pa_cons pe_int (pa_cons (pv 3) pa_nil))) (pe_callB (id := "max") (Kr.c_max2 rfl) rfl n_max (by decide +kernel) (pa_cons pe_int (pa_cons (pv 2) pa_nil)))))) pss_nil) (pss_cons (ps_set (i := 4) sc_height_count.nd rfl (.inl rfl) (Kr.pe_mk mk_Heights (hr.mono (by decide)) (pa_cons (pv 0) pa_nil))) (pss_cons (ps_set (i := 5) sc_height_count.nd rfl (.inl rfl) (Kr.pe_cl h_power (hr.mono (by decide)) (pa_cons (pe_fld (pv 0) rfl) (pa_cons (pe_op op_sub (pv 1) pe_int) pa_nil)))) (pss_one (ps_ret (pe_op op_sub (Kr.pe_mt m_Heights_above c_Heights (hr.mono (by decide)) (pv 4) (pa_cons (pv 5) (pa_cons (pv 3) pa_nil))) (Kr.pe_mt m_Heights_above c_Heights (hr.mono (by decide)) (pv 4) (pa_cons (pv 5) (pa_cons (pv 2) pa_nil)))))))))))), ?_⟩
    rw [st_height_count]
    walk_at "ss"
    refine ⟨s1, _, _, rfl, h1, ?_⟩
    walk_at "ss"
    refine ⟨_, _, _, rfl, by omega, by omega, ?_⟩
    walk_at "ss"
    refine ⟨a, b, rfl, ab, hb, ?_⟩
    walk_at "ss"
    refine r_dec (fun e => ?_) fun e => ?_
    · have l0 : l = 0 := by omega
      walk_at "ss"
      have q := q H (fun _ _ e => e)
      rw [l0, cntH_zero (by omega), cntH_zero (by omega)] at q
      rw [show (if (b : Int) > 1 then (b : Int) else 1) - (if (a : Int) > 1 then (a : Int) else 1) = ((b - 1 : Nat) : Int) - ((a - 1 : Nat) : Int) by split <;> split <;> omega]
      exact q
    have l1 : 1 ≤ l := by omega
    walk_at "ss"
    intro x dx2 hx hdx ne
    have sx : Same H (upd (upd H dx2 (.own x)) x (.ins (He.ga K "Heights") dx2 [])) := (same_new hdx).trans (same_new (by rw [upd_ne ne.symm]; exact hx))
    refine ⟨x, s1, dx2, ls, sz, re, ev, ke, fo, rfl, upd_same, S.same sx, ok, fun rows d H3 s3 hd HO HE => ⟨rfl, ?_⟩⟩
    have s03 : Same H H3 := fun b o e => s3 b o (ne_of_none e hx) (sx b o e)
    have hd0 : H d = none := sx.free hd
    obtain ⟨dx4, p4, s4, kvs4, g1, -⟩ := id HE
    obtain ⟨dx5, t5, y1, y2⟩ := S.same s03
    have w0 := wd_pos (f := fo) (l := l) (by omega)
    have w4 := pw_lt (b := fo) (i := l) (by omega) (by omega)
    walk_at "ss"
    rw [show ((l + 1 : Nat) : Int) - 1 = (l : Int) by omega]
    refine ⟨fo, l, rfl, by omega, by omega, ?_⟩
    walk_at "ss"
    refine ⟨x, d, ls, sz, fo, ke.toNat - 1, rows, 0, fo ^ l, b, rfl, HE, HO, by decide, w0, w4, hb, fun H4 b4 HE4 => ?_⟩
    obtain ⟨dx6, p6, s6, kvs6, z1, -⟩ := id HE4
    walk_at "ss"
    refine ⟨x, d, ls, sz, fo, ke.toNat - 1, rows, 1, fo ^ l, a, rfl, HE4, HO, by decide, w0, w4, by omega, fun H5 b5 HE5 => ?_⟩
    walk_at "ss"
    rw [← cntH_abv o k1 (by omega) l1, ← cntH_abv o k1 (by omega) l1]
    exact q H5 (fun b o e => by
      have nd := ne_of_none e hd0
      exact b5 b o nd (b4 b o nd (s03 b o e)))
theorem ok_height_sum {P : Program} {w : World} {K : PySem.W.Frag} {mg : Str → Option Value} {base : Heap} {f : Addr} {fd : FuncData} (F : FunD K "height_sum" "height_sum" (defArgs s_height_sum) (defBody s_height_sum) (defScope s_height_sum) [] [] f fd) (c_Heights : Cls K (He.ga K "Heights")) (h_check_settings : Kr.FnH P w K mg base CX0 1 "check_settings" ["settings"] (sp_check_settings K)) (h_check_stretch : Kr.FnH P w K mg base CX0 5 "check_stretch" ["first", "last"] (sp_check_stretch K)) (m_Heights_sum_below : Kr.MtH P w K mg base CX0 6 (He.ga K "Heights") "sum_below" ["self", "moment"] (sp_Heights_sum_below K)) (mk_Heights : Kr.MkH P w K mg base CX0 4 "Heights" (He.ga K "Heights") ["self", "settings"] (sp_Heights___init__ K)) : FnOk P w K mg base CX0 7 f fd ["settings", "first", "last"] (sp_height_sum K) := by
  refine F.ok sc_height_sum (fun vs H Q E h => by first | (obtain ⟨rfl, _⟩ := h; rfl) | (obtain ⟨_, rfl, _⟩ := h; rfl) | (obtain ⟨_, _, rfl, _⟩ := h; rfl) | (obtain ⟨_, _, _, rfl, _⟩ := h; rfl) | (obtain ⟨_, _, _, _, rfl, _⟩ := h; rfl) | (obtain ⟨_, _, _, _, _, rfl, _⟩ := h; rfl) | (obtain ⟨_, _, _, _, _, _, rfl, _⟩ := h; rfl) | (obtain ⟨_, _, _, _, _, _, _, rfl, _⟩ := h; rfl) | (obtain ⟨_, _, _, _, _, _, _, _, rfl, _⟩ := h; rfl) | (obtain ⟨_, _, _, _, _, _, _, _, _, rfl, _⟩ := h; rfl) | (obtain ⟨_, _, _, _, _, _, _, _, _, _, rfl, _⟩ := h; rfl) | (obtain ⟨_, _, _, _, _, _, _, _, _, _, _, rfl, _⟩ := h; rfl) | (obtain ⟨_, _, _, _, _, _, _, _, _, _, _, _, rfl, _⟩ := h; rfl) | (obtain ⟨_, _, _, _, _, _, _, _, _, _, _, _, _, rfl, _⟩ := h; rfl) | (obtain ⟨_, _, _, _, _, _, _, _, _, _, _, _, _, _, rfl, _⟩ := h; rfl) | (obtain ⟨_, _, _, _, _, _, _, _, _, _, _, _, _, _, _, rfl, _⟩ := h; rfl) | (obtain ⟨_, _, _, _, _, _, _, _, _, _, _, _, _, _, _, _, rfl, _⟩ := h; rfl) | (obtain ⟨_, _, _, _, _, _, _, _, _, _, _, _, _, _, _, _, _, rfl, _⟩ := h; rfl)) (fun cdv A outer s H vs Q E hr h => ?_)
  · have hu := hu_of hr
    obtain ⟨s1, ls, sz, re, ev, ke, fo, a, b, rfl, S, ok, ab, hb, q⟩ := h
    obtain ⟨dx, t, h1, h2⟩ := id S
    have o := ok.toLensOk.pk
    obtain ⟨k1, k2⟩ := ok.ke
    obtain ⟨f1, f2⟩ := ok.fo
    refine ⟨_, PSs.nox (pss_cons (ps_expr (Kr.pe_cl h_check_settings (hr.mono (by decide)) (pa_cons (pv 0) pa_nil))) (pss_cons (ps_expr (Kr.pe_cl h_check_stretch (hr.mono (by decide)) (pa_cons (pv 1) (pa_cons (pv 2) pa_nil)))) (pss_cons (ps_set (i := 3) sc_height_sum.nd rfl (.inl rfl) (Kr.pe_mk mk_Heights (hr.mono (by decide)) (pa_cons (pv 0) pa_nil))) (pss_one (ps_ret (pe_op op_sub (Kr.pe_mt m_Heights_sum_below c_Heights (hr.mono (by decide)) (pv 3) (pa_cons (pv 2) pa_nil)) (Kr.pe_mt m_Heights_sum_below c_Heights (hr.mono (by decide)) (pv 3) (pa_cons (pv 1) pa_nil)))))))), ?_⟩
    rw [st_height_sum]
    walk_at "ss"
    refine ⟨s1, _, _, rfl, h1, ?_⟩
    walk_at "ss"
    refine ⟨a, b, rfl, ab, hb, ?_⟩
    walk_at "ss"
    intro x dx2 hx hdx ne
    have sx : Same H (upd (upd H dx2 (.own x)) x (.ins (He.ga K "Heights") dx2 [])) := (same_new hdx).trans (same_new (by rw [upd_ne ne.symm]; exact hx))
    refine ⟨x, s1, dx2, ls, sz, re, ev, ke, fo, rfl, upd_same, S.same sx, ok, fun rows d H3 s3 hd HO HE => ⟨rfl, ?_⟩⟩
    have s03 : Same H H3 := fun b o e => s3 b o (ne_of_none e hx) (sx b o e)
    have hd0 : H d = none := sx.free hd
    obtain ⟨dx4, p4, s4, kvs4, g1, -⟩ := id HE
    walk_at "ss"
    refine ⟨x, d, ls, sz, ke, fo, rows, 0, b, rfl, HE, HO, k1, k2, by decide, hb, fun H4 b4 HE4 => ?_⟩
    obtain ⟨dx6, p6, s6, kvs6, z1, -⟩ := id HE4
    walk_at "ss"
    refine ⟨x, d, ls, sz, ke, fo, rows, 200, a, rfl, HE4, HO, k1, k2, by decide, by omega, fun H5 b5 HE5 => ?_⟩
    walk_at "ss"
    exact q H5 (fun b o e => by
      have nd := ne_of_none e hd0
      exact b5 b o nd (b4 b o nd (s03 b o e)))
theorem ok_next_height {P : Program} {w : World} {K : PySem.W.Frag} {mg : Str → Option Value} {base : Heap} {f : Addr} {fd : FuncData} (F : FunD K "next_height" "next_height" (defArgs s_next_height) (defBody s_next_height) (defScope s_next_height) [] [] f fd) (a_Settings_keep : NoAttr K (He.ga K "Settings") "keep") (c_Settings : Cls K (He.ga K "Settings")) (g_MOST_HEIGHT : ∃ t, mg "MOST_HEIGHT" = some (.int 111 t)) (h_check_moment : Kr.FnH P w K mg base CX0 4 "check_moment" ["moment"] (sp_check_moment K)) (h_check_number : Kr.FnH P w K mg base CX0 3 "check_number" ["number", "least", "most"] (sp_check_number K)) (h_check_settings : Kr.FnH P w K mg base CX0 1 "check_settings" ["settings"] (sp_check_settings K)) (h_next_border : Kr.FnH P w K mg base CX0 6 "next_border" ["settings", "moment", "level"] (sp_next_border K)) (h_tree_height : Kr.FnH P w K mg base CX0 6 "tree_height" ["settings", "moment"] (sp_tree_height K)) : FnOk P w K mg base CX0 7 f fd ["settings", "moment", "least"] (sp_next_height K) := by
  refine F.ok sc_next_height (fun vs H Q E h => by first | (obtain ⟨rfl, _⟩ := h; rfl) | (obtain ⟨_, rfl, _⟩ := h; rfl) | (obtain ⟨_, _, rfl, _⟩ := h; rfl) | (obtain ⟨_, _, _, rfl, _⟩ := h; rfl) | (obtain ⟨_, _, _, _, rfl, _⟩ := h; rfl) | (obtain ⟨_, _, _, _, _, rfl, _⟩ := h; rfl) | (obtain ⟨_, _, _, _, _, _, rfl, _⟩ := h; rfl) | (obtain ⟨_, _, _, _, _, _, _, rfl, _⟩ := h; rfl) | (obtain ⟨_, _, _, _, _, _, _, _, rfl, _⟩ := h; rfl) | (obtain ⟨_, _, _, _, _, _, _, _, _, rfl, _⟩ := h; rfl) | (obtain ⟨_, _, _, _, _, _, _, _, _, _, rfl, _⟩ := h; rfl) | (obtain ⟨_, _, _, _, _, _, _, _, _, _, _, rfl, _⟩ := h; rfl) | (obtain ⟨_, _, _, _, _, _, _, _, _, _, _, _, rfl, _⟩ := h; rfl) | (obtain ⟨_, _, _, _, _, _, _, _, _, _, _, _, _, rfl, _⟩ := h; rfl) | (obtain ⟨_, _, _, _, _, _, _, _, _, _, _, _, _, _, rfl, _⟩ := h; rfl) | (obtain ⟨_, _, _, _, _, _, _, _, _, _, _, _, _, _, _, rfl, _⟩ := h; rfl) | (obtain ⟨_, _, _, _, _, _, _, _, _, _, _, _, _, _, _, _, rfl, _⟩ := h; rfl) | (obtain ⟨_, _, _, _, _, _, _, _, _, _, _, _, _, _, _, _, _, rfl, _⟩ := h; rfl)) (fun cdv A outer s H vs Q E hr h => ?_)
  · have hu := hu_of hr
    obtain ⟨s1, ls, sz, re, ev, ke, fo, M, l, rfl, S, ok, hl, hM, qa, qb⟩ := h
    obtain ⟨dx, t, h1, h2⟩ := id S
    have cc := c_Settings
    have n6 := a_Settings_keep
    have o := ok.toLensOk.pk
    obtain ⟨k1, k2⟩ := ok.ke
    obtain ⟨f1, f2⟩ := ok.fo
    have f2' : 2 ≤ fo := by omega
    refine ⟨_, PSs.nox (pss_cons (ps_expr (Kr.pe_cl h_check_settings (hr.mono (by decide)) (pa_cons (pv 0) pa_nil))) (pss_cons (ps_expr (Kr.pe_cl h_check_moment (hr.mono (by decide)) (pa_cons (pv 1) pa_nil))) (pss_cons (ps_expr (Kr.pe_cl h_check_number (hr.mono (by decide)) (pa_cons (pv 2) (pa_cons pe_int (pa_cons (Kr.pe_gint g_MOST_HEIGHT) pa_nil))))) (pss_cons (ps_if (pt_cmpR op_ge (Kr.pe_cl h_tree_height (hr.mono (by decide)) (pa_cons (pv 0) (pa_cons (pv 1) pa_nil))) (pv 2) (nomark _)) (pss_one (ps_ret (pv 1))) pss_nil) (pss_cons (ps_if (pt_cmpR op_eq (pv 2) pe_int (nomark _)) (pss_one (ps_ret pe_int)) pss_nil) (pss_cons (ps_set (i := 3) sc_next_height.nd rfl (.inl rfl) (Kr.pe_cl h_next_border (hr.mono (by decide)) (pa_cons (pv 0) (pa_cons (pv 1) (pa_cons (pe_op op_sub (pv 2) pe_int) pa_nil))))) (pss_cons (ps_if (PW.pt (pw_or (pt_cmpR Kr.o_isN (pv 3) pe_non (nomark _)) (pw_or1 (pt_cmpR op_eq (pe_fld (pv 0) rfl) pe_int (nomark _))))) (pss_one (ps_ret pe_non)) pss_nil) (pss_one (ps_ret (pe_op op_add (pe_ix ix_tup (pv 3) pe_int (fun _ _ => rfl)) pe_int)))))))))), ?_⟩
    rw [st_next_height]
    walk_at "ss"
    refine ⟨s1, _, _, rfl, h1, ?_⟩
    walk_at "ss"
    refine ⟨M, rfl, hM, ?_⟩
    walk_at "ss"
    refine ⟨_, _, _, rfl, by omega, by omega, ?_⟩
    walk_at "ss"
    refine height_one ⟨s1, ls, sz, re, ev, ke, fo, M, rfl, S, ok, hM, fun H1 s1' => ?_⟩
    walk_at "ss"
    refine r_dec (fun e => ?_) fun e => ?_
    · walk_at "ss"
      exact qa M H1 s1' (Nat.le_refl _) hM (by omega) (fun k a b => absurd a (by omega))
    have hlo : htM ls sz ke fo M ≤ l := by omega
    walk_at "ss"
    refine r_dec (fun e1 => ?_) fun e1 => ?_
    · have l0 : l = 0 := by omega
      have M0 : M = 0 := Classical.byContradiction fun z => by
        have := htM_pos (ls := ls) (sz := sz) (ke := ke) f2' z
        omega
      subst l0
      walk_at "ss"
      refine qa 1 H1 s1' (by omega) (by decide) (htM_pos f2' (by decide)) (fun k a b => ?_)
      rw [show k = 0 by omega, htM_zero]
      omega
    have l1 : 1 ≤ l := by omega
    walk_at "ss"
    rw [show ((l + 1 : Nat) : Int) - 1 = (l : Int) by omega]
    refine ⟨s1, ls, sz, re, ev, ke, fo, M, l, rfl, S.same s1', ok, hl, hM, fun p hp => ⟨fun big H2 s2 => ?_, fun near t2 H2 s2 e2 => ?_⟩⟩
    · walk_at "ss"
      refine ⟨rfl, ?_⟩
      walk_at "ss"
      exact qb H2 (s1'.trans s2) (fun k ak k30 => nb_none o k1 f2' l1 hlo hp ak (by omega))
    · obtain ⟨dx2, t3, h12, h22⟩ := S.same (s1'.trans s2)
      walk_at "ss"
      refine ⟨rfl, ?_⟩
      walk_at "ss"
      refine r_dec (fun z => by cases z) fun _ => ?_
      walk_at "ss"
      refine r_dec (fun ek => ?_) fun ek => ?_
      · walk_at "ss"
        exact qb H2 (s1'.trans s2) (fun k _ _ => by have := ht_one (ls := ls) (sz := sz) (fo := fo) o f2' ek k; omega)
      · walk_at "ss"
        refine qa (Pk.st ls sz p + 1) H2 (s1'.trans s2) (by have := nb_ge (l := l) (a := M) o f2' hp; omega) (by omega) (nb_at o (by omega) f2' l1 hp) (fun k ak kn => nb_none o k1 f2' l1 hlo hp ak (by omega))
theorem ok_greatest_height {P : Program} {w : World} {K : PySem.W.Frag} {mg : Str → Option Value} {base : Heap} {f : Addr} {fd : FuncData} (F : FunD K "greatest_height" "greatest_height" (defArgs s_greatest_height) (defBody s_greatest_height) (defScope s_greatest_height) [] [] f fd) (a_Settings_fanout : NoAttr K (He.ga K "Settings") "fanout") (a_Settings_keep : NoAttr K (He.ga K "Settings") "keep") (c_Packing : Cls K (He.ga K "Packing")) (c_Settings : Cls K (He.ga K "Settings")) (h_border_level : Kr.FnH P w K mg base CX0 1 "border_level" ["fanout", "low", "high"] (sp_border_level K)) (h_check_settings : Kr.FnH P w K mg base CX0 1 "check_settings" ["settings"] (sp_check_settings K)) (h_check_stretch : Kr.FnH P w K mg base CX0 5 "check_stretch" ["first", "last"] (sp_check_stretch K)) (h_power : Kr.FnH P w K mg base CX0 1 "power" ["base", "exponent"] (sp_power K)) (h_tree_height : Kr.FnH P w K mg base CX0 6 "tree_height" ["settings", "moment"] (sp_tree_height K)) (m_Packing_begun : Kr.MtH P w K mg base CX0 5 (He.ga K "Packing") "begun" ["self", "moment"] (sp_Packing_begun K)) (m_Packing_start_of : Kr.MtH P w K mg base CX0 1 (He.ga K "Packing") "start_of" ["self", "page"] (sp_Packing_start_of K)) (mk_Packing : Kr.MkH P w K mg base CX0 2 "Packing" (He.ga K "Packing") ["self", "settings"] (sp_Packing___init__ K)) (n_max : mg "max" = none) : FnOk P w K mg base CX0 7 f fd ["settings", "first", "last"] (sp_greatest_height K) := by
  refine F.ok sc_greatest_height (fun vs H Q E h => by first | (obtain ⟨rfl, _⟩ := h; rfl) | (obtain ⟨_, rfl, _⟩ := h; rfl) | (obtain ⟨_, _, rfl, _⟩ := h; rfl) | (obtain ⟨_, _, _, rfl, _⟩ := h; rfl) | (obtain ⟨_, _, _, _, rfl, _⟩ := h; rfl) | (obtain ⟨_, _, _, _, _, rfl, _⟩ := h; rfl) | (obtain ⟨_, _, _, _, _, _, rfl, _⟩ := h; rfl) | (obtain ⟨_, _, _, _, _, _, _, rfl, _⟩ := h; rfl) | (obtain ⟨_, _, _, _, _, _, _, _, rfl, _⟩ := h; rfl) | (obtain ⟨_, _, _, _, _, _, _, _, _, rfl, _⟩ := h; rfl) | (obtain ⟨_, _, _, _, _, _, _, _, _, _, rfl, _⟩ := h; rfl) | (obtain ⟨_, _, _, _, _, _, _, _, _, _, _, rfl, _⟩ := h; rfl) | (obtain ⟨_, _, _, _, _, _, _, _, _, _, _, _, rfl, _⟩ := h; rfl) | (obtain ⟨_, _, _, _, _, _, _, _, _, _, _, _, _, rfl, _⟩ := h; rfl) | (obtain ⟨_, _, _, _, _, _, _, _, _, _, _, _, _, _, rfl, _⟩ := h; rfl) | (obtain ⟨_, _, _, _, _, _, _, _, _, _, _, _, _, _, _, rfl, _⟩ := h; rfl) | (obtain ⟨_, _, _, _, _, _, _, _, _, _, _, _, _, _, _, _, rfl, _⟩ := h; rfl) | (obtain ⟨_, _, _, _, _, _, _, _, _, _, _, _, _, _, _, _, _, rfl, _⟩ := h; rfl)) (fun cdv A outer s H vs Q E hr h => ?_)
  · have hu := hu_of hr
    obtain ⟨s1, ls, sz, re, ev, ke, fo, a, b, rfl, S, ok, ab, hb, qa, qb⟩ := h
    obtain ⟨dx, t, h1, h2⟩ := id S
    have cc := c_Settings
    have n6 := a_Settings_keep
    have n3 := a_Settings_fanout
    have cp := c_Packing
    have o := ok.toLensOk.pk
    obtain ⟨k1, k2⟩ := ok.ke
    obtain ⟨f1, f2⟩ := ok.fo
    have f2' : 2 ≤ fo := by omega
    refine ⟨_, PSs.nox (pss_cons (ps_expr (Kr.pe_cl h_check_settings (hr.mono (by decide)) (pa_cons (pv 0) pa_nil))) (pss_cons (ps_expr (Kr.pe_cl h_check_stretch (hr.mono (by decide)) (pa_cons (pv 1) (pa_cons (pv 2) pa_nil)))) (pss_cons (ps_if (pt_cmpR op_eq (pv 1) (pv 2) (nomark _)) (pss_one (ps_ret pe_non)) pss_nil) (pss_cons (ps_set (i := 3) sc_greatest_height.nd rfl (.inl rfl) (Kr.pe_cl h_tree_height (hr.mono (by decide)) (pa_cons (pv 0) (pa_cons (pv 1) pa_nil)))) (pss_cons (ps_if (pt_cmpR op_gt (pe_fld (pv 0) rfl) pe_int (nomark _)) (pss_cons (ps_set (i := 4) sc_greatest_height.nd rfl (.inl rfl) (Kr.pe_mk mk_Packing (hr.mono (by decide)) (pa_cons (pv 0) pa_nil))) (pss_cons (ps_set (i := 5) sc_greatest_height.nd rfl (.inl rfl) (pe_callB (id := "max") (Kr.c_max2 rfl) rfl n_max (by decide +kernel) (pa_cons pe_int (pa_cons (Kr.pe_mt m_Packing_begun c_Packing (hr.mono (by decide)) (pv 4) (pa_cons (pv 1) pa_nil)) pa_nil)))) (pss_cons (ps_set (i := 6) sc_greatest_height.nd rfl (.inl rfl) (Kr.pe_cl h_border_level (hr.mono (by decide)) (pa_cons (pe_fld (pv 0) rfl) (pa_cons (pv 5) (pa_cons (pe_op op_sub (Kr.pe_mt m_Packing_begun c_Packing (hr.mono (by decide)) (pv 4) (pa_cons (pe_op op_sub (pv 2) pe_int) pa_nil)) pe_int) pa_nil))))) (pss_one (ps_if (PW.pt (pw_and (pt_cmpR op_gt (pv 6) pe_int (nomark _)) (pw_and1 (pt_cmpR op_ge (pv 6) (pv 3) (nomark _))))) (pss_cons (ps_set (i := 7) sc_greatest_height.nd rfl (.inl rfl) (Kr.pe_cl h_power (hr.mono (by decide)) (pa_cons (pe_fld (pv 0) rfl) (pa_cons (pv 6) pa_nil)))) (pss_one (ps_ret (pe_tup (pa_cons (pe_op op_add (pv 6) pe_int) (pa_cons (pe_op op_add (Kr.pe_mt m_Packing_start_of c_Packing (hr.mono (by decide)) (pv 4) (pa_cons (pe_op op_mulW (pe_op op_fdivW (pe_op op_sub (pe_op op_add (pv 5) (pv 7)) pe_int) (pv 7)) (pv 7)) pa_nil)) pe_int) pa_nil)))))) pss_nil))))) pss_nil) (pss_cons (ps_if (PW.pt (pw_and (pt_cmpR op_eq (pv 3) pe_int (nomark _)) (pw_and1 (pt_cmpR op_gt (pv 2) pe_int (nomark _))))) (pss_one (ps_ret (pe_tup (pa_cons pe_int (pa_cons pe_int pa_nil))))) pss_nil) (pss_one (ps_ret (pe_tup (pa_cons (pv 3) (pa_cons (pv 1) pa_nil))))))))))), ?_⟩
    rw [st_greatest_height]
    walk_at "ss"
    refine ⟨s1, _, _, rfl, h1, ?_⟩
    walk_at "ss"
    refine ⟨a, b, rfl, ab, hb, ?_⟩
    walk_at "ss"
    refine r_dec (fun e => ?_) fun e => ?_
    · walk_at "ss"
      exact qa (by omega) H (fun _ _ e => e)
    have ab : a < b := by omega
    have qb := qb ab
    walk_at "ss"
    refine height_one ⟨s1, ls, sz, re, ev, ke, fo, a, rfl, S, ok, by omega, fun H1 s1' => ?_⟩
    obtain ⟨dx2, t3, h12, h22⟩ := S.same s1'
    walk_at "ss"
    by_cases hk : 1 < ke
    rotate_left
    rw [decide_eq_false hk]
    have sX := s1'
    have hT : ∀ k, a ≤ k → k < b → htM ls sz ke fo k ≤ max (htM ls sz ke fo a) 1 := fun k _ _ => by
      have := ht_one (ls := ls) (sz := sz) (fo := fo) (ke := ke) o f2' (by omega) k
      omega
    walk_at "ss"
    rotate_left
    rw [decide_eq_true hk]
    walk_at "ss"
    intro x dx3 hx hdx ne
    have sx : Same H1 (upd (upd H1 dx3 (.own x)) x (.ins (He.ga K "Packing") dx3 [])) := (same_new hdx).trans (same_new (by rw [upd_ne ne.symm]; exact hx))
    refine ⟨x, s1, dx3, ls, sz, fo, re, ev, ke, rfl, upd_same, (S.same s1').same sx, ok.toLensOk, fun H3 s3 PA pk0 => ⟨rfl, ?_⟩⟩
    have s13 : Same H1 H3 := fun b o e => s3 b o (ne_of_none e hx) (sx b o e)
    have sX : Same H H3 := s1'.trans s13
    obtain ⟨dx4, lp, j, k, last, F, on, -⟩ := id PA
    have h13 := s13 _ _ h12
    have h0 := F.at_
    have bl := bg_le (sz := sz) o a
    have bl2 := bg_le (sz := sz) o (b - 1)
    walk_at "ss"
    refine begun_one ⟨x, s1, ls, sz, a, bg ls sz a, rfl, PA, by omega, bg_Bg o a, ?_⟩
    walk_at "ss"
    rw [show (if ((bg ls sz a : Nat) : Int) > 1 then ((bg ls sz a : Nat) : Int) else 1) = ((max 1 (bg ls sz a) : Nat) : Int) by split <;> omega]
    walk_at "ss"
    rw [show (b : Int) - 1 = ((b - 1 : Nat) : Int) by omega]
    refine begun_one ⟨x, s1, ls, sz, b - 1, bg ls sz (b - 1), rfl, PA, by omega, bg_Bg o (b - 1), ?_⟩
    walk_at "ss"
    refine ⟨fo, max 1 (bg ls sz a), ((bg ls sz (b - 1) : Nat) : Int) - 1, rfl, f2', by omega, by omega, by omega, by omega, fun L hb1 hb2 hL => ?_⟩
    walk_at "ss"
    by_cases hC : 0 < L ∧ htM ls sz ke fo a ≤ L
    · rw [decide_eq_true (show (0 : Int) < (L : Int) by omega)]
      walk_at "ss"
      rw [decide_eq_true (show ((htM ls sz ke fo a : Nat) : Int) ≤ (L : Int) by omega)]
      walk_at "ss"
      refine ⟨fo, L, rfl, by omega, by omega, ?_⟩
      have w0 := wd_pos (f := fo) (l := L) f2'
      have w4 := pw_lt (b := fo) (i := L) (by omega) (by omega)
      have cd := wd_div (f := fo) (l := L) (by omega) (by omega) (by omega)
      have w5 : fo ^ L < 10 ^ 110 := Nat.lt_of_le_of_lt (Nat.le_trans (Nat.pow_le_pow_left (show fo ≤ 8 by omega) L) (Nat.pow_le_pow_right (by decide) hL)) (by decide +kernel)
      obtain ⟨g1, g2, g3, g4⟩ := gh_at o hk f2' hC.1 hC.2 ab (hb1 L hC.1 (Nat.le_refl _)) hb2 rfl
      have mb : max 1 (bg ls sz a) ≤ 10 ^ 30 := by omega
      obtain ⟨B, hB⟩ : ∃ B, B = max 1 (bg ls sz a) := ⟨_, rfl⟩
      obtain ⟨W, hW⟩ : ∃ W, W = fo ^ L := ⟨_, rfl⟩
      rw [← hB] at mb g1 g2 g4 ⊢
      rw [← hW] at w0 w4 w5 cd g1 g2 g4 ⊢
      walk_at "ss"
      rw [show (B : Int) + (W : Int) - 1 = ((B + W - 1 : Nat) : Int) by omega]
      have cd2 : CDivW ((B + W - 1 : Nat) : Int) (W : Int) := cd
      have dle : (B + W - 1) / W ≤ B := by
        refine Nat.le_of_lt_succ ((Nat.div_lt_iff_lt_mul w0).mpr ?_)
        rw [Nat.succ_mul]
        have : B * 1 ≤ B * W := Nat.mul_le_mul_left _ w0
        omega
      have cm : CMulW (((B + W - 1) / W : Nat) : Int) (W : Int) := mulW_ok (i500 (by omega)) (Nat.lt_trans w4 (by decide +kernel))
      walk_at "ss"
      rw [show ((B + W - 1 : Nat) : Int) / (W : Int) = (((B + W - 1) / W : Nat) : Int) from rfl]
      rw [← Int.natCast_mul]
      have ple : (B + W - 1) / W * W ≤ B + W - 1 := Nat.div_mul_le_self _ _
      obtain ⟨p, hp⟩ : ∃ p, p = (B + W - 1) / W * W := ⟨_, rfl⟩
      rw [← hp] at ple g1 g2 g4 ⊢
      have e120 : (10 : Nat) ^ 30 + 10 ^ 110 < 10 ^ 120 := by decide +kernel
      refine ⟨x, s1, ls, sz, p, rfl, PA, by omega, ?_⟩
      walk_at "ss"
      refine r_newS fun t5 H5 ht5 s5 e5 => ?_
      have ge : a ≤ Pk.st ls sz p + 1 := by
        have := nb_ge (l := L) (a := a) o f2' (p := p) (by rw [hp, hB, hW])
        omega
      refine qb (Pk.st ls sz p + 1) t5 H5 (sX.trans s5) ge g1 (fun k ak kb => by rw [g2]; exact g3 k ak kb) (fun k ak kn => by rw [g2]; exact g4 k ak kn) ?_
      rw [e5, g2]
      rfl
    have hT : ∀ k, a ≤ k → k < b → htM ls sz ke fo k ≤ max (htM ls sz ke fo a) 1 := fun k ak kb => Nat.le_of_not_lt fun z => by
      obtain ⟨l, hl⟩ : ∃ l, htM ls sz ke fo k = l + 1 := ⟨htM ls sz ke fo k - 1, by omega⟩
      by_cases y : bdIn fo (max 1 (bg ls sz a)) (((bg ls sz (b - 1) : Nat) : Int) - 1) l
      · rcases Nat.lt_or_ge L l with w | w
        · exact hb2 (bd_down f2' (by omega) y (by omega))
        · exact hC ⟨by omega, by omega⟩
      · exact gh_none o k1 f2' (l := l) (by omega) (by omega) y ak kb (by omega)
    by_cases L0 : 0 < L
    rw [decide_eq_true (show (0 : Int) < (L : Int) by omega)]
    walk_at "ss"
    rw [decide_eq_false (show ¬ ((htM ls sz ke fo a : Nat) : Int) ≤ (L : Int) from fun z => hC ⟨L0, by omega⟩)]
    walk_at "ss"
    rotate_left
    rw [decide_eq_false (show ¬ (0 : Int) < (L : Int) by omega)]
    walk_at "ss"
    rotate_left
    all_goals
      by_cases h0 : htM ls sz ke fo a = 0
      · have a0 : a = 0 := Classical.byContradiction fun z => by
          have := htM_pos (ls := ls) (sz := sz) (ke := ke) f2' z
          omega
        rw [decide_eq_true (show ((htM ls sz ke fo a : Nat) : Int) = 0 by omega)]
        walk_at "ss"
        refine r_dec (fun e2 => ?_) fun e2 => ?_
        · walk_at "ss"
          refine r_newS fun t4 H5 ht4 s5 e5 => ?_
          have h11 : htM ls sz ke fo 1 = 1 := Nat.le_antisymm (by have := hT 1 (by omega) (by omega); omega) (htM_pos f2' (by decide))
          exact qb 1 t4 H5 (sX.trans s5) (by omega) (by omega) (fun k ak kb => by have := hT k ak kb; rw [h11]; omega) (fun k ak kn => by rw [show k = 0 by omega, htM_zero, h11]; omega) (by rw [e5, h11]; rfl)
        · walk_at "ss"
          refine r_newS fun t4 H5 ht4 s5 e5 => ?_
          exact qb a t4 H5 (sX.trans s5) (by omega) (by omega) (fun k ak kb => by rw [show k = a by omega]; omega) (fun k ak kn => by omega) e5
      · rw [decide_eq_false (show ¬ ((htM ls sz ke fo a : Nat) : Int) = 0 by omega)]
        walk_at "ss"
        refine r_newS fun t4 H5 ht4 s5 e5 => ?_
        exact qb a t4 H5 (sX.trans s5) (by omega) (by omega) (fun k ak kb => by have := hT k ak kb; omega) (fun k ak kn => by omega) e5
theorem ok__law_digits {P : Program} {w : World} {K : PySem.W.Frag} {mg : Str → Option Value} {base : Heap} {f : Addr} {fd : FuncData} (F : FunD K "_law_digits" "_law_digits" (defArgs s__law_digits) (defBody s__law_digits) (defScope s__law_digits) [] [] f fd) (n_int : mg "int" = none) (n_range : mg "range" = none) : FnOk P w K mg base CX0 1 f fd ["cell", "many"] (sp__law_digits K) := by
  refine F.ok sc__law_digits (fun vs H Q E h => by first | (obtain ⟨rfl, _⟩ := h; rfl) | (obtain ⟨_, rfl, _⟩ := h; rfl) | (obtain ⟨_, _, rfl, _⟩ := h; rfl) | (obtain ⟨_, _, _, rfl, _⟩ := h; rfl) | (obtain ⟨_, _, _, _, rfl, _⟩ := h; rfl) | (obtain ⟨_, _, _, _, _, rfl, _⟩ := h; rfl) | (obtain ⟨_, _, _, _, _, _, rfl, _⟩ := h; rfl) | (obtain ⟨_, _, _, _, _, _, _, rfl, _⟩ := h; rfl) | (obtain ⟨_, _, _, _, _, _, _, _, rfl, _⟩ := h; rfl) | (obtain ⟨_, _, _, _, _, _, _, _, _, rfl, _⟩ := h; rfl) | (obtain ⟨_, _, _, _, _, _, _, _, _, _, rfl, _⟩ := h; rfl) | (obtain ⟨_, _, _, _, _, _, _, _, _, _, _, rfl, _⟩ := h; rfl) | (obtain ⟨_, _, _, _, _, _, _, _, _, _, _, _, rfl, _⟩ := h; rfl) | (obtain ⟨_, _, _, _, _, _, _, _, _, _, _, _, _, rfl, _⟩ := h; rfl) | (obtain ⟨_, _, _, _, _, _, _, _, _, _, _, _, _, _, rfl, _⟩ := h; rfl) | (obtain ⟨_, _, _, _, _, _, _, _, _, _, _, _, _, _, _, rfl, _⟩ := h; rfl) | (obtain ⟨_, _, _, _, _, _, _, _, _, _, _, _, _, _, _, _, rfl, _⟩ := h; rfl) | (obtain ⟨_, _, _, _, _, _, _, _, _, _, _, _, _, _, _, _, _, rfl, _⟩ := h; rfl)) (fun cdv A outer s H vs Q E hr h => ?_)
  · have hu := hu_of hr
    obtain ⟨c, rfl, q⟩ := h
    refine ⟨_, PSs.nox (pss_cons (ps_set (i := 2) sc__law_digits.nd rfl (.inl rfl) (pe_lst pa_nil)) (pss_cons (ps_set (i := 3) sc__law_digits.nd rfl (.inl rfl) pe_int) (pss_cons (ps_if (pt_cmpR op_ge (pv 0) (pe_op op_pow pe_int pe_int) (nomark _)) (pss_one (ps_set (i := 3) sc__law_digits.nd rfl (.inl rfl) (pv 0))) pss_nil) (pss_cons (ps_set (i := 4) sc__law_digits.nd rfl (.inl rfl) (pe_op op_mod (pe_callTy (T := "int") Kr.c_int1 rfl n_int (by decide +kernel) (pa_cons (pv 0) pa_nil)) pe_int)) (pss_cons (ps_for PassesOwn.never rfl (pi_range1 rfl n_range (pa_cons (pv 1) pa_nil)) (pg_name (i := 5) sc__law_digits.nd rfl (.inl rfl)) (pss_cons (ps_set (i := 4) sc__law_digits.nd rfl (.inl rfl) (pe_op op_mod (pe_callTy (T := "int") Kr.c_int1 rfl n_int (by decide +kernel) (pa_cons (pe_op op_add (pe_op op_add (pe_op op_mul (pv 4) pe_int) (pe_op op_mul pe_int (pv 5))) pe_int) pa_nil)) pe_int)) (pss_cons (ps_set (i := 4) sc__law_digits.nd rfl (.inl rfl) (pe_op op_mod (pe_callTy (T := "int") Kr.c_int1 rfl n_int (by decide +kernel) (pa_cons (pe_op op_mul (pv 4) (pe_op op_add (pe_op op_fdivW (pv 4) pe_int) pe_int)) pa_nil)) pe_int)) (pss_one (ps_if (pt_cmpR op_gt (pv 3) pe_int (nomark _)) (pss_cons (ps_expr (pe_bm PySem.F.plainAttrs_list PySem.F.slot_list_append PySem.F.type_list_append mt_append (pv 2) (pa_cons (pe_op op_mod (pe_callTy (T := "int") Kr.c_int1 rfl n_int (by decide +kernel) (pa_cons (pv 3) pa_nil)) pe_int) pa_nil))) (pss_one (ps_set (i := 3) sc__law_digits.nd rfl (.inl rfl) (pe_op op_fdivW (pv 3) pe_int)))) (pss_one (ps_expr (pe_bm PySem.F.plainAttrs_list PySem.F.slot_list_append PySem.F.type_list_append mt_append (pv 2) (pa_cons (pe_op op_mod (pe_callTy (T := "int") Kr.c_int1 rfl n_int (by decide +kernel) (pa_cons (pe_op op_fdivW (pv 4) pe_int) pa_nil)) pe_int) pa_nil))))))))) (pss_one (ps_ret (pv 2)))))))), ?_⟩
    rw [st__law_digits]
    walk_at "ss"
    refine r_newS fun p H1 hp s1 ep => ?_
    walk_at "ss"
    refine r_dec (fun _ => ?_) fun _ => ?_
    all_goals
      walk_at "ss"
      refine r_forR (fun i σ H' => ∃ (rest number : Int) (x5 : Option V) (ds : List Int), σ = [some (.int c), some (.int 40), some (.ref p), some (.int rest), some (.int number), x5] ∧ 0 ≤ number ∧ number < 2147483647 ∧ ds.length = i ∧ (∀ d ∈ ds, 0 ≤ d ∧ d < 1009) ∧
          H' p = some (.lst (ds.map V.int)) ∧ ∀ b o, H b = some o → H' b = some o) ⟨_, _, _, [], rfl, by omega, by omega, rfl, by simp, ep, s1⟩ ?_ ?_
      · rintro i σ H2 hi ⟨rest, number, x5, ds, rfl, h0, h1, hl, hb, e2, s2⟩
        have hi40 : i < 40 := hi
        walk_at "ss"
        refine r_dec (fun _ => ?_) fun _ => ?_
        · walk_at "ss"
          refine r_append e2 (by rw [List.length_map]; omega) ?_
          walk_at "ss"
          refine ⟨_, _, _, ds ++ [rest % 1009], rfl, by omega, by omega, by simp [hl], fun d hd => ?_, ?_, fun b o e => ?_⟩
          · rcases List.mem_append.mp hd with hd | hd
            · exact hb d hd
            · rw [List.mem_singleton] at hd
              omega
          · rw [upd_same, List.map_append]
            rfl
          · rw [upd_ne (ne_of_none e hp)]
            exact s2 b o e
        · walk_at "ss"
          generalize hE : (_ : Int) % 1009 = dd
          have hdd : 0 ≤ dd ∧ dd < 1009 := by
            rw [← hE]
            exact emod_lt (by decide)
          refine r_append e2 (by rw [List.length_map]; omega) ?_
          walk_at "ss"
          refine ⟨_, _, _, ds ++ [dd], rfl, by omega, by omega, by simp [hl], fun d hd => ?_, ?_, fun b o e => ?_⟩
          · rcases List.mem_append.mp hd with hd | hd
            · exact hb d hd
            · rw [List.mem_singleton] at hd
              rw [hd]
              exact hdd
          · rw [upd_same, List.map_append]
            rfl
          · rw [upd_ne (ne_of_none e hp)]
            exact s2 b o e
      · rintro σ H2 ⟨rest, number, x5, ds, rfl, h0, h1, hl, hb, e2, s2⟩
        walk_at "ss"
        exact q p H2 ds s2 hp ⟨e2, hl, hb⟩
theorem ok__law_parts {P : Program} {w : World} {K : PySem.W.Frag} {mg : Str → Option Value} {base : Heap} {f : Addr} {fd : FuncData} (F : FunD K "_law_parts" "_law_parts" (defArgs s__law_parts) (defBody s__law_parts) (defScope s__law_parts) [] [] f fd) (n_int : mg "int" = none) (n_range : mg "range" = none) : FnOk P w K mg base CX0 1 f fd ["digits"] (sp__law_parts K) := by
  refine F.ok sc__law_parts (fun vs H Q E h => by first | (obtain ⟨rfl, _⟩ := h; rfl) | (obtain ⟨_, rfl, _⟩ := h; rfl) | (obtain ⟨_, _, rfl, _⟩ := h; rfl) | (obtain ⟨_, _, _, rfl, _⟩ := h; rfl) | (obtain ⟨_, _, _, _, rfl, _⟩ := h; rfl) | (obtain ⟨_, _, _, _, _, rfl, _⟩ := h; rfl) | (obtain ⟨_, _, _, _, _, _, rfl, _⟩ := h; rfl) | (obtain ⟨_, _, _, _, _, _, _, rfl, _⟩ := h; rfl) | (obtain ⟨_, _, _, _, _, _, _, _, rfl, _⟩ := h; rfl) | (obtain ⟨_, _, _, _, _, _, _, _, _, rfl, _⟩ := h; rfl) | (obtain ⟨_, _, _, _, _, _, _, _, _, _, rfl, _⟩ := h; rfl) | (obtain ⟨_, _, _, _, _, _, _, _, _, _, _, rfl, _⟩ := h; rfl) | (obtain ⟨_, _, _, _, _, _, _, _, _, _, _, _, rfl, _⟩ := h; rfl) | (obtain ⟨_, _, _, _, _, _, _, _, _, _, _, _, _, rfl, _⟩ := h; rfl) | (obtain ⟨_, _, _, _, _, _, _, _, _, _, _, _, _, _, rfl, _⟩ := h; rfl) | (obtain ⟨_, _, _, _, _, _, _, _, _, _, _, _, _, _, _, rfl, _⟩ := h; rfl) | (obtain ⟨_, _, _, _, _, _, _, _, _, _, _, _, _, _, _, _, rfl, _⟩ := h; rfl) | (obtain ⟨_, _, _, _, _, _, _, _, _, _, _, _, _, _, _, _, _, rfl, _⟩ := h; rfl)) (fun cdv A outer s H vs Q E hr h => ?_)
  · have hu := hu_of hr
    obtain ⟨d, ds, rfl, G, q⟩ := h
    have gl := G.l
    refine ⟨_, PSs.nox (pss_cons (ps_set (i := 1) sc__law_parts.nd rfl (.inr rfl) (pe_op op_add pe_int (pe_op op_mod (pe_callTy (T := "int") Kr.c_int1 rfl n_int (by decide +kernel) (pa_cons (pe_ix ix_list (pv 0) pe_int (fun _ _ => rfl)) pa_nil)) pe_int))) (pss_cons (ps_setLc (i := 2) (own := [("k", 4)]) rfl sc__law_parts.nd rfl rfl (sw_true rfl rfl rfl (by decide +kernel)) (pi_range1 rfl n_range (pa_cons (pe_op op_add pe_int (pe_op op_mod (pe_callTy (T := "int") Kr.c_int1 rfl n_int (by decide +kernel) (pa_cons (pe_ix ix_list (pv 0) pe_int (fun _ _ => rfl)) pa_nil)) pe_int)) pa_nil)) (blkOk_by (own := [("k", 4)]) (N := N__law_parts) (sc := defScope s__law_parts) (by decide +kernel)) (fun _ _ _ _ _ => (pg_name (i := 4) sc__law_parts.nd rfl (.inl rfl))) (fun _ _ _ _ _ => pts_nil) (fun _ _ _ _ _ => (pe_op op_add pe_int (pe_op op_mod (pe_callTy (T := "int") Kr.c_int1 rfl n_int (by decide +kernel) (pa_cons (pe_ix (Kr.ix_listK (K := K) rfl) (pv 0) (pe_op op_add pe_int (pv 4)) (fun _ _ => rfl)) pa_nil)) (pv 1))))) (pss_cons (ps_set (i := 3) sc__law_parts.nd rfl (.inl rfl) (pe_disp (pps_cons pe_str (pv 2) (pps_cons pe_str (pv 1) (pps_cons pe_str (pe_op op_add pe_int (pe_op op_mod (pe_callTy (T := "int") Kr.c_int1 rfl n_int (by decide +kernel) (pa_cons (pe_ix ix_list (pv 0) pe_int (fun _ _ => rfl)) pa_nil)) pe_int)) pps_nil))) (by rfl) (by rfl) (fun z => by cases z) (by decide))) (pss_cons (ps_dput hu (pv 3) pe_str (pe_op op_add pe_int (pe_op op_mod (pe_callTy (T := "int") Kr.c_int1 rfl n_int (by decide +kernel) (pa_cons (pe_ix ix_list (pv 0) pe_int (fun _ _ => rfl)) pa_nil)) (pe_ix ix_list (pe_lst (pa_cons pe_int (pa_cons pe_int (pa_cons pe_int pa_nil)))) (pe_op op_mod (pe_callTy (T := "int") Kr.c_int1 rfl n_int (by decide +kernel) (pa_cons (pe_ix ix_list (pv 0) pe_int (fun _ _ => rfl)) pa_nil)) pe_int) (fun _ _ => rfl)))) rfl) (pss_cons (ps_dput hu (pv 3) pe_str (pe_op op_add pe_int (pe_op op_mod (pe_callTy (T := "int") Kr.c_int1 rfl n_int (by decide +kernel) (pa_cons (pe_ix ix_list (pv 0) pe_int (fun _ _ => rfl)) pa_nil)) (pe_ix ix_list (pe_lst (pa_cons pe_int (pa_cons pe_int pa_nil))) (pe_op op_mod (pe_callTy (T := "int") Kr.c_int1 rfl n_int (by decide +kernel) (pa_cons (pe_ix ix_list (pv 0) pe_int (fun _ _ => rfl)) pa_nil)) pe_int) (fun _ _ => rfl)))) rfl) (pss_cons (ps_dput hu (pv 3) pe_str (pe_op op_add pe_int (pe_op op_mod (pe_callTy (T := "int") Kr.c_int1 rfl n_int (by decide +kernel) (pa_cons (pe_ix ix_list (pv 0) pe_int (fun _ _ => rfl)) pa_nil)) (pe_ix ix_list (pe_lst (pa_cons pe_int (pa_cons pe_int pa_nil))) (pe_op op_mod (pe_callTy (T := "int") Kr.c_int1 rfl n_int (by decide +kernel) (pa_cons (pe_ix ix_list (pv 0) pe_int (fun _ _ => rfl)) pa_nil)) pe_int) (fun _ _ => rfl)))) rfl) (pss_one (ps_ret (pv 3))))))))), ?_⟩
    rw [st__law_parts]
    walk_at "ss"
    refine r_ixL (SqL.of gl) (G.at_ (by decide) (by decide)) ?_
    walk_at "ss"
    obtain ⟨sz, hsz⟩ : ∃ sz, sz = 1 + ds.getD (Int.toNat 0) 0 % 6 := ⟨_, rfl⟩
    have sz1 : 1 ≤ sz ∧ sz ≤ 6 := by
      have := @emod_lt (ds.getD (Int.toNat 0) 0) 6 (by decide)
      omega
    rw [← hsz]
    refine r_ixL (SqL.of gl) (G.at_ (by decide) (by decide)) ?_
    walk_at "ss"
    intro D hD
    have em := @emod_lt (ds.getD (Int.toNat 4) 0) 6 (by decide)
    refine lc_rangeS [some (.ref d), some (.int sz), none, none, none] rfl (fun i H5 => ∃ ls : List Int, ls.length = i ∧ (∀ l ∈ ls, 1 ≤ l ∧ l ≤ sz) ∧ H5 D = some (.lst (ls.map V.int)) ∧ Same H H5) ⟨[], rfl, by simp, upd_same, same_new hD⟩ ?_ ?_
    · rintro i H5 hi ⟨ls, hl, hall, h5, s5⟩
      have g5 := s5 _ _ gl
      walk_at "ss"
      refine ⟨rfl, ?_⟩
      walk_at "ss"
      refine r_ixL (SqL.of g5) (G.at_ (by omega) (by omega)) ?_
      walk_at "ss"
      refine ⟨_, h5, by rw [List.length_map]; exact szl (by omega), ls ++ [1 + ds.getD (1 + (0 + (i : Int))).toNat 0 % sz], by simp [hl], fun l hm => ?_, ?_, fun b o e => ?_⟩
      rotate_left
      · rw [upd_same, List.map_append]
        rfl
      · rw [upd_ne (ne_of_none e hD)]
        exact s5 b o e
      · rcases List.mem_append.mp hm with hm | hm
        · exact hall l hm
        · rw [List.mem_singleton] at hm
          have := @emod_lt (ds.getD (1 + (0 + (i : Int))).toNat 0) sz (by omega)
          omega
    rintro H5 ⟨ls, hl, hall, h5, s5⟩
    have g5 := s5 _ _ gl
    walk_at "ss"
    refine r_disp fun p hp => ?_
    have hpd : H5 p = none := hp
    refine r_pairs ?_
    walk_at "ss"
    refine r_pairs ?_
    walk_at "ss"
    refine r_pairs ?_
    have g5p : (upd H5 p (.dK [])) d = some (.lst (ds.map V.int)) := upd_free g5 hp
    walk_at "ss"
    refine r_ixL (SqL.of g5p) (G.at_ (by decide) (by decide)) ?_
    have b1 := @emod_lt (ds.getD (Int.toNat 5) 0) 7 (by decide)
    walk_at "ss"
    generalize hfo : 2 + ds.getD (Int.toNat 5) 0 % 7 = fo at *
    refine r_pairs0 ?_
    refine r_dispE [(.inr "lengths", .ref D), (.inr "size", .int sz), (.inr "fanout", .int fo)] upd_same rfl (by show 3 ≤ 15; decide) ?_
    rw [upd_upd]
    have s7 : Same H (upd H5 p (.dK (mergeK [] [(.inr "lengths", .ref D), (.inr "size", .int sz), (.inr "fanout", .int fo)]))) := s5.trans (same_new hp)
    have g7 := s7 _ _ gl
    have e7 : upd H5 p (.dK (mergeK [] [(.inr "lengths", .ref D), (.inr "size", .int sz), (.inr "fanout", .int fo)])) p = some (.dK [(.inr "lengths", .ref D), (.inr "size", .int sz), (.inr "fanout", .int fo)]) := upd_same
    have d7 : upd H5 p (.dK (mergeK [] [(.inr "lengths", .ref D), (.inr "size", .int sz), (.inr "fanout", .int fo)])) D = some (.lst (ls.map V.int)) := upd_free h5 hp
    have hp0 : H p = none := s5.free hp
    clear g5p
    generalize upd H5 p (.dK (mergeK [] [(.inr "lengths", .ref D), (.inr "size", .int sz), (.inr "fanout", .int fo)])) = H7 at s7 g7 e7 d7 ⊢
    have nDp : D ≠ p := ne_of d7 e7 (by intro z; cases z)
    have ndp : d ≠ p := ne_of g7 e7 (by intro z; cases z)
    walk_at "ss"
    refine r_ixL (SqL.of g7) (G.at_ (by decide) (by decide)) ?_
    walk_at "ss"
    refine r_newS fun t2 K2 ht2 u2 k2 => ?_
    walk_at "ss"
    refine r_ixL (SqL.of (u2 _ _ g7)) (G.at_ (by decide) (by decide)) ?_
    walk_at "ss"
    obtain ⟨v2, hv2, a2⟩ := three_at (a := 4) (b := 4) (c := 16) (z := ds.getD (Int.toNat 9) 0 % 3) (emod_lt (by decide)).1 (emod_lt (by decide)).2
    refine r_ixL (SqL.of k2) a2 ?_
    have p2 : 0 < v2 := by omega
    have b2 := @emod_lt (ds.getD (Int.toNat 6) 0) v2 p2
    walk_at "ss"
    refine r_dpS (u2 _ _ e7) (by show 3 < 100000; decide) ?_
    generalize hre : 1 + ds.getD (Int.toNat 6) 0 % v2 = re at *
    have s8 : Same H (upd K2 p (.dK (putK [(.inr "lengths", .ref D), (.inr "size", .int sz), (.inr "fanout", .int fo)] (Sum.inr "records") (.int re)))) := fun b o e => by rw [upd_ne (ne_of_none e hp0)]; exact u2 _ _ (s7 b o e)
    have g8 := s8 _ _ gl
    have e8 : (upd K2 p (.dK (putK [(.inr "lengths", .ref D), (.inr "size", .int sz), (.inr "fanout", .int fo)] (Sum.inr "records") (.int re)))) p = some (.dK [(.inr "lengths", .ref D), (.inr "size", .int sz), (.inr "fanout", .int fo), (.inr "records", .int re)]) := upd_same
    have d8 : (upd K2 p (.dK (putK [(.inr "lengths", .ref D), (.inr "size", .int sz), (.inr "fanout", .int fo)] (Sum.inr "records") (.int re)))) D = some (.lst (ls.map V.int)) := by rw [upd_ne nDp]; exact u2 _ _ d7
    generalize (upd K2 p (.dK (putK [(.inr "lengths", .ref D), (.inr "size", .int sz), (.inr "fanout", .int fo)] (Sum.inr "records") (.int re)))) = H8 at s8 g8 e8 d8 ⊢
    walk_at "ss"
    refine r_ixL (SqL.of g8) (G.at_ (by decide) (by decide)) ?_
    walk_at "ss"
    refine r_newS fun t3 K3 ht3 u3 k3 => ?_
    walk_at "ss"
    refine r_ixL (SqL.of (u3 _ _ g8)) (G.at_ (by decide) (by decide)) ?_
    walk_at "ss"
    obtain ⟨v3, hv3, a3⟩ := two_at (a := 10) (b := 40) (z := ds.getD (Int.toNat 10) 0 % 2) (emod_lt (by decide)).1 (emod_lt (by decide)).2
    refine r_ixL (SqL.of k3) a3 ?_
    have p3 : 0 < v3 := by omega
    have b3 := @emod_lt (ds.getD (Int.toNat 7) 0) v3 p3
    walk_at "ss"
    refine r_dpS (u3 _ _ e8) (by show 4 < 100000; decide) ?_
    generalize hev : 1 + ds.getD (Int.toNat 7) 0 % v3 = ev at *
    have s9 : Same H (upd K3 p (.dK (putK [(.inr "lengths", .ref D), (.inr "size", .int sz), (.inr "fanout", .int fo), (.inr "records", .int re)] (Sum.inr "every") (.int ev)))) := fun b o e => by rw [upd_ne (ne_of_none e hp0)]; exact u3 _ _ (s8 b o e)
    have g9 := s9 _ _ gl
    have e9 : (upd K3 p (.dK (putK [(.inr "lengths", .ref D), (.inr "size", .int sz), (.inr "fanout", .int fo), (.inr "records", .int re)] (Sum.inr "every") (.int ev)))) p = some (.dK [(.inr "lengths", .ref D), (.inr "size", .int sz), (.inr "fanout", .int fo), (.inr "records", .int re), (.inr "every", .int ev)]) := upd_same
    have d9 : (upd K3 p (.dK (putK [(.inr "lengths", .ref D), (.inr "size", .int sz), (.inr "fanout", .int fo), (.inr "records", .int re)] (Sum.inr "every") (.int ev)))) D = some (.lst (ls.map V.int)) := by rw [upd_ne nDp]; exact u3 _ _ d8
    generalize (upd K3 p (.dK (putK [(.inr "lengths", .ref D), (.inr "size", .int sz), (.inr "fanout", .int fo), (.inr "records", .int re)] (Sum.inr "every") (.int ev)))) = H9 at s9 g9 e9 d9 ⊢
    walk_at "ss"
    refine r_ixL (SqL.of g9) (G.at_ (by decide) (by decide)) ?_
    walk_at "ss"
    refine r_newS fun t4 K4 ht4 u4 k4 => ?_
    walk_at "ss"
    refine r_ixL (SqL.of (u4 _ _ g9)) (G.at_ (by decide) (by decide)) ?_
    walk_at "ss"
    obtain ⟨v4, hv4, a4⟩ := two_at (a := 3) (b := 100) (z := ds.getD (Int.toNat 11) 0 % 2) (emod_lt (by decide)).1 (emod_lt (by decide)).2
    refine r_ixL (SqL.of k4) a4 ?_
    have p4 : 0 < v4 := by omega
    have b4 := @emod_lt (ds.getD (Int.toNat 8) 0) v4 p4
    walk_at "ss"
    refine r_dpS (u4 _ _ e9) (by show 5 < 100000; decide) ?_
    generalize hke : 1 + ds.getD (Int.toNat 8) 0 % v4 = ke at *
    walk_at "ss"
    refine q p D ls sz fo re ev ke _ (fun b o e => by rw [upd_ne (ne_of_none e hp0)]; exact u4 _ _ (s9 b o e)) hp0 hD ⟨upd_same, by rw [upd_ne nDp]; exact u4 _ _ d9⟩ ⟨⟨by omega, by omega, hall, by omega⟩, by omega, by omega, by omega, by omega⟩ (by omega)
theorem ok__law_settings {P : Program} {w : World} {K : PySem.W.Frag} {mg : Str → Option Value} {base : Heap} {f : Addr} {fd : FuncData} (F : FunD K "_law_settings" "_law_settings" (defArgs s__law_settings) (defBody s__law_settings) (defScope s__law_settings) [] [] f fd) (mk_Settings : Kr.MkK P w K mg base CX0 4 "Settings" (He.ga K "Settings") ["self", "lengths", "size", "fanout", "records", "every", "keep"] 3 ["fanout", "records", "every", "keep"] (sp_Settings___init__ K)) : FnOk P w K mg base CX0 6 f fd ["parts"] (sp__law_settings K) := by
  refine F.ok sc__law_settings (fun vs H Q E h => by first | (obtain ⟨rfl, _⟩ := h; rfl) | (obtain ⟨_, rfl, _⟩ := h; rfl) | (obtain ⟨_, _, rfl, _⟩ := h; rfl) | (obtain ⟨_, _, _, rfl, _⟩ := h; rfl) | (obtain ⟨_, _, _, _, rfl, _⟩ := h; rfl) | (obtain ⟨_, _, _, _, _, rfl, _⟩ := h; rfl) | (obtain ⟨_, _, _, _, _, _, rfl, _⟩ := h; rfl) | (obtain ⟨_, _, _, _, _, _, _, rfl, _⟩ := h; rfl) | (obtain ⟨_, _, _, _, _, _, _, _, rfl, _⟩ := h; rfl) | (obtain ⟨_, _, _, _, _, _, _, _, _, rfl, _⟩ := h; rfl) | (obtain ⟨_, _, _, _, _, _, _, _, _, _, rfl, _⟩ := h; rfl) | (obtain ⟨_, _, _, _, _, _, _, _, _, _, _, rfl, _⟩ := h; rfl) | (obtain ⟨_, _, _, _, _, _, _, _, _, _, _, _, rfl, _⟩ := h; rfl) | (obtain ⟨_, _, _, _, _, _, _, _, _, _, _, _, _, rfl, _⟩ := h; rfl) | (obtain ⟨_, _, _, _, _, _, _, _, _, _, _, _, _, _, rfl, _⟩ := h; rfl) | (obtain ⟨_, _, _, _, _, _, _, _, _, _, _, _, _, _, _, rfl, _⟩ := h; rfl) | (obtain ⟨_, _, _, _, _, _, _, _, _, _, _, _, _, _, _, _, rfl, _⟩ := h; rfl) | (obtain ⟨_, _, _, _, _, _, _, _, _, _, _, _, _, _, _, _, _, rfl, _⟩ := h; rfl)) (fun cdv A outer s H vs Q E hr h => ?_)
  · have hu := hu_of hr
    obtain ⟨p, q, ls, sz, fo, re, ev, ke, rfl, P, ok, k⟩ := h
    have pd := P.d
    refine ⟨_, PSs.nox (pss_cons (ps_asg (pe_lc (own := [("word", 5)]) rfl sc__law_settings.nd (pi_list (pe_lst (pa_cons pe_str (pa_cons pe_str (pa_cons pe_str (pa_cons pe_str pa_nil)))))) (blkOk_by (own := [("word", 5)]) (N := N__law_settings) (sc := defScope s__law_settings) (by decide +kernel)) (fun _ _ _ _ _ => (pg_name (i := 5) sc__law_settings.nd rfl (.inl rfl))) (fun _ _ _ _ _ => pts_nil) (fun _ _ _ _ _ => (pe_dget hu (pv 0) (pv 5) (fun _ _ => rfl)))) (pg_lst rfl (pgs_cons (pg_name (i := 1) sc__law_settings.nd rfl (.inl rfl)) (pgs_cons (pg_name (i := 2) sc__law_settings.nd rfl (.inl rfl)) (pgs_cons (pg_name (i := 3) sc__law_settings.nd rfl (.inl rfl)) (pgs_cons (pg_name (i := 4) sc__law_settings.nd rfl (.inl rfl)) pgs_nil)))))) (pss_one (ps_ret (Kr.pe_mkE mk_Settings (hr.mono (by decide)) pass0 (pa_cons (pe_dget hu (pv 0) pe_str (fun _ _ => rfl)) (pa_cons (pe_dget hu (pv 0) pe_str (fun _ _ => rfl)) pa_nil)) (pk_cons (pv 1) (pk_cons (pv 2) (pk_cons (pv 3) (pk_cons (pv 4) pk_nil)))))))), ?_⟩
    rw [st__law_settings]
    walk_at "ss"
    refine r_newS fun L H1 hL s1 e1 => ?_
    have pd1 := s1 _ _ pd
    walk_at "ss"
    intro D hD
    refine lc_listS (xs := [.str "fanout", .str "records", .str "every", .str "keep"]) [some (.ref p), none, none, none, none, none] rfl (fun i H5 => H5 D = some (.lst ([V.int fo, V.int re, V.int ev, V.int ke].take i)) ∧ Same H1 H5) ⟨upd_same, same_new hD⟩ (fun i H5 _ hh => hh.2.seq (SqL.of e1)) ?_ ?_
    · rintro i x H5 hx ⟨h5, s5⟩
      have pd5 := s5 _ _ pd1
      have fin : ∀ (j : Nat) (v : V), j < 4 → [V.int fo, V.int re, V.int ev, V.int ke][j]? = some v → H5 D = some (.lst ([V.int fo, V.int re, V.int ev, V.int ke].take j)) → ∃ acc, H5 D = some (.lst acc) ∧ acc.length < sizeLine ∧ upd H5 D (.lst (acc ++ [v])) D = some (.lst ([V.int fo, V.int re, V.int ev, V.int ke].take (j + 1))) ∧ Same H1 (upd H5 D (.lst (acc ++ [v]))) := fun j v hj hv hd => by
        refine ⟨_, hd, by rw [List.length_take]; exact szl (by omega), ?_, fun b o e => ?_⟩
        · rw [upd_same, List.take_add_one, hv]
          rfl
        · rw [upd_ne (ne_of_none e hD)]
          exact s5 b o e
      rcases i with _ | _ | _ | _ | i
      · cases hx
        walk_at "ss"
        refine ⟨rfl, ?_⟩
        walk_at "ss"
        refine r_dgS pd5 pd_f ?_
        exact fin 0 _ (by decide) rfl h5
      · cases hx
        walk_at "ss"
        refine ⟨rfl, ?_⟩
        walk_at "ss"
        refine r_dgS pd5 pd_r ?_
        exact fin 1 _ (by decide) rfl h5
      · cases hx
        walk_at "ss"
        refine ⟨rfl, ?_⟩
        walk_at "ss"
        refine r_dgS pd5 pd_e ?_
        exact fin 2 _ (by decide) rfl h5
      · cases hx
        walk_at "ss"
        refine ⟨rfl, ?_⟩
        walk_at "ss"
        refine r_dgS pd5 pd_k ?_
        exact fin 3 _ (by decide) rfl h5
      · cases hx
    rintro H5 ⟨h5, s5⟩
    have h5' : H5 D = some (.lst [V.int fo, V.int re, V.int ev, V.int ke]) := h5
    have pd5 := s5 _ _ pd1
    walk_at "ss"
    refine r_gLst (SqL.of h5') rfl ?_
    walk_at "ss"
    refine r_dgS pd5 pd_l ?_
    walk_at "ss"
    refine r_dgS pd5 pd_s ?_
    walk_at "ss"
    have s15 := s1.trans s5
    refine ⟨rfl, rfl, fun x dx hx hdx ne => ?_⟩
    have s6 : Same H5 (upd (upd H5 dx (.own x)) x (.ins (He.ga K "Settings") dx [])) := (same_new hdx).trans (same_new (by rw [upd_ne ne.symm]; exact hx))
    refine ⟨x, dx, q, ls, sz, fo, re, ev, ke, rfl, upd_same, s6 _ _ (s15 _ _ P.l), ok, fun t H' s2 h1 h2 => ⟨rfl, ?_⟩⟩
    exact k x H' (fun b o e => s2 b o (ne_of_none (s15 b o e) hx) (s6 b o (s15 b o e))) (s15.free hx) ⟨dx, t, h1, h2⟩
theorem ok__law_moments {P : Program} {w : World} {K : PySem.W.Frag} {mg : Str → Option Value} {base : Heap} {f : Addr} {fd : FuncData} (F : FunD K "_law_moments" "_law_moments" (defArgs s__law_moments) (defBody s__law_moments) (defScope s__law_moments) [] [] f fd) (h_next_border : Kr.FnH P w K mg base CX0 6 "next_border" ["settings", "moment", "level"] (sp_next_border K)) (n_int : mg "int" = none) (n_min : mg "min" = none) (n_range : mg "range" = none) (n_sorted : mg "sorted" = none) : FnOk P w K mg base CX0 7 f fd ["settings", "digits"] (sp__law_moments K) := by
  refine F.ok sc__law_moments (fun vs H Q E h => by first | (obtain ⟨rfl, _⟩ := h; rfl) | (obtain ⟨_, rfl, _⟩ := h; rfl) | (obtain ⟨_, _, rfl, _⟩ := h; rfl) | (obtain ⟨_, _, _, rfl, _⟩ := h; rfl) | (obtain ⟨_, _, _, _, rfl, _⟩ := h; rfl) | (obtain ⟨_, _, _, _, _, rfl, _⟩ := h; rfl) | (obtain ⟨_, _, _, _, _, _, rfl, _⟩ := h; rfl) | (obtain ⟨_, _, _, _, _, _, _, rfl, _⟩ := h; rfl) | (obtain ⟨_, _, _, _, _, _, _, _, rfl, _⟩ := h; rfl) | (obtain ⟨_, _, _, _, _, _, _, _, _, rfl, _⟩ := h; rfl) | (obtain ⟨_, _, _, _, _, _, _, _, _, _, rfl, _⟩ := h; rfl) | (obtain ⟨_, _, _, _, _, _, _, _, _, _, _, rfl, _⟩ := h; rfl) | (obtain ⟨_, _, _, _, _, _, _, _, _, _, _, _, rfl, _⟩ := h; rfl) | (obtain ⟨_, _, _, _, _, _, _, _, _, _, _, _, _, rfl, _⟩ := h; rfl) | (obtain ⟨_, _, _, _, _, _, _, _, _, _, _, _, _, _, rfl, _⟩ := h; rfl) | (obtain ⟨_, _, _, _, _, _, _, _, _, _, _, _, _, _, _, rfl, _⟩ := h; rfl) | (obtain ⟨_, _, _, _, _, _, _, _, _, _, _, _, _, _, _, _, rfl, _⟩ := h; rfl) | (obtain ⟨_, _, _, _, _, _, _, _, _, _, _, _, _, _, _, _, _, rfl, _⟩ := h; rfl)) (fun cdv A outer s H vs Q E hr h => ?_)
  · have hu := hu_of hr
    obtain ⟨s1, d, ls, ds, sz, re, ev, ke, fo, rfl, S, ok, G, q⟩ := h
    have gl := G.l
    refine ⟨_, PSs.nox (pss_cons (ps_set (i := 2) sc__law_moments.nd rfl (.inl rfl) (pe_lst pa_nil)) (pss_cons (ps_for PassesOwn.never rfl (pi_range1 rfl n_range (pa_cons pe_int pa_nil)) (pg_name (i := 3) sc__law_moments.nd rfl (.inl rfl)) (pss_cons (ps_set (i := 4) sc__law_moments.nd rfl (.inl rfl) (pe_op op_add (pe_op op_mul (pe_ix ix_list (pv 1) (pe_op op_add pe_int (pv 3)) (fun _ _ => rfl)) (pe_ix ix_list (pe_lst (pa_cons (pe_op op_pow pe_int pe_int) (pa_cons (pe_op op_pow pe_int pe_int) (pa_cons (pe_op op_pow pe_int pe_int) (pa_cons (pe_op op_pow pe_int pe_int) pa_nil))))) (pe_op op_mod (pe_callTy (T := "int") Kr.c_int1 rfl n_int (by decide +kernel) (pa_cons (pe_ix ix_list (pv 1) (pe_op op_add pe_int (pv 3)) (fun _ _ => rfl)) pa_nil)) pe_int) (fun _ _ => rfl))) (pe_ix ix_list (pv 1) (pe_op op_add pe_int (pv 3)) (fun _ _ => rfl)))) (pss_cons (ps_set (i := 5) sc__law_moments.nd rfl (.inl rfl) (Kr.pe_cl h_next_border (hr.mono (by decide)) (pa_cons (pv 0) (pa_cons (pv 4) (pa_cons (pe_op op_mod (pe_callTy (T := "int") Kr.c_int1 rfl n_int (by decide +kernel) (pa_cons (pe_ix ix_list (pv 1) (pe_op op_add pe_int (pv 3)) (fun _ _ => rfl)) pa_nil)) pe_int) pa_nil))))) (pss_cons (ps_set (i := 6) sc__law_moments.nd rfl (.inl rfl) (pe_ifExp (pt_cmpR Kr.o_isN (pv 5) pe_non (nomark _)) (pv 4) (pe_op op_add (pe_ix ix_tup (pv 5) pe_int (fun _ _ => rfl)) (pe_op op_mod (pe_callTy (T := "int") Kr.c_int1 rfl n_int (by decide +kernel) (pa_cons (pe_ix ix_list (pv 1) (pe_op op_add pe_int (pv 3)) (fun _ _ => rfl)) pa_nil)) pe_int)))) (pss_one (ps_set (i := 2) sc__law_moments.nd rfl (.inl rfl) (pe_op Kr.op_catS (pv 2) (pe_lst (pa_cons (pv 4) (pa_cons (pe_callB (id := "min") (Kr.c_min2 rfl) rfl n_min (by decide +kernel) (pa_cons (pv 6) (pa_cons (pe_op op_sub (pe_op op_pow pe_int pe_int) pe_int) pa_nil))) pa_nil)))))))))) (pss_one (ps_ret (pe_callB (id := "sorted") cr_sortedI rfl n_sorted (by decide +kernel) (pa_cons (pv 2) pa_nil)))))), ?_⟩
    rw [st__law_moments]
    walk_at "ss"
    refine r_newS fun t H1 ht s1' e1 => ?_
    walk_at "ss"
    refine r_forR (fun i σ H' => ∃ (x3 x4 x5 x6 : Option V) (t : Addr) (ms : List Nat), σ = [some (.ref s1), some (.ref d), some (.ref t), x3, x4, x5, x6] ∧ Same H H' ∧ H' t = some (.lst (ms.map fun m : Nat => V.int (m : Nat))) ∧ ms.length = 2 * i ∧ ∀ m ∈ ms, m + 200 ≤ 10 ^ 30) ⟨_, _, _, _, t, [], rfl, s1', e1, rfl, by simp⟩ ?_ ?_
    · rintro i σ H2 hi ⟨x3, x4, x5, x6, t, ms, rfl, s2, e2, hl, hb⟩
      have hi4 : i < 4 := hi
      have G2 := G.same s2
      walk_at "ss"
      refine r_ixL (SqL.of G2.l) (G2.at_ (by omega) (by omega)) ?_
      have bd := G.bd ((12 : Int) + (0 + (i : Int))).toNat
      obtain ⟨D1, hD1⟩ := Int.eq_ofNat_of_zero_le bd.1
      rw [hD1] at bd ⊢
      walk_at "ss"
      refine r_newS fun l1 H3 hl1 s3 e3 => ?_
      have G3 := G2.same s3
      walk_at "ss"
      refine r_ixL (SqL.of G3.l) (G3.at_ (by omega) (by omega)) ?_
      walk_at "ss"
      obtain ⟨v, hv, av⟩ := four_at (a := 10 ^ Int.toNat 3) (b := 10 ^ Int.toNat 12) (c := 10 ^ Int.toNat 20) (d := 10 ^ Int.toNat 26) (z := ds.getD ((16 : Int) + (0 + (i : Int))).toNat 0 % 4) (emod_lt (by decide)).1 (emod_lt (by decide)).2
      refine r_ixL (SqL.of e3) av ?_
      have v26 : 0 ≤ v ∧ v ≤ 10 ^ 26 := by
        rcases hv with rfl | rfl | rfl | rfl <;> exact ⟨by decide +kernel, by decide +kernel⟩
      obtain ⟨w, rfl⟩ := Int.eq_ofNat_of_zero_le v26.1
      walk_at "ss"
      refine r_ixL (SqL.of G3.l) (G3.at_ (by omega) (by omega)) ?_
      have bd2 := G.bd ((20 : Int) + (0 + (i : Int))).toNat
      obtain ⟨D2, hD2⟩ := Int.eq_ofNat_of_zero_le bd2.1
      rw [hD2] at bd2 ⊢
      walk_at "ss"
      have bX : D1 * w ≤ 1009 * 10 ^ 26 := Nat.mul_le_mul (by omega) (by omega)
      rw [← Int.natCast_mul, ← Int.natCast_add]
      obtain ⟨X, hX⟩ : ∃ X, X = D1 * w + D2 := ⟨_, rfl⟩
      rw [← hX]
      have X30 : X + 200 ≤ 10 ^ 30 := by omega
      refine r_ixL (SqL.of G3.l) (G3.at_ (by omega) (by omega)) ?_
      walk_at "ss"
      have m60 := @emod_lt (ds.getD ((24 : Int) + (0 + (i : Int))).toNat 0) 60 (by decide)
      obtain ⟨Y, hY⟩ := Int.eq_ofNat_of_zero_le m60.1
      rw [hY] at m60 ⊢
      have S3 := S.same (s2.trans s3)
      refine ⟨s1, ls, sz, re, ev, ke, fo, X, Y, rfl, S3, ok, by omega, by omega, fun p hp => ⟨fun big H4 s4 => ?_, fun near t4 H4 s4 e4 => ?_⟩⟩
      walk_at "ss"
      refine ⟨rfl, ?_⟩
      rw [decide_eq_true rfl]
      have xx : 0 ≤ (X : Int) := by omega
      walk_at "ss"
      generalize hM : (if (10 : Int) ^ Int.toNat 30 - 200 < (X : Int) then (10 : Int) ^ Int.toNat 30 - 200 else (X : Int)) = mm
      rotate_left
      walk_at "ss"
      refine ⟨rfl, ?_⟩
      rw [show decide (V.ref t4 = V.non) = false from decide_eq_false (by intro z; cases z)]
      have G4 := G3.same s4
      walk_at "ss"
      refine r_ixL (SqL.of G4.l) (G4.at_ (by omega) (by omega)) ?_
      have m9 := @emod_lt (ds.getD ((28 : Int) + (0 + (i : Int))).toNat 0) 9 (by decide)
      have xx : 0 ≤ ((Pk.st ls sz p : Nat) : Int) + ds.getD ((28 : Int) + (0 + (i : Int))).toNat 0 % 9 := by omega
      walk_at "ss"
      generalize hM : (if (10 : Int) ^ Int.toNat 30 - 200 < ((Pk.st ls sz p : Nat) : Int) + ds.getD ((28 : Int) + (0 + (i : Int))).toNat 0 % 9 then (10 : Int) ^ Int.toNat 30 - 200 else ((Pk.st ls sz p : Nat) : Int) + ds.getD ((28 : Int) + (0 + (i : Int))).toNat 0 % 9) = mm
      rotate_left
      all_goals
        have e30 : (10 : Int) ^ Int.toNat 30 = 10 ^ 30 := rfl
        have bM : 0 ≤ mm ∧ mm + 200 ≤ 10 ^ 30 := by
          rw [← hM]
          split <;> omega
        refine r_newS fun l5 H5 hl5 s5 e5 => ?_
        have e45 := s5 _ _ (s4 _ _ (s3 _ _ e2))
        refine r_catS (SqL.of e45) (SqL.of e5) (by rw [List.length_map, hl]; show _ + 2 ≤ _; omega) ?_
        refine r_newS fun l6 H6 hl6 s6 e6 => ?_
        walk_at "ss"
        obtain ⟨M, rfl⟩ := Int.eq_ofNat_of_zero_le bM.1
        refine ⟨_, _, _, _, l6, ms ++ [X, M], rfl, s2.trans (s3.trans (s4.trans (s5.trans s6))), ?_, by rw [List.length_append, hl]; show _ + 2 = _; omega, fun m hm => ?_⟩
        · rw [e6, List.map_append]
          rfl
        · rcases List.mem_append.mp hm with hm | hm
          · exact hb m hm
          · simp only [List.mem_cons, List.not_mem_nil, or_false] at hm
            rcases hm with rfl | rfl
            · exact X30
            · omega
    · rintro σ H2 ⟨x3, x4, x5, x6, t, ms, rfl, s2, e2, hl, hb⟩
      walk_at "ss"
      have hl8 : ms.length = 8 := hl
      have e2' : H2 t = some (.lst ((ms.map fun m : Nat => (m : Int)).map V.int)) := by
        rw [e2, List.map_map]
        rfl
      refine ⟨t, _, rfl, SqL.of e2', fun ns' p pm srt hp => ?_⟩
      have hall : ∀ n ∈ ns', ∃ m : Nat, m ∈ ms ∧ n = (m : Int) := fun n hn => by
        obtain ⟨m, hm, rfl⟩ := List.mem_map.mp (pm.mem_iff.mp hn)
        exact ⟨m, hm, rfl⟩
      have back : (ns'.map Int.toNat).map (fun m : Nat => V.int (m : Nat)) = ns'.map V.int := by
        rw [List.map_map]
        refine List.map_congr_left fun n hn => ?_
        obtain ⟨m, _, rfl⟩ := hall n hn
        rfl
      refine q p (ns'.map Int.toNat) _ (s2.trans (same_new hp)) (by rw [upd_same, back]) (by rw [List.length_map, pm.length_eq, List.length_map, hl8]) ?_ fun m hm => ?_
      · refine List.Pairwise.map _ (fun x y h => ?_) srt
        omega
      · obtain ⟨n, hn, rfl⟩ := List.mem_map.mp hm
        obtain ⟨m', hm', rfl⟩ := hall n hn
        exact hb m' hm'
theorem ok__law_near_right {P : Program} {w : World} {K : PySem.W.Frag} {mg : Str → Option Value} {base : Heap} {f : Addr} {fd : FuncData} (F : FunD K "_law_near_right" "_law_near_right" (defArgs s__law_near_right) (defBody s__law_near_right) (defScope s__law_near_right) [] [] f fd) (h_greatest_height : Kr.FnH P w K mg base CX0 7 "greatest_height" ["settings", "first", "last"] (sp_greatest_height K)) (h_height_count : Kr.FnH P w K mg base CX0 6 "height_count" ["settings", "least", "first", "last"] (sp_height_count K)) (h_height_sum : Kr.FnH P w K mg base CX0 7 "height_sum" ["settings", "first", "last"] (sp_height_sum K)) (h_next_height : Kr.FnH P w K mg base CX0 7 "next_height" ["settings", "moment", "least"] (sp_next_height K)) (h_tree_height : Kr.FnH P w K mg base CX0 6 "tree_height" ["settings", "moment"] (sp_tree_height K)) (n_len : mg "len" = none) (n_max : mg "max" = none) (n_range : mg "range" = none) (n_set : mg "set" = none) (n_sorted : mg "sorted" = none) (n_sum : mg "sum" = none) : FnOk P w K mg base CX0 8 f fd ["settings", "moment"] (sp__law_near_right K) := by
  refine F.ok sc__law_near_right (fun vs H Q E h => by first | (obtain ⟨rfl, _⟩ := h; rfl) | (obtain ⟨_, rfl, _⟩ := h; rfl) | (obtain ⟨_, _, rfl, _⟩ := h; rfl) | (obtain ⟨_, _, _, rfl, _⟩ := h; rfl) | (obtain ⟨_, _, _, _, rfl, _⟩ := h; rfl) | (obtain ⟨_, _, _, _, _, rfl, _⟩ := h; rfl) | (obtain ⟨_, _, _, _, _, _, rfl, _⟩ := h; rfl) | (obtain ⟨_, _, _, _, _, _, _, rfl, _⟩ := h; rfl) | (obtain ⟨_, _, _, _, _, _, _, _, rfl, _⟩ := h; rfl) | (obtain ⟨_, _, _, _, _, _, _, _, _, rfl, _⟩ := h; rfl) | (obtain ⟨_, _, _, _, _, _, _, _, _, _, rfl, _⟩ := h; rfl) | (obtain ⟨_, _, _, _, _, _, _, _, _, _, _, rfl, _⟩ := h; rfl) | (obtain ⟨_, _, _, _, _, _, _, _, _, _, _, _, rfl, _⟩ := h; rfl) | (obtain ⟨_, _, _, _, _, _, _, _, _, _, _, _, _, rfl, _⟩ := h; rfl) | (obtain ⟨_, _, _, _, _, _, _, _, _, _, _, _, _, _, rfl, _⟩ := h; rfl) | (obtain ⟨_, _, _, _, _, _, _, _, _, _, _, _, _, _, _, rfl, _⟩ := h; rfl) | (obtain ⟨_, _, _, _, _, _, _, _, _, _, _, _, _, _, _, _, rfl, _⟩ := h; rfl) | (obtain ⟨_, _, _, _, _, _, _, _, _, _, _, _, _, _, _, _, _, rfl, _⟩ := h; rfl)) (fun cdv A outer s H vs Q E hr h => ?_)
  · have hu := hu_of hr
    obtain ⟨s1, ls, sz, re, ev, ke, fo, m, rfl, S, ok, hm, q⟩ := h
    have o := ok.toLensOk.pk
    obtain ⟨k1, k2⟩ := ok.ke
    obtain ⟨f1, f2⟩ := ok.fo
    have f2' : 2 ≤ fo := by omega
    refine ⟨_, PSs.nox (pss_cons (ps_set (i := 2) sc__law_near_right.nd rfl (.inr rfl) (pe_lc (own := [("k", 6)]) rfl sc__law_near_right.nd (pi_range1 rfl n_range (pa_cons pe_int pa_nil)) (blkOk_by (own := [("k", 6)]) (N := N__law_near_right) (sc := defScope s__law_near_right) (by decide +kernel)) (fun _ _ _ _ _ => (pg_name (i := 6) sc__law_near_right.nd rfl (.inl rfl))) (fun _ _ _ _ _ => pts_nil) (fun _ _ _ _ _ => (Kr.pe_cl h_tree_height (hr.mono (by decide)) (pa_cons (pv 0) (pa_cons (pe_op op_add (pv 1) (pv 6)) pa_nil)))))) (pss_cons (ps_if (pt_cmpR op_ne (Kr.pe_cl h_height_sum (hr.mono (by decide)) (pa_cons (pv 0) (pa_cons (pv 1) (pa_cons (pe_op op_add (pv 1) pe_int) pa_nil)))) (pe_callB (id := "sum") (cr_sum rfl) rfl n_sum (by decide +kernel) (pa_cons (pv 2) pa_nil)) (nomark _)) (pss_one (ps_ret pe_bl)) pss_nil) (pss_cons (ps_if (pt_cmpR (op_neD hr.units) (Kr.pe_cl h_greatest_height (hr.mono (by decide)) (pa_cons (pv 0) (pa_cons (pv 1) (pa_cons (pe_op op_add (pv 1) pe_int) pa_nil)))) (pe_tup (pa_cons (pe_callB (id := "max") (cr_max rfl) rfl n_max (by decide +kernel) (pa_cons (pv 2) pa_nil)) (pa_cons (pe_op op_add (pv 1) (pe_bm PySem.F.plainAttrs_list PySem.F.slot_list_index PySem.F.type_list_index mt_index (pv 2) (pa_cons (pe_callB (id := "max") (cr_max rfl) rfl n_max (by decide +kernel) (pa_cons (pv 2) pa_nil)) pa_nil))) pa_nil))) (nomark _)) (pss_one (ps_ret pe_bl)) pss_nil) (pss_cons (ps_for PassesOwn.never rfl (pi_list (pe_lc (own := [("one", 7)]) rfl sc__law_near_right.nd (pi_list (pe_callB (id := "sorted") (KrS.cr_srtS rfl) rfl n_sorted (by decide +kernel) (pa_cons (pe_callTy (T := "set") (KrS.cr_setL rfl) rfl n_set (by decide +kernel) (pa_cons (pe_op Kr.op_catS (pv 2) (pe_lst (pa_cons pe_int (pa_cons pe_int (pa_cons (pe_op op_add (pe_callB (id := "max") (cr_max rfl) rfl n_max (by decide +kernel) (pa_cons (pv 2) pa_nil)) pe_int) pa_nil))))) pa_nil)) pa_nil))) (blkOk_by (own := [("one", 7)]) (N := N__law_near_right) (sc := defScope s__law_near_right) (by decide +kernel)) (fun _ _ _ _ _ => (pg_name (i := 7) sc__law_near_right.nd rfl (.inl rfl))) (fun _ _ _ _ _ => (pts_one (pt_cmpR op_gt (pv 7) pe_int (nomark _)))) (fun _ _ _ _ _ => (pv 7)))) (pg_name (i := 3) sc__law_near_right.nd rfl (.inr rfl)) (pss_cons (ps_setLc (i := 4) (own := [("k", 6)]) rfl sc__law_near_right.nd rfl rfl (sw_true rfl rfl rfl (by decide +kernel)) (pi_range1 rfl n_range (pa_cons pe_int pa_nil)) (blkOk_by (own := [("k", 6)]) (N := N__law_near_right) (sc := defScope s__law_near_right) (by decide +kernel)) (fun _ _ _ _ _ => (pg_name (i := 6) sc__law_near_right.nd rfl (.inl rfl))) (fun _ _ _ _ _ => (pts_one (pt_cmpR op_ge (pe_ix (Kr.ix_listK (K := K) rfl) (pv 2) (pv 6) (fun _ _ => rfl)) (pv 3) (nomark _)))) (fun _ _ _ _ _ => (pv 6))) (pss_cons (ps_if (pt_cmpR op_ne (Kr.pe_cl h_height_count (hr.mono (by decide)) (pa_cons (pv 0) (pa_cons (pv 3) (pa_cons (pv 1) (pa_cons (pe_op op_add (pv 1) pe_int) pa_nil))))) (pe_callB (id := "len") Kr.c_len rfl n_len (by decide +kernel) (pa_cons (pv 4) pa_nil)) (nomark _)) (pss_one (ps_ret pe_bl)) pss_nil) (pss_cons (ps_set (i := 5) sc__law_near_right.nd rfl (.inl rfl) (Kr.pe_cl h_next_height (hr.mono (by decide)) (pa_cons (pv 0) (pa_cons (pv 1) (pa_cons (pv 3) pa_nil))))) (pss_cons (ps_if (PW.pt (pw_or (PW.pt (pw_and (pt_cmpR (op_neD hr.units) (pv 4) (pe_lst pa_nil) (nomark _)) (pw_and1 (pt_cmpR op_ne (pv 5) (pe_op op_add (pv 1) (pe_ix ix_list (pv 4) pe_int (fun _ _ => rfl))) (nomark _))))) (pw_or1 (PW.pt (pw_and (pt_cmpR (op_eqD hr.units) (pv 4) (pe_lst pa_nil) (nomark _)) (pw_and (pt_cmpR Kr.o_notN (pv 5) pe_non (nomark _)) (pw_and1 (pt_cmpR op_lt (pv 5) (pe_op op_add (pv 1) pe_int) (nomark _))))))))) (pss_one (ps_ret pe_bl)) pss_nil) (pss_cons (ps_if (PW.pt (pw_and (pt_cmpR Kr.o_notN (pv 5) pe_non (nomark _)) (pw_and1 (pt_cmpR op_lt (Kr.pe_cl h_tree_height (hr.mono (by decide)) (pa_cons (pv 0) (pa_cons (pv 5) pa_nil))) (pv 3) (nomark _))))) (pss_one (ps_ret pe_bl)) pss_nil) (pss_one (ps_if (PW.pt (pw_and (pt_cmpR Kr.o_notN (pv 5) pe_non (nomark _)) (pw_and (pt_cmpR op_gt (pv 5) (pv 1) (nomark _)) (pw_and1 (pt_cmpR op_ge (Kr.pe_cl h_tree_height (hr.mono (by decide)) (pa_cons (pv 0) (pa_cons (pe_op op_sub (pv 5) pe_int) pa_nil))) (pv 3) (nomark _)))))) (pss_one (ps_ret pe_bl)) pss_nil)))))))) (pss_one (ps_ret pe_bl)))))), ?_⟩
    rw [st__law_near_right]
    walk_at "ss"
    intro D hD
    have n40 : (40 : Int).toNat = 40 := rfl
    rw [n40]
    refine lc_rangeS [some (.ref s1), some (.int m), none, none, none, none, none, none] rfl (fun j H5 => H5 D = some (.lst ((nsH ls sz ke fo m (m + j)).map V.int)) ∧ Same H H5) ⟨by rw [upd_same]; unfold nsH; rw [Nat.add_zero, Nat.sub_self]; rfl, same_new hD⟩ ?_ ?_
    · rintro j H5 hj ⟨h5, s5⟩
      walk_at "ss"
      refine ⟨rfl, ?_⟩
      walk_at "ss"
      rw [Int.zero_add, ← Int.natCast_add]
      refine height_one ⟨s1, ls, sz, re, ev, ke, fo, m + j, rfl, S.same s5, ok, by omega, fun H6 s6 => ?_⟩
      refine ⟨_, s6 _ _ h5, by rw [List.length_map, nsH_len]; exact szl (by omega), ?_, fun b' o e => ?_⟩
      · rw [upd_same]
        unfold nsH
        rw [show m + (j + 1) - m = j + 1 by omega, List.range_succ, List.map_append, List.map_append, show m + j - m = j by omega]
        rfl
      · rw [upd_ne (ne_of_none e hD)]
        exact s6 _ _ (s5 b' o e)
    rintro H5 ⟨h5, s5⟩
    walk_at "ss"
    rw [show (m : Int) + 40 = ((m + 40 : Nat) : Int) by omega]
    refine ⟨s1, ls, sz, re, ev, ke, fo, m, m + 40, rfl, S.same s5, ok, by omega, by omega, fun H6 s6 => ?_⟩
    have h6 := s6 _ _ h5
    walk_at "ss"
    rw [nsH_sum (by omega), decide_eq_true rfl]
    walk_at "ss"
    rw [show (m : Int) + 40 = ((m + 40 : Nat) : Int) by omega]
    refine ⟨s1, ls, sz, re, ev, ke, fo, m, m + 40, rfl, S.same (s5.trans s6), ok, by omega, by omega, fun e => absurd e (by omega), fun _ n t6 H7 s7 an nb up fst e7 => ?_⟩
    have h7 := s7 _ _ h6
    have l40 : (nsH ls sz ke fo m (m + 40)).length = 40 := by rw [nsH_len]; omega
    walk_at "ss"
    refine r_max (SqL.of h7) (by omega) fun mx hmx hle => ?_
    obtain ⟨g1, g2, g3⟩ := gh_same (by omega) hmx hle an nb up fst
    walk_at "ss"
    refine r_max (SqL.of h7) (by omega) fun mx2 hmx2 hle2 => ?_
    have em : mx2 = mx := Int.le_antisymm (hle _ hmx2) (hle2 _ hmx)
    subst em
    walk_at "ss"
    refine KrH.r_indexI (SqL.of h7) g2 g3 ?_
    walk_at "ss"
    refine r_newS fun du H8 hdu s8 e8 => ?_
    refine r_neTT (is := [((htM ls sz ke fo n : Nat) : Int), (n : Int)]) (js := [mx2, (m : Int) + ((n - m : Nat) : Int)]) (SqT.of (s8 _ _ e7)) (SqT.of e8) ?_
    rw [decide_eq_true (show [((htM ls sz ke fo n : Nat) : Int), (n : Int)] = [mx2, (m : Int) + ((n - m : Nat) : Int)] by rw [g1, show (m : Int) + ((n - m : Nat) : Int) = (n : Int) by omega])]
    have h8 := s8 _ _ h7
    walk_at "ss"
    refine r_max (SqL.of h8) (by omega) fun mx3 hmx3 hle3 => ?_
    have em : mx3 = mx2 := Int.le_antisymm (hle2 _ hmx3) (hle3 _ hmx2)
    subst em
    have mx100 : mx3 ≤ 100 := by
      have := htM_le100 (ls := ls) (sz := sz) (ke := ke) o k1 f2' (M := n) (by omega)
      omega
    walk_at "ss"
    refine r_newS fun l9 H10 hl9 s9 e9 => ?_
    refine r_catS (SqL.of (s9 _ _ h8)) (SqL.of e9) (by rw [List.length_map, l40]; show 40 + 3 ≤ _; omega) ?_
    refine r_newS fun l10 H11 hl10 s10 e10 => ?_
    have e10 : H11 l10 = some (.lst ((nsH ls sz ke fo m (m + 40) ++ [1, 2, mx3 + 1]).map V.int)) := by
      rw [e10, List.map_append]
      rfl
    walk_at "ss"
    refine KrS.r_setL (SqL.of e10) (by rw [List.length_append, l40]; show 40 + 3 ≤ 4000; omega) fun sx cc' H12 hsx s12 e12 => ?_
    walk_at "ss"
    refine KrS.r_srtS e12 fun ns' sl H13 q1 q2 hsl s13 e13 => ?_
    have bnd : ∀ k ∈ ns', k ≤ 101 := fun k hk => by
      have := of_decide_eq_true ((q2 k).mp hk)
      rcases List.mem_append.mp this with y | y
      · have := hle3 k y
        omega
      · simp only [List.mem_cons, List.not_mem_nil, or_false] at y
        omega
    walk_at "ss"
    intro D2 hD2
    refine lc_listS (xs := ns'.map V.int) [some (.ref s1), some (.int m), some (.ref D), none, none, none, none, none] rfl (fun j H5 => (∃ ys : List Int, H5 D2 = some (.lst (ys.map V.int)) ∧ ys.length ≤ j ∧ ∀ y ∈ ys, 1 ≤ y ∧ y ≤ 101) ∧ Same H13 H5) ⟨⟨[], upd_same, by simp, by simp⟩, same_new hD2⟩ (fun j H5 _ hh => hh.2.seq (SqL.of e13)) ?_ ?_
    · rintro j x G5 hx ⟨⟨ys, h5, hly, hall⟩, s5⟩
      have hj := (List.getElem?_eq_some_iff.mp hx).1
      rw [List.length_map] at hj
      have nl : ns'.length ≤ 1000 := by
        have := srt_len (hi := 101) ns' 0 q1 (fun k hk => ⟨by
          have := of_decide_eq_true ((q2 k).mp hk)
          rcases List.mem_append.mp this with y | y
          · obtain ⟨k', _, _, e⟩ := nsH_mem y
            omega
          · simp only [List.mem_cons, List.not_mem_nil, or_false] at y
            omega, bnd k hk⟩)
        omega
      obtain ⟨y, hy, rfl⟩ : ∃ y, y ∈ ns' ∧ x = V.int y := by
        obtain ⟨y, h1, h2⟩ := List.mem_map.mp (List.mem_of_getElem? hx)
        exact ⟨y, h1, h2.symm⟩
      have yb := bnd y hy
      walk_at "ss"
      refine ⟨rfl, ?_⟩
      walk_at "ss"
      refine r_dec (fun e => ?_) fun e => ?_
      · walk_at "ss"
        refine ⟨_, h5, by rw [List.length_map]; exact szl (by omega), ⟨ys ++ [y], by rw [upd_same, List.map_append]; rfl, by rw [List.length_append]; show _ + 1 ≤ _; omega, fun z hz => ?_⟩, fun b' o e => ?_⟩
        · rcases List.mem_append.mp hz with hz | hz
          · exact hall z hz
          · rw [List.mem_singleton] at hz
            omega
        · rw [upd_ne (ne_of_none e hD2)]
          exact s5 b' o e
      · exact ⟨⟨ys, h5, by omega, hall⟩, s5⟩
    rintro G5 ⟨⟨ys, h5', hly, hall⟩, s5'⟩
    have s0G : Same H G5 := s5.trans (s6.trans (s7.trans (s8.trans (s9.trans (s10.trans (s12.trans (s13.trans s5')))))))
    have eD : G5 D = some (.lst ((nsH ls sz ke fo m (m + 40)).map V.int)) := s5' _ _ (s13 _ _ (s12 _ _ (s10 _ _ (s9 _ _ h8))))
    walk_at "ss"
    refine r_forL (xs := ys.map V.int) (fun i σ H' => ∃ x3 x4 x5 : Option V, σ = [some (.ref s1), some (.int m), some (.ref D), x3, x4, x5, none, none] ∧ Same G5 H') ⟨_, _, _, rfl, fun _ _ e => e⟩ (fun i σ H' hi ⟨_, _, _, _, s14⟩ => SqL.of (s14 _ _ h5')) ?_ ?_
    rotate_left
    · rintro σ H14 ⟨x3, x4, x5, rfl, s14⟩
      walk_at "ss"
      exact q _ (s0G.trans s14)
    rintro i x σ H14 hx ⟨x3, x4, x5, rfl, s14⟩
    obtain ⟨y, hy, rfl⟩ : ∃ y, y ∈ ys ∧ x = V.int y := by
      obtain ⟨y, h1, h2⟩ := List.mem_map.mp (List.mem_of_getElem? hx)
      exact ⟨y, h1, h2.symm⟩
    obtain ⟨yb1, yb2⟩ := hall y hy
    obtain ⟨l, rfl⟩ : ∃ l : Nat, y = ((l + 1 : Nat) : Int) := ⟨(y - 1).toNat, by omega⟩
    have eD14 := s14 _ _ eD
    have s0X := s0G.trans s14
    walk_at "ss"
    rw [n40]
    intro D3 hD3
    obtain ⟨f, hf⟩ : ∃ f : Nat → Bool, f = fun k => decide (l < htM ls sz ke fo (m + k)) := ⟨_, rfl⟩
    refine lc_rangeS [some (.ref s1), some (.int m), some (.ref D), some (.int (l + 1 : Nat)), x4, x5, none, none] rfl (fun j H6 => H6 D3 = some (.lst ((latL f 0 j).map V.int)) ∧ Same H14 H6) ⟨upd_same, same_new hD3⟩ ?_ ?_
    · rintro j G6 hj ⟨g6, t6⟩
      have ll := latL_len f 0 j
      have eg := nsH_get (ls := ls) (sz := sz) (ke := ke) (fo := fo) (a := m) (b := m + 40) (k := j) (by omega)
      walk_at "ss"
      refine ⟨rfl, ?_⟩
      walk_at "ss"
      refine r_ixL (SqL.of (t6 _ _ eD14)) (at_of (j := j) (by omega) (by rw [List.getElem?_map, eg]; rfl)) ?_
      walk_at "ss"
      refine r_dec (fun e => ?_) fun e => ?_
      · walk_at "ss"
        refine ⟨_, g6, by rw [List.length_map]; exact szl (by omega), ?_, fun b' o e => ?_⟩
        · rw [upd_same, latL_succ, if_pos (by rw [hf, Nat.zero_add]; exact decide_eq_true (by omega)), List.map_append, Int.zero_add, Nat.zero_add]
          rfl
        · rw [upd_ne (ne_of_none e hD3)]
          exact t6 b' o e
      · refine ⟨?_, t6⟩
        rw [latL_succ, if_neg (by rw [hf, Nat.zero_add]; simp only [decide_eq_true_eq]; omega), List.append_nil]
        exact g6
    rintro G6 ⟨g6, t6⟩
    have lc := lat_cnt (ls := ls) (sz := sz) (ke := ke) (fo := fo) l m 40
    rw [← hf] at lc
    have s0Y := s0X.trans t6
    walk_at "ss"
    rw [show (m : Int) + 40 = ((m + 40 : Nat) : Int) by omega]
    refine ⟨s1, ls, sz, re, ev, ke, fo, l, m, m + 40, rfl, S.same s0Y, ok, by omega, by omega, by omega, fun G7 t7 => ?_⟩
    have g7 := t7 _ _ g6
    walk_at "ss"
    rw [List.length_map, lc, decide_eq_true rfl]
    walk_at "ss"
    refine ⟨s1, ls, sz, re, ev, ke, fo, m, l, rfl, S.same (s0Y.trans t7), ok, by omega, by omega, fun n' G8 t8 an' n30 hn' mn' => ?_, fun G8 t8 no => ?_⟩
    · have g8 := t8 _ _ g7
      walk_at "ss"
      refine r_newS fun z1 G9 hz1 t9 ez1 => ?_
      have g9 := t9 _ _ g8
      refine r_neLL (is := latL f 0 40) (js := []) (SqL.of g9) (SqL.of ez1) ?_
      have s0Z := s0Y.trans (t7.trans (t8.trans t9))
      by_cases n40' : n' < m + 40
      have er := latL_first (f := f) (a := 0) (n := n' - m) 40 (by omega) (by rw [hf, Nat.zero_add]; show decide (l < htM ls sz ke fo (m + (n' - m))) = true; rw [show m + (n' - m) = n' by omega]; exact decide_eq_true hn') (fun k hk => by rw [hf, Nat.zero_add]; exact decide_eq_false (mn' (m + k) (by omega) (by omega)))
      obtain ⟨r, er⟩ := er
      rw [er] at g9 ⊢
      have g9' : G9 D3 = some (.lst (V.int ((0 + (n' - m) : Nat) : Int) :: r.map V.int)) := g9
      rw [show (!decide ((((0 + (n' - m) : Nat) : Int) :: r) = [])) = true by simp]
      walk_at "ss"
      refine r_ixL (SqL.of g9') (at_of (j := 0) rfl rfl) ?_
      walk_at "ss"
      rw [decide_eq_true (show (n' : Int) = (m : Int) + ((0 + (n' - m) : Nat) : Int) by omega)]
      walk_at "ss"
      refine r_newS fun z2 G10 hz2 t10 ez2 => ?_
      refine r_eqLL (is := (((0 + (n' - m) : Nat) : Int) :: r)) (js := []) (SqL.of (t10 _ _ g9)) (SqL.of ez2) ?_
      rw [show (decide ((((0 + (n' - m) : Nat) : Int) :: r) = [])) = false by simp]
      have s0W := s0Z.trans t10
      walk_at "ss"
      rotate_left
      rw [latL_nil 40 (fun k hk => by rw [hf, Nat.zero_add]; exact decide_eq_false (mn' (m + k) (by omega) (by omega)))] at g9 ⊢
      rw [show (!decide (([] : List Int) = [])) = false from rfl]
      walk_at "ss"
      refine r_newS fun z2 G10 hz2 t10 ez2 => ?_
      refine r_eqLL (is := []) (js := []) (SqL.of (t10 _ _ g9)) (SqL.of ez2) ?_
      rw [show decide (([] : List Int) = []) = true from rfl]
      have s0W := s0Z.trans t10
      walk_at "ss"
      refine ⟨rfl, ?_⟩
      rw [show (!decide (V.int (n' : Nat) = V.non)) = true from rfl]
      walk_at "ss"
      rw [show (m : Int) + 40 = ((m + 40 : Nat) : Int) by omega, decide_eq_false (show ¬ (n' : Int) < ((m + 40 : Nat) : Int) by omega)]
      walk_at "ss"
      rotate_left
      all_goals
        refine ⟨rfl, ?_⟩
        rw [show (!decide (V.int (n' : Nat) = V.non)) = true from rfl]
        walk_at "ss"
        refine height_one ⟨s1, ls, sz, re, ev, ke, fo, n', rfl, S.same s0W, ok, n30, fun G11 t11 => ?_⟩
        walk_at "ss"
        rw [decide_eq_false (show ¬ ((htM ls sz ke fo n' : Nat) : Int) < ((l + 1 : Nat) : Int) by omega)]
        walk_at "ss"
        refine ⟨rfl, ?_⟩
        rw [show (!decide (V.int (n' : Nat) = V.non)) = true from rfl]
        walk_at "ss"
        have cont : ∀ G12, Same G11 G12 → Same G5 G12 := fun G12 t12 => s14.trans (t6.trans (t7.trans (t8.trans (t9.trans (t10.trans (t11.trans t12))))))
        refine r_dec (fun e => ?_) fun e => ?_
        · walk_at "ss"
          rw [show (n' : Int) - 1 = ((n' - 1 : Nat) : Int) by omega]
          refine height_one ⟨s1, ls, sz, re, ev, ke, fo, n' - 1, rfl, S.same (s0W.trans t11), ok, by omega, fun G12 t12 => ?_⟩
          walk_at "ss"
          have := mn' (n' - 1) (by omega) (by omega)
          rw [decide_eq_false (show ¬ ((l + 1 : Nat) : Int) ≤ ((htM ls sz ke fo (n' - 1) : Nat) : Int) by omega)]
          walk_at "ss"
          exact ⟨_, _, _, rfl, cont _ t12⟩
        · walk_at "ss"
          exact ⟨_, _, _, rfl, cont _ (fun _ _ e => e)⟩
    · have g8 := t8 _ _ g7
      walk_at "ss"
      refine r_newS fun z1 G9 hz1 t9 ez1 => ?_
      have g9 := t9 _ _ g8
      refine r_neLL (is := latL f 0 40) (js := []) (SqL.of g9) (SqL.of ez1) ?_
      have s0Z := s0Y.trans (t7.trans (t8.trans t9))
      rw [latL_nil 40 (fun k hk => by rw [hf, Nat.zero_add]; exact decide_eq_false (no (m + k) (by omega) (by omega)))] at g9 ⊢
      rw [show (!decide (([] : List Int) = [])) = false from rfl]
      walk_at "ss"
      refine r_newS fun z2 G10 hz2 t10 ez2 => ?_
      refine r_eqLL (is := []) (js := []) (SqL.of (t10 _ _ g9)) (SqL.of ez2) ?_
      rw [show decide (([] : List Int) = []) = true from rfl]
      walk_at "ss"
      refine ⟨rfl, ?_⟩
      rw [show (!decide (V.non = V.non)) = false from rfl]
      walk_at "ss"
      refine ⟨rfl, ?_⟩
      rw [show (!decide (V.non = V.non)) = false from rfl]
      walk_at "ss"
      refine ⟨rfl, ?_⟩
      rw [show (!decide (V.non = V.non)) = false from rfl]
      walk_at "ss"
      exact ⟨_, _, _, rfl, s14.trans (t6.trans (t7.trans (t8.trans (t9.trans t10))))⟩
theorem ok__law_stretch_right {P : Program} {w : World} {K : PySem.W.Frag} {mg : Str → Option Value} {base : Heap} {f : Addr} {fd : FuncData} (F : FunD K "_law_stretch_right" "_law_stretch_right" (defArgs s__law_stretch_right) (defBody s__law_stretch_right) (defScope s__law_stretch_right) [] [] f fd) (h_greatest_height : Kr.FnH P w K mg base CX0 7 "greatest_height" ["settings", "first", "last"] (sp_greatest_height K)) (h_height_count : Kr.FnH P w K mg base CX0 6 "height_count" ["settings", "least", "first", "last"] (sp_height_count K)) (h_height_sum : Kr.FnH P w K mg base CX0 7 "height_sum" ["settings", "first", "last"] (sp_height_sum K)) (h_tree_height : Kr.FnH P w K mg base CX0 6 "tree_height" ["settings", "moment"] (sp_tree_height K)) : FnOk P w K mg base CX0 8 f fd ["settings", "one", "other", "far"] (sp__law_stretch_right K) := by
  refine F.ok sc__law_stretch_right (fun vs H Q E h => by first | (obtain ⟨rfl, _⟩ := h; rfl) | (obtain ⟨_, rfl, _⟩ := h; rfl) | (obtain ⟨_, _, rfl, _⟩ := h; rfl) | (obtain ⟨_, _, _, rfl, _⟩ := h; rfl) | (obtain ⟨_, _, _, _, rfl, _⟩ := h; rfl) | (obtain ⟨_, _, _, _, _, rfl, _⟩ := h; rfl) | (obtain ⟨_, _, _, _, _, _, rfl, _⟩ := h; rfl) | (obtain ⟨_, _, _, _, _, _, _, rfl, _⟩ := h; rfl) | (obtain ⟨_, _, _, _, _, _, _, _, rfl, _⟩ := h; rfl) | (obtain ⟨_, _, _, _, _, _, _, _, _, rfl, _⟩ := h; rfl) | (obtain ⟨_, _, _, _, _, _, _, _, _, _, rfl, _⟩ := h; rfl) | (obtain ⟨_, _, _, _, _, _, _, _, _, _, _, rfl, _⟩ := h; rfl) | (obtain ⟨_, _, _, _, _, _, _, _, _, _, _, _, rfl, _⟩ := h; rfl) | (obtain ⟨_, _, _, _, _, _, _, _, _, _, _, _, _, rfl, _⟩ := h; rfl) | (obtain ⟨_, _, _, _, _, _, _, _, _, _, _, _, _, _, rfl, _⟩ := h; rfl) | (obtain ⟨_, _, _, _, _, _, _, _, _, _, _, _, _, _, _, rfl, _⟩ := h; rfl) | (obtain ⟨_, _, _, _, _, _, _, _, _, _, _, _, _, _, _, _, rfl, _⟩ := h; rfl) | (obtain ⟨_, _, _, _, _, _, _, _, _, _, _, _, _, _, _, _, _, rfl, _⟩ := h; rfl)) (fun cdv A outer s H vs Q E hr h => ?_)
  · have hu := hu_of hr
    obtain ⟨s1, ls, sz, re, ev, ke, fo, a, c, b, rfl, S, ok, ac, cb, hb, q⟩ := h
    have o := ok.toLensOk.pk
    obtain ⟨k1, k2⟩ := ok.ke
    obtain ⟨f1, f2⟩ := ok.fo
    have f2' : 2 ≤ fo := by omega
    have ab : a ≤ b := by omega
    refine ⟨_, PSs.nox (pss_cons (ps_if (pt_cmpR op_ne (Kr.pe_cl h_height_sum (hr.mono (by decide)) (pa_cons (pv 0) (pa_cons (pv 1) (pa_cons (pv 3) pa_nil)))) (pe_op op_add (Kr.pe_cl h_height_sum (hr.mono (by decide)) (pa_cons (pv 0) (pa_cons (pv 1) (pa_cons (pv 2) pa_nil)))) (Kr.pe_cl h_height_sum (hr.mono (by decide)) (pa_cons (pv 0) (pa_cons (pv 2) (pa_cons (pv 3) pa_nil))))) (nomark _)) (pss_one (ps_ret pe_bl)) pss_nil) (pss_cons (ps_par3 (i := 4) (j := 5) (l := 6) rfl sc__law_stretch_right.nd rfl rfl rfl (by decide) (by decide) (by decide) rfl rfl rfl (pa_cons pe_int (pa_cons (Kr.pe_cl h_greatest_height (hr.mono (by decide)) (pa_cons (pv 0) (pa_cons (pv 1) (pa_cons (pv 3) pa_nil)))) (pa_cons pe_int pa_nil))) (by rfl)) (pss_cons (ps_while PassesOwn.never (pt_cmpR op_gt (Kr.pe_cl h_height_count (hr.mono (by decide)) (pa_cons (pv 0) (pa_cons (pv 6) (pa_cons (pv 1) (pa_cons (pv 3) pa_nil))))) pe_int (nomark _)) (pss_cons (ps_set (i := 7) sc__law_stretch_right.nd rfl (.inl rfl) (Kr.pe_cl h_height_count (hr.mono (by decide)) (pa_cons (pv 0) (pa_cons (pv 6) (pa_cons (pv 1) (pa_cons (pv 3) pa_nil)))))) (pss_cons (ps_if (pt_cmpR op_ne (pv 7) (pe_op op_add (Kr.pe_cl h_height_count (hr.mono (by decide)) (pa_cons (pv 0) (pa_cons (pv 6) (pa_cons (pv 1) (pa_cons (pv 2) pa_nil))))) (Kr.pe_cl h_height_count (hr.mono (by decide)) (pa_cons (pv 0) (pa_cons (pv 6) (pa_cons (pv 2) (pa_cons (pv 3) pa_nil)))))) (nomark _)) (pss_one (ps_ret pe_bl)) pss_nil) (pss_one (ps_par (i := 4) (j := 6) rfl sc__law_stretch_right.nd rfl rfl (by decide) rfl rfl (pa_cons (pe_op op_add (pv 4) (pv 7)) (pa_cons (pe_op op_add (pv 6) pe_int) pa_nil)) (by rfl)))))) (pss_cons (ps_if (pt_cmpR op_eq (pv 1) (pv 3) (nomark _)) (pss_one (ps_ret (pe_and (pe_cmpR Kr.o_isN (pv 5) pe_non (nomark _)) (pe_one (pe_cmpR op_eq (pv 4) pe_int (nomark _)))))) pss_nil) (pss_cons (ps_if (PW.pt (pw_or (pt_cmpR op_ne (pe_ix ix_tup (pv 5) pe_int (fun _ _ => rfl)) (pe_op op_sub (pv 6) pe_int) (nomark _)) (pw_or (pt_not (pt_chain op_le op_lt (pv 1) (pe_ix ix_tup (pv 5) pe_int (fun _ _ => rfl)) (pv 3))) (pw_or1 (pt_cmpR op_ne (Kr.pe_cl h_tree_height (hr.mono (by decide)) (pa_cons (pv 0) (pa_cons (pe_ix ix_tup (pv 5) pe_int (fun _ _ => rfl)) pa_nil))) (pe_ix ix_tup (pv 5) pe_int (fun _ _ => rfl)) (nomark _)))))) (pss_one (ps_ret pe_bl)) pss_nil) (pss_one (ps_ret (pe_cmpR op_eq (pv 4) (Kr.pe_cl h_height_sum (hr.mono (by decide)) (pa_cons (pv 0) (pa_cons (pv 1) (pa_cons (pv 3) pa_nil)))) (nomark _))))))))), ?_⟩
    rw [st__law_stretch_right]
    walk_at "ss"
    refine ⟨s1, ls, sz, re, ev, ke, fo, a, b, rfl, S, ok, ab, hb, fun H1 s1' => ?_⟩
    walk_at "ss"
    refine ⟨s1, ls, sz, re, ev, ke, fo, a, c, rfl, S.same s1', ok, ac, by omega, fun H2 s2 => ?_⟩
    walk_at "ss"
    refine ⟨s1, ls, sz, re, ev, ke, fo, c, b, rfl, S.same (s1'.trans s2), ok, cb, hb, fun H3 s3 => ?_⟩
    have s03 := s1'.trans (s2.trans s3)
    walk_at "ss"
    rw [decide_eq_true (by omega)]
    walk_at "ss"
    obtain ⟨C, hC⟩ : ∃ C : Nat → Nat → Nat, C = fun l m => cntH ls sz ke fo l m := ⟨_, rfl⟩
    have cle := fun l => cnt_le (ls := ls) (sz := sz) (ke := ke) (fo := fo) l ab
    have sB := fun T (hT : 100 ≤ T) => sum_T (ls := ls) (sz := sz) (ke := ke) (fo := fo) (m := b) (T := T) (fun M hM => Nat.le_trans (htM_le100 o k1 f2' (by omega)) hT)
    have sA := fun T (hT : 100 ≤ T) => sum_T (ls := ls) (sz := sz) (ke := ke) (fo := fo) (m := a) (T := T) (fun M hM => Nat.le_trans (htM_le100 o k1 f2' (by omega)) hT)
    have body : ∀ (best : V) (H4 : Hp), Same H H4 → ((a = b ∧ best = .non) ∨ (a < b ∧ ∃ n t, best = .ref t ∧ a ≤ n ∧ n < b ∧ (∀ k, a ≤ k → k < b → htM ls sz ke fo k ≤ htM ls sz ke fo n) ∧ H4 t = some (.tup [.int (htM ls sz ke fo n : Nat), .int n]))) → True := fun _ _ _ _ => trivial
    clear body
    refine greatest_one ⟨s1, ls, sz, re, ev, ke, fo, a, b, rfl, S.same s03, ok, ab, hb, fun best H4 s4 hbest => ?_⟩
    have s04 := s03.trans s4
    walk_at "ss"
    refine r_while (fun mm σ H' => ∃ (l : Nat) (x7 : Option V), mm = 101 - l ∧ l ≤ 100 ∧ Same H4 H' ∧ (∀ i, i < l → cntH ls sz ke fo i a < cntH ls sz ke fo i b) ∧ σ = [some (.ref s1), some (.int a), some (.int c), some (.int b), some (.int (((Hm.S (fun i => cntH ls sz ke fo i b) l : Nat) : Int) - ((Hm.S (fun i => cntH ls sz ke fo i a) l : Nat) : Int))), some best, some (.int (l + 1 : Nat)), x7]) _ ⟨0, none, rfl, by omega, fun _ _ e => e, fun i h => absurd h (by omega), rfl⟩ ?_
    rintro mm σ H5 ⟨l, x7, rfl, hl, s5, pos, rfl⟩
    walk_at "ss"
    refine ⟨s1, ls, sz, re, ev, ke, fo, l, a, b, rfl, S.same (s04.trans s5), ok, by omega, ab, hb, fun H6 s6 => ?_⟩
    walk_at "ss"
    refine r_whD (fun hgt => ?_) fun hle => ?_
    · have l99 : l < 100 := by
        obtain ⟨k, ak, kb, y⟩ := cnt_some (ls := ls) (sz := sz) (ke := ke) (fo := fo) (l := l) ab (by omega)
        have := htM_le100 (ls := ls) (sz := sz) (ke := ke) o k1 f2' (M := k) (by omega)
        omega
      walk_at "ss"
      refine ⟨s1, ls, sz, re, ev, ke, fo, l, a, b, rfl, S.same (s04.trans (s5.trans s6)), ok, by omega, ab, hb, fun H7 s7 => ?_⟩
      walk_at "ss"
      refine ⟨s1, ls, sz, re, ev, ke, fo, l, a, c, rfl, S.same (s04.trans (s5.trans (s6.trans s7))), ok, by omega, ac, by omega, fun H8 s8 => ?_⟩
      walk_at "ss"
      refine ⟨s1, ls, sz, re, ev, ke, fo, l, c, b, rfl, S.same (s04.trans (s5.trans (s6.trans (s7.trans s8)))), ok, by omega, cb, hb, fun H9 s9 => ?_⟩
      walk_at "ss"
      rw [decide_eq_true (by omega)]
      walk_at "ss"
      refine ⟨_, ?_, l + 1, some (.int (((cntH ls sz ke fo l b : Nat) : Int) - ((cntH ls sz ke fo l a : Nat) : Int))), rfl, by omega, s5.trans (s6.trans (s7.trans (s8.trans s9))), fun i hi => ?_, ?_⟩
      · omega
      · rcases Nat.lt_or_ge i l with z | z
        · exact pos i z
        · rw [show i = l by omega]
          omega
      · have e1 : Hm.S (fun i => cntH ls sz ke fo i b) (l + 1) = Hm.S (fun i => cntH ls sz ke fo i b) l + cntH ls sz ke fo l b := rfl
        have e2 : Hm.S (fun i => cntH ls sz ke fo i a) (l + 1) = Hm.S (fun i => cntH ls sz ke fo i a) l + cntH ls sz ke fo l a := rfl
        rw [e1, e2]
        rw [show ((Hm.S (fun i => cntH ls sz ke fo i b) l + cntH ls sz ke fo l b : Nat) : Int) - ((Hm.S (fun i => cntH ls sz ke fo i a) l + cntH ls sz ke fo l a : Nat) : Int) = ((Hm.S (fun i => cntH ls sz ke fo i b) l : Nat) : Int) - ((Hm.S (fun i => cntH ls sz ke fo i a) l : Nat) : Int) + (((cntH ls sz ke fo l b : Nat) : Int) - ((cntH ls sz ke fo l a : Nat) : Int)) by omega]
        rfl
    · have none_at : ∀ k, a ≤ k → k < b → ¬ l < htM ls sz ke fo k := fun k ak kb => cnt_none ab (by omega) ak kb
      have tot : ((Hm.S (fun i => cntH ls sz ke fo i b) l : Nat) : Int) - ((Hm.S (fun i => cntH ls sz ke fo i a) l : Nat) : Int) = ((Hm.S (htM ls sz ke fo) b : Nat) : Int) - ((Hm.S (htM ls sz ke fo) a : Nat) : Int) := by
        rw [sB (l + 100) (by omega), sA (l + 100) (by omega), S_tail, S_tail, Hm.S_congr (g := fun t => cntH ls sz ke fo (l + t) b) (h := fun t => cntH ls sz ke fo (l + t) a) (fun t => cnt_same ab fun k ak kb y => none_at k ak kb (by omega))]
        omega
      rcases hbest with ⟨e, rfl⟩ | ⟨lt, n, t, rfl, an, nb, up, et⟩
      · have l0 : l = 0 := Classical.byContradiction fun z => by
          have := pos 0 (by omega)
          rw [e] at this
          omega
        subst l0
        walk_at "ss"
        rw [decide_eq_true (show (a : Int) = (b : Int) by omega)]
        walk_at "ss"
        refine ⟨rfl, ?_⟩
        rw [decide_eq_true rfl]
        walk_at "ss"
        have z0 : ((Hm.S (fun i => cntH ls sz ke fo i b) 0 : Nat) : Int) - ((Hm.S (fun i => cntH ls sz ke fo i a) 0 : Nat) : Int) = 0 := rfl
        rw [z0, decide_eq_true rfl]
        exact q H6 (s04.trans (s5.trans s6))
      · have hl : htM ls sz ke fo n = l := by
          have h1 := none_at n an nb
          by_cases z : l = 0
          · omega
          · obtain ⟨k, ak, kb, y⟩ := cnt_some (ls := ls) (sz := sz) (ke := ke) (fo := fo) (l := l - 1) ab (pos (l - 1) (by omega))
            have := up k ak kb
            omega
        have e6 := s6 _ _ (s5 _ _ et)
        walk_at "ss"
        rw [decide_eq_false (show ¬ (a : Int) = (b : Int) by omega)]
        walk_at "ss"
        rw [show ((htM ls sz ke fo n : Nat) : Int) = ((l + 1 : Nat) : Int) - 1 by omega, decide_eq_true rfl]
        walk_at "ss"
        rw [decide_eq_true (show (a : Int) ≤ (n : Int) by omega)]
        walk_at "ss"
        rw [decide_eq_true (show (n : Int) < (b : Int) by omega)]
        walk_at "ss"
        refine height_one ⟨s1, ls, sz, re, ev, ke, fo, n, rfl, S.same (s04.trans (s5.trans s6)), ok, by omega, fun H7 s7 => ?_⟩
        have e7 := s7 _ _ e6
        walk_at "ss"
        rw [decide_eq_true rfl]
        walk_at "ss"
        refine ⟨s1, ls, sz, re, ev, ke, fo, a, b, rfl, S.same (s04.trans (s5.trans (s6.trans s7))), ok, ab, hb, fun H8 s8 => ?_⟩
        walk_at "ss"
        rw [tot, decide_eq_true rfl]
        exact q H8 (s04.trans (s5.trans (s6.trans (s7.trans s8))))
theorem ok__law_end_right {P : Program} {w : World} {K : PySem.W.Frag} {mg : Str → Option Value} {base : Heap} {f : Addr} {fd : FuncData} (F : FunD K "_law_end_right" "_law_end_right" (defArgs s__law_end_right) (defBody s__law_end_right) (defScope s__law_end_right) [] [] f fd) (h_height_sum : Kr.FnH P w K mg base CX0 7 "height_sum" ["settings", "first", "last"] (sp_height_sum K)) (h_next_height : Kr.FnH P w K mg base CX0 7 "next_height" ["settings", "moment", "least"] (sp_next_height K)) (h_tree_height : Kr.FnH P w K mg base CX0 6 "tree_height" ["settings", "moment"] (sp_tree_height K)) (n_max : mg "max" = none) (n_range : mg "range" = none) (n_sum : mg "sum" = none) : FnOk P w K mg base CX0 8 f fd ["settings"] (sp__law_end_right K) := by
  refine F.ok sc__law_end_right (fun vs H Q E h => by first | (obtain ⟨rfl, _⟩ := h; rfl) | (obtain ⟨_, rfl, _⟩ := h; rfl) | (obtain ⟨_, _, rfl, _⟩ := h; rfl) | (obtain ⟨_, _, _, rfl, _⟩ := h; rfl) | (obtain ⟨_, _, _, _, rfl, _⟩ := h; rfl) | (obtain ⟨_, _, _, _, _, rfl, _⟩ := h; rfl) | (obtain ⟨_, _, _, _, _, _, rfl, _⟩ := h; rfl) | (obtain ⟨_, _, _, _, _, _, _, rfl, _⟩ := h; rfl) | (obtain ⟨_, _, _, _, _, _, _, _, rfl, _⟩ := h; rfl) | (obtain ⟨_, _, _, _, _, _, _, _, _, rfl, _⟩ := h; rfl) | (obtain ⟨_, _, _, _, _, _, _, _, _, _, rfl, _⟩ := h; rfl) | (obtain ⟨_, _, _, _, _, _, _, _, _, _, _, rfl, _⟩ := h; rfl) | (obtain ⟨_, _, _, _, _, _, _, _, _, _, _, _, rfl, _⟩ := h; rfl) | (obtain ⟨_, _, _, _, _, _, _, _, _, _, _, _, _, rfl, _⟩ := h; rfl) | (obtain ⟨_, _, _, _, _, _, _, _, _, _, _, _, _, _, rfl, _⟩ := h; rfl) | (obtain ⟨_, _, _, _, _, _, _, _, _, _, _, _, _, _, _, rfl, _⟩ := h; rfl) | (obtain ⟨_, _, _, _, _, _, _, _, _, _, _, _, _, _, _, _, rfl, _⟩ := h; rfl) | (obtain ⟨_, _, _, _, _, _, _, _, _, _, _, _, _, _, _, _, _, rfl, _⟩ := h; rfl)) (fun cdv A outer s H vs Q E hr h => ?_)
  · have hu := hu_of hr
    obtain ⟨s1, ls, sz, re, ev, ke, fo, rfl, S, ok, q⟩ := h
    have o := ok.toLensOk.pk
    obtain ⟨k1, k2⟩ := ok.ke
    obtain ⟨f1, f2⟩ := ok.fo
    have f2' : 2 ≤ fo := by omega
    refine ⟨_, PSs.nox (pss_cons (ps_set (i := 1) sc__law_end_right.nd rfl (.inr rfl) (pe_op op_sub (pe_op op_pow pe_int pe_int) pe_int)) (pss_cons (ps_set (i := 2) sc__law_end_right.nd rfl (.inr rfl) (pe_lc (own := [("k", 5)]) rfl sc__law_end_right.nd (pi_range1 rfl n_range (pa_cons pe_int pa_nil)) (blkOk_by (own := [("k", 5)]) (N := N__law_end_right) (sc := defScope s__law_end_right) (by decide +kernel)) (fun _ _ _ _ _ => (pg_name (i := 5) sc__law_end_right.nd rfl (.inl rfl))) (fun _ _ _ _ _ => pts_nil) (fun _ _ _ _ _ => (Kr.pe_cl h_tree_height (hr.mono (by decide)) (pa_cons (pv 0) (pa_cons (pe_op op_add (pv 1) (pv 5)) pa_nil)))))) (pss_cons (ps_for PassesOwn.never rfl (pi_range2 rfl n_range (pa_cons pe_int (pa_cons (pe_op op_add (pe_callB (id := "max") (cr_max rfl) rfl n_max (by decide +kernel) (pa_cons (pv 2) pa_nil)) pe_int) pa_nil))) (pg_name (i := 3) sc__law_end_right.nd rfl (.inr rfl)) (pss_cons (ps_set (i := 4) sc__law_end_right.nd rfl (.inl rfl) (pe_op Kr.op_catS (pe_lc (own := [("k", 5)]) rfl sc__law_end_right.nd (pi_range1 rfl n_range (pa_cons pe_int pa_nil)) (blkOk_by (own := [("k", 5)]) (N := N__law_end_right) (sc := defScope s__law_end_right) (by decide +kernel)) (fun _ _ _ _ _ => (pg_name (i := 5) sc__law_end_right.nd rfl (.inl rfl))) (fun _ _ _ _ _ => (pts_one (pt_cmpR op_ge (pe_ix (Kr.ix_listK (K := K) rfl) (pv 2) (pv 5) (fun _ _ => rfl)) (pv 3) (nomark _)))) (fun _ _ _ _ _ => (pe_op op_add (pv 1) (pv 5)))) (pe_lst (pa_cons pe_non pa_nil)))) (pss_one (ps_if (pt_cmpR op_ne (Kr.pe_cl h_next_height (hr.mono (by decide)) (pa_cons (pv 0) (pa_cons (pv 1) (pa_cons (pv 3) pa_nil)))) (pe_ix ix_list (pv 4) pe_int (fun _ _ => rfl)) (nomark _)) (pss_one (ps_ret pe_bl)) pss_nil)))) (pss_one (ps_ret (pe_cmpR op_eq (Kr.pe_cl h_height_sum (hr.mono (by decide)) (pa_cons (pv 0) (pa_cons (pv 1) (pa_cons (pe_op op_pow pe_int pe_int) pa_nil)))) (pe_callB (id := "sum") (cr_sum rfl) rfl n_sum (by decide +kernel) (pa_cons (pe_slice sl_list (pv 2) po_none (po_some (pe_un un_neg pe_int))) pa_nil)) (nomark _))))))), ?_⟩
    rw [st__law_end_right]
    have e30 : (10 : Int) ^ Int.toNat 30 = ((10 ^ 30 : Nat) : Int) := rfl
    obtain ⟨F, hF⟩ : ∃ F : Nat, F = 10 ^ 30 - 29 := ⟨_, rfl⟩
    have F30 : F + 29 = 10 ^ 30 := by omega
    have eF : (10 : Int) ^ Int.toNat 30 - 29 = (F : Int) := by rw [e30]; omega
    walk_at "ss"
    rw [eF]
    have n30 : (30 : Int).toNat = 30 := rfl
    rw [n30]
    intro D hD
    refine lc_rangeS [some (.ref s1), some (.int F), none, none, none, none] rfl (fun j H5 => H5 D = some (.lst ((nsH ls sz ke fo F (F + j)).map V.int)) ∧ Same H H5) ⟨by rw [upd_same]; unfold nsH; rw [Nat.add_zero, Nat.sub_self]; rfl, same_new hD⟩ ?_ ?_
    · rintro j H5 hj ⟨h5, s5⟩
      walk_at "ss"
      refine ⟨rfl, ?_⟩
      walk_at "ss"
      rw [Int.zero_add, ← Int.natCast_add]
      refine height_one ⟨s1, ls, sz, re, ev, ke, fo, F + j, rfl, S.same s5, ok, by omega, fun H6 s6 => ?_⟩
      refine ⟨_, s6 _ _ h5, by rw [List.length_map, nsH_len]; exact szl (by omega), ?_, fun b' o e => ?_⟩
      · rw [upd_same]
        unfold nsH
        rw [show F + (j + 1) - F = j + 1 by omega, List.range_succ, List.map_append, List.map_append, show F + j - F = j by omega]
        rfl
      · rw [upd_ne (ne_of_none e hD)]
        exact s6 _ _ (s5 b' o e)
    rintro H5 ⟨h5, s5⟩
    have l30 : (nsH ls sz ke fo F (F + 30)).length = 30 := by rw [nsH_len]; omega
    walk_at "ss"
    refine r_max (SqL.of h5) (by omega) fun mx hmx hle => ?_
    obtain ⟨kx, _, kx2, ekx⟩ := nsH_mem hmx
    have mx100 : mx ≤ 100 ∧ 0 ≤ mx := by
      have := htM_le100 (ls := ls) (sz := sz) (ke := ke) o k1 f2' (M := kx) (by omega)
      omega
    walk_at "ss"
    refine r_forR (fun i σ H' => ∃ x3 x4 : Option V, σ = [some (.ref s1), some (.int F), some (.ref D), x3, x4, none] ∧ Same H5 H') ⟨_, _, rfl, fun _ _ e => e⟩ ?_ ?_
    rotate_left
    · rintro σ H14 ⟨x3, x4, rfl, s14⟩
      walk_at "ss"
      rw [e30]
      refine ⟨s1, ls, sz, re, ev, ke, fo, F, 10 ^ 30, rfl, S.same (s5.trans s14), ok, by omega, Nat.le_refl _, fun H15 s15 => ?_⟩
      have h15 := s15 _ _ (s14 _ _ h5)
      walk_at "ss"
      refine r_newS fun c2 H16 hc2 s16 e16 => ?_
      have ecut : cutV ((nsH ls sz ke fo F (F + 30)).map V.int) none (some (-1)) = (nsH ls sz ke fo F (10 ^ 30)).map V.int := by
        have e1 : HT.sIx ((nsH ls sz ke fo F (F + 30)).map V.int).length ((nsH ls sz ke fo F (F + 30)).map V.int).length (some (-1)) = 29 := by
          rw [List.length_map, l30]
          rfl
        unfold cutV
        rw [e1, HT.sIx_none, List.drop_zero, Nat.sub_zero, ← List.map_take]
        congr 1
        unfold nsH
        rw [← List.map_take, List.take_range, show min 29 (F + 30 - F) = 10 ^ 30 - F by omega]
      rw [ecut] at e16
      walk_at "ss"
      rw [nsH_sum (show F ≤ 10 ^ 30 by omega), decide_eq_true rfl]
      exact q _ (s5.trans (s14.trans (s15.trans s16)))
    rintro i σ H14 hi ⟨x3, x4, rfl, s14⟩
    have hD14 := s14 _ _ h5
    rw [show (1 : Int) + (i : Int) = ((i + 1 : Nat) : Int) by omega]
    walk_at "ss"
    rw [n30]
    intro D3 hD3
    obtain ⟨f, hf⟩ : ∃ f : Nat → Bool, f = fun M => decide (i < htM ls sz ke fo M) := ⟨_, rfl⟩
    refine lc_rangeS [some (.ref s1), some (.int F), some (.ref D), some (.int (i + 1 : Nat)), x4, none] rfl (fun j H6 => H6 D3 = some (.lst ((latL f F j).map V.int)) ∧ Same H14 H6) ⟨upd_same, same_new hD3⟩ ?_ ?_
    · rintro j G6 hj ⟨g6, t6⟩
      have ll := latL_len f F j
      have eg := nsH_get (ls := ls) (sz := sz) (ke := ke) (fo := fo) (a := F) (b := F + 30) (k := j) (by omega)
      walk_at "ss"
      refine ⟨rfl, ?_⟩
      walk_at "ss"
      refine r_ixL (SqL.of (t6 _ _ hD14)) (at_of (j := j) (by omega) (by rw [List.getElem?_map, eg]; rfl)) ?_
      walk_at "ss"
      refine r_dec (fun e => ?_) fun e => ?_
      · walk_at "ss"
        rw [Int.zero_add, ← Int.natCast_add]
        refine ⟨_, g6, by rw [List.length_map]; exact szl (by omega), ?_, fun b' o e => ?_⟩
        · rw [upd_same, latL_succ, if_pos (by rw [hf]; exact decide_eq_true (by omega)), List.map_append]
          rfl
        · rw [upd_ne (ne_of_none e hD3)]
          exact t6 b' o e
      · refine ⟨?_, t6⟩
        rw [latL_succ, if_neg (by rw [hf]; simp only [decide_eq_true_eq]; omega), List.append_nil]
        exact g6
    rintro G6 ⟨g6, t6⟩
    have ll := latL_len f F 30
    walk_at "ss"
    refine r_newS fun z1 G7 hz1 t7 ez1 => ?_
    refine r_catS (SqL.of (t7 _ _ g6)) (SqL.of ez1) (by rw [List.length_map]; show _ + 1 ≤ _; omega) ?_
    refine r_newS fun z2 G8 hz2 t8 ez2 => ?_
    have sG := s14.trans (t6.trans (t7.trans t8))
    walk_at "ss"
    refine ⟨s1, ls, sz, re, ev, ke, fo, F, i, rfl, S.same (s5.trans sG), ok, by omega, by omega, fun n' G9 t9 an' n30' hn' mn' => ?_, fun G9 t9 no => ?_⟩
    · obtain ⟨r, er⟩ := latL_first (f := f) (a := F) (n := n' - F) 30 (by omega) (by rw [hf]; show decide (i < htM ls sz ke fo (F + (n' - F))) = true; rw [show F + (n' - F) = n' by omega]; exact decide_eq_true hn') (fun k hk => by rw [hf]; exact decide_eq_false (mn' (F + k) (by omega) (by omega)))
      rw [er, show F + (n' - F) = n' by omega] at ez2
      have e9 : G9 z2 = some (.lst (V.int (n' : Nat) :: (r.map V.int ++ [V.non]))) := t9 _ _ ez2
      walk_at "ss"
      refine r_ixL (SqL.of e9) (at_of (j := 0) rfl rfl) ?_
      walk_at "ss"
      rw [decide_eq_true rfl]
      walk_at "ss"
      exact ⟨_, _, rfl, sG.trans t9⟩
    · rw [latL_nil 30 (fun k hk => by rw [hf]; exact decide_eq_false (no (F + k) (by omega) (by omega)))] at ez2
      have e9 : G9 z2 = some (.lst [V.non]) := t9 _ _ ez2
      walk_at "ss"
      refine r_ne rfl ?_
      rw [decide_eq_true rfl]
      walk_at "ss"
      exact ⟨_, _, rfl, sG.trans t9⟩
theorem ok_law {P : Program} {w : World} {K : PySem.W.Frag} {mg : Str → Option Value} {base : Heap} {f : Addr} {fd : FuncData} (F : FunD K "law" "law" (defArgs s_law) (defBody s_law) (defScope s_law) [] [] f fd) (h__law_digits : Kr.FnH P w K mg base CX0 1 "_law_digits" ["cell", "many"] (sp__law_digits K)) (h__law_end_right : Kr.FnH P w K mg base CX0 8 "_law_end_right" ["settings"] (sp__law_end_right K)) (h__law_moments : Kr.FnH P w K mg base CX0 7 "_law_moments" ["settings", "digits"] (sp__law_moments K)) (h__law_near_right : Kr.FnH P w K mg base CX0 8 "_law_near_right" ["settings", "moment"] (sp__law_near_right K)) (h__law_parts : Kr.FnH P w K mg base CX0 1 "_law_parts" ["digits"] (sp__law_parts K)) (h__law_settings : Kr.FnH P w K mg base CX0 6 "_law_settings" ["parts"] (sp__law_settings K)) (h__law_stretch_right : Kr.FnH P w K mg base CX0 8 "_law_stretch_right" ["settings", "one", "other", "far"] (sp__law_stretch_right K)) (n_len : mg "len" = none) : FnOk P w K mg base CX0 9 f fd ["script"] (sp_law K) := by
  refine F.ok sc_law (fun vs H Q E h => by first | (obtain ⟨rfl, _⟩ := h; rfl) | (obtain ⟨_, rfl, _⟩ := h; rfl) | (obtain ⟨_, _, rfl, _⟩ := h; rfl) | (obtain ⟨_, _, _, rfl, _⟩ := h; rfl) | (obtain ⟨_, _, _, _, rfl, _⟩ := h; rfl) | (obtain ⟨_, _, _, _, _, rfl, _⟩ := h; rfl) | (obtain ⟨_, _, _, _, _, _, rfl, _⟩ := h; rfl) | (obtain ⟨_, _, _, _, _, _, _, rfl, _⟩ := h; rfl) | (obtain ⟨_, _, _, _, _, _, _, _, rfl, _⟩ := h; rfl) | (obtain ⟨_, _, _, _, _, _, _, _, _, rfl, _⟩ := h; rfl) | (obtain ⟨_, _, _, _, _, _, _, _, _, _, rfl, _⟩ := h; rfl) | (obtain ⟨_, _, _, _, _, _, _, _, _, _, _, rfl, _⟩ := h; rfl) | (obtain ⟨_, _, _, _, _, _, _, _, _, _, _, _, rfl, _⟩ := h; rfl) | (obtain ⟨_, _, _, _, _, _, _, _, _, _, _, _, _, rfl, _⟩ := h; rfl) | (obtain ⟨_, _, _, _, _, _, _, _, _, _, _, _, _, _, rfl, _⟩ := h; rfl) | (obtain ⟨_, _, _, _, _, _, _, _, _, _, _, _, _, _, _, rfl, _⟩ := h; rfl) | (obtain ⟨_, _, _, _, _, _, _, _, _, _, _, _, _, _, _, _, rfl, _⟩ := h; rfl) | (obtain ⟨_, _, _, _, _, _, _, _, _, _, _, _, _, _, _, _, _, rfl, _⟩ := h; rfl)) (fun cdv A outer s H vs Q E hr h => ?_)
  · have hu := hu_of hr
    obtain ⟨a, ns, rfl, hS, hl, q0⟩ := h
    refine ⟨_, PSs.nox (pss_cons (ps_for PassesOwn.never rfl (pi_list (pe_op Kr.op_catS (pe_slice sl_list (pv 0) po_none (po_some pe_int)) (pe_slice sl_list (pe_lst (pa_cons pe_int pa_nil)) (po_some (pe_callB (id := "len") Kr.c_len rfl n_len (by decide +kernel) (pa_cons (pv 0) pa_nil))) po_none))) (pg_name (i := 1) sc_law.nd rfl (.inl rfl)) (pss_cons (ps_set (i := 2) sc_law.nd rfl (.inl rfl) (Kr.pe_cl h__law_digits (hr.mono (by decide)) (pa_cons (pv 1) (pa_cons pe_int pa_nil)))) (pss_cons (ps_set (i := 3) sc_law.nd rfl (.inr rfl) (Kr.pe_cl h__law_settings (hr.mono (by decide)) (pa_cons (Kr.pe_cl h__law_parts (hr.mono (by decide)) (pa_cons (pv 2) pa_nil)) pa_nil))) (pss_cons (ps_set (i := 4) sc_law.nd rfl (.inl rfl) (Kr.pe_cl h__law_moments (hr.mono (by decide)) (pa_cons (pv 3) (pa_cons (pv 2) pa_nil)))) (pss_cons (ps_if (pt_cmpR (op_neD hr.units) (pe_lc (own := [("moment", 6)]) rfl sc_law.nd (pi_list (pv 4)) (blkOk_by (own := [("moment", 6)]) (N := N_law) (sc := defScope s_law) (by decide +kernel)) (fun _ _ _ _ _ => (pg_name (i := 6) sc_law.nd rfl (.inl rfl))) (fun _ _ _ _ _ => (pts_one (pt_not (pt_val (Kr.pe_cl h__law_near_right (hr.mono (by decide)) (pa_cons (pv 3) (pa_cons (pv 6) pa_nil))))))) (fun _ _ _ _ _ => (pv 6))) (pe_lst pa_nil) (nomark _)) (pss_one (ps_ret pe_bl)) pss_nil) (pss_cons (ps_for PassesOwn.never rfl (pi_tup (pe_tup (pa_cons pe_int (pa_cons pe_int pa_nil)))) (pg_name (i := 5) sc_law.nd rfl (.inl rfl)) (pss_one (ps_if (pt_not (pt_val (Kr.pe_cl h__law_stretch_right (hr.mono (by decide)) (pa_cons (pv 3) (pa_cons (pe_ix ix_list (pv 4) (pv 5) (fun _ _ => rfl)) (pa_cons (pe_ix ix_list (pv 4) (pe_op op_add (pv 5) pe_int) (fun _ _ => rfl)) (pa_cons (pe_ix ix_list (pv 4) (pe_op op_add (pv 5) pe_int) (fun _ _ => rfl)) pa_nil))))))) (pss_one (ps_ret pe_bl)) pss_nil))) (pss_one (ps_if (PW.pt (pw_or (pt_not (pt_val (Kr.pe_cl h__law_stretch_right (hr.mono (by decide)) (pa_cons (pv 3) (pa_cons pe_int (pa_cons (pe_ix ix_list (pv 4) pe_int (fun _ _ => rfl)) (pa_cons (pe_op op_pow pe_int pe_int) pa_nil))))))) (pw_or1 (pt_not (pt_val (Kr.pe_cl h__law_end_right (hr.mono (by decide)) (pa_cons (pv 3) pa_nil))))))) (pss_one (ps_ret pe_bl)) pss_nil)))))))) (pss_one (ps_ret pe_bl))), ?_⟩
    rw [st_law]
    walk_at "ss"
    refine r_newS fun l1 H1 n1 s1 e1 => ?_
    have hS1 := s1.seq hS
    walk_at "ss"
    refine r_newS fun l2 H2 n2 s2 e2 => ?_
    have hS2 := s2.seq hS1
    walk_at "ss"
    refine r_newS fun l3 H3 n3 s3 e3 => ?_
    refine r_catS (SqL.of (s3 _ _ (s2 _ _ e1))) (SqL.of e3) (Nat.le_trans (Nat.add_le_add (cut_len _ _ _) (cut_len _ _ _)) (by rw [List.length_map]; simp; omega)) ?_
    refine r_newS fun l4 H4 n4 s4 e4 => ?_
    generalize hxs : cutV (ns.map V.int) _ _ ++ cutV [V.int 19] _ _ = xs at e4
    have allI : ∀ x ∈ xs, ∃ c : Int, x = V.int c := fun x hx => by
      rw [← hxs] at hx
      rcases List.mem_append.mp hx with hx | hx
      · obtain ⟨c, _, e⟩ := List.mem_map.mp (cut_mem hx)
        exact ⟨c, e.symm⟩
      · exact ⟨19, List.mem_singleton.mp (cut_mem hx)⟩
    walk_at "ss"
    refine r_forL (xs := xs) (fun i σ H' => ∃ y1 y2 y3 y4 y5 : Option V, σ = [some (.ref a), y1, y2, y3, y4, y5, none] ∧ Same H4 H') ⟨_, _, _, _, _, rfl, fun _ _ h => h⟩ (fun i σ H' hi ⟨_, _, _, _, _, _, s5⟩ => SqL.of (s5 _ _ e4)) ?_ ?_
    rotate_left
    · rintro σ H5 ⟨y1, y2, y3, y4, y5, rfl, s5⟩
      walk_at "ss"
      exact q0 _
    rintro i x σ H5 hx ⟨y1, y2, y3, y4, y5, rfl, s5⟩
    obtain ⟨c, rfl⟩ := allI x (List.mem_of_getElem? hx)
    walk_at "ss"
    refine ⟨c, rfl, fun dd H6 ds s6 n6 G6 => ?_⟩
    walk_at "ss"
    refine ⟨dd, ds, rfl, G6, fun p q ls sz fo re ev ke H7 s7 np nq P7 ok _ => ?_⟩
    have o := ok.toLensOk.pk
    obtain ⟨k1, k2⟩ := ok.ke
    obtain ⟨f1, f2⟩ := ok.fo
    obtain ⟨fn, rfl⟩ : ∃ fn : Nat, fo = fn := ⟨fo.toNat, by omega⟩
    walk_at "ss"
    refine ⟨p, q, ls, sz, fn, re, ev, ke, rfl, P7, ok, fun st H8 s8 nst S8 => ?_⟩
    walk_at "ss"
    refine ⟨st, dd, ls, ds, sz, re, ev, ke, fn, rfl, S8, ok, G6.same (s7.trans s8), fun mm ms H9 s9 e9 m8 srt bnd => ?_⟩
    have s59 : Same H5 H9 := s6.trans (s7.trans (s8.trans s9))
    have S9 := S8.same s9
    walk_at "ss"
    intro D hD
    refine lc_listS (xs := ms.map fun m : Nat => V.int (m : Nat)) [some (.ref a), some (.int c), some (.ref dd), some (.ref st), some (.ref mm), y5, none] rfl (fun j H10 => H10 D = some (.lst []) ∧ Same H9 H10) ⟨upd_same, same_new hD⟩ (fun j H10 _ hh => hh.2.seq (SqL.of e9)) ?_ ?_
    · rintro j x H10 hx ⟨h10, s10⟩
      obtain ⟨m, hm, rfl⟩ := List.mem_map.mp (List.mem_of_getElem? hx)
      walk_at "ss"
      refine ⟨rfl, ?_⟩
      walk_at "ss"
      refine ⟨st, ls, sz, re, ev, ke, fn, m, rfl, S9.same s10, ok, bnd m hm, fun H11 s11 => ?_⟩
      walk_at "ss"
      exact ⟨s11 _ _ h10, s10.trans s11⟩
    rintro H10 ⟨h10, s10⟩
    walk_at "ss"
    refine r_newS fun z H11 hz s11 ez => ?_
    refine r_neLL (is := []) (js := []) (SqL.of (s11 _ _ h10)) (SqL.of ez) ?_
    rw [show (!decide (([] : List Int) = [])) = false from rfl]
    have s911 := s10.trans s11
    walk_at "ss"
    refine r_newS fun tt H12 htt s12 et => ?_
    walk_at "ss"
    have s912 := s911.trans s12
    have hat : ∀ {i : Nat}, i < 8 → ∃ m : Nat, ms[i]? = some m ∧ m + 200 ≤ 10 ^ 30 ∧ atI (ms.map fun m : Nat => V.int (m : Nat)) (i : Int) = some (.int (m : Nat)) := fun {i} hi => by
      have e : ms[i]? = some ms[i] := List.getElem?_eq_getElem (by omega)
      exact ⟨ms[i], e, bnd _ (List.getElem_mem _), at_of (j := i) rfl (by rw [List.getElem?_map, e]; rfl)⟩
    have hle : ∀ {i j m n : Nat}, i < j → ms[i]? = some m → ms[j]? = some n → m ≤ n := fun {i j m n} ij hi hj => by
      obtain ⟨h1, rfl⟩ := List.getElem?_eq_some_iff.mp hi
      obtain ⟨h2, rfl⟩ := List.getElem?_eq_some_iff.mp hj
      exact List.pairwise_iff_getElem.mp srt i j h1 h2 ij
    refine KrH.r_forT (xs := [.int 0, .int 4]) (fun k σ H' => ∃ y5 : Option V, σ = [some (.ref a), some (.int c), some (.ref dd), some (.ref st), some (.ref mm), y5, none] ∧ Same H12 H') ⟨_, rfl, fun _ _ e => e⟩ (fun i σ H' _ ⟨_, _, s13⟩ => SqT.of (s13 _ _ et)) ?_ ?_
    · rintro k x σ H13 hx ⟨y5, rfl, s13⟩
      obtain ⟨u, rfl, hu⟩ : ∃ u : Nat, x = .int (u : Nat) ∧ (u = 0 ∨ u = 4) := by
        rcases k with _ | _ | k
        · cases hx
          exact ⟨0, rfl, .inl rfl⟩
        · cases hx
          exact ⟨4, rfl, .inr rfl⟩
        · cases hx
      obtain ⟨m0, g0, b0, a0⟩ := hat (i := u) (by omega)
      obtain ⟨m1, g1, b1, a1⟩ := hat (i := u + 1) (by omega)
      obtain ⟨m3, g3, b3, a3⟩ := hat (i := u + 3) (by omega)
      have e13 := s13 _ _ (s912 _ _ e9)
      walk_at "ss"
      refine r_ixL (SqL.of e13) a0 ?_
      walk_at "ss"
      refine r_ixL (SqL.of e13) a1 ?_
      walk_at "ss"
      refine r_ixL (SqL.of e13) a3 ?_
      walk_at "ss"
      refine ⟨st, ls, sz, re, ev, ke, fn, m0, m1, m3, rfl, S9.same (s912.trans s13), ok, hle (by omega) g0 g1, hle (by omega) g1 g3, by omega, fun H14 s14 => ?_⟩
      walk_at "ss"
      exact ⟨_, rfl, s13.trans s14⟩
    · rintro σ H13 ⟨y5, rfl, s13⟩
      obtain ⟨m3, g3, b3, a3⟩ := hat (i := 3) (by omega)
      have e13 := s13 _ _ (s912 _ _ e9)
      have e30 : (10 : Int) ^ Int.toNat 30 = ((10 ^ 30 : Nat) : Int) := rfl
      walk_at "ss"
      refine r_ixL (SqL.of e13) a3 ?_
      walk_at "ss"
      rw [e30]
      refine ⟨st, ls, sz, re, ev, ke, fn, 0, m3, 10 ^ 30, rfl, S9.same (s912.trans s13), ok, by omega, by omega, Nat.le_refl _, fun H14 s14 => ?_⟩
      walk_at "ss"
      refine ⟨st, ls, sz, re, ev, ke, fn, rfl, S9.same (s912.trans (s13.trans s14)), ok, fun H15 s15 => ?_⟩
      walk_at "ss"
      exact ⟨_, _, _, _, _, rfl, s5.trans (s59.trans (s912.trans (s13.trans (s14.trans s15))))⟩
theorem facts {P : Program} {w : World} {K : PySem.W.Frag} {h : Heap} {mg : Str → Option Value} {f : Addr} (X : K.In h) (G : h.Ns mainGlobals mg) (hfa : mg ("law" : Str) = some (.ref f)) (c : He.SaysD fa fn K) (e : ex K = true) :
    ∃ fd : FuncData, (∀ (s : Shared) (v : Value), BindsTo s fd ⟨[v], []⟩ [("script", v)]) ∧ ∀ base : Heap, K.In base → base.Ns mainGlobals mg → FnOk P w K mg base CX0 9 f fd ["script"] (sp_law K) := by
  have a_Gaps__near : NoAttr K (He.ga K "Gaps") "_near" := He.noat_ok (c.fact 0 (f := .noat "Gaps" "_near") rfl)
  have a_Gaps__period : NoAttr K (He.ga K "Gaps") "_period" := He.noat_ok (c.fact 1 (f := .noat "Gaps" "_period") rfl)
  have a_Gaps__sums : NoAttr K (He.ga K "Gaps") "_sums" := He.noat_ok (c.fact 2 (f := .noat "Gaps" "_sums") rfl)
  have a_Heights__fanout : NoAttr K (He.ga K "Heights") "_fanout" := He.noat_ok (c.fact 3 (f := .noat "Heights" "_fanout") rfl)
  have a_Heights__gaps : NoAttr K (He.ga K "Heights") "_gaps" := He.noat_ok (c.fact 4 (f := .noat "Heights" "_gaps") rfl)
  have a_Heights__most : NoAttr K (He.ga K "Heights") "_most" := He.noat_ok (c.fact 5 (f := .noat "Heights" "_most") rfl)
  have a_Heights__packing : NoAttr K (He.ga K "Heights") "_packing" := He.noat_ok (c.fact 6 (f := .noat "Heights" "_packing") rfl)
  have a_Heights__rows : NoAttr K (He.ga K "Heights") "_rows" := He.noat_ok (c.fact 7 (f := .noat "Heights" "_rows") rfl)
  have a_Packing__first : NoAttr K (He.ga K "Packing") "_first" := He.noat_ok (c.fact 8 (f := .noat "Packing" "_first") rfl)
  have a_Packing__last : NoAttr K (He.ga K "Packing") "_last" := He.noat_ok (c.fact 9 (f := .noat "Packing" "_last") rfl)
  have a_Packing__pages : NoAttr K (He.ga K "Packing") "_pages" := He.noat_ok (c.fact 10 (f := .noat "Packing" "_pages") rfl)
  have a_Packing__rows : NoAttr K (He.ga K "Packing") "_rows" := He.noat_ok (c.fact 11 (f := .noat "Packing" "_rows") rfl)
  have a_Packing__settings : NoAttr K (He.ga K "Packing") "_settings" := He.noat_ok (c.fact 12 (f := .noat "Packing" "_settings") rfl)
  have a_Packing__starts : NoAttr K (He.ga K "Packing") "_starts" := He.noat_ok (c.fact 13 (f := .noat "Packing" "_starts") rfl)
  have a_Settings_every : NoAttr K (He.ga K "Settings") "every" := He.noat_ok (c.fact 14 (f := .noat "Settings" "every") rfl)
  have a_Settings_fanout : NoAttr K (He.ga K "Settings") "fanout" := He.noat_ok (c.fact 15 (f := .noat "Settings" "fanout") rfl)
  have a_Settings_keep : NoAttr K (He.ga K "Settings") "keep" := He.noat_ok (c.fact 16 (f := .noat "Settings" "keep") rfl)
  have a_Settings_lengths : NoAttr K (He.ga K "Settings") "lengths" := He.noat_ok (c.fact 17 (f := .noat "Settings" "lengths") rfl)
  have a_Settings_records : NoAttr K (He.ga K "Settings") "records" := He.noat_ok (c.fact 18 (f := .noat "Settings" "records") rfl)
  have a_Settings_size : NoAttr K (He.ga K "Settings") "size" := He.noat_ok (c.fact 19 (f := .noat "Settings" "size") rfl)
  have c_Gaps : Cls K (He.ga K "Gaps") := He.cls_ok (c.fact 20 (f := .cls "Gaps") rfl)
  have c_Heights : Cls K (He.ga K "Heights") := He.cls_ok (c.fact 21 (f := .cls "Heights") rfl)
  have c_Packing : Cls K (He.ga K "Packing") := He.cls_ok (c.fact 22 (f := .cls "Packing") rfl)
  have c_Settings : Cls K (He.ga K "Settings") := He.cls_ok (c.fact 23 (f := .cls "Settings") rfl)
  have g_MOST_HEIGHT : ∃ t, mg "MOST_HEIGHT" = some (.int 111 t) := He.int_ok X G (c.fact 24 (f := .int "MOST_HEIGHT" 111) rfl)
  have g_MOST_LENGTHS : ∃ t, mg "MOST_LENGTHS" = some (.int 6 t) := He.int_ok X G (c.fact 25 (f := .int "MOST_LENGTHS" 6) rfl)
  have g_MOST_LEVEL : ∃ t, mg "MOST_LEVEL" = some (.int 110 t) := He.int_ok X G (c.fact 26 (f := .int "MOST_LEVEL" 110) rfl)
  have g_MOST_UNITS : ∃ t, mg "MOST_UNITS" = some (.int 64 t) := He.int_ok X G (c.fact 27 (f := .int "MOST_UNITS" 64) rfl)
  have g_ROWS : ∃ t, mg "ROWS" = some (.int 1000000000000000000000000000000 t) := He.int_ok X G (c.fact 28 (f := .int "ROWS" 1000000000000000000000000000000) rfl)
  have i_Settings : Kr.InsI K (He.ga K "Settings") := Kr.insB_ok (He.cls_ok (c.fact 23 (f := .cls "Settings") rfl)) (ex_at 0 e)
  have k_Settings : mg "Settings" = some (.ref (He.ga K "Settings")) := He.glo_ok X G (c.fact 29 (f := .glo "Settings") rfl)
  have n_all : mg "all" = none := He.free_ok X G (c.fact 30 (f := .free "all") rfl)
  have n_bool : mg "bool" = none := He.free_ok X G (c.fact 31 (f := .free "bool") rfl)
  have n_int : mg "int" = none := He.free_ok X G (c.fact 32 (f := .free "int") rfl)
  have n_isinstance : mg "isinstance" = none := He.free_ok X G (c.fact 33 (f := .free "isinstance") rfl)
  have n_len : mg "len" = none := He.free_ok X G (c.fact 34 (f := .free "len") rfl)
  have n_list : mg "list" = none := He.free_ok X G (c.fact 35 (f := .free "list") rfl)
  have n_max : mg "max" = none := He.free_ok X G (c.fact 36 (f := .free "max") rfl)
  have n_min : mg "min" = none := He.free_ok X G (c.fact 37 (f := .free "min") rfl)
  have n_range : mg "range" = none := He.free_ok X G (c.fact 38 (f := .free "range") rfl)
  have n_set : mg "set" = none := He.free_ok X G (c.fact 39 (f := .free "set") rfl)
  have n_sorted : mg "sorted" = none := He.free_ok X G (c.fact 40 (f := .free "sorted") rfl)
  have n_sum : mg "sum" = none := He.free_ok X G (c.fact 41 (f := .free "sum") rfl)
  have n_tuple : mg "tuple" = none := He.free_ok X G (c.fact 42 (f := .free "tuple") rfl)
  have x_gcd : mg "gcd" = some (.builtin "math.gcd") := PySem.W.mg_of X G (of_decide_eq_true (ex_at 1 e))
  obtain ⟨fd0, F0⟩ := c.def_ 0 (d := d_is_from) rfl
  obtain ⟨fd1, F1⟩ := c.def_ 1 (d := d_is_within) rfl
  obtain ⟨fd2, F2⟩ := c.def_ 2 (d := d_check_number) rfl
  obtain ⟨fd3, F3⟩ := c.def_ 3 (d := d_check_moment) rfl
  obtain ⟨fd4, F4⟩ := c.def_ 4 (d := d_power) rfl
  obtain ⟨fd5, F5⟩ := c.def_ 5 (d := d_root_level) rfl
  obtain ⟨fd6, F6⟩ := c.def_ 6 (d := d_are_lengths) rfl
  obtain ⟨fd7, F7⟩ := c.def_ 7 (d := d_bounds_behind) rfl
  obtain ⟨fd8, F8⟩ := c.def_ 8 (d := d_Settings___init__) rfl
  obtain ⟨fd9, F9⟩ := c.def_ 9 (d := d_check_settings) rfl
  obtain ⟨fd10, F10⟩ := c.def_ 10 (d := d_rows_from) rfl
  obtain ⟨fd11, F11⟩ := c.def_ 11 (d := d_Packing_page_with) rfl
  obtain ⟨fd12, F12⟩ := c.def_ 12 (d := d_Packing___init__) rfl
  obtain ⟨fd13, F13⟩ := c.def_ 13 (d := d_Packing_begun) rfl
  obtain ⟨fd14, F14⟩ := c.def_ 14 (d := d_Packing_cycle) rfl
  obtain ⟨fd15, F15⟩ := c.def_ 15 (d := d_Packing_start_of) rfl
  obtain ⟨fd16, F16⟩ := c.def_ 16 (d := d_border_level) rfl
  obtain ⟨fd17, F17⟩ := c.def_ 17 (d := d_Gaps___init__) rfl
  obtain ⟨fd18, F18⟩ := c.def_ 18 (d := d_Gaps_sum_of) rfl
  obtain ⟨fd19, F19⟩ := c.def_ 19 (d := d_Heights___init__) rfl
  obtain ⟨fd20, F20⟩ := c.def_ 20 (d := d_Heights__is_wide) rfl
  obtain ⟨fd21, F21⟩ := c.def_ 21 (d := d_Heights__sum_of_gaps) rfl
  obtain ⟨fd22, F22⟩ := c.def_ 22 (d := d_Heights_above) rfl
  obtain ⟨fd23, F23⟩ := c.def_ 23 (d := d_Heights_sum_below) rfl
  obtain ⟨fd24, F24⟩ := c.def_ 24 (d := d_live_pages) rfl
  obtain ⟨fd25, F25⟩ := c.def_ 25 (d := d_next_border) rfl
  obtain ⟨fd26, F26⟩ := c.def_ 26 (d := d_tree_height) rfl
  obtain ⟨fd27, F27⟩ := c.def_ 27 (d := d_check_stretch) rfl
  obtain ⟨fd28, F28⟩ := c.def_ 28 (d := d_height_count) rfl
  obtain ⟨fd29, F29⟩ := c.def_ 29 (d := d_height_sum) rfl
  obtain ⟨fd30, F30⟩ := c.def_ 30 (d := d_next_height) rfl
  obtain ⟨fd31, F31⟩ := c.def_ 31 (d := d_greatest_height) rfl
  obtain ⟨fd32, F32⟩ := c.def_ 32 (d := d__law_digits) rfl
  obtain ⟨fd33, F33⟩ := c.def_ 33 (d := d__law_parts) rfl
  obtain ⟨fd34, F34⟩ := c.def_ 34 (d := d__law_settings) rfl
  obtain ⟨fd35, F35⟩ := c.def_ 35 (d := d__law_moments) rfl
  obtain ⟨fd36, F36⟩ := c.def_ 36 (d := d__law_near_right) rfl
  obtain ⟨fd37, F37⟩ := c.def_ 37 (d := d__law_stretch_right) rfl
  obtain ⟨fd38, F38⟩ := c.def_ 38 (d := d__law_end_right) rfl
  obtain ⟨fd39, F39⟩ := c.def_ 39 (d := d_law) rfl
  have eq := hfa.symm.trans (He.glo_ok X G (c.fact 85 (f := .glo "law") rfl))
  cases eq
  have bl := FunD.bindsA (ps := ["script"]) F39 fun _ _ _ _ _ _ us hl => match us, hl with | [_], _ => rfl
  refine ⟨fd39, fun s v => bl s [v] rfl, fun base _ _ => ?_⟩
  have h_is_from : Kr.FnH P w K mg base CX0 1 "is_from" ["number", "least"] (sp_is_from K) := Kr.FnH.of F0 (He.glo_ok X G (c.fact 43 (f := .glo "is_from") rfl)) (F0.bindsN fun _ _ _ _ _ _ us hl => match us, hl with | [_, _], _ => rfl) (ok_is_from F0 n_bool n_int n_isinstance)
  have h_is_within : Kr.FnH P w K mg base CX0 2 "is_within" ["number", "least", "most"] (sp_is_within K) := Kr.FnH.of F1 (He.glo_ok X G (c.fact 44 (f := .glo "is_within") rfl)) (F1.bindsN fun _ _ _ _ _ _ us hl => match us, hl with | [_, _, _], _ => rfl) (ok_is_within F1 h_is_from)
  have h_check_number : Kr.FnH P w K mg base CX0 3 "check_number" ["number", "least", "most"] (sp_check_number K) := Kr.FnH.of F2 (He.glo_ok X G (c.fact 45 (f := .glo "check_number") rfl)) (F2.bindsN fun _ _ _ _ _ _ us hl => match us, hl with | [_, _, _], _ => rfl) (ok_check_number F2 h_is_within)
  have h_check_moment : Kr.FnH P w K mg base CX0 4 "check_moment" ["moment"] (sp_check_moment K) := Kr.FnH.of F3 (He.glo_ok X G (c.fact 46 (f := .glo "check_moment") rfl)) (F3.bindsN fun _ _ _ _ _ _ us hl => match us, hl with | [_], _ => rfl) (ok_check_moment F3 g_ROWS h_check_number)
  have h_power : Kr.FnH P w K mg base CX0 1 "power" ["base", "exponent"] (sp_power K) := Kr.FnH.of F4 (He.glo_ok X G (c.fact 47 (f := .glo "power") rfl)) (F4.bindsN fun _ _ _ _ _ _ us hl => match us, hl with | [_, _], _ => rfl) (ok_power F4 n_range)
  have h_root_level : Kr.FnH P w K mg base CX0 1 "root_level" ["fanout", "first", "last"] (sp_root_level K) := Kr.FnH.of F5 (He.glo_ok X G (c.fact 48 (f := .glo "root_level") rfl)) (F5.bindsN fun _ _ _ _ _ _ us hl => match us, hl with | [_, _, _], _ => rfl) (ok_root_level F5)
  have h_are_lengths : Kr.FnH P w K mg base CX0 3 "are_lengths" ["lengths"] (sp_are_lengths K) := Kr.FnH.of F6 (He.glo_ok X G (c.fact 49 (f := .glo "are_lengths") rfl)) (F6.bindsN fun _ _ _ _ _ _ us hl => match us, hl with | [_], _ => rfl) (ok_are_lengths F6 g_MOST_LENGTHS g_MOST_UNITS h_is_within n_all n_isinstance n_len n_list)
  have h_bounds_behind : Kr.FnH P w K mg base CX0 1 "bounds_behind" ["lengths"] (sp_bounds_behind K) := Kr.FnH.of F7 (He.glo_ok X G (c.fact 50 (f := .glo "bounds_behind") rfl)) (F7.bindsN fun _ _ _ _ _ _ us hl => match us, hl with | [_], _ => rfl) (ok_bounds_behind F7 g_MOST_UNITS n_max)
  have mk_Settings : Kr.MkK P w K mg base CX0 4 "Settings" (He.ga K "Settings") ["self", "lengths", "size", "fanout", "records", "every", "keep"] 3 ["fanout", "records", "every", "keep"] (sp_Settings___init__ K) := Kr.MkK.of (He.glo_ok X G (c.fact 29 (f := .glo "Settings") rfl)) (He.mkr_ok (c.fact 51 (f := .mkr "Settings") rfl)) (Kr.kbn_all F8 3 ["fanout", "records", "every", "keep"] fun _ _ _ _ _ _ us ws h1 h2 => match us, ws, h1, h2 with | [_, _, _], [_, _, _, _], _, _ => rfl) (ok_Settings___init__ F8 a_Settings_every a_Settings_fanout a_Settings_keep a_Settings_lengths a_Settings_records a_Settings_size c_Settings h_are_lengths h_bounds_behind h_is_within n_tuple)
  have h_check_settings : Kr.FnH P w K mg base CX0 1 "check_settings" ["settings"] (sp_check_settings K) := Kr.FnH.of F9 (He.glo_ok X G (c.fact 52 (f := .glo "check_settings") rfl)) (F9.bindsN fun _ _ _ _ _ _ us hl => match us, hl with | [_], _ => rfl) (ok_check_settings F9 i_Settings k_Settings n_isinstance)
  have h_rows_from : Kr.FnH P w K mg base CX0 1 "rows_from" ["settings", "row"] (sp_rows_from K) := Kr.FnH.of F10 (He.glo_ok X G (c.fact 53 (f := .glo "rows_from") rfl)) (F10.bindsN fun _ _ _ _ _ _ us hl => match us, hl with | [_, _], _ => rfl) (ok_rows_from F10 a_Settings_lengths a_Settings_size c_Settings n_len n_sum)
  have m_Packing_page_with : Kr.MtH P w K mg base CX0 1 (He.ga K "Packing") "page_with" ["self", "row"] (sp_Packing_page_with K) := Kr.MtH.of (He.meth_ok (c.fact 54 (f := .meth "Packing" "page_with") rfl)) (F11.bindsN fun _ _ _ _ _ _ us hl => match us, hl with | [_, _], _ => rfl) (ok_Packing_page_with F11 a_Packing__first a_Packing__pages a_Packing__rows a_Packing__starts c_Packing n_max)
  have mk_Packing : Kr.MkH P w K mg base CX0 2 "Packing" (He.ga K "Packing") ["self", "settings"] (sp_Packing___init__ K) := Kr.MkH.of (He.glo_ok X G (c.fact 56 (f := .glo "Packing") rfl)) (He.mkr_ok (c.fact 55 (f := .mkr "Packing") rfl)) (F12.bindsN fun _ _ _ _ _ _ us hl => match us, hl with | [_, _], _ => rfl) (ok_Packing___init__ F12 a_Packing__first a_Packing__last a_Packing__pages a_Packing__rows a_Packing__settings a_Packing__starts a_Settings_lengths c_Packing c_Settings g_ROWS h_check_settings h_rows_from m_Packing_page_with n_len)
  have m_Packing_begun : Kr.MtH P w K mg base CX0 5 (He.ga K "Packing") "begun" ["self", "moment"] (sp_Packing_begun K) := Kr.MtH.of (He.meth_ok (c.fact 57 (f := .meth "Packing" "begun") rfl)) (F13.bindsN fun _ _ _ _ _ _ us hl => match us, hl with | [_, _], _ => rfl) (ok_Packing_begun F13 c_Packing h_check_moment m_Packing_page_with)
  have m_Packing_cycle : Kr.MtH P w K mg base CX0 1 (He.ga K "Packing") "cycle" ["self"] (sp_Packing_cycle K) := Kr.MtH.of (He.meth_ok (c.fact 58 (f := .meth "Packing" "cycle") rfl)) (F14.bindsN fun _ _ _ _ _ _ us hl => match us, hl with | [_], _ => rfl) (ok_Packing_cycle F14 a_Packing__first a_Packing__pages a_Packing__rows c_Packing)
  have m_Packing_start_of : Kr.MtH P w K mg base CX0 1 (He.ga K "Packing") "start_of" ["self", "page"] (sp_Packing_start_of K) := Kr.MtH.of (He.meth_ok (c.fact 59 (f := .meth "Packing" "start_of") rfl)) (F15.bindsN fun _ _ _ _ _ _ us hl => match us, hl with | [_, _], _ => rfl) (ok_Packing_start_of F15 a_Packing__first a_Packing__pages a_Packing__rows a_Packing__starts c_Packing n_max)
  have h_border_level : Kr.FnH P w K mg base CX0 1 "border_level" ["fanout", "low", "high"] (sp_border_level K) := Kr.FnH.of F16 (He.glo_ok X G (c.fact 60 (f := .glo "border_level") rfl)) (F16.bindsN fun _ _ _ _ _ _ us hl => match us, hl with | [_, _, _], _ => rfl) (ok_border_level F16)
  have mk_Gaps : Kr.MkH P w K mg base CX0 2 "Gaps" (He.ga K "Gaps") ["self", "packing", "step", "most"] (sp_Gaps___init__ K) := Kr.MkH.of (He.glo_ok X G (c.fact 62 (f := .glo "Gaps") rfl)) (He.mkr_ok (c.fact 61 (f := .mkr "Gaps") rfl)) (F17.bindsN fun _ _ _ _ _ _ us hl => match us, hl with | [_, _, _, _], _ => rfl) (ok_Gaps___init__ F17 a_Gaps__near a_Gaps__period a_Gaps__sums c_Gaps c_Packing m_Packing_cycle m_Packing_start_of n_len n_min n_range x_gcd)
  have m_Gaps_sum_of : Kr.MtH P w K mg base CX0 1 (He.ga K "Gaps") "sum_of" ["self", "many"] (sp_Gaps_sum_of K) := Kr.MtH.of (He.meth_ok (c.fact 63 (f := .meth "Gaps" "sum_of") rfl)) (F18.bindsN fun _ _ _ _ _ _ us hl => match us, hl with | [_, _], _ => rfl) (ok_Gaps_sum_of F18 a_Gaps__near a_Gaps__period a_Gaps__sums c_Gaps n_max)
  have mk_Heights : Kr.MkH P w K mg base CX0 4 "Heights" (He.ga K "Heights") ["self", "settings"] (sp_Heights___init__ K) := Kr.MkH.of (He.glo_ok X G (c.fact 65 (f := .glo "Heights") rfl)) (He.mkr_ok (c.fact 64 (f := .mkr "Heights") rfl)) (F19.bindsN fun _ _ _ _ _ _ us hl => match us, hl with | [_, _], _ => rfl) (ok_Heights___init__ F19 a_Heights__fanout a_Heights__gaps a_Heights__most a_Heights__packing a_Heights__rows a_Settings_fanout a_Settings_keep a_Settings_lengths a_Settings_size c_Heights c_Settings mk_Packing n_max)
  have m_Heights__is_wide : Kr.MtH P w K mg base CX0 1 (He.ga K "Heights") "_is_wide" ["self", "step"] (sp_Heights__is_wide K) := Kr.MtH.of (He.meth_ok (c.fact 66 (f := .meth "Heights" "_is_wide") rfl)) (F20.bindsN fun _ _ _ _ _ _ us hl => match us, hl with | [_, _], _ => rfl) (ok_Heights__is_wide F20 a_Heights__most a_Heights__rows c_Heights)
  have m_Heights__sum_of_gaps : Kr.MtH P w K mg base CX0 4 (He.ga K "Heights") "_sum_of_gaps" ["self", "step", "many"] (sp_Heights__sum_of_gaps K) := Kr.MtH.of (He.meth_ok (c.fact 67 (f := .meth "Heights" "_sum_of_gaps") rfl)) (F21.bindsN fun _ _ _ _ _ _ us hl => match us, hl with | [_, _, _], _ => rfl) (ok_Heights__sum_of_gaps F21 a_Heights__gaps a_Heights__most a_Heights__packing c_Gaps c_Heights m_Gaps_sum_of m_Heights__is_wide mk_Gaps)
  have m_Heights_above : Kr.MtH P w K mg base CX0 5 (He.ga K "Heights") "above" ["self", "step", "moment"] (sp_Heights_above K) := Kr.MtH.of (He.meth_ok (c.fact 68 (f := .meth "Heights" "above") rfl)) (F22.bindsN fun _ _ _ _ _ _ us hl => match us, hl with | [_, _, _], _ => rfl) (ok_Heights_above F22 a_Heights__most a_Heights__packing c_Heights c_Packing m_Heights__sum_of_gaps m_Packing_page_with m_Packing_start_of n_min)
  have m_Heights_sum_below : Kr.MtH P w K mg base CX0 6 (He.ga K "Heights") "sum_below" ["self", "moment"] (sp_Heights_sum_below K) := Kr.MtH.of (He.meth_ok (c.fact 69 (f := .meth "Heights" "sum_below") rfl)) (F23.bindsN fun _ _ _ _ _ _ us hl => match us, hl with | [_, _], _ => rfl) (ok_Heights_sum_below F23 a_Heights__fanout a_Heights__most a_Heights__packing c_Heights c_Packing m_Heights__is_wide m_Heights_above m_Packing_page_with n_max)
  have h_live_pages : Kr.FnH P w K mg base CX0 5 "live_pages" ["settings", "moment"] (sp_live_pages K) := Kr.FnH.of F24 (He.glo_ok X G (c.fact 70 (f := .glo "live_pages") rfl)) (F24.bindsN fun _ _ _ _ _ _ us hl => match us, hl with | [_, _], _ => rfl) (ok_live_pages F24 a_Settings_keep c_Packing c_Settings h_check_moment h_check_settings m_Packing_page_with mk_Packing n_max)
  have h_next_border : Kr.FnH P w K mg base CX0 6 "next_border" ["settings", "moment", "level"] (sp_next_border K) := Kr.FnH.of F25 (He.glo_ok X G (c.fact 71 (f := .glo "next_border") rfl)) (F25.bindsN fun _ _ _ _ _ _ us hl => match us, hl with | [_, _, _], _ => rfl) (ok_next_border F25 a_Settings_fanout c_Packing c_Settings g_MOST_LEVEL g_ROWS h_check_moment h_check_number h_check_settings h_power m_Packing_begun m_Packing_start_of mk_Packing n_max)
  have h_tree_height : Kr.FnH P w K mg base CX0 6 "tree_height" ["settings", "moment"] (sp_tree_height K) := Kr.FnH.of F26 (He.glo_ok X G (c.fact 72 (f := .glo "tree_height") rfl)) (F26.bindsN fun _ _ _ _ _ _ us hl => match us, hl with | [_, _], _ => rfl) (ok_tree_height F26 a_Settings_fanout c_Settings h_live_pages h_root_level)
  have h_check_stretch : Kr.FnH P w K mg base CX0 5 "check_stretch" ["first", "last"] (sp_check_stretch K) := Kr.FnH.of F27 (He.glo_ok X G (c.fact 73 (f := .glo "check_stretch") rfl)) (F27.bindsN fun _ _ _ _ _ _ us hl => match us, hl with | [_, _], _ => rfl) (ok_check_stretch F27 g_ROWS h_check_moment h_check_number)
  have h_height_count : Kr.FnH P w K mg base CX0 6 "height_count" ["settings", "least", "first", "last"] (sp_height_count K) := Kr.FnH.of F28 (He.glo_ok X G (c.fact 74 (f := .glo "height_count") rfl)) (F28.bindsN fun _ _ _ _ _ _ us hl => match us, hl with | [_, _, _, _], _ => rfl) (ok_height_count F28 a_Settings_fanout c_Heights c_Settings g_MOST_HEIGHT h_check_number h_check_settings h_check_stretch h_power m_Heights_above mk_Heights n_max)
  have h_height_sum : Kr.FnH P w K mg base CX0 7 "height_sum" ["settings", "first", "last"] (sp_height_sum K) := Kr.FnH.of F29 (He.glo_ok X G (c.fact 75 (f := .glo "height_sum") rfl)) (F29.bindsN fun _ _ _ _ _ _ us hl => match us, hl with | [_, _, _], _ => rfl) (ok_height_sum F29 c_Heights h_check_settings h_check_stretch m_Heights_sum_below mk_Heights)
  have h_next_height : Kr.FnH P w K mg base CX0 7 "next_height" ["settings", "moment", "least"] (sp_next_height K) := Kr.FnH.of F30 (He.glo_ok X G (c.fact 76 (f := .glo "next_height") rfl)) (F30.bindsN fun _ _ _ _ _ _ us hl => match us, hl with | [_, _, _], _ => rfl) (ok_next_height F30 a_Settings_keep c_Settings g_MOST_HEIGHT h_check_moment h_check_number h_check_settings h_next_border h_tree_height)
  have h_greatest_height : Kr.FnH P w K mg base CX0 7 "greatest_height" ["settings", "first", "last"] (sp_greatest_height K) := Kr.FnH.of F31 (He.glo_ok X G (c.fact 77 (f := .glo "greatest_height") rfl)) (F31.bindsN fun _ _ _ _ _ _ us hl => match us, hl with | [_, _, _], _ => rfl) (ok_greatest_height F31 a_Settings_fanout a_Settings_keep c_Packing c_Settings h_border_level h_check_settings h_check_stretch h_power h_tree_height m_Packing_begun m_Packing_start_of mk_Packing n_max)
  have h__law_digits : Kr.FnH P w K mg base CX0 1 "_law_digits" ["cell", "many"] (sp__law_digits K) := Kr.FnH.of F32 (He.glo_ok X G (c.fact 78 (f := .glo "_law_digits") rfl)) (F32.bindsN fun _ _ _ _ _ _ us hl => match us, hl with | [_, _], _ => rfl) (ok__law_digits F32 n_int n_range)
  have h__law_parts : Kr.FnH P w K mg base CX0 1 "_law_parts" ["digits"] (sp__law_parts K) := Kr.FnH.of F33 (He.glo_ok X G (c.fact 79 (f := .glo "_law_parts") rfl)) (F33.bindsN fun _ _ _ _ _ _ us hl => match us, hl with | [_], _ => rfl) (ok__law_parts F33 n_int n_range)
  have h__law_settings : Kr.FnH P w K mg base CX0 6 "_law_settings" ["parts"] (sp__law_settings K) := Kr.FnH.of F34 (He.glo_ok X G (c.fact 80 (f := .glo "_law_settings") rfl)) (F34.bindsN fun _ _ _ _ _ _ us hl => match us, hl with | [_], _ => rfl) (ok__law_settings F34 mk_Settings)
  have h__law_moments : Kr.FnH P w K mg base CX0 7 "_law_moments" ["settings", "digits"] (sp__law_moments K) := Kr.FnH.of F35 (He.glo_ok X G (c.fact 81 (f := .glo "_law_moments") rfl)) (F35.bindsN fun _ _ _ _ _ _ us hl => match us, hl with | [_, _], _ => rfl) (ok__law_moments F35 h_next_border n_int n_min n_range n_sorted)
  have h__law_near_right : Kr.FnH P w K mg base CX0 8 "_law_near_right" ["settings", "moment"] (sp__law_near_right K) := Kr.FnH.of F36 (He.glo_ok X G (c.fact 82 (f := .glo "_law_near_right") rfl)) (F36.bindsN fun _ _ _ _ _ _ us hl => match us, hl with | [_, _], _ => rfl) (ok__law_near_right F36 h_greatest_height h_height_count h_height_sum h_next_height h_tree_height n_len n_max n_range n_set n_sorted n_sum)
  have h__law_stretch_right : Kr.FnH P w K mg base CX0 8 "_law_stretch_right" ["settings", "one", "other", "far"] (sp__law_stretch_right K) := Kr.FnH.of F37 (He.glo_ok X G (c.fact 83 (f := .glo "_law_stretch_right") rfl)) (F37.bindsN fun _ _ _ _ _ _ us hl => match us, hl with | [_, _, _, _], _ => rfl) (ok__law_stretch_right F37 h_greatest_height h_height_count h_height_sum h_tree_height)
  have h__law_end_right : Kr.FnH P w K mg base CX0 8 "_law_end_right" ["settings"] (sp__law_end_right K) := Kr.FnH.of F38 (He.glo_ok X G (c.fact 84 (f := .glo "_law_end_right") rfl)) (F38.bindsN fun _ _ _ _ _ _ us hl => match us, hl with | [_], _ => rfl) (ok__law_end_right F38 h_height_sum h_next_height h_tree_height n_max n_range n_sum)
  exact ok_law F39 h__law_digits h__law_end_right h__law_moments h__law_near_right h__law_parts h__law_settings h__law_stretch_right n_len
end Kw
section
open PyProof.Rows PySem PySem.Calls PySem.W
theorem PySem.Challenge.cw_keeprows_k85_whole_heights_far_away_holds : PySem.Challenge.rw_keeprows_k85_whole_heights_far_away.Holds := by
  w_on; o_law
  refine HandSHeadRun.head_imp (r := Kw.R0) (q := view Kw.R0.prog [0, 49]) (H := Kw.hk) (ob := Kw.ob) (M := 6000) (loose := Kw.loose) (d := HandSHeadRun.topDef Kw.R0.prog 49) (kwd := []) Kw.ob_eq
    Kw.runs (by kernel_rfl) (by kernel_rfl) (by kernel_rfl) (by rfl) (by first | assumption | decide +kernel) (by decide +kernel) ⟨rfl, rfl, rfl, rfl, rfl, by decide +kernel⟩ ?hw ?hc
  case hw =>
    w_witness2
  case hc =>
    refine L2.walk_ofE (l := PySem.Challenge.rw_keeprows_k85_whole_heights_far_away) (n := 63) (k := 9) (x := "script") (CX := L2.CX0) rfl (by decide) (by kernel_rfl) ⟨rfl, by decide, by decide⟩ ?F (fun _ _ _ _ z => z)
    intro w mg fa h Y G hmg0
    obtain ⟨K, KX, c, e⟩ := Y
    have hmg : mg ("law" : PySem.Str) = some (.ref fa) := by
      have en : (HandSHeadRun.topDef Kw.R0.prog 49).name = ("law" : PySem.Str) := by kernel_rfl
      rw [← en]
      exact hmg0
    obtain ⟨fd, hb, hF⟩ := Kw.facts (P := (PySem.Challenge.rw_keeprows_k85_whole_heights_far_away).prog) (w := w) KX G hmg c e
    exact ⟨K, fd, Kw.sp_law K, KX, hb, fun H a ns hl _ hS => ⟨a, ns, rfl, hS, hl, fun _ => rfl⟩, hF⟩
end

