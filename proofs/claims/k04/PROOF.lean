import PyProof.Rows.All
import Wide.All
import OpenK.AllK
import Wide.FinOn
import HandS.Base
import HandS.Call
import HandS.List
import HandS.Comp
import HandS.Dict
import HandS.Iter
import HandS.Ends
import HandS.Words
import HandS.WordsList
import HandS.WordsDict
import HandS.Wide
import HandS.IsInst
import HandS.Defaults
import HandS.MakeKw
import HandS.MakeKwOnly
import HandS.Head0
import HandS.Head1
import HandS.Head2
import HandS.HeadEnd
import HandS.HeadHook1
import HandS.HeadHook2
import HandS.Style
import HandS.Conv
import PyProof.Rows.SeqMore
import HandS.TryOnly
import KE.KDictList
import HandS.Text
import HandS.DictComp
import HandS.Codes
import HandS.ExcInit
import HandS.TryMany
import HandS.ExcIs
import HandS.ExcField
import KE.KExcInit
import HandS.ExcOwn
import HandS.WordsExc
import PySem.Challenge.RW_keeprows_k04_whole_changed_texts
set_option Elab.async false
set_option linter.all false
set_option maxRecDepth 100000
set_option maxHeartbeats 8000000

namespace Kr
open L2 PySem PySem.Spec PyProof.Rows

/-! ### a def of the text, called by its name -/
section
variable (P : Program) (w : World) (K : PySem.W.Frag) (mg : Str → Option Value) (base : Heap) (CX : CXT) (k : Nat)
def FnH (x : Str) (ps : List Str) (sp : Sp) : Prop := ∃ (f : Addr) (fd : FuncData), mg x = some (.ref f) ∧ PySem.W.keepIn K (.ref f) = true ∧ Binds K fd ps [] ∧ FnOk P w K mg base CX k f fd ps sp
def MtH (C : Addr) (m : Str) (ps : List Str) (sp : Sp) : Prop := ∃ (f : Addr) (fd : FuncData), Meth K C m f ∧ Binds K fd ps [] ∧ FnOk P w K mg base CX k f fd ps sp
/-- the class of the module's name x is made by positional values -/
def MkH (x : Str) (C : Addr) (ps : List Str) (sp : Sp) : Prop := ∃ (f : Addr) (fd : FuncData), mg x = some (.ref C) ∧ Mk K C f ∧ Binds K fd ps [] ∧ FnOk P w K mg base CX k f fd ps sp
/-- the class is made by n positional values (self counted) and keywords ks -/
def MkK (x : Str) (C : Addr) (ps : List Str) (n : Nat) (ks : List Str) (sp : Sp) : Prop := ∃ (f : Addr) (fd : FuncData), mg x = some (.ref C) ∧ Mk K C f ∧ KBn K fd ps n ks (fun us ws => us ++ ws) (fun vs zs => vs ++ zs) ∧ FnOk P w K mg base CX k f fd ps sp
end
section
variable {X : Cx} {CX : CXT} {k n : Nat} {C : Addr} {ps ks : List Str} {sp : Sp} {E : XK} {x m : Str} {p pos apos : Pos} {e o : Expr} {es : List Expr} {kws : List Keyword} {t tk : TA} {ta : TE}
theorem pe_clE (h : FnH X.prog X.w X.K X.mg X.base CX k x ps sp) (hr : Room k X.A) (hx : Passes CX X E) (ha : PA X (e :: es) t) (hg : Gl X x := by rfl) (hdb : (x == ("__debug__" : Str)) = false := by decide)
    (he : starEach (e :: es) X.env = (false, eval e X.env) :: starEach es X.env := by rfl) (hpl : (backTo pos (starEach es X.env)).any (·.1) = false := by rfl) : PE X (.Call (.Name x p) (e :: es) [] pos) (tCall sp [] E t) := by
  obtain ⟨f, fd, hm, hk, hb, F⟩ := h
  exact pe_call F hr hg hm hk hb .nil hx ha hdb he hpl
theorem pe_cl (h : FnH X.prog X.w X.K X.mg X.base CX0 k x ps sp) (hr : Room k X.A) (ha : PA X (e :: es) t) (hg : Gl X x := by rfl) (hdb : (x == ("__debug__" : Str)) = false := by decide)
    (he : starEach (e :: es) X.env = (false, eval e X.env) :: starEach es X.env := by rfl) (hpl : (backTo pos (starEach es X.env)).any (·.1) = false := by rfl) : PE X (.Call (.Name x p) (e :: es) [] pos) (tCall sp [] E0 t) :=
  pe_clE h hr pass0 ha hg hdb he hpl
theorem pe_mt (h : MtH X.prog X.w X.K X.mg X.base CX0 k C m ps sp) (c : Cls X.K C) (hr : Room k X.A) (he : PE X o ta) (ha : PA X (e :: es) t) {pl : Sem Bool}
    (hst : starEach (e :: es) X.env = (false, eval e X.env) :: starEach es X.env := by rfl) (hpl : (backTo pos (starEach es X.env)).any (·.1) = false := by rfl)
    (ht : eval (.Call (.Attribute o m apos) (e :: es) [] pos) X.env = (do
      let ov ← eval o X.env
      standAt apos.atName
      let (f, first) ← holding [ov] (getMethod ov m pl)
      callWith pos f first (backTo pos (starEach (e :: es) X.env)) (backToKw pos (keywordEach [] X.env))) := by rfl) :
    PE X (.Call (.Attribute o m apos) (e :: es) [] pos) (tMeth C m sp [] E0 ta t) := by
  obtain ⟨f, fd, hm, hb, F⟩ := h
  exact pe_meth he c hm F hr hb .nil pass0 ha hst hpl ht
theorem pe_mt0 (h : MtH X.prog X.w X.K X.mg X.base CX0 k C m ps sp) (c : Cls X.K C) (hr : Room k X.A) (he : PE X o ta) {pl : Sem Bool}
    (ht : eval (.Call (.Attribute o m apos) [] [] pos) X.env = (do
      let ov ← eval o X.env
      standAt apos.atName
      let (f, first) ← holding [ov] (getMethod ov m pl)
      callWith pos f first (backTo pos (starEach [] X.env)) (backToKw pos (keywordEach [] X.env))) := by rfl) :
    PE X (.Call (.Attribute o m apos) [] [] pos) (tMeth C m sp [] E0 ta tNil) := by
  obtain ⟨f, fd, hm, hb, F⟩ := h
  exact pe_meth0 he c hm F hr hb .nil pass0 ht
theorem pe_mk (h : MkH X.prog X.w X.K X.mg X.base CX0 k x C ps sp) (hr : Room (k + 1) X.A) (ha : PA X (e :: es) t) (hg : Gl X x := by rfl) (hdb : (x == ("__debug__" : Str)) = false := by decide)
    (he : starEach (e :: es) X.env = (false, eval e X.env) :: starEach es X.env := by rfl) (hpl : (backTo pos (starEach es X.env)).any (·.1) = false := by rfl) : PE X (.Call (.Name x p) (e :: es) [] pos) (tMake C sp [] E0 t) := by
  obtain ⟨f, fd, hm, M, hb, F⟩ := h
  exact pe_make M F hr hg hm hb .nil pass0 ha hdb he hpl
theorem pe_mkE (h : MkK X.prog X.w X.K X.mg X.base CX k x C ps (n + 1) ks sp) (hr : Room (k + 1) X.A) (hx : Passes CX X E) (ha : PA X (e :: es) t) (hkw : PK X kws tk) (hg : Gl X x := by rfl)
    (hall : (backToKw pos (keywordEach kws X.env)).all (·.1.isSome) = true := by rfl) (hks : (backToKw pos (keywordEach kws X.env)).filterMap (·.1) = ks := by rfl) (hdb : (x == ("__debug__" : Str)) = false := by decide)
    (he : starEach (e :: es) X.env = (false, eval e X.env) :: starEach es X.env := by rfl) (hpl : ((backTo pos (starEach (e :: es) X.env)).any (·.1) || (backToKw pos (keywordEach kws X.env)).any (·.1.isNone)) = false := by rfl) :
    PE X (.Call (.Name x p) (e :: es) kws pos) (tMakeK C n ks.length sp (fun vs zs => vs ++ zs) E t tk) := by
  obtain ⟨f, fd, hm, M, hb, F⟩ := h
  exact pe_makeK M F hr hg hm hb hx ha hkw hall hks hdb he hpl
theorem pe_gint {i : Int} (h : ∃ t, X.mg x = some (.int i t)) (hg : Gl X x := by rfl) (hd : (x == ("__debug__" : Str)) = false := by decide) : PE X (.Name x pos) (tC (.int i)) := by
  obtain ⟨t, ht⟩ := h
  exact pe_glob hg ht ⟨t, rfl⟩ hd
theorem pe_gcls (h : X.mg x = some (.ref C)) (hg : Gl X x := by rfl) (hd : (x == ("__debug__" : Str)) = false := by decide) : PE X (.Name x pos) (tC (.ref C)) := pe_glob hg h rfl hd
theorem pe_bty {T : String} (hm : X.mg x = none) (hv : bootBuiltins x = some (.type T) := by decide +kernel) (hg : Gl X x := by rfl) (hn : x ≠ "__name__" := by decide) (hd : (x == ("__debug__" : Str)) = false := by decide) : PE X (.Name x pos) (tC (.ty T)) := pe_bltn hg hm hv rfl hn hd
end

/-! ### from the head's facts -/
section
variable {P : Program} {w : World} {K : PySem.W.Frag} {mg : Str → Option Value} {base : Heap} {CX : CXT} {k : Nat} {x : Str} {fd : FuncData} {params : Arguments} {body : List Stmt} {scope : Scope} {ps : List Str} {sp : Sp} {qual : Str}
theorem FnH.of (F : FunD K x qual params body scope [] [] (He.ga K x) fd) (g : mg x = some (.ref (He.ga K x))) (b : Binds K fd ps []) (ok : FnOk P w K mg base CX k (He.ga K x) fd ps sp) : FnH P w K mg base CX k x ps sp := ⟨_, _, g, F.kp, b, ok⟩
theorem MtH.of {C f : Addr} {m : Str} (M : Meth K C m f) (b : Binds K fd ps []) (ok : FnOk P w K mg base CX k f fd ps sp) : MtH P w K mg base CX k C m ps sp := ⟨_, _, M, b, ok⟩
theorem MkH.of {C f : Addr} (g : mg x = some (.ref C)) (M : Mk K C f) (b : Binds K fd ps []) (ok : FnOk P w K mg base CX k f fd ps sp) : MkH P w K mg base CX k x C ps sp := ⟨_, _, g, M, b, ok⟩
theorem MkK.of {C f : Addr} {n : Nat} {ks : List Str} (g : mg x = some (.ref C)) (M : Mk K C f) (b : KBn K fd ps n ks (fun us ws => us ++ ws) (fun vs zs => vs ++ zs)) (ok : FnOk P w K mg base CX k f fd ps sp) : MkK P w K mg base CX k x C ps n ks sp := ⟨_, _, g, M, b, ok⟩
/-- n positional values and keywords, every parameter given, in the parameters' order -/
theorem kbn_all {f : Addr} {m : Str} (F : FunD K m qual params body scope [] [] f fd) (n : Nat) (ks : List Str)
    (h : ∀ (kV doc pm : Value) (an : Option Addr) (cdv ct : Value) (us ws : List Value), us.length = n → ws.length = ks.length → bindArgs (PySem.W.fnOf m qual params body scope .none kV doc pm an cdv ct) ⟨us, ks.zip ws⟩ = pure (ps.zip (us ++ ws))) :
    KBn K fd ps n ks (fun us ws => us ++ ws) (fun vs zs => vs ++ zs) := by
  obtain ⟨oc, od, dV, kV, doc, pm, an, cdv, ct, osl, rfl, lk, hcd, hD, hK⟩ := F.ex
  rcases hD with ⟨_, rfl⟩ | ⟨e, _⟩
  · exact ⟨fun s us ws _ h1 h2 => .of_eq (h kV doc pm an cdv ct us ws h1 h2), fun a b => a.append b⟩
  · exact absurd rfl e
end

/-! ### the head with one more Bool -/
abbrev AlM : Type := He.AlD × Bool
def obsM (n : Nat) (fa : List He.Fa) (fn : List He.DefD) (ex : PySem.W.Frag → Bool) (g : Addr → Option Obj) : AlM := (He.obsDG n fa fn g, ex (He.frG g (He.asD g n)))
def hookM (n : Nat) (fa : List He.Fa) (fn : List He.DefD) (ex : PySem.W.Frag → Bool) : PySem.W.Hook where
  α := AlM
  obs := fun s => obsM n fa fn ex s.heap.get?
  val := fun _ => (He.valD fn, true)
  says := fun _ h => ∃ K : PySem.W.Frag, K.In h ∧ He.SaysD fa fn K ∧ ex K = true
  of := fun _ _ e => ⟨_, He.frG_in, congrArg (fun z : AlM => z.1) e, congrArg (fun z : AlM => z.2) e⟩
  keeps := fun _ _ _ ⟨K, hK, c, d⟩ k => ⟨K, PySem.W.Frag.In.keeps hK k, c, d⟩
theorem obsM_eq {n : Nat} {fa : List He.Fa} {fn : List He.DefD} {ex : PySem.W.Frag → Bool} {g : Addr → Option Obj} {s : Shared} (h : ∀ a, g a = s.heap.get? a) : obsM n fa fn ex g = (hookM n fa fn ex).obs s := by
  have e : g = s.heap.get? := funext h
  rw [e] <;> rfl
theorem ex_all {es : List (PySem.W.Frag → Bool)} {K : PySem.W.Frag} (h : (es.all fun e => e K) = true) (i : Nat) {e : PySem.W.Frag → Bool} (hi : es[i]? = some e := by rfl) : e K = true := List.all_eq_true.mp h e (List.mem_of_getElem? hi)

/-! ### heaps -/
theorem upd_free {H : Hp} {a p : Addr} {o u : HO} (h : H a = some u) (hp : H p = none) : upd H p o a = some u := by
  rw [upd_ne (ne_of_none h hp)]
  exact h
theorem same_new {H : Hp} {p : Addr} {o : HO} (h : H p = none) : Same H (upd H p o) := fun b x e => upd_free e h
/-- all but a stands as it was -/
def But (a : Addr) (H H' : Hp) : Prop := ∀ b o, b ≠ a → H b = some o → H' b = some o
theorem But.refl (a : Addr) (H : Hp) : But a H H := fun _ _ _ h => h
theorem But.trans {a : Addr} {H H1 H2 : Hp} (x : But a H H1) (y : But a H1 H2) : But a H H2 := fun b o n h => y b o n (x b o n h)
theorem But.of_same {a : Addr} {H H' : Hp} (x : Same H H') : But a H H' := fun b o _ h => x b o h
theorem But.upd {a : Addr} {H H' : Hp} {o : HO} (x : But a H H') : But a H (upd H' a o) := fun b u n h => by
  rw [upd_ne n]
  exact x b u n h
theorem But.new {a p : Addr} {H H' : Hp} {o : HO} (x : But a H H') (hp : H' p = none) : But a H (L2.upd H' p o) := fun b u n h => upd_free (x b u n h) hp
/-- where a list of three ints stands that draws change -/
def Src (H : Hp) (a : Addr) : Prop := ∃ c0 c1 c2 : Int, H a = some (.lst [.int c0, .int c1, .int c2])
/-- draws from a: all else stands -/
structure Dr (a : Addr) (H H' : Hp) : Prop where
  src : Src H' a
  old : But a H H'
theorem Src.set {H : Hp} {a : Addr} (c0 c1 c2 : Int) : Src (L2.upd H a (.lst [.int c0, .int c1, .int c2])) a := ⟨c0, c1, c2, upd_same⟩
theorem Src.new {H : Hp} {a p : Addr} {o : HO} (x : Src H a) (hp : H p = none) : Src (L2.upd H p o) a := by
  obtain ⟨c0, c1, c2, h⟩ := x
  exact ⟨c0, c1, c2, upd_free h hp⟩
theorem Src.ne {H : Hp} {a p : Addr} (x : Src H a) (hp : H p = none) : p ≠ a := by
  obtain ⟨c0, c1, c2, h⟩ := x
  intro e
  rw [e, h] at hp
  cases hp
theorem Dr.refl {a : Addr} {H : Hp} (x : Src H a) : Dr a H H := ⟨x, But.refl a H⟩
theorem Dr.trans {a : Addr} {H H1 H2 : Hp} (x : Dr a H H1) (y : Dr a H1 H2) : Dr a H H2 := ⟨y.src, x.old.trans y.old⟩
theorem Dr.new {a p : Addr} {H H' : Hp} {o : HO} (x : Dr a H H') (hp : H' p = none) : Dr a H (L2.upd H' p o) := ⟨x.src.new hp, x.old.new hp⟩
theorem Dr.free {a p : Addr} {H H' : Hp} (x : Dr a H H') (hp : H' p = none) : H p = none := by
  cases q : H p with
  | none => rfl
  | some o =>
    have ne := x.src.ne hp
    rw [x.old p o ne q] at hp
    cases hp
theorem But.seq {K : PySem.W.Frag} {H H' : Hp} {a b : Addr} {xs : List V} (e : But a H H') (n : b ≠ a) (h : SqL K H b xs) : SqL K H' b xs := by
  rcases h with (h | ⟨o, h⟩) | h
  · exact .inl (.inl (e _ _ n h))
  · exact .inl (.inr ⟨o, e _ _ n h⟩)
  · exact .inr h
theorem sz {n : Nat} (h : n ≤ 100000) : n ≤ sizeLine := Nat.le_trans h (by decide)
theorem szl {n : Nat} (h : n < 100000) : n < sizeLine := Nat.lt_of_lt_of_le h (by decide)

/-! ### list + list, where both are readable -/
def rCatS (K : PySem.W.Frag) : R2 := fun x y H Q => ∃ l b xs zs, x = .ref l ∧ y = .ref b ∧ SqL K H l xs ∧ SqL K H b zs ∧ xs.length + zs.length ≤ sizeLine ∧ ∀ p, H p = none → Q (.ref p) (upd H p (.lst (xs ++ zs)))
theorem op_catS {X : Cx} : OpR X (binaryOp .Add) (rCatS X.K) := by
  intro pins s σ H x y v u Q I rx ry h
  obtain ⟨l, b, xs, zs, rfl, rfl, hL, hB, hz, q⟩ := h
  cases rx
  cases ry
  obtain ⟨i1, r1, ⟨o1, n1, e1, c1, d1, t1⟩, z1⟩ := I.list hL
  obtain ⟨i2, r2, ⟨o2, n2, e2, c2, d2, t2⟩, z2⟩ := I.list hB
  obtain ⟨oc1, od1, dt1, sl1⟩ := o1
  obtain ⟨oc2, od2, dt2, sl2⟩ := o2
  simp only at c1 d1 t1 c2 d2 t2
  subst c1 d1 t1 c2 d2 t2
  have l1 := r1.length
  have l2 := r2.length
  refine concat_meets ⟨_, e1, rfl⟩ ⟨_, e2, rfl⟩ noFill_list_add seq_list_add PySem.F.slot_list_add
    PySem.F.entry_list_add (PySem.F.args_list_add_2 _ _)
    (list_addW l b i1.toArray i2.toArray n1 n2 none none sl1 sl2 (by rw [List.size_toArray, List.size_toArray]; omega)) ⟨e1, e2, ?_⟩
  have ea : i1.toArray ++ i2.toArray = (i1 ++ i2).toArray := by simp
  rw [ea]
  exact ⟨.ref _, _, I.lnew (t' := s.toks) (r1.append r2) (by rw [List.length_append]; omega), rfl, q _ I.fresh⟩

/-! ### readings by names, for rules whose reading is a lambda -/
section
variable {X : Cx}
def rInt1 : List V → Hp → VK → Prop := fun xs H Q => (∃ i, xs = [.int i] ∧ Q (.int i) H) ∨ ∃ k, xs = [.bl k] ∧ Q (.int (if k then 1 else 0)) H
theorem c_int1 : CallR X (.type "int") rInt1 := call_int1
def rMax2 : List V → Hp → VK → Prop := fun xs H Q => ∃ i j, xs = [.int i, .int j] ∧ Q (.int (if j > i then j else i)) H
def rMin2 : List V → Hp → VK → Prop := fun xs H Q => ∃ i j, xs = [.int i, .int j] ∧ Q (.int (if j < i then j else i)) H
theorem c_max2 (hc : X.calm = true) : CallR X (.builtin "max") rMax2 := call_max2 hc
theorem c_min2 (hc : X.calm = true) : CallR X (.builtin "min") rMin2 := call_min2 hc
def rLenL (K : PySem.W.Frag) : List V → Hp → VK → Prop := fun xs H Q => ∃ p ys, xs = [.ref p] ∧ (SqL K H p ys ∨ SqT K H p ys) ∧ Q (.int ys.length) H
theorem c_len : CallR X (.builtin "len") (rLenL X.K) := call_len_seq
def rTupOf (K : PySem.W.Frag) : List V → Hp → VK → Prop := fun xs H Q => ∃ p ys, xs = [.ref p] ∧ ((SqL K H p ys ∧ ∀ l, H l = none → Q (.ref l) (upd H l (.tup ys))) ∨ (SqT K H p ys ∧ Q (.ref p) H))
theorem c_tuple : CallR X (.type "tuple") (rTupOf X.K) := call_tuple_of
def rListOf (K : PySem.W.Frag) : List V → Hp → VK → Prop := fun xs H Q => ∃ p ys, xs = [.ref p] ∧ (SqL K H p ys ∨ SqT K H p ys) ∧ ∀ l, H l = none → Q (.ref l) (upd H l (.lst ys))
theorem c_list : CallR X (.type "list") (rListOf X.K) := call_list_of
def rAddS : R2 := fun x y H Q => ∃ i j, x = .str i ∧ y = .str j ∧ i.length + j.length ≤ sizeLine ∧ Q (.str (i ++ j)) H
theorem o_adds : OpR X (binaryOp .Add) rAddS := op_add_str
def rIsN : R2 := fun x y H Q => y = .non ∧ Q (.bl (decide (x = .non))) H
def rNotN : R2 := fun x y H Q => y = .non ∧ Q (.bl (!decide (x = .non))) H
theorem o_isN : OpR X (compareOp .Is) rIsN := op_isN
theorem o_notN : OpR X (compareOp .IsNot) rNotN := op_notN
def tTru (K : PySem.W.Frag) (ta : TE) : TT := fun σ H Q => ta σ H fun x H' => ∃ k, TruV K x H' k ∧ Q k H'
theorem p_truth {a : Expr} {ta : TE} (ha : PE X a ta) (he : ∀ whole, isTrue a X.env whole = (do let v ← whole; standAt a.pos; holding [v] (truthy v))) : PT X a (tTru X.K ta) := pt_truth ha he
end

/-! ### the readings, step by step -/
section
variable {K : PySem.W.Frag} {σ : L2.St} {H : Hp} {Q : VK} {QT : Bool → Hp → Prop} {QA : List V → Hp → Prop} {QG : L2.St → Hp → Prop} {D : Ends} {ta tb tc te : TE} {t u c : TT} {tr : TA} {ts us : TS} {g : TG} {gs : TGs} {v x y : V} {r r' : R2} {tl th : TO} {ti to : TE}
def rNew (o : HO) (H : Hp) (Q : VK) : Prop := ∀ p, H p = none → Q (.ref p) (upd H p o)
def rSz (n : Nat) (R : Prop) : Prop := n ≤ sizeLine ∧ R
theorem r_sz {n : Nat} {R : Prop} (h : n ≤ 100000) (q : R) : rSz n R := ⟨sz h, q⟩
theorem r_new {o : HO} (q : ∀ p, H p = none → Q (.ref p) (upd H p o)) : rNew o H Q := q
theorem r_tup (q : tr σ H fun xs H1 => rSz xs.length (rNew (.tup xs) H1 Q)) : tTup tr σ H Q := q
theorem r_lst (q : tr σ H fun xs H1 => rSz xs.length (rNew (.lst xs) H1 Q)) : tLst tr σ H Q := q
theorem r_catS {l b : Addr} {xs zs : List V} (h : SqL K H l xs) (h' : SqL K H b zs) (hz : xs.length + zs.length ≤ 100000) (q : rNew (.lst (xs ++ zs)) H Q) : rCatS K (.ref l) (.ref b) H Q := ⟨l, b, xs, zs, rfl, rfl, h, h', sz hz, q⟩
theorem r_tupOf {p : Addr} {ys : List V} (h : SqL K H p ys) (q : rNew (.tup ys) H Q) : rTupOf K [.ref p] H Q := ⟨p, ys, rfl, .inl ⟨h, q⟩⟩
theorem r_listOf {p : Addr} {ys : List V} (h : SqL K H p ys) (q : rNew (.lst ys) H Q) : rListOf K [.ref p] H Q := ⟨p, ys, rfl, .inl h, q⟩
theorem r_slL {a : Addr} {xs : List V} {lo hi : Option Int} (h : SqL K H a xs) (q : rNew (.lst (cutV xs lo hi)) H Q) : rSlL K (.ref a) lo hi H Q := ⟨a, xs, rfl, h, q⟩
def rOb (C : Addr) (m : Str) (x : V) (H : Hp) (R : Prop) : Prop := ∃ a dx fs, x = .ref a ∧ H a = some (.ins C dx fs) ∧ fs.lookup m = none ∧ R
theorem r_meth {C : Addr} {m : Str} {sp : Sp} {E : XK} (q : ta σ H fun x H1 => rOb C m x H1 (tr σ H1 fun vs H2 => sp (x :: vs) H2 Q E)) : tMeth C m sp [] E ta tr σ H Q := by
  have e : (fun (x : V) (H1 : Hp) => rOb C m x H1 (tr σ H1 fun vs H2 => sp (x :: vs) H2 Q E)) = fun x H1 => rOb C m x H1 (tr σ H1 fun vs H2 => sp (x :: (vs ++ [])) H2 Q E) := by
    simp only [List.append_nil]
  show ta σ H fun x H1 => rOb C m x H1 (tr σ H1 fun vs H2 => sp (x :: (vs ++ [])) H2 Q E)
  rw [← e]
  exact q
theorem r_obj {C a dx : Addr} {m : Str} {fs : List (Str × V)} {R : Prop} (h : H a = some (.ins C dx fs)) (l : fs.lookup m = none) (q : R) : rOb C m (.ref a) H R := ⟨a, dx, fs, rfl, h, l, q⟩
def rFd (K : PySem.W.Frag) (f : Str) (x : V) (H : Hp) (Q : VK) : Prop := ∃ a C dx fs v, x = .ref a ∧ H a = some (.ins C dx fs) ∧ Cls K C ∧ NoAttr K C f ∧ fs.lookup f = some v ∧ Q v H
theorem r_fld {f : Str} (q : ta σ H fun x H1 => rFd K f x H1 Q) : tFld K ta f σ H Q := q
theorem r_fd {a C dx : Addr} {f : Str} {fs : List (Str × V)} (h : H a = some (.ins C dx fs)) (c : Cls K C) (n : NoAttr K C f) (l : fs.lookup f = some v) (q : Q v H) : rFd K f (.ref a) H Q := ⟨a, C, dx, fs, v, rfl, h, c, n, l, q⟩
def rSt (K : PySem.W.Frag) (f : Str) (y x : V) (H : Hp) (Qn : Hp → Prop) : Prop := ∃ a C dx fs, x = .ref a ∧ H a = some (.ins C dx fs) ∧ Cls K C ∧ NoAttr K C f ∧ fs.length < 1000 ∧ Qn (upd H a (.ins C dx (putF f y fs)))
theorem r_sFld {f : Str} (q : tb σ H fun y H1 => ta σ H1 fun x H2 => rSt K f y x H2 fun H3 => D.nx σ H3) : sFld K ta tb f D σ H := q
theorem r_st {a C dx : Addr} {f : Str} {fs gs : List (Str × V)} {Qn : Hp → Prop} (h : H a = some (.ins C dx fs)) (c : Cls K C) (n : NoAttr K C f) (l : fs.length < 1000) (e : putF f y fs = gs) (q : Qn (upd H a (.ins C dx gs))) : rSt K f y (.ref a) H Qn := by
  subst e
  exact ⟨a, C, dx, fs, rfl, h, c, n, l, q⟩
def rPo (x : V) (R : Option Int → Prop) : Prop := ∃ i, x = .int i ∧ R (some i)
theorem r_part {QO : Option Int → Hp → Prop} (q : ta σ H fun x H1 => rPo x fun o => QO o H1) : tPart ta σ H QO := q
theorem r_po {i : Int} {R : Option Int → Prop} (q : R (some i)) : rPo (.int i) R := ⟨i, rfl, q⟩
def rTy (K : PySem.W.Frag) (T : String) (x : V) (H : Hp) (R : Prop) : Prop := tyV K T x H ∧ R
theorem r_BM {T : String} {rm : V → List V → Hp → VK → Prop} (q : to σ H fun x H1 => rTy K T x H1 (tr σ H1 fun xs H2 => rm x xs H2 Q)) : tBM K T rm to tr σ H Q := q
theorem r_tyL {p : Addr} {xs : List V} {R : Prop} (h : SqL K H p xs) (q : R) : rTy K "list" (.ref p) H R := ⟨.inl ⟨rfl, xs, h⟩, q⟩
def rBl (x : V) (R : Bool → Prop) : Prop := ∃ k, x = .bl k ∧ R k
theorem r_bl {k : Bool} {R : Bool → Prop} (q : R k) : rBl (.bl k) R := ⟨k, rfl, q⟩
theorem r_test (q : te σ H fun x H' => rBl x fun k => QT k H') : tTest te σ H QT := q
theorem r_tB (q : te σ H fun x H' => rBl x fun k => QT k H') : tB te σ H QT := q
theorem r_andV (q : ta σ H fun x H1 => rBl x fun c => if c = true then tb σ H1 Q else Q (.bl false) H1) : tAndV ta tb σ H Q := q
theorem r_orV (q : ta σ H fun x H1 => rBl x fun c => if c = true then Q (.bl true) H1 else tb σ H1 Q) : tOrV ta tb σ H Q := q
theorem r_notV (q : ta σ H fun x H1 => rBl x fun c => Q (.bl (!c)) H1) : tNotV ta σ H Q := q
theorem r_chain (q : ta σ H fun x H1 => tb σ H1 fun y H2 => r x y H2 fun z H3 => rBl z fun k => if k = true then tc σ H3 fun w' H4 => r' y w' H4 Q else Q (.bl false) H3) : tChain r r' ta tb tc σ H Q := q
def rTr (K : PySem.W.Frag) (x : V) (H : Hp) (R : Bool → Prop) : Prop := ∃ k, TruV K x H k ∧ R k
theorem r_tru (q : ta σ H fun x H' => rTr K x H' fun k => QT k H') : tTru K ta σ H QT := q
def rSq (K : PySem.W.Frag) (x : V) (H : Hp) (R : Addr → Prop) : Prop := ∃ a, x = .ref a ∧ (∃ xs, SqL K H a xs) ∧ R a
theorem r_list {R : It → Hp → Prop} (q : te σ H fun x H1 => rSq K x H1 fun a => R (Itl K a) H1) : iList K te σ H R := q
theorem r_sq {a : Addr} {xs : List V} {R : Addr → Prop} (h : SqL K H a xs) (q : R a) : rSq K (.ref a) H R := ⟨a, rfl, ⟨xs, h⟩, q⟩
def rSqT (K : PySem.W.Frag) (x : V) (H : Hp) (R : Addr → Prop) : Prop := ∃ a, x = .ref a ∧ (∃ xs, SqT K H a xs) ∧ R a
theorem r_tupI {R : It → Hp → Prop} (q : te σ H fun x H1 => rSqT K x H1 fun a => R (Itt K a) H1) : iTup K te σ H R := q
theorem r_sqT {a : Addr} {xs : List V} {R : Addr → Prop} (h : SqT K H a xs) (q : R a) : rSqT K (.ref a) H R := ⟨a, rfl, ⟨xs, h⟩, q⟩
def rRg1 (vs : List V) (R : Int → Prop) : Prop := ∃ j : Int, vs = [.int j] ∧ -(2 ^ 62) ≤ j ∧ j < 2 ^ 62 ∧ R j
def rRg2 (vs : List V) (R : Int → Int → Prop) : Prop := ∃ i j : Int, vs = [.int i, .int j] ∧ (-(2 ^ 62) ≤ i ∧ i < 2 ^ 62 ∧ -(2 ^ 62) ≤ j ∧ j < 2 ^ 62) ∧ R i j
theorem r_rng1 {R : It → Hp → Prop} (q : tr σ H fun vs H1 => rRg1 vs fun j => R (Itr 0 j.toNat) H1) : iRng1 tr σ H R := q
theorem r_rng2 {R : It → Hp → Prop} (q : tr σ H fun vs H1 => rRg2 vs fun i j => R (Itr i (j - i).toNat) H1) : iRng2 tr σ H R := q
theorem r_rg1 {j : Int} {R : Int → Prop} (h : -(2 ^ 62) ≤ j ∧ j < 2 ^ 62) (q : R j) : rRg1 [.int j] R := ⟨j, rfl, h.1, h.2, q⟩
theorem r_rg2 {i j : Int} {R : Int → Int → Prop} (h : -(2 ^ 62) ≤ i ∧ i < 2 ^ 62 ∧ -(2 ^ 62) ≤ j ∧ j < 2 ^ 62) (q : R i j) : rRg2 [.int i, .int j] R := ⟨i, j, rfl, h, q⟩
def rTwo (vs : List V) (R : V → V → Prop) : Prop := ∃ v w, vs = [v, w] ∧ R v w
theorem r_par {i j : Nat} (q : tr σ H fun vs H1 => rTwo vs fun v w => gName i v σ H1 fun σ' H' => gName j w σ' H' D.nx) : tPar i j tr D σ H := q
theorem r_two {v w : V} {R : V → V → Prop} (q : R v w) : rTwo [v, w] R := ⟨v, w, rfl, q⟩
def rMk (C : Addr) (sp : Sp) (E : XK) (f : V → List V) (H : Hp) (Q : VK) : Prop := ∀ x dx, H x = none → H dx = none → dx ≠ x → sp (f (.ref x)) (upd (upd H dx (.own x)) x (.ins C dx [])) (fun v H3 => v = .non ∧ Q (.ref x) H3) E
theorem r_mkK {C : Addr} {n m : Nat} {sp : Sp} {E : XK} {tk : TA} (q : tr σ H fun vs H1 => tk σ H1 fun zs H2 => vs.length = n ∧ zs.length = m ∧ rMk C sp E (fun s => s :: vs ++ zs) H2 Q) : tMakeK C n m sp (fun vs zs => vs ++ zs) E tr tk σ H Q := q
theorem r_mk {C : Addr} {sp : Sp} {E : XK} (q : tr σ H fun vs H1 => rMk C sp E (fun s => s :: vs) H1 Q) : tMake C sp [] E tr σ H Q := by
  have e : (fun (vs : List V) (H1 : Hp) => rMk C sp E (fun s => s :: vs) H1 Q) = fun vs H1 => rMk C sp E (fun s => s :: (vs ++ [])) H1 Q := by
    simp only [List.append_nil]
  show tr σ H fun vs H1 => rMk C sp E (fun s => s :: (vs ++ [])) H1 Q
  rw [← e]
  exact q
theorem r_tC (q : Q v H) : tC v σ H Q := q
theorem r_op (q : ta σ H fun x H1 => tb σ H1 fun y H2 => r x y H2 Q) : tOp r ta tb σ H Q := q
theorem r_un {r1 : V → Hp → VK → Prop} (q : ta σ H fun x H1 => r1 x H1 Q) : tUn r1 ta σ H Q := q
theorem r_I0 {f : Int → Int → V} {i j : Int} (q : Q (f i j) H) : rI0 f (.int i) (.int j) H Q := ⟨i, j, rfl, rfl, q⟩
theorem r_I {C : Int → Int → Prop} {f : Int → Int → V} {i j : Int} (c : C i j) (q : Q (f i j) H) : rI C f (.int i) (.int j) H Q := ⟨i, j, rfl, rfl, c, q⟩
theorem r_U {f : Int → V} {i : Int} (q : Q (f i) H) : rU f (.int i) H Q := ⟨i, rfl, q⟩
theorem r_eq (h : scal x y = true) (q : Q (.bl (decide (x = y))) H) : rEq x y H Q := ⟨h, q⟩
theorem r_ne (h : scal x y = true) (q : Q (.bl (!decide (x = y))) H) : rNe x y H Q := ⟨h, q⟩
theorem r_eqI {i j : Int} (q : Q (.bl (decide (i = j))) H) : rEq (.int i) (.int j) H Q := ⟨rfl, by simpa using q⟩
theorem r_neI {i j : Int} (q : Q (.bl (!decide (i = j))) H) : rNe (.int i) (.int j) H Q := ⟨rfl, by simpa using q⟩
theorem r_eqS {i j : Str} (q : Q (.bl (decide (i = j))) H) : rEq (.str i) (.str j) H Q := ⟨rfl, by simpa using q⟩
theorem r_neS {i j : Str} (q : Q (.bl (!decide (i = j))) H) : rNe (.str i) (.str j) H Q := ⟨rfl, by simpa using q⟩
theorem r_ixL {p : Addr} {xs : List V} {i : Int} (h : SqL K H p xs) (a : atI xs i = some v) (q : Q v H) : rIxL K (.ref p) (.int i) H Q := ⟨p, xs, i, v, rfl, rfl, h, a, q⟩
theorem r_ixT {p : Addr} {xs : List V} {i : Int} (h : SqT K H p xs) (a : atI xs i = some v) (q : Q v H) : rIxT K (.ref p) (.int i) H Q := ⟨p, xs, i, v, rfl, rfl, h, a, q⟩
theorem r_setL {p : Addr} {xs : List V} {k : Int} {j : Nat} {QH : Hp → Prop} (h : H p = some (.lst xs)) (e : ixN xs.length k = some j) (q : QH (upd H p (.lst (xs.set j v)))) : rSetL (.ref p) (.int k) v H QH := ⟨p, xs, k, j, rfl, rfl, h, e, q⟩
theorem r_CB {rc : List V → Hp → VK → Prop} (q : tr σ H fun vs H1 => rc vs H1 Q) : tCB rc tr σ H Q := q
theorem r_cons (q : ta σ H fun x H1 => tr σ H1 fun xs H2 => QA (x :: xs) H2) : tCons ta tr σ H QA := q
theorem r_nil (q : QA [] H) : tNil σ H QA := q
theorem r_int1 {i : Int} (q : Q (.int i) H) : rInt1 [.int i] H Q := .inl ⟨i, rfl, q⟩
theorem r_max2 {i j : Int} (q : Q (.int (if j > i then j else i)) H) : rMax2 [.int i, .int j] H Q := ⟨i, j, rfl, q⟩
theorem r_min2 {i j : Int} (q : Q (.int (if j < i then j else i)) H) : rMin2 [.int i, .int j] H Q := ⟨i, j, rfl, q⟩
theorem r_lenL {p : Addr} {ys : List V} (h : SqL K H p ys) (q : Q (.int ys.length) H) : rLenL K [.ref p] H Q := ⟨p, ys, rfl, .inl h, q⟩
theorem r_lenT {p : Addr} {ys : List V} (h : SqT K H p ys) (q : Q (.int ys.length) H) : rLenL K [.ref p] H Q := ⟨p, ys, rfl, .inr h, q⟩
theorem r_sum {a : Addr} {ns : List Int} (h : SqL K H a (ns.map V.int)) (q : Q (.int ns.sum) H) : rSum K [.ref a] H Q := ⟨a, ns, rfl, h, q⟩
theorem r_max {a : Addr} {ns : List Int} (h : SqL K H a (ns.map V.int)) (h0 : 0 < ns.length) (q : ∀ m, m ∈ ns → (∀ y, y ∈ ns → y ≤ m) → Q (.int m) H) : rMax K [.ref a] H Q := ⟨a, ns, rfl, h, h0, q⟩
theorem r_all {a : Addr} {bs : List Bool} (h : SqL K H a (bs.map V.bl)) (q : Q (.bl (bs.all id)) H) : rAll K [.ref a] H Q := ⟨a, bs, rfl, h, q⟩
theorem r_call {sp : Sp} {E : XK} (q : tr σ H fun vs H1 => sp vs H1 Q E) : tCall sp [] E tr σ H Q := by
  have e : (fun (vs : List V) (H1 : Hp) => sp vs H1 Q E) = fun vs H1 => sp (vs ++ []) H1 Q E := by
    funext vs H1
    rw [List.append_nil]
  show tr σ H fun vs H1 => sp (vs ++ []) H1 Q E
  rw [← e]
  exact q
theorem r_sl {rs : V → Option Int → Option Int → Hp → VK → Prop} (q : ta σ H fun x H1 => tl σ H1 fun l H2 => th σ H2 fun u H3 => rs x l u H3 Q) : L2.tSl rs ta tl th σ H Q := q
theorem r_nopart {QO : Option Int → Hp → Prop} (q : QO none H) : tNoPart σ H QO := q
theorem r_append {l : Addr} {xs : List V} (h : H l = some (.lst xs)) (hz : xs.length < 100000) (q : Q .non (upd H l (.lst (xs ++ [y])))) : rAppend (.ref l) [y] H Q := ⟨l, xs, y, rfl, rfl, h, szl hz, q⟩
-- tests
theorem r_and (q : t σ H fun c H1 => if c = true then u σ H1 QT else QT false H1) : tAnd t u σ H QT := q
theorem r_or (q : t σ H fun c H1 => if c = true then QT true H1 else u σ H1 QT) : tOr t u σ H QT := q
theorem r_not (q : t σ H fun c H1 => QT (!c) H1) : tNot t σ H QT := q
theorem r_if (q : t σ H fun c H1 => if c = true then ta σ H1 Q else tb σ H1 Q) : tIf t ta tb σ H Q := q
-- statements
theorem r_seq (q : ts { D with nx := us D } σ H) : tSeq ts us D σ H := q
theorem r_asg (q : te σ H fun x H1 => g x σ H1 D.nx) : tAsg te g D σ H := q
theorem r_ret (q : te σ H D.rt) : tRet te D σ H := q
theorem r_drop (q : te σ H fun _ H1 => D.nx σ H1) : tDrop te D σ H := q
theorem r_next (q : D.nx σ H) : tNext D σ H := q
theorem r_ifS (q : t σ H fun b H1 => if b = true then ts D σ H1 else us D σ H1) : tIfS t ts us D σ H := q
theorem r_gSub {ts : TSet} (q : to σ H fun o H1 => ti σ H1 fun i H2 => ts o i v H2 fun H3 => QG σ H3) : gSub to ti ts v σ H QG := q
theorem r_gTup {a : Addr} {xs : List V} {n : Nat} (h : SqT K H a xs) (e : xs.length = n) (q : gs xs σ H QG) : gTup K n gs (.ref a) σ H QG := ⟨a, xs, rfl, h, e, q⟩
theorem r_gCons {w : V} {ws : List V} (q : g w σ H fun σ' H' => gs ws σ' H' QG) : gCons g gs (w :: ws) σ H QG := ⟨w, ws, rfl, q⟩
theorem r_gNil (q : QG σ H) : gNil [] σ H QG := ⟨rfl, q⟩
theorem r_dec {p : Prop} [Decidable p] {A B : Prop} (h1 : p → A) (h2 : ¬ p → B) : if decide p = true then A else B := by
  by_cases h : p
  · rw [decide_eq_true h]
    exact h1 h
  · rw [decide_eq_false h]
    exact iteF (h2 h)
theorem r_decN {p : Prop} [Decidable p] {A B : Prop} (h1 : ¬ p → A) (h2 : p → B) : if (!decide p) = true then A else B := by
  by_cases h : p
  · rw [decide_eq_true h]
    exact iteF (h2 h)
  · rw [decide_eq_false h]
    exact h1 h
theorem r_isi {x c : V} {t u : Value} {b : Bool} (k : ClsV c u) (ty : TyX K H x t) (e : PySem.W.kitOne K t u = some b) (q : Q (.bl b) H) : rIsi K [x, c] H Q := ⟨x, c, t, u, b, rfl, k, ty, e, q⟩
theorem r_lc {wi : TI} {n : List Nat} (q : wi σ H fun J H1 => ∀ D, H1 D = none → ∃ W : Nat → Nat → Hp → Prop, (∃ m, W 0 m (upd H1 D (.lst []))) ∧ ∀ i m H, W i m H →
  (J.stop i H ∧ Q (.ref D) H) ∨ (J.go i H ∧ ∃ Nx : Hp → Prop, (∀ H', Nx H' → ∃ m', m' < m ∧ W (i + 1) m' H') ∧ ∀ x H', J.yld i H x H' → g x (wipe σ n) H' fun σ2 H2 => wipe σ2 n = wipe σ n ∧ t σ2 H2 fun b H3 =>
    if b = true then te σ2 H3 fun y H4 => ∃ acc, H4 D = some (.lst acc) ∧ acc.length < sizeLine ∧ Nx (upd H4 D (.lst (acc ++ [y]))) else Nx H3)) : tLc wi g t te n σ H Q := q
theorem r_yes (q : QT true H) : tYes σ H QT := q
theorem r_v0 {z : L2.St} (q : Q v H) : tVar 0 (some v :: z) H Q := ⟨v, rfl, q⟩
theorem r_v1 {a0 : Option V} {z : L2.St} (q : Q v H) : tVar 1 (a0 :: some v :: z) H Q := ⟨v, rfl, q⟩
theorem r_v2 {a0 a1 : Option V} {z : L2.St} (q : Q v H) : tVar 2 (a0 :: a1 :: some v :: z) H Q := ⟨v, rfl, q⟩
theorem r_v3 {a0 a1 a2 : Option V} {z : L2.St} (q : Q v H) : tVar 3 (a0 :: a1 :: a2 :: some v :: z) H Q := ⟨v, rfl, q⟩
theorem r_v4 {a0 a1 a2 a3 : Option V} {z : L2.St} (q : Q v H) : tVar 4 (a0 :: a1 :: a2 :: a3 :: some v :: z) H Q := ⟨v, rfl, q⟩
theorem r_v5 {a0 a1 a2 a3 a4 : Option V} {z : L2.St} (q : Q v H) : tVar 5 (a0 :: a1 :: a2 :: a3 :: a4 :: some v :: z) H Q := ⟨v, rfl, q⟩
theorem r_v6 {a0 a1 a2 a3 a4 a5 : Option V} {z : L2.St} (q : Q v H) : tVar 6 (a0 :: a1 :: a2 :: a3 :: a4 :: a5 :: some v :: z) H Q := ⟨v, rfl, q⟩
theorem r_v7 {a0 a1 a2 a3 a4 a5 a6 : Option V} {z : L2.St} (q : Q v H) : tVar 7 (a0 :: a1 :: a2 :: a3 :: a4 :: a5 :: a6 :: some v :: z) H Q := ⟨v, rfl, q⟩
theorem r_v8 {a0 a1 a2 a3 a4 a5 a6 a7 : Option V} {z : L2.St} (q : Q v H) : tVar 8 (a0 :: a1 :: a2 :: a3 :: a4 :: a5 :: a6 :: a7 :: some v :: z) H Q := ⟨v, rfl, q⟩
theorem r_v9 {a0 a1 a2 a3 a4 a5 a6 a7 a8 : Option V} {z : L2.St} (q : Q v H) : tVar 9 (a0 :: a1 :: a2 :: a3 :: a4 :: a5 :: a6 :: a7 :: a8 :: some v :: z) H Q := ⟨v, rfl, q⟩
theorem r_v10 {a0 a1 a2 a3 a4 a5 a6 a7 a8 a9 : Option V} {z : L2.St} (q : Q v H) : tVar 10 (a0 :: a1 :: a2 :: a3 :: a4 :: a5 :: a6 :: a7 :: a8 :: a9 :: some v :: z) H Q := ⟨v, rfl, q⟩
theorem r_v11 {a0 a1 a2 a3 a4 a5 a6 a7 a8 a9 a10 : Option V} {z : L2.St} (q : Q v H) : tVar 11 (a0 :: a1 :: a2 :: a3 :: a4 :: a5 :: a6 :: a7 :: a8 :: a9 :: a10 :: some v :: z) H Q := ⟨v, rfl, q⟩
theorem r_v12 {a0 a1 a2 a3 a4 a5 a6 a7 a8 a9 a10 a11 : Option V} {z : L2.St} (q : Q v H) : tVar 12 (a0 :: a1 :: a2 :: a3 :: a4 :: a5 :: a6 :: a7 :: a8 :: a9 :: a10 :: a11 :: some v :: z) H Q := ⟨v, rfl, q⟩
theorem r_v13 {a0 a1 a2 a3 a4 a5 a6 a7 a8 a9 a10 a11 a12 : Option V} {z : L2.St} (q : Q v H) : tVar 13 (a0 :: a1 :: a2 :: a3 :: a4 :: a5 :: a6 :: a7 :: a8 :: a9 :: a10 :: a11 :: a12 :: some v :: z) H Q := ⟨v, rfl, q⟩
theorem r_v14 {a0 a1 a2 a3 a4 a5 a6 a7 a8 a9 a10 a11 a12 a13 : Option V} {z : L2.St} (q : Q v H) : tVar 14 (a0 :: a1 :: a2 :: a3 :: a4 :: a5 :: a6 :: a7 :: a8 :: a9 :: a10 :: a11 :: a12 :: a13 :: some v :: z) H Q := ⟨v, rfl, q⟩
theorem r_v15 {a0 a1 a2 a3 a4 a5 a6 a7 a8 a9 a10 a11 a12 a13 a14 : Option V} {z : L2.St} (q : Q v H) : tVar 15 (a0 :: a1 :: a2 :: a3 :: a4 :: a5 :: a6 :: a7 :: a8 :: a9 :: a10 :: a11 :: a12 :: a13 :: a14 :: some v :: z) H Q := ⟨v, rfl, q⟩
theorem r_v16 {a0 a1 a2 a3 a4 a5 a6 a7 a8 a9 a10 a11 a12 a13 a14 a15 : Option V} {z : L2.St} (q : Q v H) : tVar 16 (a0 :: a1 :: a2 :: a3 :: a4 :: a5 :: a6 :: a7 :: a8 :: a9 :: a10 :: a11 :: a12 :: a13 :: a14 :: a15 :: some v :: z) H Q := ⟨v, rfl, q⟩
theorem r_v17 {a0 a1 a2 a3 a4 a5 a6 a7 a8 a9 a10 a11 a12 a13 a14 a15 a16 : Option V} {z : L2.St} (q : Q v H) : tVar 17 (a0 :: a1 :: a2 :: a3 :: a4 :: a5 :: a6 :: a7 :: a8 :: a9 :: a10 :: a11 :: a12 :: a13 :: a14 :: a15 :: a16 :: some v :: z) H Q := ⟨v, rfl, q⟩
theorem r_v18 {a0 a1 a2 a3 a4 a5 a6 a7 a8 a9 a10 a11 a12 a13 a14 a15 a16 a17 : Option V} {z : L2.St} (q : Q v H) : tVar 18 (a0 :: a1 :: a2 :: a3 :: a4 :: a5 :: a6 :: a7 :: a8 :: a9 :: a10 :: a11 :: a12 :: a13 :: a14 :: a15 :: a16 :: a17 :: some v :: z) H Q := ⟨v, rfl, q⟩
theorem r_v19 {a0 a1 a2 a3 a4 a5 a6 a7 a8 a9 a10 a11 a12 a13 a14 a15 a16 a17 a18 : Option V} {z : L2.St} (q : Q v H) : tVar 19 (a0 :: a1 :: a2 :: a3 :: a4 :: a5 :: a6 :: a7 :: a8 :: a9 :: a10 :: a11 :: a12 :: a13 :: a14 :: a15 :: a16 :: a17 :: a18 :: some v :: z) H Q := ⟨v, rfl, q⟩
theorem r_v20 {a0 a1 a2 a3 a4 a5 a6 a7 a8 a9 a10 a11 a12 a13 a14 a15 a16 a17 a18 a19 : Option V} {z : L2.St} (q : Q v H) : tVar 20 (a0 :: a1 :: a2 :: a3 :: a4 :: a5 :: a6 :: a7 :: a8 :: a9 :: a10 :: a11 :: a12 :: a13 :: a14 :: a15 :: a16 :: a17 :: a18 :: a19 :: some v :: z) H Q := ⟨v, rfl, q⟩
theorem r_v21 {a0 a1 a2 a3 a4 a5 a6 a7 a8 a9 a10 a11 a12 a13 a14 a15 a16 a17 a18 a19 a20 : Option V} {z : L2.St} (q : Q v H) : tVar 21 (a0 :: a1 :: a2 :: a3 :: a4 :: a5 :: a6 :: a7 :: a8 :: a9 :: a10 :: a11 :: a12 :: a13 :: a14 :: a15 :: a16 :: a17 :: a18 :: a19 :: a20 :: some v :: z) H Q := ⟨v, rfl, q⟩
theorem r_g0 {b : Option V} {z : L2.St} (q : QG (some v :: z) H) : gName 0 v (b :: z) H QG := q
theorem r_g1 {a0 b : Option V} {z : L2.St} (q : QG (a0 :: some v :: z) H) : gName 1 v (a0 :: b :: z) H QG := q
theorem r_g2 {a0 a1 b : Option V} {z : L2.St} (q : QG (a0 :: a1 :: some v :: z) H) : gName 2 v (a0 :: a1 :: b :: z) H QG := q
theorem r_g3 {a0 a1 a2 b : Option V} {z : L2.St} (q : QG (a0 :: a1 :: a2 :: some v :: z) H) : gName 3 v (a0 :: a1 :: a2 :: b :: z) H QG := q
theorem r_g4 {a0 a1 a2 a3 b : Option V} {z : L2.St} (q : QG (a0 :: a1 :: a2 :: a3 :: some v :: z) H) : gName 4 v (a0 :: a1 :: a2 :: a3 :: b :: z) H QG := q
theorem r_g5 {a0 a1 a2 a3 a4 b : Option V} {z : L2.St} (q : QG (a0 :: a1 :: a2 :: a3 :: a4 :: some v :: z) H) : gName 5 v (a0 :: a1 :: a2 :: a3 :: a4 :: b :: z) H QG := q
theorem r_g6 {a0 a1 a2 a3 a4 a5 b : Option V} {z : L2.St} (q : QG (a0 :: a1 :: a2 :: a3 :: a4 :: a5 :: some v :: z) H) : gName 6 v (a0 :: a1 :: a2 :: a3 :: a4 :: a5 :: b :: z) H QG := q
theorem r_g7 {a0 a1 a2 a3 a4 a5 a6 b : Option V} {z : L2.St} (q : QG (a0 :: a1 :: a2 :: a3 :: a4 :: a5 :: a6 :: some v :: z) H) : gName 7 v (a0 :: a1 :: a2 :: a3 :: a4 :: a5 :: a6 :: b :: z) H QG := q
theorem r_g8 {a0 a1 a2 a3 a4 a5 a6 a7 b : Option V} {z : L2.St} (q : QG (a0 :: a1 :: a2 :: a3 :: a4 :: a5 :: a6 :: a7 :: some v :: z) H) : gName 8 v (a0 :: a1 :: a2 :: a3 :: a4 :: a5 :: a6 :: a7 :: b :: z) H QG := q
theorem r_g9 {a0 a1 a2 a3 a4 a5 a6 a7 a8 b : Option V} {z : L2.St} (q : QG (a0 :: a1 :: a2 :: a3 :: a4 :: a5 :: a6 :: a7 :: a8 :: some v :: z) H) : gName 9 v (a0 :: a1 :: a2 :: a3 :: a4 :: a5 :: a6 :: a7 :: a8 :: b :: z) H QG := q
theorem r_g10 {a0 a1 a2 a3 a4 a5 a6 a7 a8 a9 b : Option V} {z : L2.St} (q : QG (a0 :: a1 :: a2 :: a3 :: a4 :: a5 :: a6 :: a7 :: a8 :: a9 :: some v :: z) H) : gName 10 v (a0 :: a1 :: a2 :: a3 :: a4 :: a5 :: a6 :: a7 :: a8 :: a9 :: b :: z) H QG := q
theorem r_g11 {a0 a1 a2 a3 a4 a5 a6 a7 a8 a9 a10 b : Option V} {z : L2.St} (q : QG (a0 :: a1 :: a2 :: a3 :: a4 :: a5 :: a6 :: a7 :: a8 :: a9 :: a10 :: some v :: z) H) : gName 11 v (a0 :: a1 :: a2 :: a3 :: a4 :: a5 :: a6 :: a7 :: a8 :: a9 :: a10 :: b :: z) H QG := q
theorem r_g12 {a0 a1 a2 a3 a4 a5 a6 a7 a8 a9 a10 a11 b : Option V} {z : L2.St} (q : QG (a0 :: a1 :: a2 :: a3 :: a4 :: a5 :: a6 :: a7 :: a8 :: a9 :: a10 :: a11 :: some v :: z) H) : gName 12 v (a0 :: a1 :: a2 :: a3 :: a4 :: a5 :: a6 :: a7 :: a8 :: a9 :: a10 :: a11 :: b :: z) H QG := q
theorem r_g13 {a0 a1 a2 a3 a4 a5 a6 a7 a8 a9 a10 a11 a12 b : Option V} {z : L2.St} (q : QG (a0 :: a1 :: a2 :: a3 :: a4 :: a5 :: a6 :: a7 :: a8 :: a9 :: a10 :: a11 :: a12 :: some v :: z) H) : gName 13 v (a0 :: a1 :: a2 :: a3 :: a4 :: a5 :: a6 :: a7 :: a8 :: a9 :: a10 :: a11 :: a12 :: b :: z) H QG := q
theorem r_g14 {a0 a1 a2 a3 a4 a5 a6 a7 a8 a9 a10 a11 a12 a13 b : Option V} {z : L2.St} (q : QG (a0 :: a1 :: a2 :: a3 :: a4 :: a5 :: a6 :: a7 :: a8 :: a9 :: a10 :: a11 :: a12 :: a13 :: some v :: z) H) : gName 14 v (a0 :: a1 :: a2 :: a3 :: a4 :: a5 :: a6 :: a7 :: a8 :: a9 :: a10 :: a11 :: a12 :: a13 :: b :: z) H QG := q
theorem r_g15 {a0 a1 a2 a3 a4 a5 a6 a7 a8 a9 a10 a11 a12 a13 a14 b : Option V} {z : L2.St} (q : QG (a0 :: a1 :: a2 :: a3 :: a4 :: a5 :: a6 :: a7 :: a8 :: a9 :: a10 :: a11 :: a12 :: a13 :: a14 :: some v :: z) H) : gName 15 v (a0 :: a1 :: a2 :: a3 :: a4 :: a5 :: a6 :: a7 :: a8 :: a9 :: a10 :: a11 :: a12 :: a13 :: a14 :: b :: z) H QG := q
theorem r_g16 {a0 a1 a2 a3 a4 a5 a6 a7 a8 a9 a10 a11 a12 a13 a14 a15 b : Option V} {z : L2.St} (q : QG (a0 :: a1 :: a2 :: a3 :: a4 :: a5 :: a6 :: a7 :: a8 :: a9 :: a10 :: a11 :: a12 :: a13 :: a14 :: a15 :: some v :: z) H) : gName 16 v (a0 :: a1 :: a2 :: a3 :: a4 :: a5 :: a6 :: a7 :: a8 :: a9 :: a10 :: a11 :: a12 :: a13 :: a14 :: a15 :: b :: z) H QG := q
theorem r_g17 {a0 a1 a2 a3 a4 a5 a6 a7 a8 a9 a10 a11 a12 a13 a14 a15 a16 b : Option V} {z : L2.St} (q : QG (a0 :: a1 :: a2 :: a3 :: a4 :: a5 :: a6 :: a7 :: a8 :: a9 :: a10 :: a11 :: a12 :: a13 :: a14 :: a15 :: a16 :: some v :: z) H) : gName 17 v (a0 :: a1 :: a2 :: a3 :: a4 :: a5 :: a6 :: a7 :: a8 :: a9 :: a10 :: a11 :: a12 :: a13 :: a14 :: a15 :: a16 :: b :: z) H QG := q
theorem r_g18 {a0 a1 a2 a3 a4 a5 a6 a7 a8 a9 a10 a11 a12 a13 a14 a15 a16 a17 b : Option V} {z : L2.St} (q : QG (a0 :: a1 :: a2 :: a3 :: a4 :: a5 :: a6 :: a7 :: a8 :: a9 :: a10 :: a11 :: a12 :: a13 :: a14 :: a15 :: a16 :: a17 :: some v :: z) H) : gName 18 v (a0 :: a1 :: a2 :: a3 :: a4 :: a5 :: a6 :: a7 :: a8 :: a9 :: a10 :: a11 :: a12 :: a13 :: a14 :: a15 :: a16 :: a17 :: b :: z) H QG := q
theorem r_g19 {a0 a1 a2 a3 a4 a5 a6 a7 a8 a9 a10 a11 a12 a13 a14 a15 a16 a17 a18 b : Option V} {z : L2.St} (q : QG (a0 :: a1 :: a2 :: a3 :: a4 :: a5 :: a6 :: a7 :: a8 :: a9 :: a10 :: a11 :: a12 :: a13 :: a14 :: a15 :: a16 :: a17 :: a18 :: some v :: z) H) : gName 19 v (a0 :: a1 :: a2 :: a3 :: a4 :: a5 :: a6 :: a7 :: a8 :: a9 :: a10 :: a11 :: a12 :: a13 :: a14 :: a15 :: a16 :: a17 :: a18 :: b :: z) H QG := q
theorem r_g20 {a0 a1 a2 a3 a4 a5 a6 a7 a8 a9 a10 a11 a12 a13 a14 a15 a16 a17 a18 a19 b : Option V} {z : L2.St} (q : QG (a0 :: a1 :: a2 :: a3 :: a4 :: a5 :: a6 :: a7 :: a8 :: a9 :: a10 :: a11 :: a12 :: a13 :: a14 :: a15 :: a16 :: a17 :: a18 :: a19 :: some v :: z) H) : gName 20 v (a0 :: a1 :: a2 :: a3 :: a4 :: a5 :: a6 :: a7 :: a8 :: a9 :: a10 :: a11 :: a12 :: a13 :: a14 :: a15 :: a16 :: a17 :: a18 :: a19 :: b :: z) H QG := q
theorem r_g21 {a0 a1 a2 a3 a4 a5 a6 a7 a8 a9 a10 a11 a12 a13 a14 a15 a16 a17 a18 a19 a20 b : Option V} {z : L2.St} (q : QG (a0 :: a1 :: a2 :: a3 :: a4 :: a5 :: a6 :: a7 :: a8 :: a9 :: a10 :: a11 :: a12 :: a13 :: a14 :: a15 :: a16 :: a17 :: a18 :: a19 :: a20 :: some v :: z) H) : gName 21 v (a0 :: a1 :: a2 :: a3 :: a4 :: a5 :: a6 :: a7 :: a8 :: a9 :: a10 :: a11 :: a12 :: a13 :: a14 :: a15 :: a16 :: a17 :: a18 :: a19 :: a20 :: b :: z) H QG := q
theorem r_aug0 {z : L2.St} {tp : TIp} (q : te (some v :: z) H fun y H1 => tp v y H1 fun w H2 => D.nx (some w :: z) H2) : tAug 0 te tp D (some v :: z) H := ⟨v, rfl, q⟩
theorem r_aug1 {a0 : Option V} {z : L2.St} {tp : TIp} (q : te (a0 :: some v :: z) H fun y H1 => tp v y H1 fun w H2 => D.nx (a0 :: some w :: z) H2) : tAug 1 te tp D (a0 :: some v :: z) H := ⟨v, rfl, q⟩
theorem r_aug2 {a0 a1 : Option V} {z : L2.St} {tp : TIp} (q : te (a0 :: a1 :: some v :: z) H fun y H1 => tp v y H1 fun w H2 => D.nx (a0 :: a1 :: some w :: z) H2) : tAug 2 te tp D (a0 :: a1 :: some v :: z) H := ⟨v, rfl, q⟩
theorem r_aug3 {a0 a1 a2 : Option V} {z : L2.St} {tp : TIp} (q : te (a0 :: a1 :: a2 :: some v :: z) H fun y H1 => tp v y H1 fun w H2 => D.nx (a0 :: a1 :: a2 :: some w :: z) H2) : tAug 3 te tp D (a0 :: a1 :: a2 :: some v :: z) H := ⟨v, rfl, q⟩
theorem r_aug4 {a0 a1 a2 a3 : Option V} {z : L2.St} {tp : TIp} (q : te (a0 :: a1 :: a2 :: a3 :: some v :: z) H fun y H1 => tp v y H1 fun w H2 => D.nx (a0 :: a1 :: a2 :: a3 :: some w :: z) H2) : tAug 4 te tp D (a0 :: a1 :: a2 :: a3 :: some v :: z) H := ⟨v, rfl, q⟩
theorem r_aug5 {a0 a1 a2 a3 a4 : Option V} {z : L2.St} {tp : TIp} (q : te (a0 :: a1 :: a2 :: a3 :: a4 :: some v :: z) H fun y H1 => tp v y H1 fun w H2 => D.nx (a0 :: a1 :: a2 :: a3 :: a4 :: some w :: z) H2) : tAug 5 te tp D (a0 :: a1 :: a2 :: a3 :: a4 :: some v :: z) H := ⟨v, rfl, q⟩
theorem r_aug6 {a0 a1 a2 a3 a4 a5 : Option V} {z : L2.St} {tp : TIp} (q : te (a0 :: a1 :: a2 :: a3 :: a4 :: a5 :: some v :: z) H fun y H1 => tp v y H1 fun w H2 => D.nx (a0 :: a1 :: a2 :: a3 :: a4 :: a5 :: some w :: z) H2) : tAug 6 te tp D (a0 :: a1 :: a2 :: a3 :: a4 :: a5 :: some v :: z) H := ⟨v, rfl, q⟩
theorem r_aug7 {a0 a1 a2 a3 a4 a5 a6 : Option V} {z : L2.St} {tp : TIp} (q : te (a0 :: a1 :: a2 :: a3 :: a4 :: a5 :: a6 :: some v :: z) H fun y H1 => tp v y H1 fun w H2 => D.nx (a0 :: a1 :: a2 :: a3 :: a4 :: a5 :: a6 :: some w :: z) H2) : tAug 7 te tp D (a0 :: a1 :: a2 :: a3 :: a4 :: a5 :: a6 :: some v :: z) H := ⟨v, rfl, q⟩
theorem r_aug8 {a0 a1 a2 a3 a4 a5 a6 a7 : Option V} {z : L2.St} {tp : TIp} (q : te (a0 :: a1 :: a2 :: a3 :: a4 :: a5 :: a6 :: a7 :: some v :: z) H fun y H1 => tp v y H1 fun w H2 => D.nx (a0 :: a1 :: a2 :: a3 :: a4 :: a5 :: a6 :: a7 :: some w :: z) H2) : tAug 8 te tp D (a0 :: a1 :: a2 :: a3 :: a4 :: a5 :: a6 :: a7 :: some v :: z) H := ⟨v, rfl, q⟩
theorem r_aug9 {a0 a1 a2 a3 a4 a5 a6 a7 a8 : Option V} {z : L2.St} {tp : TIp} (q : te (a0 :: a1 :: a2 :: a3 :: a4 :: a5 :: a6 :: a7 :: a8 :: some v :: z) H fun y H1 => tp v y H1 fun w H2 => D.nx (a0 :: a1 :: a2 :: a3 :: a4 :: a5 :: a6 :: a7 :: a8 :: some w :: z) H2) : tAug 9 te tp D (a0 :: a1 :: a2 :: a3 :: a4 :: a5 :: a6 :: a7 :: a8 :: some v :: z) H := ⟨v, rfl, q⟩
theorem r_aug10 {a0 a1 a2 a3 a4 a5 a6 a7 a8 a9 : Option V} {z : L2.St} {tp : TIp} (q : te (a0 :: a1 :: a2 :: a3 :: a4 :: a5 :: a6 :: a7 :: a8 :: a9 :: some v :: z) H fun y H1 => tp v y H1 fun w H2 => D.nx (a0 :: a1 :: a2 :: a3 :: a4 :: a5 :: a6 :: a7 :: a8 :: a9 :: some w :: z) H2) : tAug 10 te tp D (a0 :: a1 :: a2 :: a3 :: a4 :: a5 :: a6 :: a7 :: a8 :: a9 :: some v :: z) H := ⟨v, rfl, q⟩
theorem r_aug11 {a0 a1 a2 a3 a4 a5 a6 a7 a8 a9 a10 : Option V} {z : L2.St} {tp : TIp} (q : te (a0 :: a1 :: a2 :: a3 :: a4 :: a5 :: a6 :: a7 :: a8 :: a9 :: a10 :: some v :: z) H fun y H1 => tp v y H1 fun w H2 => D.nx (a0 :: a1 :: a2 :: a3 :: a4 :: a5 :: a6 :: a7 :: a8 :: a9 :: a10 :: some w :: z) H2) : tAug 11 te tp D (a0 :: a1 :: a2 :: a3 :: a4 :: a5 :: a6 :: a7 :: a8 :: a9 :: a10 :: some v :: z) H := ⟨v, rfl, q⟩
theorem r_aug12 {a0 a1 a2 a3 a4 a5 a6 a7 a8 a9 a10 a11 : Option V} {z : L2.St} {tp : TIp} (q : te (a0 :: a1 :: a2 :: a3 :: a4 :: a5 :: a6 :: a7 :: a8 :: a9 :: a10 :: a11 :: some v :: z) H fun y H1 => tp v y H1 fun w H2 => D.nx (a0 :: a1 :: a2 :: a3 :: a4 :: a5 :: a6 :: a7 :: a8 :: a9 :: a10 :: a11 :: some w :: z) H2) : tAug 12 te tp D (a0 :: a1 :: a2 :: a3 :: a4 :: a5 :: a6 :: a7 :: a8 :: a9 :: a10 :: a11 :: some v :: z) H := ⟨v, rfl, q⟩
theorem r_aug13 {a0 a1 a2 a3 a4 a5 a6 a7 a8 a9 a10 a11 a12 : Option V} {z : L2.St} {tp : TIp} (q : te (a0 :: a1 :: a2 :: a3 :: a4 :: a5 :: a6 :: a7 :: a8 :: a9 :: a10 :: a11 :: a12 :: some v :: z) H fun y H1 => tp v y H1 fun w H2 => D.nx (a0 :: a1 :: a2 :: a3 :: a4 :: a5 :: a6 :: a7 :: a8 :: a9 :: a10 :: a11 :: a12 :: some w :: z) H2) : tAug 13 te tp D (a0 :: a1 :: a2 :: a3 :: a4 :: a5 :: a6 :: a7 :: a8 :: a9 :: a10 :: a11 :: a12 :: some v :: z) H := ⟨v, rfl, q⟩
theorem r_aug14 {a0 a1 a2 a3 a4 a5 a6 a7 a8 a9 a10 a11 a12 a13 : Option V} {z : L2.St} {tp : TIp} (q : te (a0 :: a1 :: a2 :: a3 :: a4 :: a5 :: a6 :: a7 :: a8 :: a9 :: a10 :: a11 :: a12 :: a13 :: some v :: z) H fun y H1 => tp v y H1 fun w H2 => D.nx (a0 :: a1 :: a2 :: a3 :: a4 :: a5 :: a6 :: a7 :: a8 :: a9 :: a10 :: a11 :: a12 :: a13 :: some w :: z) H2) : tAug 14 te tp D (a0 :: a1 :: a2 :: a3 :: a4 :: a5 :: a6 :: a7 :: a8 :: a9 :: a10 :: a11 :: a12 :: a13 :: some v :: z) H := ⟨v, rfl, q⟩
theorem r_aug15 {a0 a1 a2 a3 a4 a5 a6 a7 a8 a9 a10 a11 a12 a13 a14 : Option V} {z : L2.St} {tp : TIp} (q : te (a0 :: a1 :: a2 :: a3 :: a4 :: a5 :: a6 :: a7 :: a8 :: a9 :: a10 :: a11 :: a12 :: a13 :: a14 :: some v :: z) H fun y H1 => tp v y H1 fun w H2 => D.nx (a0 :: a1 :: a2 :: a3 :: a4 :: a5 :: a6 :: a7 :: a8 :: a9 :: a10 :: a11 :: a12 :: a13 :: a14 :: some w :: z) H2) : tAug 15 te tp D (a0 :: a1 :: a2 :: a3 :: a4 :: a5 :: a6 :: a7 :: a8 :: a9 :: a10 :: a11 :: a12 :: a13 :: a14 :: some v :: z) H := ⟨v, rfl, q⟩
theorem r_aug16 {a0 a1 a2 a3 a4 a5 a6 a7 a8 a9 a10 a11 a12 a13 a14 a15 : Option V} {z : L2.St} {tp : TIp} (q : te (a0 :: a1 :: a2 :: a3 :: a4 :: a5 :: a6 :: a7 :: a8 :: a9 :: a10 :: a11 :: a12 :: a13 :: a14 :: a15 :: some v :: z) H fun y H1 => tp v y H1 fun w H2 => D.nx (a0 :: a1 :: a2 :: a3 :: a4 :: a5 :: a6 :: a7 :: a8 :: a9 :: a10 :: a11 :: a12 :: a13 :: a14 :: a15 :: some w :: z) H2) : tAug 16 te tp D (a0 :: a1 :: a2 :: a3 :: a4 :: a5 :: a6 :: a7 :: a8 :: a9 :: a10 :: a11 :: a12 :: a13 :: a14 :: a15 :: some v :: z) H := ⟨v, rfl, q⟩
theorem r_aug17 {a0 a1 a2 a3 a4 a5 a6 a7 a8 a9 a10 a11 a12 a13 a14 a15 a16 : Option V} {z : L2.St} {tp : TIp} (q : te (a0 :: a1 :: a2 :: a3 :: a4 :: a5 :: a6 :: a7 :: a8 :: a9 :: a10 :: a11 :: a12 :: a13 :: a14 :: a15 :: a16 :: some v :: z) H fun y H1 => tp v y H1 fun w H2 => D.nx (a0 :: a1 :: a2 :: a3 :: a4 :: a5 :: a6 :: a7 :: a8 :: a9 :: a10 :: a11 :: a12 :: a13 :: a14 :: a15 :: a16 :: some w :: z) H2) : tAug 17 te tp D (a0 :: a1 :: a2 :: a3 :: a4 :: a5 :: a6 :: a7 :: a8 :: a9 :: a10 :: a11 :: a12 :: a13 :: a14 :: a15 :: a16 :: some v :: z) H := ⟨v, rfl, q⟩
theorem r_aug18 {a0 a1 a2 a3 a4 a5 a6 a7 a8 a9 a10 a11 a12 a13 a14 a15 a16 a17 : Option V} {z : L2.St} {tp : TIp} (q : te (a0 :: a1 :: a2 :: a3 :: a4 :: a5 :: a6 :: a7 :: a8 :: a9 :: a10 :: a11 :: a12 :: a13 :: a14 :: a15 :: a16 :: a17 :: some v :: z) H fun y H1 => tp v y H1 fun w H2 => D.nx (a0 :: a1 :: a2 :: a3 :: a4 :: a5 :: a6 :: a7 :: a8 :: a9 :: a10 :: a11 :: a12 :: a13 :: a14 :: a15 :: a16 :: a17 :: some w :: z) H2) : tAug 18 te tp D (a0 :: a1 :: a2 :: a3 :: a4 :: a5 :: a6 :: a7 :: a8 :: a9 :: a10 :: a11 :: a12 :: a13 :: a14 :: a15 :: a16 :: a17 :: some v :: z) H := ⟨v, rfl, q⟩
theorem r_aug19 {a0 a1 a2 a3 a4 a5 a6 a7 a8 a9 a10 a11 a12 a13 a14 a15 a16 a17 a18 : Option V} {z : L2.St} {tp : TIp} (q : te (a0 :: a1 :: a2 :: a3 :: a4 :: a5 :: a6 :: a7 :: a8 :: a9 :: a10 :: a11 :: a12 :: a13 :: a14 :: a15 :: a16 :: a17 :: a18 :: some v :: z) H fun y H1 => tp v y H1 fun w H2 => D.nx (a0 :: a1 :: a2 :: a3 :: a4 :: a5 :: a6 :: a7 :: a8 :: a9 :: a10 :: a11 :: a12 :: a13 :: a14 :: a15 :: a16 :: a17 :: a18 :: some w :: z) H2) : tAug 19 te tp D (a0 :: a1 :: a2 :: a3 :: a4 :: a5 :: a6 :: a7 :: a8 :: a9 :: a10 :: a11 :: a12 :: a13 :: a14 :: a15 :: a16 :: a17 :: a18 :: some v :: z) H := ⟨v, rfl, q⟩
theorem r_aug20 {a0 a1 a2 a3 a4 a5 a6 a7 a8 a9 a10 a11 a12 a13 a14 a15 a16 a17 a18 a19 : Option V} {z : L2.St} {tp : TIp} (q : te (a0 :: a1 :: a2 :: a3 :: a4 :: a5 :: a6 :: a7 :: a8 :: a9 :: a10 :: a11 :: a12 :: a13 :: a14 :: a15 :: a16 :: a17 :: a18 :: a19 :: some v :: z) H fun y H1 => tp v y H1 fun w H2 => D.nx (a0 :: a1 :: a2 :: a3 :: a4 :: a5 :: a6 :: a7 :: a8 :: a9 :: a10 :: a11 :: a12 :: a13 :: a14 :: a15 :: a16 :: a17 :: a18 :: a19 :: some w :: z) H2) : tAug 20 te tp D (a0 :: a1 :: a2 :: a3 :: a4 :: a5 :: a6 :: a7 :: a8 :: a9 :: a10 :: a11 :: a12 :: a13 :: a14 :: a15 :: a16 :: a17 :: a18 :: a19 :: some v :: z) H := ⟨v, rfl, q⟩
theorem r_aug21 {a0 a1 a2 a3 a4 a5 a6 a7 a8 a9 a10 a11 a12 a13 a14 a15 a16 a17 a18 a19 a20 : Option V} {z : L2.St} {tp : TIp} (q : te (a0 :: a1 :: a2 :: a3 :: a4 :: a5 :: a6 :: a7 :: a8 :: a9 :: a10 :: a11 :: a12 :: a13 :: a14 :: a15 :: a16 :: a17 :: a18 :: a19 :: a20 :: some v :: z) H fun y H1 => tp v y H1 fun w H2 => D.nx (a0 :: a1 :: a2 :: a3 :: a4 :: a5 :: a6 :: a7 :: a8 :: a9 :: a10 :: a11 :: a12 :: a13 :: a14 :: a15 :: a16 :: a17 :: a18 :: a19 :: a20 :: some w :: z) H2) : tAug 21 te tp D (a0 :: a1 :: a2 :: a3 :: a4 :: a5 :: a6 :: a7 :: a8 :: a9 :: a10 :: a11 :: a12 :: a13 :: a14 :: a15 :: a16 :: a17 :: a18 :: a19 :: a20 :: some v :: z) H := ⟨v, rfl, q⟩
theorem r_ip {f : Int → Int → Int} {i j : Int} (q : Q (.int (f i j)) H) : ipI f (.int i) (.int j) H Q := ⟨i, j, rfl, rfl, q⟩
end

/-! ### instances in isinstance -/
structure InsI (K : PySem.W.Frag) (C : Addr) : Prop where
  cl : Cls K C
  ha : PySem.W.findIn K (.ref C) "__class__" = some (some (.builtin "object.__class__"))
  hn : PySem.W.specialIn K (.builtin "object.__class__") "__get__" = some (some (.builtin "getset_descriptor.__get__"))
  htk : PySem.W.takesIn K (.builtin "object.__class__") = some true
  hm : PySem.W.mroIn K C (.type "object") = some true
  own : PySem.W.kitOne K (.ref C) (.ref C) = some true
def insB (K : PySem.W.Frag) (C : Addr) : Bool := decide (PySem.W.findIn K (.ref C) "__class__" = some (some (.builtin "object.__class__"))) && (decide (PySem.W.specialIn K (.builtin "object.__class__") "__get__" = some (some (.builtin "getset_descriptor.__get__"))) &&
  (decide (PySem.W.takesIn K (.builtin "object.__class__") = some true) && (decide (PySem.W.mroIn K C (.type "object") = some true) && decide (PySem.W.kitOne K (.ref C) (.ref C) = some true))))
theorem insB_ok {K : PySem.W.Frag} {C : Addr} (cl : Cls K C) (h : insB K C = true) : InsI K C := by
  obtain ⟨h1, h⟩ := Bool.and_eq_true_iff.mp h
  obtain ⟨h2, h⟩ := Bool.and_eq_true_iff.mp h
  obtain ⟨h3, h⟩ := Bool.and_eq_true_iff.mp h
  obtain ⟨h4, h5⟩ := Bool.and_eq_true_iff.mp h
  exact ⟨cl, of_decide_eq_true h1, of_decide_eq_true h2, of_decide_eq_true h3, of_decide_eq_true h4, of_decide_eq_true h5⟩
theorem InsI.ty {K : PySem.W.Frag} {C a dx : Addr} {H : Hp} {fs : List (Str × V)} (I : InsI K C) (e : H a = some (.ins C dx fs)) : TyX K H (.ref a) (.ref C) := .base (.ins e I.cl I.ha I.hn I.htk I.hm)
/-! ### comprehensions and loops with the slots written out -/
section
variable {K : PySem.W.Frag} {g : TG} {tt : TT} {te : TE} {vs : List Nat} {σ : L2.St} {H1 : Hp} {D : Addr} {Qd : Hp → Prop}
theorem lc_rangeS {lo : Int} {n : Nat} (σ' : L2.St) (hσ : wipe σ vs = σ') (Pv : Nat → Hp → Prop) (h0 : Pv 0 (upd H1 D (.lst [])))
    (hs : ∀ i H, i < n → Pv i H → g (.int (lo + i)) σ' H fun σ2 H2 => wipe σ2 vs = σ' ∧ tt σ2 H2 fun b H3 =>
      if b = true then te σ2 H3 fun y H4 => ∃ acc, H4 D = some (.lst acc) ∧ acc.length < sizeLine ∧ Pv (i + 1) (upd H4 D (.lst (acc ++ [y]))) else Pv (i + 1) H3) (hd : ∀ H, Pv n H → Qd H) :
    ∃ W : Nat → Nat → Hp → Prop, (∃ m, W 0 m (upd H1 D (.lst []))) ∧ ∀ i m H, W i m H →
      ((Itr lo n).stop i H ∧ Qd H) ∨ ((Itr lo n).go i H ∧ ∃ Nx : Hp → Prop, (∀ H', Nx H' → ∃ m', m' < m ∧ W (i + 1) m' H') ∧ ∀ x H', (Itr lo n).yld i H x H' → g x (wipe σ vs) H' fun σ2 H2 => wipe σ2 vs = wipe σ vs ∧ tt σ2 H2 fun b H3 =>
        if b = true then te σ2 H3 fun y H4 => ∃ acc, H4 D = some (.lst acc) ∧ acc.length < sizeLine ∧ Nx (upd H4 D (.lst (acc ++ [y]))) else Nx H3) := by
  subst hσ
  exact lc_range Pv h0 hs hd
theorem lc_listS {a : Addr} {xs : List V} (σ' : L2.St) (hσ : wipe σ vs = σ') (Pv : Nat → Hp → Prop) (h0 : Pv 0 (upd H1 D (.lst []))) (hl : ∀ i H, i ≤ xs.length → Pv i H → SqL K H a xs)
    (hs : ∀ i x H, xs[i]? = some x → Pv i H → g x σ' H fun σ2 H2 => wipe σ2 vs = σ' ∧ tt σ2 H2 fun b H3 =>
      if b = true then te σ2 H3 fun y H4 => ∃ acc, H4 D = some (.lst acc) ∧ acc.length < sizeLine ∧ Pv (i + 1) (upd H4 D (.lst (acc ++ [y]))) else Pv (i + 1) H3) (hd : ∀ H, Pv xs.length H → Qd H) :
    ∃ W : Nat → Nat → Hp → Prop, (∃ m, W 0 m (upd H1 D (.lst []))) ∧ ∀ i m H, W i m H →
      ((Itl K a).stop i H ∧ Qd H) ∨ ((Itl K a).go i H ∧ ∃ Nx : Hp → Prop, (∀ H', Nx H' → ∃ m', m' < m ∧ W (i + 1) m' H') ∧ ∀ x H', (Itl K a).yld i H x H' → g x (wipe σ vs) H' fun σ2 H2 => wipe σ2 vs = wipe σ vs ∧ tt σ2 H2 fun b H3 =>
        if b = true then te σ2 H3 fun y H4 => ∃ acc, H4 D = some (.lst acc) ∧ acc.length < sizeLine ∧ Nx (upd H4 D (.lst (acc ++ [y]))) else Nx H3) := by
  subst hσ
  exact lc_list Pv h0 hl hs hd
end
/-- the reading of a for loop, its iterator told by its end -/
def rFor (g : TG) (tb : TS) (D : Ends) (σ : L2.St) (J : It) (H1 : Hp) : Prop := ∃ W : Nat → Nat → L2.St → Hp → Prop, (∃ m, W 0 m σ H1) ∧ ∀ i m σ H, W i m σ H →
  (J.stop i H ∧ D.nx σ H) ∨ (J.go i H ∧ ∃ N : L2.St → Hp → Prop, (∀ σ' H', N σ' H' → ∃ m', m' < m ∧ W (i + 1) m' σ' H') ∧ ∀ x H', J.yld i H x H' → g x σ H' fun σ2 H2 => tb { D with nx := N, ct := N, bk := D.nx } σ2 H2)
theorem r_for {wi : TI} {g : TG} {tb : TS} {D : Ends} {σ : L2.St} {H : Hp} (q : wi σ H fun J H1 => rFor g tb D σ J H1) : tFor wi g tb D σ H := q
theorem r_forR {lo : Int} {n : Nat} {g : TG} {tb : TS} {D : Ends} {σ : L2.St} {H : Hp} (Pv : Nat → L2.St → Hp → Prop) (h0 : Pv 0 σ H)
    (hs : ∀ i σ H, i < n → Pv i σ H → g (.int (lo + i)) σ H fun σ2 H2 => tb { D with nx := Pv (i + 1), ct := Pv (i + 1), bk := D.nx } σ2 H2) (hd : ∀ σ H, Pv n σ H → D.nx σ H) : rFor g tb D σ (Itr lo n) H := for_range Pv h0 hs hd
theorem r_forL {K : PySem.W.Frag} {a : Addr} {xs : List V} {g : TG} {tb : TS} {D : Ends} {σ : L2.St} {H : Hp} (Pv : Nat → L2.St → Hp → Prop) (h0 : Pv 0 σ H) (hl : ∀ i σ H, i ≤ xs.length → Pv i σ H → SqL K H a xs)
    (hs : ∀ i x σ H, xs[i]? = some x → Pv i σ H → g x σ H fun σ2 H2 => tb { D with nx := Pv (i + 1), ct := Pv (i + 1), bk := D.nx } σ2 H2) (hd : ∀ σ H, Pv xs.length σ H → D.nx σ H) : rFor g tb D σ (Itl K a) H := for_list Pv h0 hl hs hd
theorem Dr.mut {a p : Addr} {H H' : Hp} {o : HO} (x : Dr a H H') (hp : H p = none) (n : p ≠ a) : Dr a H (L2.upd H' p o) := by
  obtain ⟨c0, c1, c2, h⟩ := x.src
  refine ⟨⟨c0, c1, c2, by rw [upd_ne (Ne.symm n)]; exact h⟩, fun b u nb e => ?_⟩
  rw [upd_ne (ne_of_none e hp)]
  exact x.old b u nb e
/-- all that stands of a list stands, a draw's source apart -/
theorem Dr.keep {a b : Addr} {H H' : Hp} {o : HO} (x : Dr a H H') (n : b ≠ a) (h : H b = some o) : H' b = some o := x.old b o n h
theorem Src.ne_ins {H : Hp} {a b C dx : Addr} {fs : List (Str × V)} (x : Src H a) (h : H b = some (.ins C dx fs)) : b ≠ a := by
  obtain ⟨c0, c1, c2, e⟩ := x
  exact ne_of h e (by intro z; cases z)
theorem Src.ne_tup {H : Hp} {a b : Addr} {xs : List V} (x : Src H a) (h : H b = some (.tup xs)) : b ≠ a := by
  obtain ⟨c0, c1, c2, e⟩ := x
  exact ne_of h e (by intro z; cases z)
theorem Src.ne_lst4 {H : Hp} {a b : Addr} {xs : List V} (x : Src H a) (h : H b = some (.lst xs)) (n : xs.length ≠ 3 := by simp) : b ≠ a := by
  obtain ⟨c0, c1, c2, e⟩ := x
  refine ne_of h e fun z => n ?_
  cases z
  rfl
theorem r_isiT {K : PySem.W.Frag} {H : Hp} {Q : VK} {x : V} {T T' : String} {b : Bool} (ty : TyX K H x (.type T)) (e : kitB T T' = some b) (q : Q (.bl b) H) : rIsi K [x, .ty T'] H Q := r_isi (.ty T') ty (kit_ty e) q
theorem r_isiC {K : PySem.W.Frag} {H : Hp} {Q : VK} {a C dx : Addr} {fs : List (Str × V)} (I : InsI K C) (e : H a = some (.ins C dx fs)) (q : Q (.bl true) H) : rIsi K [.ref a, .ref C] H Q := r_isi (.own C) (I.ty e) I.own q
theorem max_le {ns : List Int} {m b : Int} (hm : m ∈ ns) (h : ∀ n ∈ ns, n ≤ b) : m ≤ b := h m hm
theorem take_map_bl {bs : List Bool} (h : ∀ b ∈ bs, b = true) : bs.all id = true := by
  rw [List.all_eq_true]
  intro b hb
  rw [h b hb]
  rfl
theorem iteNt {A B : Prop} (h : B) : if (!true) = true then A else B := iteF h
theorem iteNf {A B : Prop} (h : A) : if (!false) = true then A else B := iteT h
theorem r_newS {o : HO} {H : Hp} {Q : VK} (q : ∀ (p : Addr) (H' : Hp), H p = none → Same H H' → H' p = some o → Q (.ref p) H') : rNew o H Q := fun p hp => q p _ hp (same_new hp) upd_same
theorem Src.same {H H' : Hp} {a : Addr} (x : Src H a) (s : Same H H') : Src H' a := by
  obtain ⟨c0, c1, c2, h⟩ := x
  exact ⟨c0, c1, c2, s _ _ h⟩
theorem Dr.same {a : Addr} {H H1 H2 : Hp} (x : Dr a H H1) (s : Same H1 H2) : Dr a H H2 := ⟨x.src.same s, fun b o n h => s b o (x.old b o n h)⟩
theorem Dr.ofSame {a : Addr} {H H1 : Hp} (x : Src H a) (s : Same H H1) : Dr a H H1 := ⟨x.same s, fun b o _ h => s b o h⟩
/-! ### sum of a tuple of ints -/
def rSumT (K : PySem.W.Frag) : List V → Hp → VK → Prop := fun vs H Q => ∃ (a : Addr) (ns : List Int), vs = [V.ref a] ∧ SqT K H a (ns.map V.int) ∧ Q (.int ns.sum) H
theorem preSum_list (ns : List Int) : ∀ j, PySem.preSum (fun i => ns.getD i 0) j = (ns.take j).sum
  | 0 => rfl
  | j + 1 => by
    show PySem.preSum (fun i => ns.getD i 0) j + ns.getD j 0 = _
    rw [preSum_list ns j, List.getD_eq_getElem?_getD, List.take_add_one, List.sum_append]
    cases ns[j]? with
    | none => rfl
    | some z =>
      show (ns.take j).sum + z = (ns.take j).sum + ([z] : List Int).sum
      rw [List.sum_cons]
      show _ = _ + (z + 0)
      rw [Int.add_zero]
theorem c_sumT {X : Cx} (hc : X.calm = true) : CallR X (.builtin "sum") (rSumT X.K) := by
  intro pins s σ H vs us Q I r h
  obtain ⟨a, ns, rfl, hs, q⟩ := h
  obtain ⟨its, rv, hl, _⟩ := I.tuple hs
  rw [Vals.ref1 r]
  have hh : X.A.in1.handled = none := by
    have := I.ok.hd hc
    simpa using this
  obtain ⟨o, ho, hrest⟩ := id hl
  have hlt : a < s.heap.objs.size := Heap.lt_size ho
  have hlen : its.length = ns.length := by rw [← rv.length, List.length_map]
  refine PySem.call_sum_walkG (wpAny_pyIter_tuple (show s.heap.IsTuple a its.toArray from hl) ?_)
  refine ⟨s.heap.objs.size, _, [s.heap.objs.size], _, _, _, fun i => ns.getD i 0, rfl, Walks.tuple (A := X.A.in1) hh s.heap.objs.size a (Nat.ne_of_lt hlt) its.toArray, ⟨⟨_, Heap.get?_push_size _ rfl, rfl, rfl⟩, IsTup.push hl _⟩, fun b hb => ?_, fun i v hv => ?_, fun h' tk t' hk => ?_⟩
  · rw [Heap.size_push]
    simp only [List.mem_cons, List.not_mem_nil, or_false] at hb
    rcases hb with rfl | rfl
    · exact Nat.lt_succ_self _
    · exact Nat.lt_succ_of_lt hlt
  · have hv2 : its[i]? = some v := by simpa using hv
    have hi : i < its.length := (List.getElem?_eq_some_iff.mp hv2).1
    obtain ⟨u, hu, ru⟩ := rv.get (i := i) (x := V.int (ns.getD i 0)) (by
      rw [List.getElem?_map, List.getD_eq_getElem?_getD, List.getElem?_eq_getElem (by omega : i < ns.length)]
      rfl)
    rw [hv2] at hu
    obtain ⟨t, e⟩ := ru
    exact ⟨t, by rw [Option.some.inj hu, e]⟩
  · have e : PySem.preSum (fun i => ns.getD i 0) its.toArray.size = ns.sum := by
      rw [preSum_list, List.size_toArray, List.take_of_length_le (by omega)]
    rw [e]
    exact ⟨.int ns.sum, H, I.kept (t' := tk) (fun b o e => hk b o (fun z => by
      rw [List.mem_singleton] at z
      rw [z] at e
      exact absurd (Heap.lt_size e) (Nat.lt_irrefl _)) (Heap.get?_push_of_some _ e)), ⟨_, rfl⟩, q⟩
theorem r_sumT {K : PySem.W.Frag} {H : Hp} {Q : VK} {a : Addr} {ns : List Int} (h : SqT K H a (ns.map V.int)) (q : Q (.int ns.sum) H) : rSumT K [.ref a] H Q := ⟨a, ns, rfl, h, q⟩
/-! ### while -/
def rWh (tb : TS) (D : Ends) (Pv : Nat → L2.St → Hp → Prop) (m : Nat) (σ : L2.St) (b : Bool) (H1 : Hp) : Prop :=
  if b = true then ∃ N : L2.St → Hp → Prop, (∀ σ' H', N σ' H' → ∃ m', m' < m ∧ Pv m' σ' H') ∧ tb { D with nx := N, ct := N, bk := D.nx } σ H1 else D.nx σ H1
theorem r_while {c : TT} {tb : TS} {D : Ends} {σ : L2.St} {H : Hp} (Pv : Nat → L2.St → Hp → Prop) (m0 : Nat) (h0 : Pv m0 σ H) (hs : ∀ m σ H, Pv m σ H → c σ H fun b H1 => rWh tb D Pv m σ b H1) : tWhile c tb D σ H := ⟨Pv, ⟨m0, h0⟩, hs⟩
theorem r_whT {tb : TS} {D : Ends} {Pv : Nat → L2.St → Hp → Prop} {m : Nat} {σ : L2.St} {H1 : Hp} (q : tb { D with nx := fun σ' H' => ∃ m', m' < m ∧ Pv m' σ' H', ct := fun σ' H' => ∃ m', m' < m ∧ Pv m' σ' H', bk := D.nx } σ H1) : rWh tb D Pv m σ true H1 := by
  unfold rWh
  rw [if_pos rfl]
  exact ⟨_, fun _ _ h => h, q⟩
theorem r_whF {tb : TS} {D : Ends} {Pv : Nat → L2.St → Hp → Prop} {m : Nat} {σ : L2.St} {H1 : Hp} (q : D.nx σ H1) : rWh tb D Pv m σ false H1 := by
  unfold rWh
  rw [if_neg Bool.false_ne_true]
  exact q
theorem r_whD {tb : TS} {D : Ends} {Pv : Nat → L2.St → Hp → Prop} {m : Nat} {σ : L2.St} {H1 : Hp} {p : Prop} [Decidable p] (h1 : p → tb { D with nx := fun σ' H' => ∃ m', m' < m ∧ Pv m' σ' H', ct := fun σ' H' => ∃ m', m' < m ∧ Pv m' σ' H', bk := D.nx } σ H1) (h2 : ¬ p → D.nx σ H1) : rWh tb D Pv m σ (decide p) H1 := by
  by_cases h : p
  · rw [decide_eq_true h]
    exact r_whT (h1 h)
  · rw [decide_eq_false h]
    exact r_whF (h2 h)
theorem ix_mod {xs : List V} {z : Int} {r n : Nat} {v : V} (e : z = ((r % n : Nat) : Int)) (h : xs[r % n]? = some v) : atI xs z = some v := at_of e h
/-! ### dicts with int keys -/
section
variable {σ : L2.St} {H : Hp} {Q : VK} {D : Ends} {ty td tv : TE} {v : V}
def rDk (x y : V) (H : Hp) (R : Option V → Prop) : Prop := ∃ a o, x = .ref a ∧ DGet H a y o ∧ R o
theorem r_dnotin (q : ty σ H fun y H1 => td σ H1 fun x H2 => rDk x y H2 fun o => Q (.bl (!o.isSome)) H2) : tDNotIn ty td σ H Q := q
theorem r_din (q : ty σ H fun y H1 => td σ H1 fun x H2 => rDk x y H2 fun o => Q (.bl o.isSome) H2) : tDIn ty td σ H Q := q
theorem r_dk {a : Addr} {kvs : List (Key × V)} {k : Int} {R : Option V → Prop} (h : H a = some (.dK kvs)) (q : R (valV kvs (Sum.inl k))) : rDk (.ref a) (.int k) H R := ⟨a, _, rfl, DGet.k (k := Sum.inl k) h, q⟩
def rDg (x y : V) (H : Hp) (Q : VK) : Prop := ∃ a v, x = .ref a ∧ DGet H a y (some v) ∧ Q v H
theorem r_dget (q : td σ H fun x H1 => ty σ H1 fun y H2 => rDg x y H2 Q) : tDGet td ty σ H Q := q
theorem r_dg {a : Addr} {kvs : List (Key × V)} {k : Int} (h : H a = some (.dK kvs)) (e : valV kvs (Sum.inl k) = some v) (q : Q v H) : rDg (.ref a) (.int k) H Q := ⟨a, v, rfl, by rw [← e]; exact DGet.k (k := Sum.inl k) h, q⟩
def rDp (x y v : V) (H : Hp) (Qn : Hp → Prop) : Prop := ∃ a H4, x = .ref a ∧ DPut H a y v H4 ∧ Qn H4
theorem r_dput (q : tv σ H fun v H1 => td σ H1 fun x H2 => ty σ H2 fun y H3 => rDp x y v H3 fun H4 => D.nx σ H4) : sDPut td ty tv D σ H := q
theorem r_dp {a : Addr} {kvs : List (Key × V)} {k : Int} {Qn : Hp → Prop} (h : H a = some (.dK kvs)) (hl : kvs.length < 100000) (q : Qn (upd H a (.dK (putK kvs (Sum.inl k) v)))) : rDp (.ref a) (.int k) v H Qn := ⟨a, _, rfl, DPut.k (k := Sum.inl k) h (szl hl), q⟩
theorem r_dnew (q : rNew (.dK []) H Q) : tDNewK σ H Q := q
end
/-- the list of f 0 .. f (n - 1) -/
def tabL (f : Nat → V) (n : Nat) : List V := (List.range n).map f
theorem tabL_len (f : Nat → V) (n : Nat) : (tabL f n).length = n := by simp [tabL]
theorem tabL_get (f : Nat → V) {n i : Nat} (h : i < n) : (tabL f n)[i]? = some (f i) := by
  unfold tabL
  rw [List.getElem?_map, List.getElem?_range h]
  rfl
theorem tabL_succ (f : Nat → V) (n : Nat) : tabL f (n + 1) = tabL f n ++ [f n] := by
  unfold tabL
  rw [List.range_succ, List.map_append]
  rfl
theorem tabL_last (f : Nat → V) (n : Nat) : atI (tabL f (n + 1)) (-1) = some (f n) := by
  rw [tabL_succ]
  exact atI_last _ _
theorem tabL_at (f : Nat → V) {n i : Nat} {z : Int} (e : z = (i : Int)) (h : i < n) : atI (tabL f n) z = some (f i) := at_of e (tabL_get f h)
/-! == and != of rows of ints -/
theorem dpInts {K : PySem.W.Frag} {H : Hp} : ∀ is : List Int, DpAll K H (is.map V.int) (is.map PyData.int)
  | [] => .nil
  | i :: is => .cons (.int i) (dpInts is)
theorem eqvInts : ∀ is js : List Int, PyData.eqvAll (is.map PyData.int) (js.map PyData.int) = decide (is = js)
  | [], [] => by simp [PyData.eqvAll]
  | [], _ :: _ => by simp [PyData.eqvAll]
  | _ :: _, [] => by simp [PyData.eqvAll]
  | a :: is, b :: js => by
    show (PyData.eqv (.int a) (.int b) && PyData.eqvAll (is.map PyData.int) (js.map PyData.int)) = _
    rw [eqvInts is js]
    show ((a == b) && decide (is = js)) = decide (a :: is = b :: js)
    by_cases h : a = b <;> by_cases h2 : is = js <;> simp [h, h2]
theorem layInts : ∀ is : List Int, PyData.canLayAll0 (is.map PyData.int) = true ∧ PyData.depthAll (is.map PyData.int) = 0
  | [] => ⟨rfl, rfl⟩
  | _ :: is => by simp [PyData.canLayAll0, PyData.canLay0, PyData.depthAll, PyData.depth, layInts is]
theorem shL (is : List Int) : SeqAt.shaped (.list (is.map PyData.int)) = true := by simp [SeqAt.shaped, PyData.canLay0, PyData.depth, layInts is]
theorem shT (is : List Int) : SeqAt.shaped (.tuple (is.map PyData.int)) = true := by simp [SeqAt.shaped, PyData.canLay0, PyData.depth, layInts is]
section
variable {K : PySem.W.Frag} {H : Hp} {Q : VK} {a b : Addr} {is js : List Int}
theorem r_eqTT (h : SqT K H a (is.map V.int)) (g : SqT K H b (js.map V.int)) (q : Q (.bl (decide (is = js))) H) : rEqD K (.ref a) (.ref b) H Q :=
  ⟨_, _, .tup h (dpInts is), .tup g (dpInts js), shT is, shT js, by rw [show PyData.eqv (.tuple (is.map PyData.int)) (.tuple (js.map PyData.int)) = decide (is = js) from eqvInts is js]; exact q⟩
theorem r_neTT (h : SqT K H a (is.map V.int)) (g : SqT K H b (js.map V.int)) (q : Q (.bl (!decide (is = js))) H) : rNeD K (.ref a) (.ref b) H Q :=
  ⟨_, _, .tup h (dpInts is), .tup g (dpInts js), shT is, shT js, by rw [show PyData.eqv (.tuple (is.map PyData.int)) (.tuple (js.map PyData.int)) = decide (is = js) from eqvInts is js]; exact q⟩
theorem r_eqLL (h : SqL K H a (is.map V.int)) (g : SqL K H b (js.map V.int)) (q : Q (.bl (decide (is = js))) H) : rEqD K (.ref a) (.ref b) H Q :=
  ⟨_, _, .lst h (dpInts is), .lst g (dpInts js), shL is, shL js, by rw [show PyData.eqv (.list (is.map PyData.int)) (.list (js.map PyData.int)) = decide (is = js) from eqvInts is js]; exact q⟩
theorem r_neLL (h : SqL K H a (is.map V.int)) (g : SqL K H b (js.map V.int)) (q : Q (.bl (!decide (is = js))) H) : rNeD K (.ref a) (.ref b) H Q :=
  ⟨_, _, .lst h (dpInts is), .lst g (dpInts js), shL is, shL js, by rw [show PyData.eqv (.list (is.map PyData.int)) (.list (js.map PyData.int)) = decide (is = js) from eqvInts is js]; exact q⟩
end
/-- another cell than one that was free -/
theorem Same.ne_free {H H' : Hp} {a b : Addr} {o : HO} (h : H a = some o) (f : H b = none) : a ≠ b := ne_of_none h f
def rTri (vs : List V) (R : V → V → V → Prop) : Prop := ∃ u v w, vs = [u, v, w] ∧ R u v w
theorem r_par3 {tr : TA} {D : Ends} {σ : L2.St} {H : Hp} {i j l : Nat} (q : tr σ H fun vs H1 => rTri vs fun u v w => gName i u σ H1 fun σ' H' => gName j v σ' H' fun σ2 H2 => gName l w σ2 H2 D.nx) : tPar3 i j l tr D σ H := q
theorem r_tri {u v w : V} {R : V → V → V → Prop} (q : R u v w) : rTri [u, v, w] R := ⟨u, v, w, rfl, q⟩
theorem ix_listK {X : Cx} {K : PySem.W.Frag} (h : X.K = K) : IxR X (rIxL K) := h ▸ ix_list
theorem ix_tupK {X : Cx} {K : PySem.W.Frag} (h : X.K = K) : IxR X (rIxT K) := h ▸ ix_tup
theorem c_lenK {X : Cx} {K : PySem.W.Frag} (h : X.K = K) : CallR X (.builtin "len") (rLenL K) := h ▸ c_len
theorem r_slT {K : PySem.W.Frag} {H : Hp} {Q : VK} {a : Addr} {xs : List V} {k : Nat} (h : SqT K H a xs) (hk : k < xs.length) (q : rNew (.tup (xs.take k)) H Q) : rSlT K (.ref a) none (some (k : Int)) H Q := by
  have e : HT.sIx xs.length xs.length (some (k : Int)) = k := by
    rw [HT.sIx_nat]
    exact Nat.min_eq_left (Nat.le_of_lt hk)
  have e0 : cutV xs none (some (k : Int)) = xs.take k := by
    show (xs.drop 0).take (HT.sIx xs.length xs.length (some (k : Int)) - 0) = _
    rw [e]
    rfl
  refine ⟨a, xs, rfl, h, fun z => ?_, ?_⟩
  · have := z.2
    rw [e] at this
    omega
  · rw [e0]
    exact q
theorem But.mut {a p : Addr} {H H' : Hp} {o : HO} (x : But a H H') (hp : H p = none) : But a H (L2.upd H' p o) := fun b u n e => by
  rw [upd_ne (ne_of_none e hp)]
  exact x b u n e
theorem But.same {a : Addr} {H H1 H2 : Hp} (x : But a H H1) (s : Same H1 H2) : But a H H2 := fun b o n h => s b o (x b o n h)
theorem Src.upd_ne {H : Hp} {a p : Addr} {o : HO} (x : Src H a) (n : p ≠ a) : Src (L2.upd H p o) a := by
  obtain ⟨c0, c1, c2, h⟩ := x
  exact ⟨c0, c1, c2, by rw [L2.upd_ne (Ne.symm n)]; exact h⟩
theorem tabL_atA (f : Nat → V) {n i : Nat} {z : Int} {zs : List V} (e : z = (i : Int)) (h : i < n) : atI (tabL f n ++ zs) z = some (f i) := by
  refine at_of e ?_
  rw [List.getElem?_append_left (by rw [tabL_len]; exact h)]
  exact tabL_get f h
/-! for i, x in enumerate(xs) -/
def rEn (K : PySem.W.Frag) (vs : List V) (H : Hp) (R : Addr → Prop) : Prop := ∃ a xs, vs = [V.ref a] ∧ SqL K H a xs ∧ R a
theorem r_enum {K : PySem.W.Frag} {tr : TA} {σ : L2.St} {H : Hp} {R : It → Hp → Prop} (q : tr σ H fun vs H1 => rEn K vs H1 fun a => R (Ite K a) H1) : iEnum K tr σ H R := q
theorem r_en {K : PySem.W.Frag} {H : Hp} {a : Addr} {xs : List V} {R : Addr → Prop} (h : SqL K H a xs) (q : R a) : rEn K [.ref a] H R := ⟨a, xs, rfl, h, q⟩
theorem r_forE {K : PySem.W.Frag} {a : Addr} {xs : List V} {g : TG} {tb : TS} {D : Ends} {σ : L2.St} {H : Hp} (Pv : Nat → L2.St → Hp → Prop) (h0 : Pv 0 σ H) (hl : ∀ i σ H, i ≤ xs.length → Pv i σ H → SqL K H a xs)
    (hs : ∀ i x σ H T H', xs[i]? = some x → Pv i σ H → H T = none → Same H H' → H' T = some (.tup [.int (i : Nat), x]) → g (.ref T) σ H' fun σ2 H2 => tb { D with nx := Pv (i + 1), ct := Pv (i + 1), bk := D.nx } σ2 H2) (hd : ∀ σ H, Pv xs.length σ H → D.nx σ H) : rFor g tb D σ (Ite K a) H := by
  refine ⟨fun i m σ H => m = xs.length - i ∧ i ≤ xs.length ∧ Pv i σ H, ⟨_, rfl, Nat.zero_le _, h0⟩, ?_⟩
  rintro i m σ H ⟨rfl, hi, h⟩
  rcases Nat.lt_or_ge i xs.length with z | z
  · refine .inr ⟨⟨xs, xs[i], hl i σ H hi h, List.getElem?_eq_getElem z⟩, Pv (i + 1), fun σ' H' p => ⟨_, ?_, rfl, z, p⟩, ?_⟩
    · omega
    · rintro v H' ⟨T, x, rfl, hT, rfl, hx⟩
      exact hs i x σ H T _ (hx xs (hl i σ H hi h)) h hT (same_new hT) upd_same
  · have e : i = xs.length := by omega
    subst e
    exact .inl ⟨⟨xs, hl _ σ H hi h, Nat.le_refl _⟩, hd σ H h⟩
/-- the way past a test that may be left out: first what follows, then the test's own way to it -/
theorem r_decK {p : Prop} [Decidable p] {A B : Prop} (q : B) (h1 : B → p → A) : if decide p = true then A else B := by
  by_cases h : p
  · rw [decide_eq_true h]
    exact h1 q h
  · rw [decide_eq_false h]
    exact q
theorem r_neB {i j : Bool} {H : Hp} {Q : VK} (q : Q (.bl (!decide (i = j))) H) : rNe (.bl i) (.bl j) H Q := ⟨rfl, by simpa using q⟩
theorem r_eqB {i j : Bool} {H : Hp} {Q : VK} (q : Q (.bl (decide (i = j))) H) : rEq (.bl i) (.bl j) H Q := ⟨rfl, by simpa using q⟩
theorem r_BM0 {K : PySem.W.Frag} {to : TE} {σ : L2.St} {H : Hp} {Q : VK} {T : String} {rm : V → List V → Hp → VK → Prop} (q : to σ H fun x H1 => rTy K T x H1 (rm x [] H1 Q)) : tBM0 K T rm to σ H Q := q
theorem r_reverse {l : Addr} {xs : List V} {H : Hp} {Q : VK} (h : H l = some (.lst xs)) (q : Q .non (upd H l (.lst xs.reverse))) : rReverse (.ref l) [] H Q := ⟨l, xs, rfl, rfl, h, q⟩
def rRgA (x : V) (R : Int → Int → Prop) : Prop := ∃ n, x = .int n ∧ R 0 n
def rRgL (a b : Int) (H : Hp) (Q : VK) : Prop := RgOk a b ∧ ∀ q, H q = none → Q (.ref q) (upd H q (.lst (rgV a b)))
theorem r_lstRg {ta : TE} {σ : L2.St} {H : Hp} {Q : VK} (q : ta σ H fun x H1 => rRgA x fun a b => rRgL a b H1 Q) : tLstRg (tRg1 ta) σ H Q := q
theorem r_rgA {n : Int} {R : Int → Int → Prop} (q : R 0 n) : rRgA (.int n) R := ⟨n, rfl, q⟩
theorem r_rgL {b : Int} {H : Hp} {Q : VK} (h0 : 0 ≤ b) (h1 : b ≤ 16777216) (q : rNew (.lst (rgV 0 b)) H Q) : rRgL 0 b H Q := ⟨RgOk.of_le (Int.le_refl 0) h1 (by decide) h0, q⟩
/-! == of a list of a row of ints and ints -/
theorem eqvHT (A B I J : List Int) : PyData.eqv (.list (.tuple (A.map PyData.int) :: I.map PyData.int)) (.list (.tuple (B.map PyData.int) :: J.map PyData.int)) = (decide (A = B) && decide (I = J)) := by
  show (PyData.eqvAll (A.map PyData.int) (B.map PyData.int) && PyData.eqvAll (I.map PyData.int) (J.map PyData.int)) = _
  rw [eqvInts, eqvInts]
theorem eqvHL (A B I J : List Int) : PyData.eqv (.list (.list (A.map PyData.int) :: I.map PyData.int)) (.list (.list (B.map PyData.int) :: J.map PyData.int)) = (decide (A = B) && decide (I = J)) := by
  show (PyData.eqvAll (A.map PyData.int) (B.map PyData.int) && PyData.eqvAll (I.map PyData.int) (J.map PyData.int)) = _
  rw [eqvInts, eqvInts]
theorem shHT (A I : List Int) : SeqAt.shaped (.list (.tuple (A.map PyData.int) :: I.map PyData.int)) = true := by simp [SeqAt.shaped, PyData.canLay0, PyData.depth, PyData.canLayAll0, PyData.depthAll, layInts]
theorem shHL (A I : List Int) : SeqAt.shaped (.list (.list (A.map PyData.int) :: I.map PyData.int)) = true := by simp [SeqAt.shaped, PyData.canLay0, PyData.depth, PyData.canLayAll0, PyData.depthAll, layInts]
theorem r_neHT {K : PySem.W.Frag} {H : Hp} {Q : VK} {a b t u : Addr} {A B I J : List Int} (h : SqL K H a (.ref t :: I.map V.int)) (ht : SqT K H t (A.map V.int)) (g : SqL K H b (.ref u :: J.map V.int)) (gu : SqT K H u (B.map V.int))
    (q : Q (.bl (!(decide (A = B) && decide (I = J)))) H) : rNeD K (.ref a) (.ref b) H Q :=
  ⟨_, _, .lst h (.cons (.tup ht (dpInts A)) (dpInts I)), .lst g (.cons (.tup gu (dpInts B)) (dpInts J)), shHT A I, shHT B J, by rw [eqvHT]; exact q⟩
theorem r_eqHL {K : PySem.W.Frag} {H : Hp} {Q : VK} {a b t u : Addr} {A B I J : List Int} (h : SqL K H a (.ref t :: I.map V.int)) (ht : SqL K H t (A.map V.int)) (g : SqL K H b (.ref u :: J.map V.int)) (gu : SqL K H u (B.map V.int))
    (q : Q (.bl (decide (A = B) && decide (I = J))) H) : rEqD K (.ref a) (.ref b) H Q :=
  ⟨_, _, .lst h (.cons (.lst ht (dpInts A)) (dpInts I)), .lst g (.cons (.lst gu (dpInts B)) (dpInts J)), shHL A I, shHL B J, by rw [eqvHL]; exact q⟩
theorem mem_rgV {a b : Int} {v : V} (h : v ∈ rgV a b) : ∃ i : Int, v = .int i ∧ a ≤ i ∧ i < b := by
  unfold rgV at h
  obtain ⟨n, hn, rfl⟩ := List.mem_map.mp h
  have := List.mem_range.mp hn
  exact ⟨_, rfl, by omega, by omega⟩
end Kr

/-! Packing rows into heap pages: the plain mathematics (no Python here). -/
namespace Pk
/-- the length of a row -/
def lenAt (ls : List Int) (r : Nat) : Int := ls.getD (r % ls.length) 0
/-- how many units k rows from row r on have -/
def pre (ls : List Int) (r : Nat) : Nat → Int
  | 0 => 0
  | k + 1 => pre ls r k + lenAt ls (r + k)
/-- lengths that may be packed -/
structure Ok (ls : List Int) (sz : Int) : Prop where
  l1 : 1 ≤ ls.length
  l6 : ls.length ≤ 12
  all : ∀ l ∈ ls, 1 ≤ l ∧ l ≤ sz
  s64 : sz ≤ 1000
section
variable {ls : List Int} {sz : Int}
theorem len_pos (o : Ok ls sz) (r : Nat) : 1 ≤ lenAt ls r ∧ lenAt ls r ≤ sz := by
  have h : r % ls.length < ls.length := Nat.mod_lt _ o.l1
  unfold lenAt
  rw [List.getD_eq_getElem?_getD, List.getElem?_eq_getElem h]
  exact o.all _ (List.getElem_mem h)
theorem len_at (o : Ok ls sz) (r : Nat) : ls[r % ls.length]? = some (lenAt ls r) := by
  have h : r % ls.length < ls.length := Nat.mod_lt _ o.l1
  unfold lenAt
  rw [List.getD_eq_getElem?_getD, List.getElem?_eq_getElem h]
  rfl
theorem len_mod {r s : Nat} (h : r % ls.length = s % ls.length) : lenAt ls r = lenAt ls s := by
  unfold lenAt
  rw [h]
theorem add_mod_eq {n r s k : Nat} (h : r % n = s % n) : (r + k) % n = (s + k) % n := by
  rw [Nat.add_mod, h, ← Nat.add_mod]
theorem pre_mod {r s : Nat} (h : r % ls.length = s % ls.length) : ∀ k, pre ls r k = pre ls s k
  | 0 => rfl
  | k + 1 => by
    show pre ls r k + lenAt ls (r + k) = pre ls s k + lenAt ls (s + k)
    rw [pre_mod h k, len_mod (add_mod_eq h)]
theorem pre_add (r : Nat) (a : Nat) : ∀ b, pre ls r (a + b) = pre ls r a + pre ls (r + a) b
  | 0 => by
    show pre ls r a = pre ls r a + 0
    omega
  | b + 1 => by
    show pre ls r (a + b) + lenAt ls (r + (a + b)) = pre ls r a + (pre ls (r + a) b + lenAt ls (r + a + b))
    rw [pre_add r a b, Nat.add_assoc r a b]
    omega
theorem pre_mono (o : Ok ls sz) (r : Nat) {a b : Nat} (h : a ≤ b) : pre ls r a + ((b : Int) - a) ≤ pre ls r b := by
  induction b with
  | zero =>
    have : a = 0 := by omega
    subst this
    simp
  | succ b ih =>
    have l := (len_pos o (r + b)).1
    by_cases e : a = b + 1
    · subst e
      omega
    · have := ih (by omega)
      show pre ls r a + (((b + 1 : Nat) : Int) - a) ≤ pre ls r b + lenAt ls (r + b)
      omega
theorem pre_ge (o : Ok ls sz) (r k : Nat) : (k : Int) ≤ pre ls r k := by
  have := pre_mono o r (Nat.zero_le k)
  have e : pre ls r 0 = 0 := rfl
  omega
/-- k rows from r on fit, one more does not -/
def Fill (ls : List Int) (sz : Int) (r k : Nat) : Prop := pre ls r k ≤ sz ∧ sz < pre ls r (k + 1)
theorem Fill.inj (o : Ok ls sz) {r k j : Nat} (h : Fill ls sz r k) (g : Fill ls sz r j) : k = j := by
  rcases Nat.lt_trichotomy k j with z | z | z
  · have := pre_mono o r (show k + 1 ≤ j from z)
    have h2 := h.2
    have g1 := g.1
    omega
  · exact z
  · have := pre_mono o r (show j + 1 ≤ k from z)
    have h1 := h.1
    have g2 := g.2
    omega
theorem Fill.le (o : Ok ls sz) {r k : Nat} (h : Fill ls sz r k) : (k : Int) ≤ sz := by
  have := pre_ge o r k
  have := h.1
  omega
theorem Fill.pos (o : Ok ls sz) {r k : Nat} (h : Fill ls sz r k) : 1 ≤ k := by
  rcases k with _ | k
  · have h2 : sz < pre ls r 1 := h.2
    have e : pre ls r 1 = 0 + lenAt ls (r + 0) := rfl
    have := (len_pos o (r + 0)).2
    omega
  · omega
theorem Fill.mod {r s k : Nat} (h : r % ls.length = s % ls.length) (f : Fill ls sz r k) : Fill ls sz s k := by
  unfold Fill
  rw [← pre_mod h, ← pre_mod h]
  exact f
/-- the greedy count, with fuel -/
def cntF (ls : List Int) (r : Nat) (left : Int) : Nat → Nat
  | 0 => 0
  | f + 1 => if lenAt ls r ≤ left then cntF ls (r + 1) (left - lenAt ls r) f + 1 else 0
theorem pre_one (r : Nat) (k : Nat) : pre ls r (k + 1) = lenAt ls r + pre ls (r + 1) k := by
  have e := pre_add (ls := ls) r 1 k
  rw [Nat.add_comm k 1, e]
  show (0 + lenAt ls (r + 0)) + pre ls (r + 1) k = lenAt ls r + pre ls (r + 1) k
  rw [Nat.add_zero]
  omega
theorem cntF_fill (o : Ok ls sz) : ∀ (f r : Nat) (left : Int), 0 ≤ left → left < f → pre ls r (cntF ls r left f) ≤ left ∧ left < pre ls r (cntF ls r left f + 1)
  | 0, r, left, h0, h1 => by omega
  | f + 1, r, left, h0, h1 => by
    have lp := (len_pos o r).1
    unfold cntF
    split
    · rename_i h
      have ih := cntF_fill o f (r + 1) (left - lenAt ls r) (by omega) (by omega)
      rw [pre_one, pre_one]
      omega
    · rename_i h
      have e : pre ls r 1 = lenAt ls r := by
        rw [pre_one]
        show lenAt ls r + 0 = _
        omega
      exact ⟨h0, by rw [e]; omega⟩
def cnt (ls : List Int) (sz : Int) (r : Nat) : Nat := cntF ls r sz (sz.toNat + 1)
theorem cnt_fill (o : Ok ls sz) (r : Nat) : Fill ls sz r (cnt ls sz r) := by
  have := (len_pos o r).1
  have := (len_pos o r).2
  exact cntF_fill o _ r sz (by omega) (by omega)
theorem cnt_is (o : Ok ls sz) {r k : Nat} (h : Fill ls sz r k) : cnt ls sz r = k := (cnt_fill o r).inj o h
theorem cnt_mod (o : Ok ls sz) {r s : Nat} (h : r % ls.length = s % ls.length) : cnt ls sz r = cnt ls sz s := cnt_is o ((cnt_fill o s).mod h.symm)
theorem cnt_pos (o : Ok ls sz) (r : Nat) : 1 ≤ cnt ls sz r := (cnt_fill o r).pos o
theorem cnt_le (o : Ok ls sz) (r : Nat) : (cnt ls sz r : Int) ≤ sz := (cnt_fill o r).le o
/-- the first row of each heap page -/
def st (ls : List Int) (sz : Int) : Nat → Nat
  | 0 => 0
  | m + 1 => st ls sz m + cnt ls sz (st ls sz m)
theorem st_succ (m : Nat) : st ls sz (m + 1) = st ls sz m + cnt ls sz (st ls sz m) := rfl
theorem st_lt (o : Ok ls sz) (m : Nat) : st ls sz m < st ls sz (m + 1) := by
  have := cnt_pos o (st ls sz m)
  rw [st_succ]
  omega
theorem st_mono (o : Ok ls sz) {a b : Nat} (h : a < b) : st ls sz a < st ls sz b := by
  induction b with
  | zero => omega
  | succ b ih =>
    have l := st_lt o b
    rcases Nat.lt_or_ge a b with z | z
    · have := ih z
      omega
    · have : a = b := by omega
      subst this
      exact l
theorem st_le (o : Ok ls sz) {a b : Nat} (h : a ≤ b) : st ls sz a ≤ st ls sz b := by
  rcases Nat.lt_or_ge a b with z | z
  · exact Nat.le_of_lt (st_mono o z)
  · have : a = b := by omega
    subst this
    exact Nat.le_refl _
theorem st_ge (o : Ok ls sz) (m : Nat) : m ≤ st ls sz m := by
  induction m with
  | zero => exact Nat.zero_le _
  | succ m ih =>
    have := st_lt o m
    omega
theorem st_up (o : Ok ls sz) (m : Nat) : (st ls sz m : Int) ≤ m * sz := by
  induction m with
  | zero => simp [st]
  | succ m ih =>
    have := cnt_le o (st ls sz m)
    have e : ((m + 1 : Nat) : Int) * sz = m * sz + sz := by
      rw [Int.natCast_add, Int.add_mul]
      simp
    rw [st_succ, e, Int.natCast_add]
    omega
/-- places that are equal lead on alike -/
theorem st_alike (o : Ok ls sz) {a b : Nat} (h : st ls sz a % ls.length = st ls sz b % ls.length) : ∀ t, st ls sz (a + t) % ls.length = st ls sz (b + t) % ls.length ∧ st ls sz (a + t) - st ls sz a = st ls sz (b + t) - st ls sz b
  | 0 => ⟨h, by simp⟩
  | t + 1 => by
    obtain ⟨h1, h2⟩ := st_alike o h t
    have e := cnt_mod (sz := sz) o h1
    have g1 : st ls sz (a + (t + 1)) = st ls sz (a + t) + cnt ls sz (st ls sz (a + t)) := rfl
    have g2 : st ls sz (b + (t + 1)) = st ls sz (b + t) + cnt ls sz (st ls sz (b + t)) := rfl
    have k1 := st_le o (show a ≤ a + t by omega)
    have k2 := st_le o (show b ≤ b + t by omega)
    rw [g1, g2, e]
    exact ⟨add_mod_eq h1, by omega⟩
/-- a cycle: from page j on all comes again k - j pages and so many rows later -/
structure Cyc (ls : List Int) (sz : Int) (j k : Nat) : Prop where
  lt : j < k
  eq : st ls sz j % ls.length = st ls sz k % ls.length
  dis : ∀ a b, a < b → b < k → st ls sz a % ls.length ≠ st ls sz b % ls.length
/-- how many rows a cycle has -/
def rws (ls : List Int) (sz : Int) (j k : Nat) : Nat := st ls sz k - st ls sz j
theorem Cyc.rows (c : Cyc ls sz j k) (o : Ok ls sz) : 1 ≤ rws ls sz j k := by
  have := st_mono o c.lt
  unfold rws
  omega
theorem Cyc.step (c : Cyc ls sz j k) (o : Ok ls sz) {m : Nat} (h : j ≤ m) : st ls sz (m + (k - j)) = st ls sz m + rws ls sz j k := by
  obtain ⟨t, rfl⟩ := Nat.exists_eq_add_of_le h
  have := (st_alike o c.eq t).2
  have k1 := st_le o (show j ≤ j + t by omega)
  have k2 := st_le o (show k ≤ k + t by omega)
  have k3 := st_mono o c.lt
  have lt := c.lt
  have e : j + t + (k - j) = k + t := by omega
  rw [e]
  unfold rws
  omega
theorem Cyc.steps (c : Cyc ls sz j k) (o : Ok ls sz) {m : Nat} (h : j ≤ m) : ∀ t, st ls sz (m + t * (k - j)) = st ls sz m + t * rws ls sz j k
  | 0 => by simp
  | t + 1 => by
    have ih := Cyc.steps c o h t
    have e : m + (t + 1) * (k - j) = (m + t * (k - j)) + (k - j) := by
      rw [Nat.succ_mul]
      omega
    rw [e, c.step o (show j ≤ m + t * (k - j) by omega), ih, Nat.succ_mul]
    omega
theorem Cyc.place (c : Cyc ls sz j k) (o : Ok ls sz) {m : Nat} (h : j ≤ m) (t : Nat) : st ls sz (m + t * (k - j)) % ls.length = st ls sz m % ls.length := by
  induction t with
  | zero => simp
  | succ t ih =>
    have lt := c.lt
    have h1 : j ≤ m + t * (k - j) := by omega
    obtain ⟨u, hu⟩ := Nat.exists_eq_add_of_le h1
    have al := (st_alike o c.eq u).1
    have e : m + (t + 1) * (k - j) = k + u := by
      rw [Nat.succ_mul]
      omega
    rw [e, ← al, ← hu, ih]
/-- different places are no more than the lengths -/
theorem dis_le (o : Ok ls sz) {k : Nat} (dis : ∀ a b, a < b → b < k → st ls sz a % ls.length ≠ st ls sz b % ls.length) : k ≤ ls.length := by
  have key : ∀ (n k : Nat) (f : Nat → Nat), (∀ a, a < k → f a < n) → (∀ a b, a < b → b < k → f a ≠ f b) → k ≤ n := by
    intro n
    induction n with
    | zero =>
      intro k f h _
      rcases k with _ | k
      · exact Nat.le_refl _
      · exact absurd (h 0 (by omega)) (by omega)
    | succ n ih =>
      intro k f h d
      rcases k with _ | k
      · omega
      · -- move the value n out of the way
        have := ih k (fun a => if f a = n then f k else f a) (fun a ha => by
          show (if f a = n then f k else f a) < n
          have h1 := h a (by omega)
          have h2 := h k (by omega)
          have h3 := d a k ha (by omega)
          split <;> omega) (fun a b hab hb => by
          show (if f a = n then f k else f a) ≠ (if f b = n then f k else f b)
          have h3 := d a k (by omega) (by omega)
          have h4 := d b k hb (by omega)
          have h5 := d a b hab (by omega)
          split <;> split <;> omega)
        omega
  exact key ls.length k (fun a => st ls sz a % ls.length) (fun a _ => Nat.mod_lt _ o.l1) dis
theorem Cyc.le (c : Cyc ls sz j k) (o : Ok ls sz) : k ≤ ls.length := dis_le o c.dis
/-- how many whole cycles off a row is -/
theorem Cyc.turns (c : Cyc ls sz j k) (o : Ok ls sz) (r : Nat) : ∃ t : Nat, (if ((r : Int) - (st ls sz j : Nat)) / (rws ls sz j k : Nat) > 0 then ((r : Int) - (st ls sz j : Nat)) / (rws ls sz j k : Nat) else 0) = (t : Int) ∧
    t * rws ls sz j k ≤ r ∧ (t = 0 ∨ st ls sz j + t * rws ls sz j k ≤ r) ∧ r - t * rws ls sz j k < st ls sz k ∧ t ≤ r := by
  have hR := c.rows o
  have hk := st_mono o c.lt
  have hRd : st ls sz j + rws ls sz j k = st ls sz k := by unfold rws; omega
  generalize rws ls sz j k = R at *
  generalize hsj : st ls sz j = S at *
  have hdm := Int.emod_add_mul_ediv ((r : Int) - (S : Nat)) (R : Nat)
  have hm0 := Int.emod_nonneg ((r : Int) - (S : Nat)) (show ((R : Nat) : Int) ≠ 0 by omega)
  have hm1 := Int.emod_lt_of_pos ((r : Int) - (S : Nat)) (show (0 : Int) < ((R : Nat) : Int) by omega)
  generalize ((r : Int) - (S : Nat)) / ((R : Nat) : Int) = D at *
  generalize ((r : Int) - (S : Nat)) % ((R : Nat) : Int) = M at *
  by_cases h : D > 0
  · rw [if_pos h]
    obtain ⟨t, rfl⟩ := Int.eq_ofNat_of_zero_le (show 0 ≤ D by omega)
    have e : ((t * R : Nat) : Int) = (R : Int) * t := by rw [Int.natCast_mul, Int.mul_comm]
    have hle : t ≤ t * R := Nat.le_mul_of_pos_right t hR
    refine ⟨t, rfl, ?_, .inr ?_, ?_, ?_⟩ <;> omega
  · rw [if_neg h]
    refine ⟨0, rfl, by simp, .inl rfl, ?_, by omega⟩
    have : (R : Int) * D ≤ 0 := Int.mul_nonpos_of_nonneg_of_nonpos (by omega) (by omega)
    simp
    omega
/-- the page of a row, by the cycle: t whole cycles off -/
theorem Cyc.on (c : Cyc ls sz j k) (o : Ok ls sz) {r t m : Nat} (h1 : t * rws ls sz j k ≤ r) (h2 : t = 0 ∨ st ls sz j + t * rws ls sz j k ≤ r) (hm : st ls sz m ≤ r - t * rws ls sz j k ∧ r - t * rws ls sz j k < st ls sz (m + 1)) :
    st ls sz (m + t * (k - j)) ≤ r ∧ r < st ls sz (m + t * (k - j) + 1) := by
  rcases h2 with rfl | h2
  · simpa using hm
  · have hj : j ≤ m := by
      rcases Nat.lt_or_ge m j with z | z
      · have := st_le o (show m + 1 ≤ j from z)
        omega
      · exact z
    have e1 := c.steps o hj t
    have e2 := c.steps o (show j ≤ m + 1 by omega) t
    have e3 : m + 1 + t * (k - j) = m + t * (k - j) + 1 := by omega
    rw [e3] at e2
    omega
/-- the page of a row -/
def On (ls : List Int) (sz : Int) (m r : Nat) : Prop := st ls sz m ≤ r ∧ r < st ls sz (m + 1)
theorem On.inj (o : Ok ls sz) {m n r : Nat} (h : On ls sz m r) (g : On ls sz n r) : m = n := by
  rcases Nat.lt_trichotomy m n with z | z | z
  · have := st_le o (show m + 1 ≤ n from z)
    have h2 := h.2
    have g1 := g.1
    omega
  · exact z
  · have := st_le o (show n + 1 ≤ m from z)
    have h1 := h.1
    have g2 := g.2
    omega
theorem on_ex (o : Ok ls sz) (r : Nat) : ∃ m, On ls sz m r := by
  induction r with
  | zero =>
    exact ⟨0, Nat.le_refl _, by have := st_lt o 0; have e : st ls sz 0 = 0 := rfl; omega⟩
  | succ r ih =>
    obtain ⟨m, h1, h2⟩ := ih
    by_cases z : r + 1 < st ls sz (m + 1)
    · exact ⟨m, by omega, z⟩
    · exact ⟨m + 1, by omega, by have := st_lt o (m + 1); omega⟩
theorem On.mono (o : Ok ls sz) {m n r s : Nat} (h : On ls sz m r) (g : On ls sz n s) (l : r ≤ s) : m ≤ n := by
  rcases Nat.lt_or_ge n m with z | z
  · have := st_le o (show n + 1 ≤ m from z)
    have := h.1
    have := g.2
    omega
  · exact z
theorem fit_le (o : Ok ls sz) {r e : Nat} (h : pre ls r e ≤ sz) : e ≤ cnt ls sz r := by
  rcases Nat.lt_or_ge (cnt ls sz r) e with z | z
  · have := pre_mono o r (show cnt ls sz r + 1 ≤ e from z)
    have h2 := (cnt_fill o r).2
    omega
  · exact z
/-- places of a cycle come again -/
theorem Cyc.again (c : Cyc ls sz j k) (o : Ok ls sz) {m : Nat} (h : j ≤ m) : st ls sz (m + (k - j)) % ls.length = st ls sz m % ls.length := by
  have := c.place o h 1
  rwa [Nat.one_mul] at this
/-- every page's place is that of one of the first pages -/
theorem Cyc.near (c : Cyc ls sz j k) (o : Ok ls sz) : ∀ m, j ≤ m → ∃ i, j ≤ i ∧ i < k ∧ st ls sz m % ls.length = st ls sz i % ls.length := by
  intro m
  induction m using Nat.strongRecOn with
  | _ m ih =>
    intro h
    rcases Nat.lt_or_ge m k with z | z
    · exact ⟨m, h, z, rfl⟩
    · have lt := c.lt
      obtain ⟨i, h1, h2, h3⟩ := ih (m - (k - j)) (by omega) (by omega)
      refine ⟨i, h1, h2, ?_⟩
      rw [← h3]
      have := c.again o (show j ≤ m - (k - j) by omega)
      rwa [show m - (k - j) + (k - j) = m by omega] at this
/-- a search by first page, then by pages, ends at the cycle -/
theorem Cyc.only (c : Cyc ls sz j k) (o : Ok ls sz) {f p : Nat} (hf : f ≤ j) (hp : 1 ≤ p) (hs : f = j → p ≤ k - j) (e : st ls sz f % ls.length = st ls sz (f + p) % ls.length) : f = j ∧ p = k - j := by
  have lt := c.lt
  rcases Nat.lt_or_ge f j with z | z
  · exfalso
    rcases Nat.lt_or_ge (f + p) k with y | y
    · exact c.dis f (f + p) (by omega) y e
    · obtain ⟨i, h1, h2, h3⟩ := c.near o (f + p) (by omega)
      exact c.dis f i (by omega) h2 (e.trans h3)
  · have hj : f = j := by omega
    have := hs hj
    refine ⟨hj, ?_⟩
    rcases Nat.lt_or_ge (f + p) k with y | y
    · exact absurd e (c.dis f (f + p) (by omega) y)
    · omega
/-- how many whole cycles off a page is -/
theorem Cyc.pturns (c : Cyc ls sz j k) (m : Nat) : ∃ t : Nat, (if ((m : Int) - (j : Nat)) / ((k - j : Nat) : Int) > 0 then ((m : Int) - (j : Nat)) / ((k - j : Nat) : Int) else 0) = (t : Int) ∧
    t * (k - j) ≤ m ∧ (t = 0 ∨ j ≤ m - t * (k - j)) ∧ m - t * (k - j) < k ∧ t ≤ m := by
  have lt := c.lt
  have hR : 0 < k - j := by omega
  have hjk : j + (k - j) = k := by omega
  generalize k - j = R at *
  have hdm := Int.emod_add_mul_ediv ((m : Int) - (j : Nat)) (R : Nat)
  have hm0 := Int.emod_nonneg ((m : Int) - (j : Nat)) (show ((R : Nat) : Int) ≠ 0 by omega)
  have hm1 := Int.emod_lt_of_pos ((m : Int) - (j : Nat)) (show (0 : Int) < ((R : Nat) : Int) by omega)
  generalize ((m : Int) - (j : Nat)) / ((R : Nat) : Int) = D at *
  generalize ((m : Int) - (j : Nat)) % ((R : Nat) : Int) = M at *
  by_cases h : D > 0
  · rw [if_pos h]
    obtain ⟨t, rfl⟩ := Int.eq_ofNat_of_zero_le (show 0 ≤ D by omega)
    have e : ((t * R : Nat) : Int) = (R : Int) * t := by rw [Int.natCast_mul, Int.mul_comm]
    have hle : t ≤ t * R := Nat.le_mul_of_pos_right t hR
    refine ⟨t, rfl, ?_, .inr ?_, ?_, ?_⟩ <;> omega
  · rw [if_neg h]
    refine ⟨0, rfl, by simp, .inl rfl, ?_, by omega⟩
    have : (R : Int) * D ≤ 0 := Int.mul_nonpos_of_nonneg_of_nonpos (by omega) (by omega)
    simp
    omega
/-- the first row of a page, by the cycle: t whole cycles off -/
theorem Cyc.start (c : Cyc ls sz j k) (o : Ok ls sz) {m t : Nat} (h1 : t * (k - j) ≤ m) (h2 : t = 0 ∨ j ≤ m - t * (k - j)) : st ls sz m = st ls sz (m - t * (k - j)) + t * rws ls sz j k := by
  rcases h2 with rfl | h2
  · simp
  · have := c.steps o h2 t
    rwa [Nat.sub_add_cancel h1] at this
/-! settings that pack alike -/
theorem lenAt_scale (ls : List Int) (t : Int) (r : Nat) : lenAt (ls.map fun l => l * t) r = lenAt ls r * t := by
  unfold lenAt
  rw [List.length_map, List.getD_eq_getElem?_getD, List.getD_eq_getElem?_getD, List.getElem?_map]
  cases ls[r % ls.length]? with
  | none => simp
  | some v => rfl
theorem pre_scale (ls : List Int) (t : Int) (r : Nat) : ∀ k, pre (ls.map fun l => l * t) r k = pre ls r k * t
  | 0 => by simp [pre]
  | k + 1 => by
    show pre (ls.map fun l => l * t) r k + lenAt (ls.map fun l => l * t) (r + k) = (pre ls r k + lenAt ls (r + k)) * t
    rw [pre_scale ls t r k, lenAt_scale, Int.add_mul]
theorem cnt_scale {ls2 : List Int} {sz2 t d : Int} (o : Ok ls sz) (o2 : Ok ls2 sz2) (hp : ∀ r k, pre ls2 r k = pre ls r k * t) (hs : sz2 = sz * t + d) (d0 : 0 ≤ d) (d1 : d < t) (r : Nat) : cnt ls2 sz2 r = cnt ls sz r := by
  have f := cnt_fill o r
  have h1 : pre ls r (cnt ls sz r) * t ≤ sz * t := Int.mul_le_mul_of_nonneg_right f.1 (by omega)
  have h2 : (sz + 1) * t ≤ pre ls r (cnt ls sz r + 1) * t := Int.mul_le_mul_of_nonneg_right (by have := f.2; omega) (by omega)
  rw [Int.add_mul, Int.one_mul] at h2
  refine cnt_is o2 ⟨?_, ?_⟩
  · rw [hp]
    omega
  · rw [hp]
    omega
theorem st_like {ls2 : List Int} {sz2 : Int} (h : ∀ r, cnt ls2 sz2 r = cnt ls sz r) : ∀ m, st ls2 sz2 m = st ls sz m
  | 0 => rfl
  | m + 1 => by rw [st_succ, st_succ, st_like h m, h]
theorem lenAt_twice (ls : List Int) (r : Nat) : lenAt (ls ++ ls) r = lenAt ls r := by
  unfold lenAt
  rcases Nat.eq_zero_or_pos ls.length with z | z
  · have e : ls = [] := List.eq_nil_of_length_eq_zero z
    subst e
    rfl
  · have hm : r % (ls.length + ls.length) % ls.length = r % ls.length := Nat.mod_mod_of_dvd r ⟨2, by omega⟩
    have hlt : r % (ls.length + ls.length) < ls.length + ls.length := Nat.mod_lt _ (by omega)
    rw [List.length_append, List.getD_eq_getElem?_getD, List.getD_eq_getElem?_getD, ← hm]
    generalize r % (ls.length + ls.length) = i at hlt
    rcases Nat.lt_or_ge i ls.length with y | y
    · rw [List.getElem?_append_left y, Nat.mod_eq_of_lt y]
    · have e : i % ls.length = i - ls.length := by
        rw [Nat.mod_eq_sub_mod y, Nat.mod_eq_of_lt (by omega)]
      rw [List.getElem?_append_right y, e]
theorem pre_twice (ls : List Int) (r : Nat) : ∀ k, pre (ls ++ ls) r k = pre ls r k
  | 0 => rfl
  | k + 1 => by
    show pre (ls ++ ls) r k + lenAt (ls ++ ls) (r + k) = pre ls r k + lenAt ls (r + k)
    rw [pre_twice ls r k, lenAt_twice]
theorem cnt_same {ls2 : List Int} (o : Ok ls sz) (o2 : Ok ls2 sz) (hp : ∀ r k, pre ls2 r k = pre ls r k) (r : Nat) : cnt ls2 sz r = cnt ls sz r := by
  have f := cnt_fill o r
  refine cnt_is o2 ⟨?_, ?_⟩
  · rw [hp]
    exact f.1
  · rw [hp]
    exact f.2
theorem Cyc.uniq {ls2 : List Int} {sz2 : Int} {j2 k2 : Nat} (c : Cyc ls sz j k) (c2 : Cyc ls2 sz2 j2 k2) (hl : ls2.length = ls.length) (hs : ∀ m, st ls2 sz2 m = st ls sz m) : j2 = j ∧ k2 = k := by
  have e1 := c.eq
  have e2 := c2.eq
  have d2 := c2.dis
  rw [hl, hs, hs] at e2
  simp only [hl, hs] at d2
  have l1 := c.lt
  have l2 := c2.lt
  have hk : k2 = k := by
    rcases Nat.lt_trichotomy k2 k with z | z | z
    · exact absurd e2 (c.dis j2 k2 l2 z)
    · exact z
    · exact absurd e1 (d2 j k l1 z)
  subst hk
  refine ⟨?_, rfl⟩
  rcases Nat.lt_trichotomy j2 j with z | z | z
  · exact absurd (e2.trans e1.symm) (c.dis j2 j z l1)
  · exact z
  · exact absurd (e1.trans e2.symm) (c.dis j j2 z l2)
theorem Cyc.twice {ls2 : List Int} {sz2 : Int} {j2 k2 : Nat} (o : Ok ls sz) (o2 : Ok ls2 sz2) (c : Cyc ls sz j k) (c2 : Cyc ls2 sz2 j2 k2) (hl : ls2.length = ls.length + ls.length) (hs : ∀ m, st ls2 sz2 m = st ls sz m) :
    j2 = j ∧ ∃ u, k2 - j2 = u * (k - j) ∧ rws ls2 sz2 j2 k2 = u * rws ls sz j k := by
  have l1 := c.lt
  have l2 := c2.lt
  have down : ∀ {a b : Nat}, a % (ls.length + ls.length) = b % (ls.length + ls.length) → a % ls.length = b % ls.length := fun {a b} h => by
    have h1 : a % (ls.length + ls.length) % ls.length = a % ls.length := Nat.mod_mod_of_dvd a ⟨2, by omega⟩
    have h2 : b % (ls.length + ls.length) % ls.length = b % ls.length := Nat.mod_mod_of_dvd b ⟨2, by omega⟩
    rw [← h1, ← h2, h]
  have e2 := c2.eq
  rw [hl, hs, hs] at e2
  have q2 := down e2
  have d2 := c2.dis
  simp only [hl, hs] at d2
  have mono := st_mono o l1
  -- the rows of a cycle are a multiple of the lengths
  have hR : ls.length ∣ rws ls sz j k := by
    have e := c.eq
    have er : st ls sz k = st ls sz j + rws ls sz j k := by unfold rws; omega
    rw [er] at e
    have a1 := Nat.div_add_mod (st ls sz j) ls.length
    have a2 := Nat.div_add_mod (st ls sz j + rws ls sz j k) ls.length
    rw [← e] at a2
    refine ⟨(st ls sz j + rws ls sz j k) / ls.length - st ls sz j / ls.length, ?_⟩
    rw [Nat.mul_sub]
    omega
  have hj1 : j ≤ j2 := by
    rcases Nat.lt_or_ge j2 j with z | z
    · exfalso
      rcases Nat.lt_or_ge k2 k with y | y
      · exact c.dis j2 k2 l2 y q2
      · obtain ⟨i, h1, h2, h3⟩ := c.near o k2 (by omega)
        exact c.dis j2 i (by omega) h2 (q2.trans h3)
    · exact z
  have hj2 : j2 ≤ j := by
    rcases Nat.lt_or_ge j j2 with z | z
    · exfalso
      have hm : j2 ≤ j + (2 * j2) * (k - j) := by
        have : 2 * j2 * 1 ≤ 2 * j2 * (k - j) := Nat.mul_le_mul_left _ (by omega)
        omega
      obtain ⟨i, h1, h2, h3⟩ := c2.near o2 (j + (2 * j2) * (k - j)) hm
      rw [hl, hs, hs, c.steps o (Nat.le_refl j)] at h3
      obtain ⟨g, hg⟩ := hR
      have e4 : 2 * j2 * rws ls sz j k = (ls.length + ls.length) * (j2 * g) := by
        rw [hg]
        have a1 : (ls.length + ls.length) = 2 * ls.length := by omega
        rw [a1, Nat.mul_assoc, Nat.mul_assoc, Nat.mul_left_comm j2 ls.length g]
      rw [e4, Nat.add_mul_mod_self_left] at h3
      exact d2 j i (by omega) h2 h3
    · exact z
  have ej : j2 = j := by omega
  subst ej
  refine ⟨rfl, (k2 - j2) / (k - j2), ?_⟩
  have hdm := Nat.div_add_mod (k2 - j2) (k - j2)
  have hv : (k2 - j2) % (k - j2) < k - j2 := Nat.mod_lt _ (by omega)
  generalize (k2 - j2) / (k - j2) = u at *
  generalize (k2 - j2) % (k - j2) = v at *
  have v0 : v = 0 := by
    rcases Nat.eq_zero_or_pos v with z | z
    · exact z
    · exfalso
      have ek : k2 = (j2 + v) + u * (k - j2) := by
        rw [Nat.mul_comm u]
        omega
      rw [ek, c.place o (by omega) u] at q2
      exact c.dis j2 (j2 + v) (by omega) (by omega) q2
  subst v0
  have ed : k2 - j2 = u * (k - j2) := by
    rw [Nat.mul_comm u]
    omega
  refine ⟨ed, ?_⟩
  have ek : k2 = j2 + u * (k - j2) := by omega
  have es := c.steps o (Nat.le_refl j2) u
  rw [← ek] at es
  unfold rws at es ⊢
  rw [hs, hs, es]
  omega
end
end Pk

namespace Kr
open L2 PySem PySem.Spec PyProof.Rows
/-! ### x *= y -/
def ipM : TIp := fun x y H Q => ∃ i j : Int, x = .int i ∧ y = .int j ∧ CMulW i j ∧ Q (.int (i * j)) H
theorem ip_mul {X : Cx} : PIp X .Mult ipM := by
  intro pins s0 st0 H x y v u Q I r1 r2 h
  obtain ⟨i, j, rfl, rfl, hm, q⟩ := h
  obtain ⟨t, rfl⟩ := r1
  obtain ⟨t', rfl⟩ := r2
  exact imul_int ⟨.int _, H, I.tok _, ⟨_, rfl⟩, q⟩ hm.ok
theorem r_ipM {i j : Int} {H : Hp} {Q : VK} (h : CMulW i j) (q : Q (.int (i * j)) H) : ipM (.int i) (.int j) H Q := ⟨i, j, rfl, rfl, h, q⟩
/-! ### a, b = xs for a list -/
theorem r_gLst {K : PySem.W.Frag} {n : Nat} {gs : TGs} {a : Addr} {xs : List V} {st0 : L2.St} {H : Hp} {QG : L2.St → Hp → Prop} (h : SqL K H a xs) (e : xs.length = n) (q : gs xs st0 H QG) : gLst K n gs (.ref a) st0 H QG := ⟨a, xs, rfl, h, e, q⟩
theorem pg_tupK {X : Cx} {K : PySem.W.Frag} {pos : Pos} {es : List Expr} {k : Nat} {t : TGs} {n : Nat} (hK : X.K = K) (hc : X.calm = true) (h : PGs X es t)
    (hn : (assignEach es X.env).length = n := by rfl) (hst : (assignEach es X.env).findIdx? (·.1) = none := by rfl) : PG X (.Tuple es k pos) (gTup K n t) := hK ▸ pg_tup hc h hn hst
/-! ### dicts with texts as keys -/
section
variable {H : Hp} {Q : VK} {v : V} {st0 : L2.St}
theorem r_dgS {a : Addr} {kvs : List (Key × V)} {k : Str} (h : H a = some (.dK kvs)) (e : valV kvs (Sum.inr k) = some v) (q : Q v H) : rDg (.ref a) (.str k) H Q := ⟨a, v, rfl, by rw [← e]; exact DGet.k (k := Sum.inr k) h, q⟩
theorem r_dpS {a : Addr} {kvs : List (Key × V)} {k : Str} {Qn : Hp → Prop} (h : H a = some (.dK kvs)) (hl : kvs.length < 100000) (q : Qn (upd H a (.dK (putK kvs (Sum.inr k) v)))) : rDp (.ref a) (.str k) v H Qn := ⟨a, _, rfl, DPut.k (k := Sum.inr k) h (szl hl), q⟩
def rDispE (p : Addr) (ps : List (V × V)) (H2 : Hp) (Q : VK) : Prop := H2 p = some (.dK []) ∧ ∃ kvs : List (Key × V), ps = kvs.map (fun kv => (kV kv.1, kv.2)) ∧ kvs.length ≤ 15 ∧ Q (.ref p) (upd H2 p (.dK (mergeK [] kvs)))
theorem r_disp {trs : List (TE × TE)} (q : ∀ p, H p = none → tPairs trs st0 (upd H p (.dK [])) fun ps H2 => rDispE p ps H2 Q) : tDisp trs st0 H Q := q
theorem r_pairs {tk tv : TE} {r : List (TE × TE)} {QP : List (V × V) → Hp → Prop} (q : tk st0 H fun x H1 => tv st0 H1 fun y H2 => tPairs r st0 H2 fun ps H3 => QP ((x, y) :: ps) H3) : tPairs ((tk, tv) :: r) st0 H QP := q
theorem r_pairs0 {QP : List (V × V) → Hp → Prop} (q : QP [] H) : tPairs [] st0 H QP := q
theorem r_dispE {p : Addr} {ps : List (V × V)} (kvs : List (Key × V)) (h : H p = some (.dK [])) (e : ps = kvs.map (fun kv => (kV kv.1, kv.2))) (hl : kvs.length ≤ 15) (q : Q (.ref p) (upd H p (.dK (mergeK [] kvs)))) : rDispE p ps H Q := ⟨h, kvs, e, hl, q⟩
end
/-! ### list(range(a, b)), whatever its ends -/
section
variable {prog : Program} {w : World} {A : Around} {E : Value → Shared → Prop} {s : Shared}
/-- what a walk over an iterator at the heap's end makes of an empty list at S -/
theorem long_loop {R : Result → Shared → Prop} {n : Nat} {lo : Int} (hh : A.handled = none) (hz : n ≤ sizeLine) (it S : Addr) (ne : S ≠ it) (out : Value) (c0 : Nat) (s1 : Shared)
    (hit : IsLongIter s1.heap it (lo + ((0 : Nat) : Int) * 1) ((n : Int) - ((0 : Nat) : Int)) 1) (hS : s1.heap.get? S = some { cls := .type "list", data := .seq #[] c0 })
    (hR : ∀ h2 tk2 items c2, (∀ b o, b ≠ S → b ≠ it → s1.heap.get? b = some o → h2.get? b = some o) → h2.get? S = some { cls := .type "list", dict := none, data := .seq items c2, slots := #[] } →
      ItemsOf (fun i v => ∃ t, v = .int (lo + i * 1) t) items n → R (.ok (.ret out)) { s1 with heap := h2, toks := tk2 }) :
    codeAny (model prog w) A (.builtin "list.extend.loop" ⟨[.ref S, .ref it, out], []⟩) R s1 := by
  have ws := (Walks.longrange (prog := prog) (w := w) (A := A.in1) hh it lo 1 n).toS
  refine codeAny_extend_loopS ws hz S (fun m => ne (List.mem_singleton.mp m)) out n 0 s1 #[] c0 rfl (Nat.zero_le n) hit hS (ItemsOf.nil _) ?_
  intro s2 items c2 mv hS2 got
  rw [Moved.eq_with mv]
  refine hR s2.heap s2.toks items c2 (fun b o n1 n2 e => mv.heap b o (fun m => ?_) e) hS2 got
  rcases List.mem_cons.mp m with z | z
  · exact n1 z
  · exact n2 (List.mem_singleton.mp z)
theorem long_extend {R : Result → Shared → Prop} {r : Addr} {a b : Int} {t u v : Tok} {n : Nat} (hh : A.handled = none) (hr : IsRange s.heap r a b 1 t u v) (big : Builtin.Range.small a b 1 = false)
    (hn : Builtin.Range.rangeSize a b 1 = n) (hz : n ≤ 2 ^ 24) (S : Addr) (out : Value) (c0 : Nat) (hS : s.heap.get? S = some { cls := .type "list", data := .seq #[] c0 })
    (hR : ∀ h2 tk2 items c2, (∀ b o, b ≠ S → s.heap.get? b = some o → h2.get? b = some o) → h2.get? S = some { cls := .type "list", dict := none, data := .seq items c2, slots := #[] } →
      ItemsOf (fun i v => ∃ t, v = .int (a + i * 1) t) items n → R (.ok (.ret out)) { s with heap := h2, toks := tk2 }) :
    wpAny (model prog w) A.in1 (Builtin.List.listExtendWith (.ref S) (.ref r) out)
      (fun z s2 => match z with | .done f => R (.ok f) s2 | .again c2 => c2.quiet = true ∧ codeAny (model prog w) A c2 R s2) (fun x s2 => R (.error x) s2) s := by
  have nr : S ≠ r := fun z => by
    rw [z, hr] at hS
    simp at hS
  have lt : S < s.heap.objs.size := Heap.lt_size hS
  have nI : S ≠ s.heap.objs.size := Nat.ne_of_lt lt
  have loop : ∀ (h1 : Heap) (c1 tk1 : Nat), IsLongIter h1 s.heap.objs.size (a + ((0 : Nat) : Int) * 1) ((n : Int) - ((0 : Nat) : Int)) 1 → (∀ b o, b ≠ S → s.heap.get? b = some o → h1.get? b = some o) → h1.get? S = some { cls := .type "list", data := .seq #[] c1 } →
      codeAny (model prog w) A (.builtin "list.extend.loop" ⟨[.ref S, .ref s.heap.objs.size, out], []⟩) R { s with heap := h1, toks := tk1 } := fun h1 c1 tk1 x1 x2 x3 =>
    long_loop hh (by rw [sizeLine_eq]; omega) _ S nI out c1 _ x1 x3 fun h2 tk2 items c2 y1 y2 y3 => hR h2 tk2 items c2 (fun b o nb e => y1 b o nb (Nat.ne_of_lt (Heap.lt_size e)) (x2 b o nb e)) y2 y3
  unfold Builtin.List.listExtendWith
  refine wpAny_bind (wpAny_typeOf (T := "range") ⟨_, hr, rfl⟩ ?_)
  have k1 : Builtin.List.listSameRef (.ref S) (.ref r) = false := by simp [Builtin.List.listSameRef, nr]
  have k2 : (Value.type "range" == Value.type "tuple") = false := by decide
  have k3 : (Value.type "range" == Value.type "list") = false := by decide
  simp only [k1, k3, k2, Bool.or_false, Bool.false_eq_true, if_false]
  refine wpAny_bind (wpAny_pyIter_longrange hr big ?_)
  refine wpAny_bind (wpAny_holding (wpAny_hint_range (n := n) (Heap.get?_push_of_some _ hr) hn hz ?_))
  have i1 : IsLongIter (s.heap.push { cls := .type "longrange_iterator", data := .fields #[rawInt a, rawInt (Builtin.Range.rangeSize a b 1), rawInt 1] }) s.heap.objs.size (a + ((0 : Nat) : Int) * 1) ((n : Int) - ((0 : Nat) : Int)) 1 := by
    show IsLongIter _ _ _ _ _
    rw [hn]
    simpa using Heap.get?_push_size _ rfl
  have g1 := Heap.get?_push_of_some { cls := .type "longrange_iterator", data := .fields #[rawInt a, rawInt (Builtin.Range.rangeSize a b 1), rawInt 1] } hS
  refine wpAny_ite_split (fun _ => ?_) fun _ => wpAny_pure ⟨plainId_quiet F.plain_extend_loop _, loop _ c0 _ i1 (fun b o _ e => Heap.get?_push_of_some _ e) g1⟩
  refine wpAny_bind (wpAny_rule (wpAny_bind ?_))
  show wpAny _ _ (updateSeq S (·.push .none) >>= fun _ => updateSeq S (·.pop)) _ _ _
  refine wpAny_bind (wpAny_updateSeq g1 rfl ?_)
  have g2 := Heap.get?_update_self (Obj.mapSeq (·.push Value.none)) g1 rfl
  refine wpAny_updateSeq (hz := by seq_fits) g2 rfl ?_
  have g3 := Heap.get?_update_self (Obj.mapSeq (·.pop)) g2 rfl
  refine wpAny_pure ⟨plainId_quiet F.plain_extend_loop _, loop _ _ _ ?_ (fun b o nb e => ?_) g3⟩
  · exact (Heap.get?_update_other _ _ nI).trans ((Heap.get?_update_other _ _ nI).trans i1)
  · exact (Heap.get?_update_other _ _ (Ne.symm nb)).trans ((Heap.get?_update_other _ _ (Ne.symm nb)).trans (Heap.get?_push_of_some _ e))
theorem long_init {R : Result → Shared → Prop} {r : Addr} {a b : Int} {t u v : Tok} {n : Nat} (hh : A.handled = none) (hr : IsRange s.heap r a b 1 t u v) (big : Builtin.Range.small a b 1 = false)
    (hn : Builtin.Range.rangeSize a b 1 = n) (hz : n ≤ 2 ^ 24) (S : Addr) (hS : s.heap.get? S = some { cls := .type "list", data := .seq #[] })
    (hR : ∀ h2 tk2 items c2, (∀ b o, b ≠ S → s.heap.get? b = some o → h2.get? b = some o) → h2.get? S = some { cls := .type "list", dict := none, data := .seq items c2, slots := #[] } →
      ItemsOf (fun i v => ∃ t, v = .int (a + i * 1) t) items n → R (.ok (.ret .none)) { s with heap := h2, toks := tk2 }) :
    wpAny (model prog w) A.in1 (Builtin.«list.__init__» ⟨[.ref S, .ref r], []⟩)
      (fun z s2 => match z with | .done f => R (.ok f) s2 | .again c2 => c2.quiet = true ∧ codeAny (model prog w) A c2 R s2) (fun x s2 => R (.error x) s2) s := by
  have nr : S ≠ r := fun z => by
    rw [z, hr] at hS
    simp at hS
  show wpAny _ _ (do
    let old ← Builtin.List.listItems (.ref S)
    Builtin.List.listUpdate (.ref S) (fun _ => #[])
    letGo old.toList.reverse
    Builtin.List.listExtendWith (.ref S) (.ref r) .none) _ _ s
  refine wpAny_bind ?_
  unfold Builtin.List.listItems
  refine wpAny_bind (wpAny_seqItems hS rfl (wpAny_pure ?_))
  show wpAny _ _ (updateSeq S (fun _ => #[]) >>= fun _ => letGo (#[] : Array Value).toList.reverse >>= fun _ =>
    Builtin.List.listExtendWith (.ref S) (.ref r) .none) _ _ s
  refine wpAny_bind (wpAny_updateSeq hS rfl ?_)
  have g2 := Heap.get?_update_self (Obj.mapSeq (fun _ => (#[] : Array Value))) hS rfl
  have els : ∀ b o, b ≠ S → s.heap.get? b = some o → (s.heap.update S (Obj.mapSeq (fun _ => (#[] : Array Value)))).get? b = some o :=
    fun b o nb e => (Heap.get?_update_other _ _ (Ne.symm nb)).trans e
  refine wpAny_bind (wpAny_letGo ?_)
  exact long_extend hh (els r _ (Ne.symm nr) hr) big hn hz S .none _ g2 fun h2 tk2 items c2 x1 x2 x3 => hR h2 tk2 items c2 (fun b o nb e => x1 b o nb (els b o nb e)) x2 x3
theorem long_list {Q : Value → Shared → Prop} {r : Addr} {a b : Int} {t u v : Tok} {n : Nat} (hh : A.handled = none) (hr : IsRange s.heap r a b 1 t u v) (big : Builtin.Range.small a b 1 = false)
    (hn : Builtin.Range.rangeSize a b 1 = n) (hz : n ≤ 2 ^ 24)
    (hQ : ∀ h2 tk2 items c2, (∀ b o, s.heap.get? b = some o → h2.get? b = some o) → h2.get? s.heap.objs.size = some { cls := .type "list", dict := none, data := .seq items c2, slots := #[] } →
      ItemsOf (fun i v => ∃ t, v = .int (a + i * 1) t) items n → Q (.ref s.heap.objs.size) { s with heap := h2, toks := tk2 }) :
    wpAny (model prog w) A (call (.type "list") [.ref r]) Q E s := by
  refine callType_codes (Q₁ := fun x s1 => x = .ref s.heap.objs.size ∧ s1 = { s with heap := s.heap.push { cls := .type "list", data := .seq #[] } }) F.called_list (F.typeCall_list_1 _) F.entry_list_init (code_list_new _ ⟨rfl, rfl⟩) ?_
  rintro _ _ ⟨rfl, rfl⟩
  have g : (s.heap.push { cls := .type "list", data := .seq #[] }).get? s.heap.objs.size = some { cls := .type "list", data := .seq #[] } := Heap.get?_push_size _ rfl
  refine ⟨⟨_, g, rfl⟩, F.args_list_init_2 _ _, ?_⟩
  refine long_init (A := A.in1) hh (Heap.get?_push_of_some _ hr) big hn hz _ g fun h2 tk2 items c2 x1 x2 x3 => ⟨rfl, ?_⟩
  exact hQ h2 tk2 items c2 (fun b o e => x1 b o (Nat.ne_of_lt (Heap.lt_size e)) (Heap.get?_push_of_some _ e)) x2 x3
end
section
variable {X : Cx} {e : Expr} {te : L2.St → Hp → (Int → Int → Hp → Prop) → Prop}
def rRgW2 (a b : Int) (H : Hp) (Q : VK) : Prop := (b - a).toNat ≤ 2 ^ 24 ∧ ∀ q, H q = none → Q (.ref q) (upd H q (.lst (rgV a b)))
def tLstRgW (te : L2.St → Hp → (Int → Int → Hp → Prop) → Prop) : TE := fun st0 H Q => te st0 H fun a b H1 => rRgW2 a b H1 Q
theorem pe_listRgW {p pos : Pos} (hc : X.calm = true) (hg : Gl X "list") (hm : X.mg "list" = none) (he : PRg X e te) (na : starEach [e] X.env = (false, eval e X.env) :: starEach [] X.env := by rfl) : PE X (.Call (.Name "list" p) [e] [] pos) (tLstRgW te) := by
  refine ⟨fun pins s0 st0 H Q I h => ?_⟩
  refine Call_ (ld_blt I hg hm boot_list (PyProof.Rows.callWith_type1 (args_cons (thn (he pins s0 st0 H _ I h) fun x s1 ⟨r, a, b, t, u, v, H1, ex, hr, I1, hz, q⟩ => args_nil ?_) na) na))
  subst ex
  have fin : ∀ h2 tk2 items c2, (∀ b o, s1.heap.get? b = some o → h2.get? b = some o) → h2.get? s1.heap.objs.size = some { cls := .type "list", dict := none, data := .seq items c2, slots := #[] } →
      ItemsOf (fun i v => ∃ t, v = .int (a + i * 1) t) items (b - a).toNat → EP X pins st0 Q (.ref s1.heap.objs.size) { s1 with heap := h2, toks := tk2 } := fun h2 tk2 items c2 keep at2 got => by
    refine ⟨.ref s1.heap.objs.size, upd H1 s1.heap.objs.size (.lst (rgV a b)), I1.laid keep (Nat.le_refl _) (show ObjOk X.prog X.w _ _ _ (.lst (rgV a b)) from ⟨?_, items.toList, c2, vals_rg got, ?_⟩), rfl, q _ (I1.hok.fresh (Nat.le_refl _))⟩
    · rw [rgV_length, sizeLine_eq]
      omega
    · rw [Array.toArray_toList]
      exact at2
  cases hsm : Builtin.Range.small a b 1 with
  | true => exact call_list_range (n := (b - a).toNat) (I1.ok.hd hc) hr hsm (rangeSize_nat a b) hz fin
  | false => exact long_list (n := (b - a).toNat) (I1.ok.hd hc) hr hsm (rangeSize_nat a b) hz fin
end
section
variable {st0 : L2.St} {H : Hp} {Q : VK}
theorem r_lstRgW {te : L2.St → Hp → (Int → Int → Hp → Prop) → Prop} (q : te st0 H fun a b H1 => rRgW2 a b H1 Q) : tLstRgW te st0 H Q := q
def rRg2P (x y : V) (R : Int → Int → Prop) : Prop := ∃ i j, x = .int i ∧ y = .int j ∧ R i j
theorem r_tRg2 {ta tb : TE} {R : Int → Int → Hp → Prop} (q : ta st0 H fun x H1 => tb st0 H1 fun y H2 => rRg2P x y fun i j => R i j H2) : tRg2 ta tb st0 H R := q
theorem r_rg2P {i j : Int} {R : Int → Int → Prop} (q : R i j) : rRg2P (.int i) (.int j) R := ⟨i, j, rfl, rfl, q⟩
theorem r_rgW2 {a b : Int} (h : (b - a).toNat ≤ 2 ^ 24) (q : rNew (.lst (rgV a b)) H Q) : rRgW2 a b H Q := ⟨h, q⟩
end
/-! ### == of a row of ints, or None -/
section
variable {K : PySem.W.Frag} {H : Hp} {Q : VK} {a b : Addr} {is js : List Int}
theorem r_eqNN (q : Q (.bl true) H) : rEqD K .non .non H Q := ⟨_, _, .non, .non, rfl, rfl, q⟩
theorem r_neNN (q : Q (.bl false) H) : rNeD K .non .non H Q := ⟨_, _, .non, .non, rfl, rfl, q⟩
end
theorem rgV_get {a b : Int} {i : Nat} (h : i < (b - a).toNat) : (rgV a b)[i]? = some (.int (a + (i : Nat))) := by
  unfold rgV
  rw [List.getElem?_map, List.getElem?_range h]
  rfl
end Kr

/-! Texts: rules with named readings, told at K. -/
namespace KrT
open Kr L2 PySem PySem.Spec PyProof.Rows
section
variable {X : Cx} {K : PySem.W.Frag} {o e : Expr} {to te : TE} {apos pos : Pos}
/-- str(an int) -/
def rStr : List V → Hp → VK → Prop := fun xs H Q => ∃ i : Int, xs = [.int i] ∧ i.natAbs.log2 < 1920 ∧ Q (.str (toString i)) H
theorem c_str : CallR X (.type "str") rStr := call_str_int
theorem r_str {i : Int} {H : Hp} {Q : VK} (h : i.natAbs.log2 < 1920) (q : Q (.str (toString i)) H) : rStr [.int i] H Q := ⟨i, rfl, h, q⟩
def rJoin (K : PySem.W.Frag) : V → List V → Hp → VK → Prop := fun x xs H Q => ∃ a p, ∃ ys : List Str, x = .str a ∧ xs = [.ref p] ∧ (SqL K H p (ys.map V.str) ∨ SqT K H p (ys.map V.str)) ∧ (ys.map (·.length)).sum + ys.length * a.length ≤ 16777216 ∧ Q (.str (Txt.join a ys)) H
theorem pe_joinK (h : X.K = K) (ho : PE X o to) (he : PE X e te) (hs : starEach [e] X.env = [(false, eval e X.env)] := by rfl) (hbase : attributeBase o "join" X.env (eval o X.env) = eval o X.env := by rfl) (hline : (apos.endLine == pos.line) = true := by rfl) :
    PE X (.Call (.Attribute o "join" apos) [e] [] pos) (tM1 (rJoin K) to te) := by
  subst h
  exact pe_join ho he hs hbase hline
theorem r_join {a : Str} {p : Addr} {ys : List Str} {H : Hp} {Q : VK} (h : H p = some (.lst (ys.map V.str))) (hz : (ys.map (·.length)).sum + ys.length * a.length ≤ 16777216) (q : Q (.str (Txt.join a ys)) H) : rJoin K (.str a) [.ref p] H Q := ⟨a, p, ys, rfl, rfl, .inl (SqL.of h), hz, q⟩
def rSplit : V → List V → Hp → VK → Prop := fun x xs H Q => ∃ a b, x = .str a ∧ xs = [.str b] ∧ (b.length == 0) = false ∧ a.length + 2 ≤ sizeLine ∧ rNewStrs (Txt.split a b) H Q
theorem pe_splitT (ho : PE X o to) (he : PE X e te) (hs : starEach [e] X.env = [(false, eval e X.env)] := by rfl) (hbase : attributeBase o "split" X.env (eval o X.env) = eval o X.env := by rfl) (hline : (apos.endLine == pos.line) = true := by rfl) :
    PE X (.Call (.Attribute o "split" apos) [e] [] pos) (tM1 rSplit to te) := pe_split ho he hs hbase hline
theorem r_split {a b : Str} {H : Hp} {Q : VK} (hb : (b.length == 0) = false) (hz : a.length + 2 ≤ sizeLine) (q : ∀ (p : Addr) (H' : Hp), H p = none → Same H H' → H' p = some (.lst ((Txt.split a b).map V.str)) → Q (.ref p) H') : rSplit (.str a) [.str b] H Q := ⟨a, b, rfl, rfl, hb, hz, fun p hp => q p _ hp (same_new hp) upd_same⟩
def rStarts : V → List V → Hp → VK → Prop := fun x xs H Q => ∃ a b, x = .str a ∧ xs = [.str b] ∧ Q (.bl (Txt.startswith a b)) H
theorem pe_starts (ho : PE X o to) (he : PE X e te) (hs : starEach [e] X.env = [(false, eval e X.env)] := by rfl) (hbase : attributeBase o "startswith" X.env (eval o X.env) = eval o X.env := by rfl) (hline : (apos.endLine == pos.line) = true := by rfl) :
    PE X (.Call (.Attribute o "startswith" apos) [e] [] pos) (tM1 rStarts to te) := pe_m1 F.slot_str_startswith F.type_str_startswith mt_startswith ho he hs hbase hline
theorem r_starts {a b : Str} {H : Hp} {Q : VK} (q : Q (.bl (Txt.startswith a b)) H) : rStarts (.str a) [.str b] H Q := ⟨a, b, rfl, rfl, q⟩
theorem r_m1 {r : V → List V → Hp → VK → Prop} {σ : L2.St} {H : Hp} {Q : VK} (q : to σ H fun x H1 => (∃ a, x = .str a) ∧ te σ H1 fun y H2 => r x [y] H2 Q) : tM1 r to te σ H Q := q
theorem r_dget1 {td ty : TE} {σ : L2.St} {H : Hp} {Q : VK} (q : td σ H fun x H1 => ∃ a, x = .ref a ∧ IsD H1 a ∧ ty σ H1 fun y H2 => ∃ o, DGet H2 a y o ∧ Q (o.getD .non) H2) : tDGet1 td ty σ H Q := q
end
section
variable {X : Cx}
/-- name = {k: v for ..} on one line, the name a local -/
theorem ps_setDc {i : Nat} {y : Str} {py : Pos} {kx vx tg iter : Expr} {ifs : List Expr} {scope : Scope} {own : List (Str × Nat)} {pos spos : Pos} {wi : TI} {g : TG} {tt : TT} {tk tv : TE} (hc : X.calm = true) (hN : X.N.Nodup) (hy : X.N[i]? = some y) (hyl : X.env.scope.names.lookup y = some .local)
    (hsw : swapsWith (.DictComp kx vx [⟨tg, iter, ifs, 0⟩] scope pos) (some (.Name y py)) spos.line X.env = pure true) (hi : PI X tg iter wi) (ok : BlkOk X.N X.env.scope scope own)
    (hg : ∀ (s : Shared) (H : Hp) (C : Addr) (cl : List (Str × Addr)) (fp : List Addr), PG (X.blk s H scope (compEnvC scope cl C X.env) fp) tg g) (ht : ∀ (s : Shared) (H : Hp) (C : Addr) (cl : List (Str × Addr)) (fp : List Addr), PTs (X.blk s H scope (compEnvC scope cl C X.env) fp) ifs tt)
    (hk : ∀ (s : Shared) (H : Hp) (C : Addr) (cl : List (Str × Addr)) (fp : List Addr), PE (X.blk s H scope (compEnvC scope cl C X.env) fp) kx tk)
    (he : ∀ (s : Shared) (H : Hp) (C : Addr) (cl : List (Str × Addr)) (fp : List Addr), PE (X.blk s H scope (compEnvC scope cl C X.env) fp) vx tv) (hs : ∀ x, foldedSetIterable iter X.env x = pure x := by intro _; rfl) :
    PS X (.Assign [.Name y py] (.DictComp kx vx [⟨tg, iter, ifs, 0⟩] scope pos) spos) (tAsg (tDc wi g tt tk tv (own.map (·.2))) (gName i)) := by
  refine ⟨fun pins s σ H D I h => ?_⟩
  rw [exec_Assign_Name_used _ _ _ _ hsw]
  refine wpAny_bind (wpAny_standAt (wpAny_bind ?_))
  show wpAny _ X.A (do let _ ← comprehension (.DictComp kx vx [⟨tg, iter, ifs, 0⟩] scope pos) scope X.env (firstIterPos [⟨tg, iter, ifs, 0⟩] pos) newDict false (eval iter X.env) (some (assign (.Name y py) X.env))) _ _ s
  have h : tDc wi g tt tk tv (own.map (·.2)) σ H (fun x H1 => gName i x σ H1 D.nx) := h
  refine wpAny_bind (thn (dc_core (Qf := fun _ s' => SP X pins D .next s') hc hN I hi ok hg ht hk he hs h fun L C s' m H' I' q hn f => ?_) fun _ s' hq => wpAny_pure (wpAny_pure hq))
  show wpAny _ _ (assign (.Name y py) X.env (.ref L)) _ _ _
  refine wpAny_assign_Name (store_ok2 (v := V.ref L) I' hN hy (.inl hyl) rfl (fun s2 I2 ⟨a, sb, ha⟩ => ?_) (.inr hyl))
  obtain ⟨f0, f1, f2, f3, f4, f5⟩ := f
  have haC : C ≠ a := by
    rcases ha with z | z
    · rw [z]; exact f1
    · exact fun e => f4 y a z e.symm
  refine ⟨m, hn.sameBut sb haC, fun h3 sb3 => ?_⟩
  exact ⟨_, H', I2.turned (t' := s2.toks) (fun b o hb e => (sb3.2 b hb).trans e) f0 f1 f3 f4 f5, q⟩
theorem sw_trueD {kx vx : Expr} {gs : List Comprehension} {scope : Scope} {pos py : Pos} {y : Str} {l : Nat} {env : Env} (hk : env.scope.kind = .function) (hy : env.scope.names.lookup y = some .local) (hl : (py.line == pos.line) = true)
    (ha : (scope.names.any fun (n, k) => n == y && (k == .local || k == .cell)) = false) : swapsWith (.DictComp kx vx gs scope pos) (some (.Name y py)) l env = pure true := by
  have ky : env.kindOf y = some .local := hy
  have hb : env.blockKind = .function := by unfold Env.blockKind; rw [hk]; rfl
  unfold swapsWith
  simp only [hb, ky, ha, Expr.pos, hl]
  rfl
theorem r_dc {wi : TI} {g : TG} {tt : TT} {tk tv : TE} {vs : List Nat} {σ : L2.St} {H : Hp} {Q : VK} (q : wi σ H fun J H1 => ∀ D, H1 D = none → ∃ W : Nat → Nat → Hp → Prop, (∃ m, W 0 m (upd H1 D (.dK []))) ∧ ∀ i m H, W i m H →
  (J.stop i H ∧ Q (.ref D) H) ∨ (J.go i H ∧ ∃ Nx : Hp → Prop, (∀ H', Nx H' → ∃ m', m' < m ∧ W (i + 1) m' H') ∧ ∀ x H', J.yld i H x H' → g x (wipe σ vs) H' fun σ2 H2 => wipe σ2 vs = wipe σ vs ∧ tt σ2 H2 fun b H3 =>
    if b = true then tk σ2 H3 fun y H4 => tv σ2 H4 fun z H5 => ∃ kvs k, y = kV k ∧ H5 D = some (.dK kvs) ∧ kvs.length < sizeLine ∧ Nx (upd H5 D (.dK (putK kvs k z))) else Nx H3)) : tDc wi g tt tk tv vs σ H Q := q
/-- over a range, with the slots written out -/
theorem dc_rangeS {lo : Int} {n : Nat} {g : TG} {tt : TT} {tk tv : TE} {vs : List Nat} {σ : L2.St} {H1 : Hp} {D : Addr} {Qd : Hp → Prop} (σ' : L2.St) (hσ : wipe σ vs = σ') (Pv : Nat → Hp → Prop) (h0 : Pv 0 (upd H1 D (.dK [])))
    (hs : ∀ i H, i < n → Pv i H → g (.int (lo + i)) σ' H fun σ2 H2 => wipe σ2 vs = σ' ∧ tt σ2 H2 fun b H3 =>
      if b = true then tk σ2 H3 fun y H4 => tv σ2 H4 fun z H5 => ∃ kvs k, y = kV k ∧ H5 D = some (.dK kvs) ∧ kvs.length < sizeLine ∧ Pv (i + 1) (upd H5 D (.dK (putK kvs k z))) else Pv (i + 1) H3) (hd : ∀ H, Pv n H → Qd H) :
    ∃ W : Nat → Nat → Hp → Prop, (∃ m, W 0 m (upd H1 D (.dK []))) ∧ ∀ i m H, W i m H →
      ((Itr lo n).stop i H ∧ Qd H) ∨ ((Itr lo n).go i H ∧ ∃ Nx : Hp → Prop, (∀ H', Nx H' → ∃ m', m' < m ∧ W (i + 1) m' H') ∧ ∀ x H', (Itr lo n).yld i H x H' → g x (wipe σ vs) H' fun σ2 H2 => wipe σ2 vs = wipe σ vs ∧ tt σ2 H2 fun b H3 =>
        if b = true then tk σ2 H3 fun y H4 => tv σ2 H4 fun z H5 => ∃ kvs k, y = kV k ∧ H5 D = some (.dK kvs) ∧ kvs.length < sizeLine ∧ Nx (upd H5 D (.dK (putK kvs k z))) else Nx H3) := by
  subst hσ
  refine ⟨fun i m H => m = n - i ∧ i ≤ n ∧ Pv i H, ⟨n, by simp, Nat.zero_le _, h0⟩, ?_⟩
  rintro i m H ⟨rfl, hi, hp⟩
  rcases Nat.lt_or_ge i n with z | z
  · refine .inr ⟨z, fun H' => Pv (i + 1) H', fun H' hp' => ⟨n - (i + 1), by omega, rfl, by omega, hp'⟩, fun x H' hy => ?_⟩
    obtain ⟨rfl, rfl⟩ := hy
    exact hs i _ z hp
  · have e : i = n := by omega
    subst e
    exact .inl ⟨Nat.le_refl _, hd H hp⟩
end
section
variable {K : PySem.W.Frag}
/-- a comprehension over the pairs of two lists, with the slots written out -/
theorem lc_zipS {a b : Addr} {xs ys : List V} {g : TG} {tt : TT} {te : TE} {vs : List Nat} {σ : L2.St} {H1 : Hp} {D : Addr} {Qd : Hp → Prop} (σ' : L2.St) (hσ : wipe σ vs = σ') (n : Nat) (hx : xs.length = n) (hy : ys.length = n) (Pv : Nat → Hp → Prop) (h0 : Pv 0 (upd H1 D (.lst []))) (hl : ∀ i H, i ≤ n → Pv i H → SqL K H a xs ∧ SqL K H b ys)
    (hs : ∀ i x y T H H', xs[i]? = some x → ys[i]? = some y → Pv i H → H T = none → Same H H' → H' T = some (.tup [x, y]) → g (.ref T) σ' H' fun σ2 H2 => wipe σ2 vs = σ' ∧ tt σ2 H2 fun b H3 =>
      if b = true then te σ2 H3 fun y H4 => ∃ acc, H4 D = some (.lst acc) ∧ acc.length < sizeLine ∧ Pv (i + 1) (upd H4 D (.lst (acc ++ [y]))) else Pv (i + 1) H3) (hd : ∀ H, Pv n H → Qd H) :
    ∃ W : Nat → Nat → Hp → Prop, (∃ m, W 0 m (upd H1 D (.lst []))) ∧ ∀ i m H, W i m H →
      ((Itz K a b).stop i H ∧ Qd H) ∨ ((Itz K a b).go i H ∧ ∃ Nx : Hp → Prop, (∀ H', Nx H' → ∃ m', m' < m ∧ W (i + 1) m' H') ∧ ∀ x H', (Itz K a b).yld i H x H' → g x (wipe σ vs) H' fun σ2 H2 => wipe σ2 vs = wipe σ vs ∧ tt σ2 H2 fun b H3 =>
        if b = true then te σ2 H3 fun y H4 => ∃ acc, H4 D = some (.lst acc) ∧ acc.length < sizeLine ∧ Nx (upd H4 D (.lst (acc ++ [y]))) else Nx H3) := by
  subst hσ
  refine ⟨fun i m H => m = n - i ∧ i ≤ n ∧ Pv i H, ⟨n, by simp, Nat.zero_le _, h0⟩, ?_⟩
  rintro i m H ⟨rfl, hi, hp⟩
  obtain ⟨sa, sb⟩ := hl i H hi hp
  rcases Nat.lt_or_ge i n with z | z
  · have ex : xs[i]? = some (xs[i]'(by omega)) := List.getElem?_eq_getElem (by omega)
    have ey : ys[i]? = some (ys[i]'(by omega)) := List.getElem?_eq_getElem (by omega)
    refine .inr ⟨⟨xs, ys, _, _, sa, sb, ex, ey⟩, fun H' => Pv (i + 1) H', fun H' hp' => ⟨n - (i + 1), by omega, rfl, by omega, hp'⟩, ?_⟩
    rintro x H' ⟨T, x1, y1, rfl, hT, rfl, h1, h2⟩
    exact hs i _ _ T H _ (h1 xs sa) (h2 ys sb) hp hT (same_new hT) upd_same
  · have e : i = n := by omega
    subst e
    exact .inl ⟨⟨xs, ys, sa, sb, .inl (by omega)⟩, hd H hp⟩
end
theorem r_zip {K : PySem.W.Frag} {ta : TA} {σ : L2.St} {H : Hp} {R : It → Hp → Prop} (q : ta σ H fun vs H1 => ∃ a b xs ys, vs = [.ref a, .ref b] ∧ SqL K H1 a xs ∧ SqL K H1 b ys ∧ R (Itz K a b) H1) : iZip K ta σ H R := q
/-! ### text * int, upper -/
def rMulS : V → V → Hp → VK → Prop := fun x y H Q => ∃ z k, x = .str z ∧ y = .int k ∧ PySem.MulOk z k ∧ Q (.str (Txt.mul z k)) H
theorem op_mulS {X : Cx} : OpR X (binaryOp .Mult) rMulS := by
  intro pins s σ H x y v u Q I rx ry h
  obtain ⟨i, j, rfl, rfl, hz, q⟩ := h
  obtain ⟨t, rfl⟩ := rx
  obtain ⟨t', rfl⟩ := ry
  exact SB.mul hz fun t' tk => ⟨.str _, H, I.tok _, ⟨_, rfl⟩, q⟩
theorem r_mulS {z : Str} {k : Int} {H : Hp} {Q : VK} (h : PySem.MulOk z k) (q : Q (.str (Txt.mul z k)) H) : rMulS (.str z) (.int k) H Q := ⟨z, k, rfl, rfl, h, q⟩
def rUpper : V → List V → Hp → VK → Prop := fun x xs H Q => ∃ a, x = .str a ∧ xs = [] ∧ a.length ≤ 5592405 ∧ Q (.str (Txt.upper a)) H
theorem pe_upperT {X : Cx} {o : Expr} {to : TE} {apos pos : Pos} (ho : PE X o to) (hbase : attributeBase o "upper" X.env (eval o X.env) = eval o X.env := by rfl) (hline : (apos.endLine == pos.line) = true := by rfl) :
    PE X (.Call (.Attribute o "upper" apos) [] [] pos) (tM0 rUpper to) := pe_upper ho hbase hline
theorem r_upper {a : Str} {H : Hp} {Q : VK} (h : a.length ≤ 5592405) (q : Q (.str (Txt.upper a)) H) : rUpper (.str a) [] H Q := ⟨a, rfl, rfl, h, q⟩
theorem r_m0 {r : V → List V → Hp → VK → Prop} {to : TE} {σ : L2.St} {H : Hp} {Q : VK} (q : to σ H fun x H1 => (∃ a, x = .str a) ∧ r x [] H1 Q) : tM0 r to σ H Q := q
/-! ### for k, v in d.items() -/
theorem r_lock {t : TS} {D : Ends} {σ : L2.St} {H : Hp} {d : Addr} {u : HO} (h : H d = some u) (mu : Mut (some u)) (q : ∀ (od : Obj) (H1 : Hp), (∀ b o, b ≠ d → H b = some o → H1 b = some o) → H1 d = some (.frz od u) →
    t ⟨fun σ' H' => H' d = some (.frz od u) ∧ D.nx σ' (upd H' d u), fun v H' => H' d = some (.frz od u) ∧ D.rt v (upd H' d u), fun σ' H' => H' d = some (.frz od u) ∧ D.bk σ' (upd H' d u), fun σ' H' => H' d = some (.frz od u) ∧ D.ct σ' (upd H' d u)⟩ σ H1) : tLock t D σ H :=
  ⟨d, u, h, mu, fun od => q od _ (fun b o n e => by rw [upd_ne n]; exact e) upd_same⟩
theorem r_items {td : TE} {σ : L2.St} {H : Hp} {R : It → Hp → Prop} (q : td σ H fun x H1 => ∃ d o kvs, x = .ref d ∧ H1 d = some (.frz o (.dK kvs)) ∧ R (Iti d o kvs) H1) : iItems td σ H R := q
theorem r_forI {d : Addr} {od : Obj} {kvs : List (Key × V)} {g : TG} {tb : TS} {D : Ends} {σ : L2.St} {H : Hp} (Pv : Nat → L2.St → Hp → Prop) (h0 : Pv 0 σ H) (hl : ∀ i σ H, i ≤ kvs.length → Pv i σ H → H d = some (.frz od (.dK kvs)))
    (hs : ∀ i k v σ H T H', kvs[i]? = some (k, v) → Pv i σ H → H T = none → Same H H' → H' T = some (.tup [kV k, v]) → g (.ref T) σ H' fun σ2 H2 => tb { D with nx := Pv (i + 1), ct := Pv (i + 1), bk := D.nx } σ2 H2) (hd : ∀ σ H, Pv kvs.length σ H → D.nx σ H) : rFor g tb D σ (Iti d od kvs) H := by
  refine ⟨fun i m σ H => m = kvs.length - i ∧ i ≤ kvs.length ∧ Pv i σ H, ⟨_, rfl, Nat.zero_le _, h0⟩, ?_⟩
  rintro i m σ H ⟨rfl, hi, h⟩
  rcases Nat.lt_or_ge i kvs.length with z | z
  · refine .inr ⟨⟨hl i σ H hi h, z⟩, Pv (i + 1), fun σ' H' p => ⟨_, ?_, rfl, z, p⟩, ?_⟩
    · omega
    · rintro v H' ⟨T, k, v, hkv, rfl, hT, rfl⟩
      exact hs i k v σ H T _ hkv h hT (same_new hT) upd_same
  · have e : i = kvs.length := by omega
    subst e
    exact .inl ⟨⟨hl _ σ H hi h, Nat.le_refl _⟩, hd σ H h⟩
theorem mem_putK {kvs : List (Key × V)} {k : Key} {v : V} {p : Key × V} (h : p ∈ putK kvs k v) : p ∈ kvs ∨ p = (k, v) := by
  unfold putK at h
  split at h
  · obtain ⟨q, hq, e⟩ := List.mem_map.mp h
    split at e
    · rename_i z
      rw [z] at e
      exact .inr e.symm
    · rw [e] at hq
      exact .inl hq
  · rcases List.mem_append.mp h with z | z
    · exact .inl z
    · rw [List.mem_singleton] at z
      exact .inr z
end KrT

namespace KrE
open Kr L2 PySem PySem.Spec PyProof.Rows
open PySem.HandSPX PySem.W Builtin Builtin.ObjectAttr
section
variable {prog : Program} {w : World} {A : Around} {E : Value → Shared → Prop} {R : Result → Shared → Prop} {hp : Heap} {g : Array GenState} {d : Drawn} {t : Nat} {os : OsState} {B : String} {bmB : List Value}
/-- the first field of an exception in the making, whatever built-in class it rests on -/
theorem first_field {K : W.Frag} {name : Str} {tk : Tok} {v : Value} {x C : Addr} {fv : Array Value} {cd : ClassData} (SF : StoreFacts B bmB "object.__setattr__" "object")
    (X : K.In hp) (hx : hp.get? x = some { cls := .ref C, data := .fields fv }) (hcd : W.clsIn K C = some cd) (ho : excOver K C bmB = true) (hh : cd.hasDict = true) (ht : takerIn K C name = some none)
    (hq : ∀ h' tk' dx, (∀ b o, b ≠ x → hp.get? b = some o → h'.get? b = some o) → hp.objs.size ≤ dx → dx ≠ x → h'.get? x = some { cls := .ref C, dict := some dx, data := .fields fv } →
      h'.Ns1 dx (fun y => if y = name then some v else none) → R (.ok (.ret .none)) ⟨h', g, d, tk', os⟩) :
    codeAny (model prog w) A (.call (.builtin "object.__setattr__") ⟨[.ref x, .str name tk, v], []⟩) R ⟨hp, g, d, t, os⟩ := by
  refine osa_openX (C := C) (od := none) (r := none) SF X (show InstAt hp x _ C none from ⟨hx, rfl, rfl, trivial⟩) ho ht fun b => ?_
  have hcls : W.Looks (model prog w) hp (classData C) cd := W.looks_clsIn X hcd
  have hxs : x ≠ hp.objs.size := Nat.ne_of_lt (Heap.lt_size hx)
  show wpAny _ _ (storeInOwnDict (.ref x) (.ref C) (.str name tk) name v b) _ _ _
  obtain ⟨nm, bs, mro, ns, qn, hd, sn, sb, ab, col, del⟩ := cd
  dsimp only at hh
  subst hh
  unfold storeInOwnDict ownDictForStores
  repeat (first | with_reducible refine store_in_new ?_ ?_ | with_reducible refine wpAny_loadPart_at hx ?_ | with_reducible refine hcls.at ?_ | wp_step)
  · exact ⟨_, #[], _, (Heap.get?_update_ne _ _ _ _ hxs.symm).trans (Heap.get?_push_at rfl rfl), rfl, fun e he => absurd he (by simp), fun _ => rfl⟩
  · intro h' tk' hn' hs
    have hx1 : (hp.push { cls := .type "dict", data := .dict #[] }).get? x = some { cls := .ref C, data := .fields fv } := Heap.get?_push_of_some _ hx
    refine hq h' tk' hp.objs.size (fun b o hb e => ?_) (Nat.le_refl _) hxs.symm ?_ hn'
    · exact (hs.2 b (Nat.ne_of_lt (Heap.lt_size e))).trans ((Heap.get?_update_ne _ _ _ _ hb).trans (Heap.get?_push_of_some _ e))
    · exact (hs.2 x hxs).trans (Heap.get?_update_self _ hx1 rfl)
end
/-- the built-in classes above -/
def lkTail : List Value := [.type "LookupError", .type "Exception", .type "BaseException", .type "object"]
/-- an own class over LookupError: what the written part says of it -/
structure ErrC (K : PySem.W.Frag) (C : Addr) : Prop where
  ini : PySem.W.excInitIn K C lkTail "LookupError.__new__" = true
  ov : PySem.W.excOver K C lkTail = true
  dc : PySem.W.hasDictIn K C = true
  sa : PySem.W.findIn K (.ref C) "__setattr__" = some (some (.builtin "object.__setattr__"))
  exC : PySem.W.subIn K (.ref C) (.type "BaseException") = some true
  tyC : PySem.W.typeIn K (.ref C) = some (.type "type")
  kC : PySem.W.keepIn K (.ref C) = true
section
variable {X : Cx} {pins : List (Addr × Obj)} {σ : L2.St} {H : Hp} {s : Shared} {a C : Addr} {f : Str} {y : V} {u : Value} {Q : Unit → Shared → Prop} {E : Value → Shared → Prop} {A : Around}
theorem put_first (T : ErrC X.K C) (I : Inv X pins σ H s) (e : H a = some (exo a C none)) (ht : PySem.W.takerIn X.K C f = some none) (ry : RelV y u)
    (h : ∀ dx s', H dx = none → dx ≠ a → Inv X pins σ (upd (upd H dx (exd dx [(f, y)])) a (exo a C (some dx))) s' → Q () s') : wpAny (model X.prog X.w) A (setAttr (.ref a) f u) Q E s := by
  obtain ⟨cd, hcl, hdc⟩ := any_some T.dc
  obtain ⟨t1, ho⟩ := exo_at I.hok e
  obtain ⟨hp, g, d, t, os⟩ := s
  refine PySem.W.set_plain I.kIn (od := none) (show PySem.W.InstAt hp a _ C none from ⟨ho, rfl, rfl, trivial⟩) T.sa ?_
  refine first_field PySem.F.store_LookupError I.kIn ho hcl T.ov hdc ht fun h' tk' dx k dn dne hx hn => ?_
  have free : H dx = none := I.hok.fresh dn
  have old : ∀ {b : Addr} {o : Obj}, hp.get? b = some o → b ≠ dx := fun q z => absurd (Heap.lt_size q) (by rw [z]; exact Nat.not_lt.mpr dn)
  have off : ∀ {b : Addr}, H b = none → b ≠ a := fun n z => by rw [z, e] at n; cases n
  have fix : ∀ {b : Addr} {o : HO}, H b = some o → o ≠ exo a C none → upd (upd H dx (exd dx [(f, y)])) a (exo a C (some dx)) b = some o := fun {b o} q z => by
    have n1 : b ≠ a := fun w => z (by rw [w, e] at q; exact (Option.some.inj q).symm)
    rw [upd_ne n1, upd_ne (ne_of_none q free)]
    exact q
  have un : Un X.fs [] H (upd (upd H dx (exd dx [(f, y)])) a (exo a C (some dx))) hp h' := by
    refine ⟨fun b o q n _ _ => k b o (off n) q, fun b o q n _ _ => ⟨o.slots, k b o (off n) q⟩, fun b o q n _ => by rw [upd_ne (off n), upd_ne (old q)]; exact n, fun b o q _ => ?_, fun b xs q => fix q (Ne.symm exo_tup), fun b o v q => fix q (Ne.symm exo_frz), fun b ps q => ⟨#[], by rw [fix q (Ne.symm exo_tbl)]; simp⟩⟩
    by_cases hb : b = a
    · exact ⟨_, by rw [hb]; exact hx⟩
    · exact ⟨o, k b o hb q⟩
  refine h dx _ free dne (I.un (t' := tk') un fun b o q => ?_)
  by_cases hb : b = a
  · subst hb
    rw [upd_same] at q
    obtain rfl := Option.some.inj q
    exact exo_ok hx
  rw [upd_ne hb] at q
  by_cases hd : b = dx
  · subst hd
    rw [upd_same] at q
    obtain rfl := Option.some.inj q
    exact exd_ok hn (relO_put (fs := []) ry fun _ => True.intro)
  rw [upd_ne hd] at q
  refine (I.hok b o q).stay (fun c v hc z => k c v ?_ z) (fun c hc => fix hc (Ne.symm exo_own)) fun c xs hc => fix hc (Ne.symm exo_tup)
  rcases hc with rfl | hc
  · exact hb
  · intro w
    rw [w, e] at hc
    exact exo_own (Option.some.inj hc)
end
/-- self.f = y, the first field of an exception in the making -/
def tErs (K : PySem.W.Frag) (f : Str) (to te : TE) : TS := fun D σ H => te σ H fun y H1 => to σ H1 fun x H2 => ∃ a C : Addr, x = .ref a ∧ ErrC K C ∧ PySem.W.takerIn K C f = some none ∧ H2 a = some (exo a C none) ∧
  ∀ dx, H2 dx = none → dx ≠ a → D.nx σ (upd (upd H2 dx (exd dx [(f, y)])) a (exo a C (some dx)))
section
variable {X : Cx} {o e : Expr} {es : List Expr} {to te : TE} {ta : TA} {f : Str} {p p' pos : Pos}
theorem ps_ers (ho : PE X o to) (he : PE X e te) (hs : swapsWith e (some (.Attribute o f p')) pos.line X.env = pure false := by rfl) : PS X (.Assign [.Attribute o f p'] e pos) (tErs X.K f to te) := by
  refine ⟨fun pins s0 st0 H D I h => ?_⟩
  refine plainObj_wpAny_Assign_Attribute (thn (he.run pins s0 st0 H _ I h) fun v s1 ⟨y, H1, I1, r1, q1⟩ => thn (ho.run pins s1 st0 H1 _ I1 q1) fun u s2 ⟨x, H2, I2, r2, a, C, ex, T, ht, ea, q⟩ => ?_) hs
  subst ex
  obtain rfl : u = Value.ref a := r2
  exact put_first T I2 ea ht r1 fun dx s' n1 n2 J => ⟨st0, _, J, q dx n1 n2⟩
theorem pmk_err {CX : CXT} {x : Str} {C fI : Addr} {k : Nat} {fd : FuncData} {ps : List Str} {sp : Sp} (T : ErrC X.K C) (iC : PySem.W.findIn X.K (.ref C) "__init__" = some (some (.ref fI))) (tI : PySem.W.typeIn X.K (.ref fI) = some (.type "function"))
    (F1 : FnOk X.prog X.w X.K X.mg X.base CX k fI fd ps sp) (hr : Room (k + 1) X.A) (hb : Binds X.K fd ps []) (hx : Passes CX X (fun _ _ _ => False)) (hg : Gl X x) (hm : X.mg x = some (.ref C)) (ha : PA X (e :: es) ta)
    (hdb : (x == ("__debug__" : Str)) = false := by decide) (he : starEach (e :: es) X.env = (false, eval e X.env) :: starEach es X.env := by rfl) (hpl : (backTo pos (starEach es X.env)).any (·.1) = false := by rfl) :
    PMk X (.Call (.Name x p) (e :: es) [] pos) (tMkO C sp [] ta) := by
  intro pins s0 st0 H Q I h
  refine wpAny_Call_Name_kw (ld_glob I hg hm ?_ hdb)
  refine PySem.W.callWith_K (h₀ := X.base) I.ok.mod.kin T.kC (thn (ha.run pos pins s0 st0 H _ I h) fun us s1 ⟨vs, H1, I1, r1, hz, q1⟩ => ⟨I1.kIn, ?_⟩) he hpl
  show wpAny _ _ (call (.ref C) us) _ _ _
  obtain ⟨nm, N, qn, bs, bm, hdct, sn, sub, ab, col, dd, k0, k1, k2, k3, k5, hC, hT⟩ := PySem.W.excInit_of I1.kIn T.ini
  obtain ⟨hp, g, dr, tk, os⟩ := s1
  have le1 : hp.objs.size ≤ hp.objs.size + 1 := Nat.le_succ _
  have free := I1.hok.fresh le1
  have hq := q1 _ free
  have grown : ∀ b o, hp.get? b = some o → ((hp.push (PySem.W.kdv_tup us)).push (PySem.HandSPX.excO C hp.objs.size)).get? b = some o := fun b o z => Heap.get?_push_of_some _ (Heap.get?_push_of_some _ z)
  have made : ((hp.push (PySem.W.kdv_tup us)).push (PySem.HandSPX.excO C hp.objs.size)).get? (hp.objs.size + 1) = some (PySem.HandSPX.excO C hp.objs.size) := by heap_get
  have I2 : Inv X pins st0 (upd H1 (hp.objs.size + 1) (exo (hp.objs.size + 1) C none)) ⟨(hp.push (PySem.W.kdv_tup us)).push (PySem.HandSPX.excO C hp.objs.size), g, dr, tk, os⟩ := I1.laid (t' := tk) (a := hp.objs.size + 1) (o := exo (hp.objs.size + 1) C none) (h' := (hp.push (PySem.W.kdv_tup us)).push (PySem.HandSPX.excO C hp.objs.size)) grown le1 (exo_ok made)
  have r2 : Vals (V.ref (hp.objs.size + 1) :: (vs ++ [])) (Value.ref (hp.objs.size + 1) :: (us ++ [])) := .cons rfl (r1.append .nil)
  have hl : (Value.ref (hp.objs.size + 1) :: us ++ []).length = ps.length := r2.length.symm.trans (F1.len _ _ _ _ hq)
  have few : us.length ≤ sizeLine := by
    have := Paired.length r1
    rw [sizeLine_eq]
    omega
  have bound : BindsTo ⟨(hp.push (PySem.W.kdv_tup us)).push (PySem.HandSPX.excO C hp.objs.size), g, dr, tk, os⟩ fd ⟨Value.ref (hp.objs.size + 1) :: us, []⟩ (ps.zip (Value.ref (hp.objs.size + 1) :: (us ++ []))) := hb _ (Value.ref (hp.objs.size + 1) :: us) I2.kIn hl
  refine wpAny_call (PySem.HandSPX.call_own PySem.F.excBase_LookupError hT hC (PySem.W.looks_findIn I1.kIn iC) (fun self => PySem.W.bind_fn I1.kIn self tI) few
    (codeAny_mono (F1.run _ X.stack _ _ ⟨Value.ref (hp.objs.size + 1) :: us, []⟩ (Value.ref (hp.objs.size + 1) :: (us ++ [])) _ _ (fun _ _ _ => False) (hr.make C us []) (I2.env0.make C us []) bound r2 hq) fun r s' z => ?_))
  cases r with
  | error er => exact hx pins st0 _ _ er s' I2 z
  | ok fl =>
    cases fl with
    | ret u =>
      obtain ⟨v, H2, os2, bare2, un2, hok2, rv, ev, d, fs, ea, ed, hd1, q2⟩ := z
      subst ev
      obtain ⟨h2, g2, d2, t2, os'⟩ := s'
      exact ⟨rv, mk_end (raises_own T.exC T.tyC) I1 le1 grown un2 hok2 os2 bare2 ea ed hd1 q2⟩
    | next => exact False.elim z
    | brk => exact False.elim z
    | cont => exact False.elim z
end
/-- the error class of the module's name x, its __init__ keeping sp -/
def ErH (P : Program) (w : World) (K : PySem.W.Frag) (mg : Str → Option Value) (base : Heap) (CX : CXT) (k : Nat) (x : Str) (C : Addr) (ps : List Str) (sp : Sp) : Prop :=
  ∃ (f : Addr) (fd : FuncData), mg x = some (.ref C) ∧ ErrC K C ∧ PySem.W.findIn K (.ref C) "__init__" = some (some (.ref f)) ∧ PySem.W.typeIn K (.ref f) = some (.type "function") ∧ Binds K fd ps [] ∧ FnOk P w K mg base CX k f fd ps sp
section
variable {X : Cx} {C : Addr} {k : Nat} {x : Str} {ps : List Str} {sp : Sp} {e : Expr} {es : List Expr} {ta : TA} {p pos : Pos}
theorem pmk_mk (h : ErH X.prog X.w X.K X.mg X.base CX0 k x C ps sp) (hr : Room (k + 1) X.A) (ha : PA X (e :: es) ta) (hg : Gl X x := by rfl)
    (hdb : (x == ("__debug__" : Str)) = false := by decide) (he : starEach (e :: es) X.env = (false, eval e X.env) :: starEach es X.env := by rfl) (hpl : (backTo pos (starEach es X.env)).any (·.1) = false := by rfl) :
    PMk X (.Call (.Name x p) (e :: es) [] pos) (tMkO C sp [] ta) := by
  obtain ⟨f, fd, hm, T, iC, tI, hb, F⟩ := h
  exact pmk_err T iC tI F hr hb pass0 hg hm ha hdb he hpl
end
def rErs (K : PySem.W.Frag) (f : Str) (y x : V) (H : Hp) (Qn : Hp → Prop) : Prop := ∃ a C : Addr, x = .ref a ∧ ErrC K C ∧ PySem.W.takerIn K C f = some none ∧ H a = some (exo a C none) ∧ ∀ dx, H dx = none → dx ≠ a → Qn (upd (upd H dx (exd dx [(f, y)])) a (exo a C (some dx)))
theorem r_sErs {K : PySem.W.Frag} {f : Str} {to te : TE} {D : Ends} {σ : L2.St} {H : Hp} (q : te σ H fun y H1 => to σ H1 fun x H2 => rErs K f y x H2 fun H3 => D.nx σ H3) : tErs K f to te D σ H := q
theorem r_ers {K : PySem.W.Frag} {f : Str} {y : V} {a C : Addr} {H : Hp} {Qn : Hp → Prop} (T : ErrC K C) (t : PySem.W.takerIn K C f = some none) (h : H a = some (exo a C none)) (q : ∀ dx, H dx = none → dx ≠ a → Qn (upd (upd H dx (exd dx [(f, y)])) a (exo a C (some dx)))) : rErs K f y (.ref a) H Qn := ⟨a, C, rfl, T, t, h, q⟩
/-- the making of an error, told by its end -/
def rMkE (C : Addr) (sp : Sp) (vs : List V) (H1 : Hp) (Q : XK) : Prop := vs.length ≤ 1000 ∧ ∀ a, H1 a = none → sp (.ref a :: (vs ++ [])) (upd H1 a (exo a C none))
  (fun v H2 => v = .non ∧ ∃ (d : Addr) (fs : List (Str × V)), H2 a = some (exo a C (some d)) ∧ H2 d = some (exd d fs) ∧ H1 d = none ∧ Q (.ref C) (some d) (upd (del H2 a) d (.xd fs))) (fun _ _ _ => False)
theorem r_mkE {C : Addr} {sp : Sp} {ta : TA} {σ : L2.St} {H : Hp} {Q : XK} (q : ta σ H fun vs H1 => rMkE C sp vs H1 Q) : tMkO C sp [] ta σ H Q := q
def errB (K : PySem.W.Frag) (C : Addr) : Bool := PySem.W.excInitIn K C lkTail "LookupError.__new__" && (PySem.W.excOver K C lkTail && (PySem.W.hasDictIn K C && (decide (PySem.W.findIn K (.ref C) "__setattr__" = some (some (.builtin "object.__setattr__"))) &&
  (decide (PySem.W.subIn K (.ref C) (.type "BaseException") = some true) && (decide (PySem.W.typeIn K (.ref C) = some (.type "type")) && PySem.W.keepIn K (.ref C))))))
theorem errB_ok {K : PySem.W.Frag} {C : Addr} (h : errB K C = true) : ErrC K C := by
  unfold errB at h
  simp only [Bool.and_eq_true, decide_eq_true_eq] at h
  exact ⟨h.1, h.2.1, h.2.2.1, h.2.2.2.1, h.2.2.2.2.1, h.2.2.2.2.2.1, h.2.2.2.2.2.2⟩
/-- the making of an error with one field -/
theorem r_mk1 {C : Addr} {f : Str} {v : V} {H1 : Hp} {Q : XK} {sp : Sp} (hsp : ∀ a H (Q' : VK), H a = some (exo a C none) → (∀ d, H d = none → d ≠ a → Q' .non (upd (upd H d (exd d [(f, v)])) a (exo a C (some d)))) → sp [.ref a, v] H Q' (fun _ _ _ => False))
    (q : ∀ d H', Same H1 H' → H1 d = none → H' d = some (.xd [(f, v)]) → Q (.ref C) (some d) H') : rMkE C sp [v] H1 Q := by
  refine ⟨by simp, fun a ha => hsp a _ _ upd_same fun d hd hda => ⟨rfl, d, [(f, v)], upd_same, by rw [upd_ne hda]; exact upd_same, by rw [upd_ne hda] at hd; exact hd, ?_⟩⟩
  rw [upd_ne hda] at hd
  refine q d _ (fun b o e => ?_) hd upd_same
  have n1 : b ≠ d := ne_of_none e hd
  have n2 : b ≠ a := ne_of_none e ha
  rw [upd_ne n1, del_ne n2, upd_ne n2, upd_ne n1, upd_ne n2]
  exact e
end KrE

namespace KrE
open Kr L2 PySem PySem.Spec PyProof.Rows
/-- what the body's exception asks where the first clause takes it by a name, in slot i -/
def wFst (K : PySem.W.Frag) (c : Value) (i : Nat) (ts : Addr → Value → Option Addr → TS) (D : Ends) : WX := fun cls d σ H => PySem.W.exmOne K cls c = some true ∧ ∀ a, H a = none →
  ts a cls d { nx := fun σ2 H2 => D.nx (σ2.set i none) H2, rt := D.rt, bk := fun σ2 H2 => D.bk (σ2.set i none) H2, ct := fun σ2 H2 => D.ct (σ2.set i none) H2 } (σ.set i (some (.ref a))) H
section
variable {X : Cx} {x n : Str} {c : Value} {i : Nat} {body suite : List Stmt} {b0 : Stmt} {np pos pos' : Pos} {tb : WX → TS} {ts : Addr → Value → Option Addr → TS} {hds : List ExceptHandler}
/-- try: .. except X as n: suite, further clauses behind it: where the first clause takes all that comes -/
theorem ps_try_first (hs : X.stack = X.env :: X.outer) (hf : X.env.frame = some X.env.locals) (hN : X.N.Nodup) (hi : X.N[i]? = some n) (hln : X.env.kindOf n = some .local) (hc : Names X x c)
    (hb : ∀ (W : WX) (pn : List (Addr × Obj)) (xe : Value → Shared → Prop), Takes (X.tr pn xe) W → PassesOwn (model X.prog X.w) X.A X.env xe → PSs (X.tr pn xe) body (tb W))
    (hsu : ∀ (a : Addr) (oe : Obj) (cls : Value) (d : Option Addr) (pn : List (Addr × Obj)), Zc cls d oe → (∃ vs, oe.data = .fields vs) → PSs (X.suite a ((a, oe) :: pn)) (b0 :: suite) (ts a cls d)) :
    PS X (.Try body (.ExceptHandler (some (.Name x np)) (some n) (b0 :: suite) pos' :: hds) [] [] pos) (fun D σ H => tb (wFst X.K c i ts D) D σ H) := by
  refine ⟨fun pins s0 st0 H D I h => ?_⟩
  have ok := I.ok
  have hfr : X.A.frames = some (X.env :: X.outer) := by rw [ok.frames, hs]
  refine wpAny_Try_except ?_
  refine wpAny_mono ((hb (wFst X.K c i ts D) (X.pn ++ pins) (fun e s1 => wpAny (model X.prog X.w) X.A (noteFrame e X.env) (fun _ s2 => wpAny (model X.prog X.w) X.A (setFlight e none) (fun _ s3 =>
    wpAny (model X.prog X.w) X.A (handleBy e X.env (.ExceptHandler (some (.Name x np)) (some n) (b0 :: suite) pos' :: hds)) (SP X pins D) X.xe s3) X.xe s2) X.xe s1) (fun u s' xx => ?_) PassesOwn.looking).run [] s0 st0 H D (I.toTry _) h) (fun f s1 z => ?_) (fun _ _ he => he)
  · obtain ⟨a, B, sI, pins', st1, H1, cls, d, rfl, J', nb, up, sky, na, os, ag, hit, go⟩ := xx
    have J : Inv X pins st1 H1 sI := J'.ofTry ok
    rw [hs] at sky
    show wpAny (model X.prog X.w) X.A (noteFrame (.ref a) X.env) _ _ _
    refine Sky.land Zc.steady hfr hf sky fun h3 fl3 up3 => ?_
    have J3 : Inv X pins st1 H1 { s' with heap := h3 } := J.landed nb fl3.1 (up.trans up3) os ag
    obtain ⟨oe3, vs3, he3, hz3, hd3⟩ := fl3.there
    have nfr : a ∉ frs (X.env :: X.outer) := fun hm => by
      obtain ⟨_, o', e', hnf⟩ := fl3.2.2.1.mem hm
      rw [he3] at e'
      obtain rfl := Option.some.inj e'
      exact hnf _ hd3
    have nL : a ≠ X.env.locals := fun z => nfr (List.mem_filterMap.mpr ⟨X.env, List.mem_cons_self, by rw [hf, z]⟩)
    have nF : a ∉ X.fs := fun hm => by
      obtain ⟨e, he, q⟩ := List.mem_filterMap.mp hm
      exact nfr (List.mem_filterMap.mpr ⟨e, List.mem_cons_of_mem _ he, q⟩)
    have S3 := J3.suite he3 hd3 na nL nF
    refine wpAny_handleBy_cons (codeAny_handlers_test ?_) (by intro q; cases q)
    have ty : PySem.W.Looks (model X.prog X.w) h3 (typeOf (.ref a)) cls := fun A Q E s k q => wpAny_typeOf_ref (k _ _ he3) (by rw [hz3.1]; exact q)
    have asked : ∀ {Q : Value → Shared → Prop} {E : Value → Shared → Prop}, Q c { s' with heap := h3 } → wpAny (model X.prog X.w) (X.A.mark (some (.ref a))) (eval (.Name x np) X.env) Q E { s' with heap := h3 } := fun {Q E} q => by
      obtain ⟨hg, hdbg, hm | ⟨hm, hv, hnn⟩⟩ := hc
      · exact ld_glob (X := X.suite a ((a, oe3) :: (X.pn ++ pins))) S3 hg hm q hdbg
      · exact ld_blt (X := X.suite a ((a, oe3) :: (X.pn ++ pins))) S3 hg hm hv q hnn hdbg
    refine asked ((PySem.W.exm_one (M := model X.prog X.w) J3.kIn ty hit).here (codeAny_handlers_suite_as (HandSPX.lands_againZ fl3 fun h4 fl4 up4 => ?_)))
    have J4 : Inv X pins st1 H1 { s' with heap := h4 } := J.landed nb fl4.1 ((up.trans up3).trans up4) os ag
    obtain ⟨oe4, vs4, he4, hz4, hd4⟩ := fl4.there
    have S4 := J4.suite he4 hd4 na nL nF
    refine store_ok (X := X.suite a ((a, oe4) :: (X.pn ++ pins))) (v := .ref a) S4 hN hi (.inl hln) rfl (fun s5 S5 => ?_) (.inr hln)
    refine wpAny_mono ((hsu a oe4 cls d (X.pn ++ pins) hz4 ⟨_, hd4⟩).run [] s5 _ H1 _ S5 (go a na)) (fun f s6 z => ?_) (fun _ _ z => False.elim z)
    have off : ∀ {st6 : L2.St} {H6 : Hp} {Q : Shared → Prop}, Inv (X.suite a ((a, oe4) :: (X.pn ++ pins))) [] st6 H6 s6 → (∀ s7, Inv X pins (st6.set i none) H6 s7 → Q s7) →
        wpAny (model X.prog X.w) X.A (do bindName X.env n .none; unbindBehindTheSuite X.env n pos') (fun _ s7 => Q s7) X.xe s6 := fun S6 hq => gone_ok (S6.unsuite ok) hN hi hln hq
    cases f with
    | next =>
      obtain ⟨st6, H6, S6, q6⟩ := z
      exact off S6 fun s7 J7 => ⟨_, _, J7, q6⟩
    | brk =>
      obtain ⟨st6, H6, S6, q6⟩ := z
      exact off S6 fun s7 J7 => ⟨_, _, J7, q6⟩
    | cont =>
      obtain ⟨st6, H6, S6, q6⟩ := z
      exact off S6 fun s7 J7 => ⟨_, _, J7, q6⟩
    | ret u =>
      obtain ⟨v6, st6, H6, S6, r6, q6⟩ := z
      exact off S6 fun s7 J7 => ⟨_, _, _, J7, r6, q6⟩
  · cases f with
    | next =>
      obtain ⟨st2, H2, J2, q⟩ := z
      exact wpAny_execs_nil ⟨st2, H2, J2.ofTry ok, q⟩
    | brk =>
      obtain ⟨st2, H2, J2, q⟩ := z
      exact ⟨st2, H2, J2.ofTry ok, q⟩
    | cont =>
      obtain ⟨st2, H2, J2, q⟩ := z
      exact ⟨st2, H2, J2.ofTry ok, q⟩
    | ret u =>
      obtain ⟨v, st2, H2, J2, r, q⟩ := z
      exact ⟨v, st2, H2, J2.ofTry ok, r, q⟩
end
end KrE

namespace KrE
open Kr L2 PySem PySem.Spec PyProof.Rows
/-! ### an object made by keywords where an error may leave, told by the slots as they stand -/
def tMakeKS (C : Addr) (n m : Nat) (sp : Sp) (E : L2.St → XK) (t tk : TA) : TE := fun σ H Q => t σ H fun vs H1 => tk σ H1 fun zs H2 => vs.length = n ∧ zs.length = m ∧ rMk C sp (E σ) (fun s => s :: vs ++ zs) H2 Q
section
variable {X : Cx} {CX : CXT} {k n : Nat} {C : Addr} {ps ks : List Str} {sp : Sp} {E : L2.St → XK} {x : Str} {p pos : Pos} {e : Expr} {es : List Expr} {kws : List Keyword} {t tk : TA}
theorem pe_mkES (h : MkK X.prog X.w X.K X.mg X.base CX k x C ps (n + 1) ks sp) (hr : Room (k + 1) X.A) (hx : ∀ σ, PassesAt CX X σ (E σ)) (ha : PA X (e :: es) t) (hkw : PK X kws tk) (hg : Gl X x := by rfl)
    (hall : (backToKw pos (keywordEach kws X.env)).all (·.1.isSome) = true := by rfl) (hks : (backToKw pos (keywordEach kws X.env)).filterMap (·.1) = ks := by rfl) (hdb : (x == ("__debug__" : Str)) = false := by decide)
    (he : starEach (e :: es) X.env = (false, eval e X.env) :: starEach es X.env := by rfl) (hpl : ((backTo pos (starEach (e :: es) X.env)).any (·.1) || (backToKw pos (keywordEach kws X.env)).any (·.1.isNone)) = false := by rfl) :
    PE X (.Call (.Name x p) (e :: es) kws pos) (tMakeKS C n ks.length sp E t tk) := by
  obtain ⟨f, fd, hm, M, hb, F⟩ := h
  refine ⟨fun pins s0 st0 H Q I hq0 => ?_⟩
  refine wpAny_Call_Name_kw (ld_glob I hg hm ?_ hdb)
  refine PySem.W.callWith_KW (h₀ := X.base) I.ok.mod.kin M.kp hall (thn (ha.run pos pins s0 st0 H _ I hq0) fun us s1 ⟨vs, H1, I1, r1, q1⟩ => thn (hkw.run pos pins s1 st0 H1 _ I1 q1) fun ws s2 ⟨zs, H2, I2, r2, l1, l2, q2⟩ => ⟨I2.kIn, ?_⟩) hpl he
  rw [hks]
  have made := Inv.made (C := C) I2
  have free1 : H2 (s2.heap.objs.size + 1) = none := I2.hok.fresh (Nat.le_succ _)
  have free0 : H2 s2.heap.objs.size = none := I2.hok.fresh (Nat.le_refl _)
  have promise := q2 (s2.heap.objs.size + 1) s2.heap.objs.size free1 free0 (Nat.ne_of_lt (Nat.lt_succ_self _))
  have rs : Vals (V.ref (s2.heap.objs.size + 1) :: vs) (Value.ref (s2.heap.objs.size + 1) :: us) := .cons rfl r1
  have many : (Value.ref (s2.heap.objs.size + 1) :: us).length = n + 1 := by rw [List.length_cons, ← r1.length, l1]
  refine wpAny_call (make_map (f := f) I2.kIn M.makes M.init (beq_iff_eq.mp M.fn) (codeAny_mono (F.run _ X.stack _ _ ⟨Value.ref (s2.heap.objs.size + 1) :: us, ks.zip ws⟩ _ _ _ (E st0) (hr.make C us (ks.zip ws))
    (made.env0.make C us (ks.zip ws)) (hb.to _ (Value.ref (s2.heap.objs.size + 1) :: us) ws made.kIn many (r2.length.symm.trans l2)) (hb.rel rs r2) promise) fun r s3 z => ?_))
  cases r with
  | error er => exact hx st0 pins _ _ er s3 made z
  | ok fl =>
    cases fl with
    | ret u =>
      obtain ⟨v, H3, I3, rv, ev, q3⟩ := made.after z
      subst ev
      exact ⟨rv, V.ref (s2.heap.objs.size + 1), H3, I3, rfl, q3⟩
    | next => exact False.elim z
    | brk => exact False.elim z
    | cont => exact False.elim z
end
theorem r_mkKS {C : Addr} {n m : Nat} {sp : Sp} {E : L2.St → XK} {t tk : TA} {σ : L2.St} {H : Hp} {Q : VK} (q : t σ H fun vs H1 => tk σ H1 fun zs H2 => vs.length = n ∧ zs.length = m ∧ rMk C sp (E σ) (fun s => s :: vs ++ zs) H2 Q) : tMakeKS C n m sp E t tk σ H Q := q
end KrE
namespace PySem.W
open PySem PySem.Spec PySem.Calls PyProof.Rows
section
variable {prog : Program} {w : World} {A : Around} {E : Value → Shared → Prop} {s : Shared} {K : Frag} {x D : Addr} {ox : Obj} {od : Option Obj}
theorem kr_dataFound {C : Addr} {name : Str} {a g : Value} (hc : (clsIn K C).isSome = true) (ha : findIn K (.ref C) name = some (some a)) (hg : specialIn K a "__get__" = some (some g)) (ht : takesIn K a = some true) : findObj K C od name = some (.bind g a) := by
  obtain ⟨cd, e⟩ := Option.isSome_iff_exists.mp hc
  unfold findObj
  simp [e, ha, hg, ht]
/-- what an own class of errors says of __class__ -/
structure KrErrT (K : Frag) (D : Addr) : Prop where
  ga : findIn K (.ref D) "__getattribute__" = some (some (.builtin "BaseException.__getattribute__"))
  gt : findIn K (.ref D) "__getattr__" = some none
  sb : subIn K (.ref D) (.type "BaseException") = some true
  dc : hasDictIn K D = true
  ca : findIn K (.ref D) "__class__" = some (some (.builtin "object.__class__"))
  cg : specialIn K (.builtin "object.__class__") "__get__" = some (some (.builtin "getset_descriptor.__get__"))
  ct : takesIn K (.builtin "object.__class__") = some true
  mo : mroIn K D (.type "object") = some true
def krErrT (K : Frag) (D : Addr) : Bool := decide (findIn K (.ref D) "__getattribute__" = some (some (.builtin "BaseException.__getattribute__"))) && (decide (findIn K (.ref D) "__getattr__" = some none) && (decide (subIn K (.ref D) (.type "BaseException") = some true) && (hasDictIn K D &&
  (decide (findIn K (.ref D) "__class__" = some (some (.builtin "object.__class__"))) && (decide (specialIn K (.builtin "object.__class__") "__get__" = some (some (.builtin "getset_descriptor.__get__"))) && (decide (takesIn K (.builtin "object.__class__") = some true) && decide (mroIn K D (.type "object") = some true)))))))
theorem krErrT_ok {K : Frag} {D : Addr} (h : krErrT K D = true) : KrErrT K D := by
  unfold krErrT at h
  simp only [Bool.and_eq_true, decide_eq_true_eq] at h
  exact ⟨h.1, h.2.1, h.2.2.1, h.2.2.2.1, h.2.2.2.2.1, h.2.2.2.2.2.1, h.2.2.2.2.2.2.1, h.2.2.2.2.2.2.2⟩
theorem kr_class {Q : Option Value → Shared → Prop} (T : KrErrT K D) (X : K.In s.heap) (I : InstAt s.heap x ox D od) (h : Q (some (.ref D)) { s with toks := s.toks + 1 }) : wpAny (model prog w) A (getAttr? (.ref x) "__class__") Q E s := by
  have found : findObj K D od "__class__" = some (.bind (.builtin "getset_descriptor.__get__") (.builtin "object.__class__")) := kr_dataFound (by obtain ⟨cd, e, _⟩ := any_some T.dc; rw [e]; rfl) T.ca T.cg T.ct
  obtain ⟨hp, g, d, t, os⟩ := s
  have lt := I.type (M := model prog w)
  have lg := looks_findIn (M := model prog w) X T.ga
  have lh := looks_findIn (M := model prog w) X T.gt
  have lf := looks_find (M := model prog w) X I found
  have below : Looks (model prog w) hp (isInstance (.ref x) (.type "BaseException")) true := lt.andThen (looks_subIn X T.sb)
  have n0 : (false && onTheHeap (Value.builtin "BaseException.__getattribute__")) = false := rfl
  have n1 : (onTheHeap (Value.ref D) && Value.builtin "BaseException.__getattribute__" == Value.builtin "object.__getattribute__") = false := by
    have : (Value.builtin "BaseException.__getattribute__" == Value.builtin "object.__getattribute__") = false := by decide +kernel
    rw [this]
    rfl
  unfold getAttr? getAttrBy? getAttrBy
  refine wpAny_bind (wpAny_mkText (wpAny_bind (wpAny_attempt (wpAny_holding (wpAny_bind (lt.at (wpAny_bind (lg.at ?_))))))))
  show wpAny _ _ (if (onTheHeap (Value.ref D) && Value.builtin "BaseException.__getattribute__" == Value.builtin "object.__getattribute__") = true then _ else _) _ _ _
  rw [n1, if_neg Bool.false_ne_true]
  unfold getAttrByItsOwn hookBefore
  refine wpAny_bind ?_
  rw [if_pos (show onTheHeap (Value.ref D) = true from rfl)]
  refine lh.at (wpAny_bind (wpAny_attempt (wpAny_holding ?_)))
  unfold callGetattribute
  rw [n0, if_neg Bool.false_ne_true]
  unfold boundAndCalled
  rw [PySem.F.excAttr_ValueError.ga.bind (.ref x)]
  refine wpAny_bind (wpAny_pure ?_)
  show wpAny _ _ (call (.builtin "BaseException.__getattribute__") [.ref x, .str "__class__" t]) _ _ _
  refine wpAny_call (codeAny_call_builtin PySem.F.excAttr_ValueError.ga.plain PySem.F.entry_bexc_ga (@check_slot (model prog w) _ _ ⟨hp, g, d, t + 1, os⟩ "BaseException.__getattribute__" "BaseException" "__getattribute__" (.ref x) [.str "__class__" t] [] _ (by decide +kernel) (by decide +kernel) below (PySem.F.args_bexc_ga (.ref x) (.str "__class__" t)) ?_))
  unfold Builtin.«object.__getattribute__»
  refine wpAny_bind (wpAny_of_eq (a := ((Value.ref x : Value), [Value.str "__class__" t])) (by first | rfl | (simp only [slotArgs]; rfl)) (wpAny_bind (wpAny_pure (wpAny_bind (lt.at (wpAny_bind (lf.at ?_)))))))
  show wpAny _ _ (holding [Value.builtin "object.__class__"] (call (.builtin "getset_descriptor.__get__") [.builtin "object.__class__", .ref x, .ref D]) >>= ret) _ _ _
  refine wpAny_bind (wpAny_holding (wpAny_call (class_get (s := ⟨hp, g, d, t + 1, os⟩) (ox := ox) (od := od) X I T.mo (wpAny_pure ?_))))
  show wpAny _ _ (handedOut (.ref D)) _ _ _
  rw [handedOut_of (v := .ref D) rfl]
  first
    | exact wpAny_pure (wpAny_pure h)
    | exact wpAny_pure h
    | exact wpAny_pure (wpAny_bind (wpAny_pure (wpAny_pure h)))
theorem kr_kitx (T : KrErrT K D) : KitX K (.ref x) (.ref D) (fun h => InstAt h x ox D od) := by
  obtain ⟨cd, ec, _⟩ := any_some T.dc
  unfold clsIn at ec
  split at ec
  rotate_left
  · cases ec
  rename_i c1 d1 cd1 sl1 ho
  refine ⟨fun _ _ _ I => I.type, fun _ _ Y _ => ?_, fun h tp dd its n sl Y htp => ?_, fun Y I k => kr_class T Y I k⟩
  · intro A' Q' E' s' k q
    unfold isType loadHead
    exact wpAny_bind (wpAny_loadPart (k _ _ (Y _ _ ho)) (wpAny_pure q))
  · refine Bool.eq_false_iff.mpr fun q => ?_
    have e : D = tp := Value.ref.inj (beq_iff_eq.mp q)
    subst e
    cases (Y _ _ ho).symm.trans htp
end
end PySem.W
namespace KrE
open Kr L2 PySem PySem.Spec PyProof.Rows
/-- isinstance(e, c), e the error that the suite holds, with its fields -/
def rIsD (K : PySem.W.Frag) (a : Addr) (cls : Value) (d : Option Addr) (C : Addr) : List V → Hp → VK → Prop := fun xs H Q => ∃ (c : V) (cv : Value) (b : Bool) (dd : Addr) (fs : List (Str × V)), xs = [.ref a, c] ∧ cls = .ref C ∧ d = some dd ∧ H dd = some (.xd fs) ∧ (∀ u, RelV c u → u = cv) ∧ PySem.W.kitOne K (.ref C) cv = some b ∧ Q (.bl b) H
theorem c_isD {X : Cx} {a C : Addr} {oe : Obj} {cls : Value} {d : Option Addr} {pn : List (Addr × Obj)} (T : PySem.W.KrErrT X.K C) (hz : Zc cls d oe) (hf : ∃ vs, oe.data = .fields vs) : CallR (X.suite a ((a, oe) :: pn)) (.builtin "isinstance") (rIsD X.K a cls d C) := by
  intro pins s0 st0 H xs us Q I r h
  obtain ⟨c, cv, b, dd, fs, rfl, rfl, rfl, ea, hcv, e, q⟩ := h
  obtain ⟨u1, u2, rfl, rx, rt⟩ : ∃ u1 u2, us = [u1, u2] ∧ RelV (.ref a) u1 ∧ RelV c u2 := by
    cases r with
    | cons rx rr =>
      cases rr with
      | cons rt rr =>
        cases rr
        exact ⟨_, _, rfl, rx, rt⟩
  obtain rfl : u1 = Value.ref a := rx
  obtain rfl := hcv _ rt
  obtain ⟨at1, -⟩ := I.pin (a, oe) (List.mem_append.mpr (.inl List.mem_cons_self))
  obtain ⟨vs, hv⟩ := hf
  obtain ⟨mA, hns, -⟩ : ObjOk X.prog X.w H s0.heap dd (.xd fs) := I.hok dd _ ea
  obtain ⟨od, ho, -⟩ := lookIn_ns hns
  have J : PySem.W.InstAt s0.heap a oe C (some od) := ⟨at1, hz.1, by unfold PySem.W.notCls; rw [hv] <;> rfl, by rw [hz.2]; exact ho⟩
  exact PySem.W.kia_one (PySem.W.kr_kitx T) I.kIn J e (fun z => nomatch z) fun tk => ⟨.bl b, H, I.kept (t' := tk) fun _ _ z => z, rfl, q⟩
theorem r_isD {K : PySem.W.Frag} {a C dd : Addr} {H : Hp} {Q : VK} {fs : List (Str × V)} {T : Addr} {b : Bool} (h : H dd = some (.xd fs)) (e : PySem.W.kitOne K (.ref C) (.ref T) = some b) (q : Q (.bl b) H) : rIsD K a (.ref C) (some dd) C [.ref a, .ref T] H Q := ⟨_, _, b, dd, fs, rfl, rfl, rfl, h, fun u r => r, e, q⟩
def rXf (a : Addr) (cls : Value) (d : Option Addr) (C : Addr) (f : Str) (x : V) (H : Hp) (Q : VK) : Prop := x = .ref a ∧ cls = .ref C ∧ ∃ (dd : Addr) (fs : List (Str × V)) (v : V), d = some dd ∧ H dd = some (.xd fs) ∧ fs.lookup f = some v ∧ Q v H
theorem r_tXf {a C : Addr} {cls : Value} {d : Option Addr} {f : Str} {te : TE} {σ : L2.St} {H : Hp} {Q : VK} (q : te σ H fun x H1 => rXf a cls d C f x H1 Q) : tXf a cls d C f te σ H Q := q
theorem r_xf {a C dd : Addr} {f : Str} {H : Hp} {Q : VK} {fs : List (Str × V)} {v : V} (h : H dd = some (.xd fs)) (l : fs.lookup f = some v) (q : Q v H) : rXf a (.ref C) (some dd) C f (.ref a) H Q := ⟨rfl, rfl, dd, fs, v, rfl, h, l, q⟩
end KrE

/-! A def called where an error may leave, told by the slots as they stand. -/
namespace KrE
open Kr L2 PySem PySem.Spec PyProof.Rows
section
variable {X : Cx} {CX : CXT} {k : Nat} {ps : List Str} {sp : Sp} {E : L2.St → XK} {x : Str} {p pos : Pos} {e : Expr} {es : List Expr} {t : TA}
theorem pe_clES (h : FnH X.prog X.w X.K X.mg X.base CX k x ps sp) (hr : Room k X.A) (hx : ∀ σ, PassesAt CX X σ (E σ)) (ha : PA X (e :: es) t) (hg : Gl X x := by rfl) (hdb : (x == ("__debug__" : Str)) = false := by decide)
    (he : starEach (e :: es) X.env = (false, eval e X.env) :: starEach es X.env := by rfl) (hpl : (backTo pos (starEach es X.env)).any (·.1) = false := by rfl) : PE X (.Call (.Name x p) (e :: es) [] pos) (tCallS sp E t) := by
  obtain ⟨f, fd, hm, hk, hb, F⟩ := h
  exact pe_callS F hr hg hm hk hb hx ha hdb he hpl
theorem r_clS {σ : L2.St} {H : Hp} {Q : VK} (q : t σ H fun vs H1 => sp vs H1 Q (E σ)) : tCallS sp E t σ H Q := q
end
end KrE
namespace KrT
open Kr L2 PySem PySem.Spec PyProof.Rows
/-! ### rows of texts compared -/
theorem dpStrs {K : PySem.W.Frag} {H : Hp} : ∀ xs : List Str, DpAll K H (xs.map V.str) (xs.map PyData.str)
  | [] => .nil
  | x :: r => .cons (.str x) (dpStrs r)
theorem eqvStrs : ∀ xs ys : List Str, PyData.eqvAll (xs.map PyData.str) (ys.map PyData.str) = decide (xs = ys)
  | [], [] => by simp [PyData.eqvAll]
  | [], _ :: _ => by simp [PyData.eqvAll]
  | _ :: _, [] => by simp [PyData.eqvAll]
  | a :: xs, b :: ys => by
    show (PyData.eqv (.str a) (.str b) && PyData.eqvAll (xs.map PyData.str) (ys.map PyData.str)) = _
    rw [eqvStrs xs ys]
    show ((a == b) && decide (xs = ys)) = decide (a :: xs = b :: ys)
    by_cases h : a = b <;> by_cases h2 : xs = ys <;> simp [h, h2]
theorem layStrs : ∀ {xs : List Str}, (∀ x ∈ xs, PyData.strOk x = true) → PyData.canLayAll0 (xs.map PyData.str) = true ∧ PyData.depthAll (xs.map PyData.str) = 0
  | [], _ => ⟨rfl, rfl⟩
  | x :: r, h => by
    have ih := layStrs (xs := r) fun z hz => h z (List.mem_cons_of_mem _ hz)
    have hx := h x List.mem_cons_self
    simp [PyData.canLayAll0, PyData.canLay0, PyData.depthAll, PyData.depth, ih, hx]
theorem shLS {xs : List Str} (h : ∀ x ∈ xs, PyData.strOk x = true) : SeqAt.shaped (.list (xs.map PyData.str)) = true := by simp [SeqAt.shaped, PyData.canLay0, PyData.depth, layStrs h]
section
variable {K : PySem.W.Frag} {H : Hp} {Q : VK} {a b : Addr} {xs ys : List Str}
theorem r_eqSS (ox : ∀ x ∈ xs, PyData.strOk x = true) (oy : ∀ x ∈ ys, PyData.strOk x = true) (h : SqL K H a (xs.map V.str)) (g : SqL K H b (ys.map V.str)) (q : Q (.bl (decide (xs = ys))) H) : rEqD K (.ref a) (.ref b) H Q :=
  ⟨_, _, .lst h (dpStrs xs), .lst g (dpStrs ys), shLS ox, shLS oy, by rw [show PyData.eqv (.list (xs.map PyData.str)) (.list (ys.map PyData.str)) = decide (xs = ys) from eqvStrs xs ys]; exact q⟩
theorem r_neSS (ox : ∀ x ∈ xs, PyData.strOk x = true) (oy : ∀ x ∈ ys, PyData.strOk x = true) (h : SqL K H a (xs.map V.str)) (g : SqL K H b (ys.map V.str)) (q : Q (.bl (!decide (xs = ys))) H) : rNeD K (.ref a) (.ref b) H Q :=
  ⟨_, _, .lst h (dpStrs xs), .lst g (dpStrs ys), shLS ox, shLS oy, by rw [show PyData.eqv (.list (xs.map PyData.str)) (.list (ys.map PyData.str)) = decide (xs = ys) from eqvStrs xs ys]; exact q⟩
end
/-! ### signs of a text -/
def rInS : V → V → Hp → VK → Prop := fun x y H Q => ∃ (c : Nat) (z : Str), x = .str ⟨#[c]⟩ ∧ y = .str z ∧ Q (.bl (decide (c ∈ z.cps.toList))) H
def rNinS : V → V → Hp → VK → Prop := fun x y H Q => ∃ (c : Nat) (z : Str), x = .str ⟨#[c]⟩ ∧ y = .str z ∧ Q (.bl (!decide (c ∈ z.cps.toList))) H
theorem op_inS {X : Cx} : OpR X (compareOp .In) rInS := op_in_sign
theorem op_ninS {X : Cx} : OpR X (compareOp .NotIn) rNinS := op_notIn_sign
def rIntS : List V → Hp → VK → Prop := fun xs H Q => ∃ a n, xs = [.str a] ∧ PySem.intText? a = some n ∧ a.length ≤ 640 ∧ Q (.int n) H
theorem c_intS {X : Cx} : CallR X (.type "int") rIntS := call_int_str
theorem r_intS {a : Str} {n : Int} {H : Hp} {Q : VK} (h : PySem.intText? a = some n) (hl : a.length ≤ 640) (q : Q (.int n) H) : rIntS [.str a] H Q := ⟨a, n, rfl, h, hl, q⟩
theorem r_iStr {te : TE} {σ : L2.St} {H : Hp} {R : It → Hp → Prop} (q : te σ H fun v H1 => ∃ x, v = .str x ∧ R (Its x) H1) : iStr te σ H R := q
theorem r_revL {K : PySem.W.Frag} {te : TE} {σ : L2.St} {H : Hp} {Q : VK} (q : te σ H fun x H1 => ∃ a xs, x = .ref a ∧ SqL K H1 a xs ∧ ∀ p, H1 p = none → Q (.ref p) (upd H1 p (.lst xs.reverse))) : tRevL K te σ H Q := q
/-- a comprehension over the signs of a text, with the slots written out -/
theorem lc_strS {z : Str} {g : TG} {tt : TT} {te : TE} {vs : List Nat} {σ : L2.St} {H1 : Hp} {D : Addr} {Qd : Hp → Prop} (σ' : L2.St) (hσ : wipe σ vs = σ') (Pv : Nat → Hp → Prop) (h0 : Pv 0 (upd H1 D (.lst [])))
    (hs : ∀ i c H, z.cps[i]? = some c → Pv i H → g (.str ⟨#[c]⟩) σ' H fun σ2 H2 => wipe σ2 vs = σ' ∧ tt σ2 H2 fun b H3 =>
      if b = true then te σ2 H3 fun y H4 => ∃ acc, H4 D = some (.lst acc) ∧ acc.length < sizeLine ∧ Pv (i + 1) (upd H4 D (.lst (acc ++ [y]))) else Pv (i + 1) H3) (hd : ∀ H, Pv z.cps.size H → Qd H) :
    ∃ W : Nat → Nat → Hp → Prop, (∃ m, W 0 m (upd H1 D (.lst []))) ∧ ∀ i m H, W i m H →
      ((Its z).stop i H ∧ Qd H) ∨ ((Its z).go i H ∧ ∃ Nx : Hp → Prop, (∀ H', Nx H' → ∃ m', m' < m ∧ W (i + 1) m' H') ∧ ∀ x H', (Its z).yld i H x H' → g x (wipe σ vs) H' fun σ2 H2 => wipe σ2 vs = wipe σ vs ∧ tt σ2 H2 fun b H3 =>
        if b = true then te σ2 H3 fun y H4 => ∃ acc, H4 D = some (.lst acc) ∧ acc.length < sizeLine ∧ Nx (upd H4 D (.lst (acc ++ [y]))) else Nx H3) := by
  subst hσ
  refine ⟨fun i m H => m = z.cps.size - i ∧ i ≤ z.cps.size ∧ Pv i H, ⟨z.cps.size, by simp, Nat.zero_le _, h0⟩, ?_⟩
  rintro i m H ⟨rfl, hi, hp⟩
  rcases Nat.lt_or_ge i z.cps.size with y | y
  · refine .inr ⟨y, fun H' => Pv (i + 1) H', fun H' hp' => ⟨z.cps.size - (i + 1), by omega, rfl, by omega, hp'⟩, ?_⟩
    rintro x H' ⟨rfl, c, hc, rfl⟩
    exact hs i c _ hc hp
  · have e : i = z.cps.size := by omega
    subst e
    exact .inl ⟨Nat.le_refl _, hd H hp⟩
end KrT

namespace Kw
open Kr L2 PySem PySem.Spec PyProof.Rows
def top (i : Nat) : Stmt := PySem.Challenge.pw_keeprows_k04_whole_changed_texts.main.body.getD i (.Pass ⟨0, 0, 0, 0⟩)
abbrev s_InvalidText___init__ : Stmt := inClass (top 4) 0
abbrev N_InvalidText___init__ : List Str := ["self", "line"]
theorem st_InvalidText___init__ (v0 v1 : V) : L2.start N_InvalidText___init__ [v0, v1] = [some v0, some v1] := rfl
theorem sc_InvalidText___init__ : FnScope N_InvalidText___init__ ["self", "line"] (defScope s_InvalidText___init__) := ⟨rfl, rfl, rfl, by decide +kernel, rfl, by decide +kernel, by decide +kernel⟩
abbrev s_is_from : Stmt := top 6
abbrev N_is_from : List Str := ["number", "least"]
theorem st_is_from (v0 v1 : V) : L2.start N_is_from [v0, v1] = [some v0, some v1] := rfl
theorem sc_is_from : FnScope N_is_from ["number", "least"] (defScope s_is_from) := ⟨rfl, rfl, rfl, by decide +kernel, rfl, by decide +kernel, by decide +kernel⟩
abbrev s_is_within : Stmt := top 7
abbrev N_is_within : List Str := ["number", "least", "most"]
theorem st_is_within (v0 v1 v2 : V) : L2.start N_is_within [v0, v1, v2] = [some v0, some v1, some v2] := rfl
theorem sc_is_within : FnScope N_is_within ["number", "least", "most"] (defScope s_is_within) := ⟨rfl, rfl, rfl, by decide +kernel, rfl, by decide +kernel, by decide +kernel⟩
abbrev s_are_lengths : Stmt := top 11
abbrev N_are_lengths : List Str := ["lengths", "length"]
theorem st_are_lengths (v0 : V) : L2.start N_are_lengths [v0] = [some v0, none] := rfl
theorem sc_are_lengths : FnScope N_are_lengths ["lengths"] (defScope s_are_lengths) := ⟨rfl, rfl, rfl, by decide +kernel, rfl, by decide +kernel, by decide +kernel⟩
abbrev s_bounds_behind : Stmt := top 12
abbrev N_bounds_behind : List Str := ["lengths"]
theorem st_bounds_behind (v0 : V) : L2.start N_bounds_behind [v0] = [some v0] := rfl
theorem sc_bounds_behind : FnScope N_bounds_behind ["lengths"] (defScope s_bounds_behind) := ⟨rfl, rfl, rfl, by decide +kernel, rfl, by decide +kernel, by decide +kernel⟩
abbrev s_Settings___init__ : Stmt := inClass (top 13) 0
abbrev N_Settings___init__ : List Str := ["self", "lengths", "size", "fanout", "records", "every", "keep", "given", "part", "least", "most"]
theorem st_Settings___init__ (v0 v1 v2 v3 v4 v5 v6 : V) : L2.start N_Settings___init__ [v0, v1, v2, v3, v4, v5, v6] = [some v0, some v1, some v2, some v3, some v4, some v5, some v6, none, none, none, none] := rfl
theorem sc_Settings___init__ : FnScope N_Settings___init__ ["self", "lengths", "size", "fanout", "records", "every", "keep"] (defScope s_Settings___init__) := ⟨rfl, rfl, rfl, by decide +kernel, rfl, by decide +kernel, by decide +kernel⟩
abbrev s_check_settings : Stmt := top 14
abbrev N_check_settings : List Str := ["settings"]
theorem st_check_settings (v0 : V) : L2.start N_check_settings [v0] = [some v0] := rfl
theorem sc_check_settings : FnScope N_check_settings ["settings"] (defScope s_check_settings) := ⟨rfl, rfl, rfl, by decide +kernel, rfl, by decide +kernel, by decide +kernel⟩
abbrev s_settings_text : Stmt := top 16
abbrev N_settings_text : List Str := ["settings", "lines", "length"]
theorem st_settings_text (v0 : V) : L2.start N_settings_text [v0] = [some v0, none, none] := rfl
theorem sc_settings_text : FnScope N_settings_text ["settings"] (defScope s_settings_text) := ⟨rfl, rfl, rfl, by decide +kernel, rfl, by decide +kernel, by decide +kernel⟩
abbrev s_number_in : Stmt := top 17
abbrev N_number_in : List Str := ["text", "least", "most", "written", "number"]
theorem st_number_in (v0 v1 v2 : V) : L2.start N_number_in [v0, v1, v2] = [some v0, some v1, some v2, none, none] := rfl
theorem sc_number_in : FnScope N_number_in ["text", "least", "most"] (defScope s_number_in) := ⟨rfl, rfl, rfl, by decide +kernel, rfl, by decide +kernel, by decide +kernel⟩
abbrev s_lengths_in : Stmt := top 18
abbrev N_lengths_in : List Str := ["line", "words", "lengths", "word"]
theorem st_lengths_in (v0 : V) : L2.start N_lengths_in [v0] = [some v0, none, none, none] := rfl
theorem sc_lengths_in : FnScope N_lengths_in ["line"] (defScope s_lengths_in) := ⟨rfl, rfl, rfl, by decide +kernel, rfl, by decide +kernel, by decide +kernel⟩
abbrev s_value_in : Stmt := top 19
abbrev N_value_in : List Str := ["line", "part", "least", "most"]
theorem st_value_in (v0 v1 v2 v3 : V) : L2.start N_value_in [v0, v1, v2, v3] = [some v0, some v1, some v2, some v3] := rfl
theorem sc_value_in : FnScope N_value_in ["line", "part", "least", "most"] (defScope s_value_in) := ⟨rfl, rfl, rfl, by decide +kernel, rfl, by decide +kernel, by decide +kernel⟩
abbrev s_read_settings : Stmt := top 20
abbrev N_read_settings : List Str := ["text", "lines", "last", "lengths", "bounds", "values", "at", "part", "least", "most", "value"]
theorem st_read_settings (v0 : V) : L2.start N_read_settings [v0] = [some v0, none, none, none, none, none, none, none, none, none, none] := rfl
theorem sc_read_settings : FnScope N_read_settings ["text"] (defScope s_read_settings) := ⟨rfl, rfl, rfl, by decide +kernel, rfl, by decide +kernel, by decide +kernel⟩
abbrev s__law_mix : Stmt := top 22
abbrev N__law_mix : List Str := ["cell", "lap", "blend"]
theorem st__law_mix (v0 v1 : V) : L2.start N__law_mix [v0, v1] = [some v0, some v1, none] := rfl
theorem sc__law_mix : FnScope N__law_mix ["cell", "lap"] (defScope s__law_mix) := ⟨rfl, rfl, rfl, by decide +kernel, rfl, by decide +kernel, by decide +kernel⟩
abbrev s__law_source : Stmt := top 23
abbrev N__law_source : List Str := ["script", "k", "cell"]
theorem st__law_source (v0 v1 : V) : L2.start N__law_source [v0, v1] = [some v0, some v1, none] := rfl
theorem sc__law_source : FnScope N__law_source ["script", "k"] (defScope s__law_source) := ⟨rfl, rfl, rfl, by decide +kernel, rfl, by decide +kernel, by decide +kernel⟩
abbrev s__law_draw : Stmt := top 24
abbrev N__law_draw : List Str := ["source", "limit", "drawn"]
theorem st__law_draw (v0 v1 : V) : L2.start N__law_draw [v0, v1] = [some v0, some v1, none] := rfl
theorem sc__law_draw : FnScope N__law_draw ["source", "limit"] (defScope s__law_draw) := ⟨rfl, rfl, rfl, by decide +kernel, rfl, by decide +kernel, by decide +kernel⟩
abbrev s__law_pick : Stmt := top 25
abbrev N__law_pick : List Str := ["source", "items"]
theorem st__law_pick (v0 v1 : V) : L2.start N__law_pick [v0, v1] = [some v0, some v1] := rfl
theorem sc__law_pick : FnScope N__law_pick ["source", "items"] (defScope s__law_pick) := ⟨rfl, rfl, rfl, by decide +kernel, rfl, by decide +kernel, by decide +kernel⟩
abbrev s__law_parts : Stmt := top 26
abbrev N__law_parts : List Str := ["source", "room", "some", "found", "low", "high", "k"]
theorem st__law_parts (v0 : V) : L2.start N__law_parts [v0] = [some v0, none, none, none, none, none, none] := rfl
theorem sc__law_parts : FnScope N__law_parts ["source"] (defScope s__law_parts) := ⟨rfl, rfl, rfl, by decide +kernel, rfl, by decide +kernel, by decide +kernel⟩
abbrev s__law_text : Stmt := top 27
abbrev N__law_text : List Str := ["p", "words", "lines", "one", "word", "line"]
theorem st__law_text (v0 : V) : L2.start N__law_text [v0] = [some v0, none, none, none, none, none] := rfl
theorem sc__law_text : FnScope N__law_text ["p"] (defScope s__law_text) := ⟨rfl, rfl, rfl, by decide +kernel, rfl, by decide +kernel, by decide +kernel⟩
abbrev s__law_number : Stmt := top 28
abbrev N__law_number : List Str := ["word", "sign"]
theorem st__law_number (v0 : V) : L2.start N__law_number [v0] = [some v0, none] := rfl
theorem sc__law_number : FnScope N__law_number ["word"] (defScope s__law_number) := ⟨rfl, rfl, rfl, by decide +kernel, rfl, by decide +kernel, by decide +kernel⟩
abbrev s__law_due : Stmt := top 29
abbrev N__law_due : List Str := ["text", "lines", "words", "low", "high", "at", "word", "parts", "some", "most", "part"]
theorem st__law_due (v0 : V) : L2.start N__law_due [v0] = [some v0, none, none, none, none, none, none, none, none, none, none] := rfl
theorem sc__law_due : FnScope N__law_due ["text"] (defScope s__law_due) := ⟨rfl, rfl, rfl, by decide +kernel, rfl, by decide +kernel, by decide +kernel⟩
abbrev s__law_spoilt : Stmt := top 30
abbrev N__law_spoilt : List Str := ["source", "text", "lines", "place", "at", "words", "spot", "others", "changed", "ahead", "behind", "more", "glued", "some", "sign", "one"]
theorem st__law_spoilt (v0 v1 : V) : L2.start N__law_spoilt [v0, v1] = [some v0, some v1, none, none, none, none, none, none, none, none, none, none, none, none, none, none] := rfl
theorem sc__law_spoilt : FnScope N__law_spoilt ["source", "text"] (defScope s__law_spoilt) := ⟨rfl, rfl, rfl, by decide +kernel, rfl, by decide +kernel, by decide +kernel⟩
abbrev s__law_told : Stmt := top 31
abbrev N__law_told : List Str := ["text", "made", "e"]
theorem st__law_told (v0 : V) : L2.start N__law_told [v0] = [some v0, none, none] := rfl
theorem sc__law_told : FnScope N__law_told ["text"] (defScope s__law_told) := ⟨rfl, rfl, rfl, by decide +kernel, rfl, by decide +kernel, by decide +kernel⟩
abbrev s__law_right : Stmt := top 32
abbrev N__law_right : List Str := ["source", "text", "turn", "other"]
theorem st__law_right (v0 : V) : L2.start N__law_right [v0] = [some v0, none, none, none] := rfl
theorem sc__law_right : FnScope N__law_right ["source"] (defScope s__law_right) := ⟨rfl, rfl, rfl, by decide +kernel, rfl, by decide +kernel, by decide +kernel⟩
abbrev s_law : Stmt := top 33
abbrev N_law : List Str := ["script", "k", "source"]
theorem st_law (v0 : V) : L2.start N_law [v0] = [some v0, none, none] := rfl
theorem sc_law : FnScope N_law ["script"] (defScope s_law) := ⟨rfl, rfl, rfl, by decide +kernel, rfl, by decide +kernel, by decide +kernel⟩

/-- a positive number of at most forty digits: what draws are limited by -/
def Lim (n : Int) : Prop := 0 < n ∧ n ≤ 10 ^ 40
theorem Lim.div {n : Int} (h : Lim n) : CDivW 0 n := wide_div (b := 200) h.1 (by have := h.1; have := h.2; omega) (by decide) (by decide)
theorem emod_lt {a n : Int} (h : 0 < n) : 0 ≤ a % n ∧ a % n < n := ⟨Int.emod_nonneg _ (by omega), Int.emod_lt_of_pos _ h⟩
theorem mod_fit {a n : Int} (h : 0 < n) (hn : n < 2 ^ 64) : -(2 ^ 64) < a % n ∧ a % n < 2 ^ 64 := by
  have := @emod_lt a n h
  omega
/-- what drawn parts of settings keep -/
structure PartsOk (ls : List Int) (room fo re ev ke : Int) : Prop where
  l1 : 1 ≤ ls.length
  l6 : ls.length ≤ 6
  all : ∀ l ∈ ls, 1 ≤ l ∧ l ≤ room
  r1 : 1 ≤ room
  r64 : room ≤ 64
  fo : 2 ≤ fo ∧ fo ≤ 8
  re : 1 ≤ re ∧ re ≤ 16
  ev : 1 ≤ ev ∧ ev ≤ 40
  ke : 1 ≤ ke ∧ ke ≤ 100
/-- the bounds of the j-th further part -/
def Bd (j : Nat) (v : Int) : Prop := match j with
  | 0 => 2 ≤ v ∧ v ≤ 8
  | 1 => 1 ≤ v ∧ v ≤ 16
  | 2 => 1 ≤ v ∧ v ≤ 40
  | _ => 1 ≤ v ∧ v ≤ 100
/-- what a list of lengths keeps -/
structure LensOk (ls : List Int) (sz : Int) : Prop where
  l1 : 1 ≤ ls.length
  l6 : ls.length ≤ 6
  all : ∀ l ∈ ls, 1 ≤ l ∧ l ≤ sz
  r64 : sz ≤ 64
/-- what settings keep -/
structure SetOk (ls : List Int) (sz fo re ev ke : Int) : Prop extends LensOk ls sz where
  fo : 2 ≤ fo ∧ fo ≤ 8
  re : 1 ≤ re ∧ re ≤ 16
  ev : 1 ≤ ev ∧ ev ≤ 40
  ke : 1 ≤ ke ∧ ke ≤ 100
theorem PartsOk.set {ls : List Int} {room fo re ev ke : Int} (p : PartsOk ls room fo re ev ke) : SetOk ls room fo re ev ke := ⟨⟨p.l1, p.l6, p.all, p.r64⟩, p.fo, p.re, p.ev, p.ke⟩
/-- the attributes of Settings, in the order in which they are stored -/
def setF (t : Addr) (sz fo re ev ke : Int) : List (Str × V) := [("lengths", .ref t), ("size", .int sz), ("fanout", .int fo), ("records", .int re), ("every", .int ev), ("keep", .int ke)]
/-- Settings at a -/
def SetAt (K : PySem.W.Frag) (H : Hp) (a : Addr) (ls : List Int) (sz fo re ev ke : Int) : Prop := ∃ dx t, H a = some (.ins (He.ga K "Settings") dx (setF t sz fo re ev ke)) ∧ H t = some (.tup (ls.map V.int))
theorem SetAt.same {K : PySem.W.Frag} {H H' : Hp} {a : Addr} {ls : List Int} {sz fo re ev ke : Int} (h : SetAt K H a ls sz fo re ev ke) (s : Same H H') : SetAt K H' a ls sz fo re ev ke := by
  obtain ⟨dx, t, h1, h2⟩ := h
  exact ⟨dx, t, s _ _ h1, s _ _ h2⟩
theorem SetAt.dr {K : PySem.W.Frag} {H H' : Hp} {b a : Addr} {ls : List Int} {sz fo re ev ke : Int} (h : SetAt K H a ls sz fo re ev ke) (hs : Src H b) (s : Dr b H H') : SetAt K H' a ls sz fo re ev ke := by
  obtain ⟨dx, t, h1, h2⟩ := h
  exact ⟨dx, t, s.old _ _ (hs.ne_ins h1) h1, s.old _ _ (hs.ne_tup h2) h2⟩
/-- the list of the bounds of the other parts at L -/
def Bnds (H : Hp) (L : Addr) (m : Int) : Prop := ∃ t1 t2 t3 t4 t5 : Addr, H L = some (.lst [.ref t1, .ref t2, .ref t3, .ref t4, .ref t5]) ∧ H t1 = some (.tup [.str "size", .int m, .int 64]) ∧ H t2 = some (.tup [.str "fanout", .int 2, .int 8]) ∧
  H t3 = some (.tup [.str "records", .int 1, .int 16]) ∧ H t4 = some (.tup [.str "every", .int 1, .int 40]) ∧ H t5 = some (.tup [.str "keep", .int 1, .int 100])
/-- the further parts by their names -/
def givD (v1 v2 v3 v4 v5 : V) : List (Key × V) := [(.inr "size", v1), (.inr "fanout", v2), (.inr "records", v3), (.inr "every", v4), (.inr "keep", v5)]
open KrT
/-- how a number is written -/
def wr (i : Int) : Str := Str.ofString (toString i)
theorem wr_nd : ((List.range 101).map fun n : Nat => wr (n : Int)).Nodup := by decide +kernel
theorem wr_inj {a b : Int} (a0 : 0 ≤ a) (a1 : a ≤ 100) (b0 : 0 ≤ b) (b1 : b ≤ 100) (e : wr a = wr b) : a = b := by
  have p := List.nodup_iff_pairwise_ne.mp wr_nd
  rw [List.pairwise_map, List.pairwise_iff_getElem] at p
  have la : a.toNat < (List.range 101).length := by rw [List.length_range]; omega
  have lb : b.toNat < (List.range 101).length := by rw [List.length_range]; omega
  have ea : ((a.toNat : Nat) : Int) = a := by omega
  have eb : ((b.toNat : Nat) : Int) = b := by omega
  rcases Nat.lt_trichotomy a.toNat b.toNat with z | z | z
  · have := p a.toNat b.toNat la lb z
    rw [List.getElem_range, List.getElem_range, ea, eb] at this
    exact absurd e this
  · omega
  · have := p b.toNat a.toNat lb la z
    rw [List.getElem_range, List.getElem_range, ea, eb] at this
    exact absurd e.symm this
theorem wr_log {i : Int} (h0 : 0 ≤ i) (h : i ≤ 100) : i.natAbs.log2 < 1920 := by
  rcases Nat.eq_zero_or_pos i.natAbs with z | z
  · rw [z]
    decide
  · exact (Nat.log2_lt (by omega)).mpr (Nat.lt_of_lt_of_le (show i.natAbs < 2 ^ 200 by omega) (Nat.pow_le_pow_right (n := 2) (i := 200) (j := 1920) (by decide) (by decide)))
theorem cut_one (x : V) (xs : List V) : cutV (x :: xs) (some 1) none = xs := by
  show ((x :: xs).drop (HT.sIx (x :: xs).length 0 (some ((1 : Nat) : Int)))).take ((x :: xs).length - HT.sIx (x :: xs).length 0 (some ((1 : Nat) : Int))) = _
  rw [HT.sIx_nat, Nat.min_eq_left (by simp)]
  simp
theorem non_in : ∀ ls : List Int, inV .non (ls.map V.int) = false
  | [] => rfl
  | l :: ls => by
    have ih := non_in ls
    unfold inV at ih ⊢
    rw [List.map_cons, List.any_cons, ih]
    rfl
theorem wr_le {i : Int} (h0 : 0 ≤ i) (h : i ≤ 100) : (wr i).length ≤ 3 := by
  have all : ((List.range 101).all fun n : Nat => decide ((wr (n : Int)).length ≤ 3)) = true := by decide +kernel
  have := List.all_eq_true.mp all i.toNat (List.mem_range.mpr (by omega))
  rw [show ((i.toNat : Nat) : Int) = i by omega] at this
  exact of_decide_eq_true this
theorem sum_wr : ∀ {ls : List Int}, (∀ l ∈ ls, 1 ≤ l ∧ l ≤ 64) → ((ls.map wr).map (·.length)).sum ≤ 3 * ls.length
  | [], _ => by simp
  | l :: ls, h => by
    have ih := sum_wr (ls := ls) fun x hx => h x (List.mem_cons_of_mem _ hx)
    obtain ⟨h1, h2⟩ := h l List.mem_cons_self
    have := wr_le (i := l) (by omega) (by omega)
    rw [List.map_cons, List.map_cons, List.sum_cons, List.length_cons]
    omega
theorem lc_tupS {K : PySem.W.Frag} {g : TG} {tt : TT} {te : TE} {vs : List Nat} {σ : L2.St} {H1 : Hp} {D : Addr} {Qd : Hp → Prop} {a : Addr} {xs : List V} (σ' : L2.St) (hσ : wipe σ vs = σ') (Pv : Nat → Hp → Prop) (h0 : Pv 0 (upd H1 D (.lst []))) (hl : ∀ i H, i ≤ xs.length → Pv i H → SqT K H a xs)
    (hs : ∀ i x H, xs[i]? = some x → Pv i H → g x σ' H fun σ2 H2 => wipe σ2 vs = σ' ∧ tt σ2 H2 fun b H3 =>
      if b = true then te σ2 H3 fun y H4 => ∃ acc, H4 D = some (.lst acc) ∧ acc.length < sizeLine ∧ Pv (i + 1) (upd H4 D (.lst (acc ++ [y]))) else Pv (i + 1) H3) (hd : ∀ H, Pv xs.length H → Qd H) :
    ∃ W : Nat → Nat → Hp → Prop, (∃ m, W 0 m (upd H1 D (.lst []))) ∧ ∀ i m H, W i m H →
      ((Itt K a).stop i H ∧ Qd H) ∨ ((Itt K a).go i H ∧ ∃ Nx : Hp → Prop, (∀ H', Nx H' → ∃ m', m' < m ∧ W (i + 1) m' H') ∧ ∀ x H', (Itt K a).yld i H x H' → g x (wipe σ vs) H' fun σ2 H2 => wipe σ2 vs = wipe σ vs ∧ tt σ2 H2 fun b H3 =>
        if b = true then te σ2 H3 fun y H4 => ∃ acc, H4 D = some (.lst acc) ∧ acc.length < sizeLine ∧ Nx (upd H4 D (.lst (acc ++ [y]))) else Nx H3) := by
  subst hσ
  exact lc_tup Pv h0 hl hs hd
theorem sjoin_le (y : Str) : ∀ ps : List Str, (Str.join y ps).length ≤ (ps.map (·.length)).sum + ps.length * y.length
  | [] => by show (Str.empty).length ≤ _; exact Nat.zero_le _
  | [x] => by show x.length ≤ _; simp
  | x :: z :: r => by
    have ih := sjoin_le y (z :: r)
    show (x ++ y ++ Str.join y (z :: r)).length ≤ _
    rw [strLen_append, strLen_append]
    rw [List.map_cons, List.sum_cons, List.length_cons, Nat.add_mul, Nat.one_mul]
    omega
theorem join_le (y : Str) (ps : List Str) : (Txt.join y ps).length ≤ (ps.map (·.length)).sum + ps.length * y.length := by
  rw [TL.join_eq]
  exact sjoin_le y ps
/-- the lines of settings -/
def lnS (ls : List Int) (sz fo re ev ke : Int) : List Str := [("lengths " : Str) ++ Txt.join " " (ls.map wr), ("size " : Str) ++ wr sz, ("fanout " : Str) ++ wr fo, ("records " : Str) ++ wr re, ("every " : Str) ++ wr ev, ("keep " : Str) ++ wr ke]
def txS (ls : List Int) (sz fo re ev ke : Int) : Str := Txt.join "\n" (lnS ls sz fo re ev ke) ++ "\n"
/-- settings that are written -/
structure TxOk (ls : List Int) (sz fo re ev ke : Int) : Prop where
  l1 : 1 ≤ ls.length
  l6 : ls.length ≤ 6
  r : ∀ l ∈ ls, 1 ≤ l ∧ l ≤ 64
  sz : 0 ≤ sz ∧ sz ≤ 64
  fo : 0 ≤ fo ∧ fo ≤ 8
  re : 0 ≤ re ∧ re ≤ 16
  ev : 0 ≤ ev ∧ ev ≤ 40
  ke : 0 ≤ ke ∧ ke ≤ 100
theorem lnS_le {ls : List Int} {sz fo re ev ke : Int} (ok : TxOk ls sz fo re ev ke) : ((lnS ls sz fo re ev ke).map (·.length)).sum + (lnS ls sz fo re ev ke).length * 1 ≤ 200 := by
  have jl := join_le " " (ls.map wr)
  rw [List.length_map, show (" " : Str).length = 1 by decide +kernel] at jl
  have sm := sum_wr ok.r
  have l6 := ok.l6
  have w1 := wr_le (i := sz) ok.sz.1 (by have := ok.sz.2; omega)
  have w2 := wr_le (i := fo) ok.fo.1 (by have := ok.fo.2; omega)
  have w3 := wr_le (i := re) ok.re.1 (by have := ok.re.2; omega)
  have w4 := wr_le (i := ev) ok.ev.1 (by have := ok.ev.2; omega)
  have w5 := wr_le (i := ke) ok.ke.1 (by have := ok.ke.2; omega)
  have n1 : ("lengths " : Str).length = 8 := by decide +kernel
  have n2 : ("size " : Str).length = 5 := by decide +kernel
  have n3 : ("fanout " : Str).length = 7 := by decide +kernel
  have n4 : ("records " : Str).length = 8 := by decide +kernel
  have n5 : ("every " : Str).length = 6 := by decide +kernel
  have n6 : ("keep " : Str).length = 5 := by decide +kernel
  unfold lnS
  simp only [List.map_cons, List.map_nil, List.sum_cons, List.sum_nil, List.length_cons, List.length_nil, strLen_append]
  omega
/-- the parts behind the lengths -/
def prt : List Str := ["size", "fanout", "records", "every", "keep"]
def pvl (sz fo re ev ke : Int) : List Int := [sz, fo, re, ev, ke]
theorem prt_ok : (prt.all fun p => (List.range 101).all fun n : Nat => Txt.startswith (p ++ " " ++ wr (n : Int)) (p ++ " ") && decide (cutS (p ++ " " ++ wr (n : Int)) (some ((p.length : Int) + 1)) none = wr (n : Int))) = true := by decide +kernel
theorem prt_at {p : Str} {n : Int} (hp : p ∈ prt) (h0 : 0 ≤ n) (h1 : n ≤ 100) : Txt.startswith (p ++ " " ++ wr n) (p ++ " ") = true ∧ cutS (p ++ " " ++ wr n) (some ((p.length : Int) + 1)) none = wr n := by
  have h := List.all_eq_true.mp (List.all_eq_true.mp prt_ok p hp) n.toNat (List.mem_range.mpr (by omega))
  rw [show ((n.toNat : Nat) : Int) = n by omega] at h
  obtain ⟨a, b⟩ := Bool.and_eq_true_iff.mp h
  exact ⟨a, of_decide_eq_true b⟩
theorem prt_le {p : Str} {n : Int} (hp : p ∈ prt) (h0 : 0 ≤ n) (h1 : n ≤ 100) : p.length ≤ 20 ∧ (p ++ " " ++ wr n).length ≤ 1000 := by
  have h : (prt.all fun p => decide (p.length ≤ 7)) = true := by decide +kernel
  have h7 := of_decide_eq_true (List.all_eq_true.mp h p hp)
  have w := wr_le h0 h1
  rw [strLen_append, strLen_append, show (" " : Str).length = 1 by decide +kernel]
  exact ⟨by omega, by omega⟩
theorem ln_at {ls : List Int} {sz fo re ev ke : Int} : lnS ls sz fo re ev ke ++ [("" : Str)] = [("lengths " : Str) ++ Txt.join " " (ls.map wr), ("size" : Str) ++ " " ++ wr sz, ("fanout" : Str) ++ " " ++ wr fo, ("records" : Str) ++ " " ++ wr re, ("every" : Str) ++ " " ++ wr ev, ("keep" : Str) ++ " " ++ wr ke, ("" : Str)] := by
  unfold lnS
  rw [show ("size " : Str) = ("size" : Str) ++ " " by decide +kernel, show ("fanout " : Str) = ("fanout" : Str) ++ " " by decide +kernel, show ("records " : Str) = ("records" : Str) ++ " " by decide +kernel, show ("every " : Str) = ("every" : Str) ++ " " by decide +kernel, show ("keep " : Str) = ("keep" : Str) ++ " " by decide +kernel]
  rfl
theorem str_end (x : Str) : x ++ ("" : Str) = x := TL.ext_tl (by rw [TL.tl_append, show TL.tl ("" : Str) = [] by decide +kernel, List.append_nil])
theorem str_as (x y z : Str) : x ++ y ++ z = x ++ (y ++ z) := TL.ext_tl (by simp only [TL.tl_append, List.append_assoc])
theorem str_cancel {x y z : Str} (e : x ++ y = x ++ z) : y = z := TL.ext_tl (List.append_cancel_left (as := TL.tl x) (by rw [← TL.tl_append, e, TL.tl_append]))
theorem join_end (y : Str) : ∀ (x : Str) (ps : List Str), Str.join y (x :: ps ++ [("" : Str)]) = Str.join y (x :: ps) ++ y
  | x, [] => by
    show x ++ y ++ ("" : Str) = x ++ y
    exact str_end _
  | x, z :: r => by
    have ih := join_end y z r
    show x ++ y ++ Str.join y (z :: r ++ [("" : Str)]) = x ++ y ++ Str.join y (z :: r) ++ y
    rw [ih, ← str_as]
theorem tl_join_mem {y : Str} {c : Nat} : ∀ {ps : List Str}, c ∈ TL.tl (Str.join y ps) → c ∈ TL.tl y ∨ ∃ p ∈ ps, c ∈ TL.tl p
  | [], h => absurd (show c ∈ ([] : List Nat) from h) (by simp)
  | [x], h => .inr ⟨x, List.mem_singleton_self _, h⟩
  | x :: z :: r, h => by
    have h : c ∈ TL.tl (x ++ y ++ Str.join y (z :: r)) := h
    rw [TL.tl_append, TL.tl_append] at h
    rcases List.mem_append.mp h with h | h
    · rcases List.mem_append.mp h with h | h
      · exact .inr ⟨x, List.mem_cons_self, h⟩
      · exact .inl h
    · rcases tl_join_mem h with h | ⟨p, hp, h⟩
      · exact .inl h
      · exact .inr ⟨p, List.mem_cons_of_mem _ hp, h⟩
theorem wr_sg {i : Int} {c : Nat} (h0 : 0 ≤ i) (h1 : i ≤ 100) (h : c ∈ TL.tl (wr i)) : 48 ≤ c ∧ c ≤ 57 := by
  have all : ((List.range 101).all fun n : Nat => (TL.tl (wr (n : Int))).all fun c => decide (48 ≤ c ∧ c ≤ 57)) = true := by decide +kernel
  have := List.all_eq_true.mp all i.toNat (List.mem_range.mpr (by omega))
  rw [show ((i.toNat : Nat) : Int) = i by omega] at this
  exact of_decide_eq_true (List.all_eq_true.mp this c h)
theorem map_wr_inj : ∀ {ls ls2 : List Int}, (∀ l ∈ ls, 1 ≤ l ∧ l ≤ 64) → (∀ l ∈ ls2, 1 ≤ l ∧ l ≤ 64) → ls.map wr = ls2.map wr → ls = ls2
  | [], [], _, _, _ => rfl
  | [], _ :: _, _, _, h => by simp at h
  | _ :: _, [], _, _, h => by simp at h
  | x :: l, y :: m, h1, h2, h => by
    rw [List.map_cons, List.map_cons] at h
    injection h with e1 e2
    obtain ⟨a1, a2⟩ := h1 x List.mem_cons_self
    obtain ⟨b1, b2⟩ := h2 y List.mem_cons_self
    rw [wr_inj (by omega) (by omega) (by omega) (by omega) e1, map_wr_inj (fun z hz => h1 z (List.mem_cons_of_mem _ hz)) (fun z hz => h2 z (List.mem_cons_of_mem _ hz)) e2]
section
variable {ls ls2 : List Int} {sz fo re ev ke sz2 fo2 re2 ev2 ke2 : Int}
theorem wr_nl {i : Int} {w : Str} (h0 : 0 ≤ i) (h1 : i ≤ 100) (hw : 10 ∉ TL.tl w) : 10 ∉ TL.tl (w ++ wr i) := fun h => by
  rw [TL.tl_append] at h
  rcases List.mem_append.mp h with h | h
  · exact hw h
  · have := wr_sg h0 h1 h
    omega
theorem lnS_nl (ok : TxOk ls sz fo re ev ke) : ∀ p ∈ lnS ls sz fo re ev ke ++ [("" : Str)], 10 ∉ TL.tl p := by
  intro p hp
  obtain ⟨z1, z2⟩ := ok.sz
  obtain ⟨f1, f2⟩ := ok.fo
  obtain ⟨c1, c2⟩ := ok.re
  obtain ⟨v1, v2⟩ := ok.ev
  obtain ⟨k1, k2⟩ := ok.ke
  unfold lnS at hp
  simp only [List.cons_append, List.nil_append, List.mem_cons, List.not_mem_nil, or_false] at hp
  rcases hp with rfl | rfl | rfl | rfl | rfl | rfl | rfl
  · rw [TL.tl_append]
    intro h
    rcases List.mem_append.mp h with h | h
    · exact absurd h (by decide +kernel)
    · rw [TL.join_eq] at h
      rcases tl_join_mem h with h | ⟨p, hp, h⟩
      · exact absurd h (by decide +kernel)
      · obtain ⟨l, hl, rfl⟩ := List.mem_map.mp hp
        have r := ok.r l hl
        have := wr_sg (by omega) (by omega) h
        omega
  · exact wr_nl (by omega) (by omega) (by decide +kernel)
  · exact wr_nl (by omega) (by omega) (by decide +kernel)
  · exact wr_nl (by omega) (by omega) (by decide +kernel)
  · exact wr_nl (by omega) (by omega) (by decide +kernel)
  · exact wr_nl (by omega) (by omega) (by decide +kernel)
  · decide +kernel
theorem tx_split (ok : TxOk ls sz fo re ev ke) : Txt.split (txS ls sz fo re ev ke) "\n" = lnS ls sz fo re ev ke ++ [("" : Str)] := by
  have e : txS ls sz fo re ev ke = Txt.join "\n" (lnS ls sz fo re ev ke ++ [("" : Str)]) := by
    unfold txS
    rw [TL.join_eq, TL.join_eq]
    exact (join_end "\n" _ _).symm
  rw [e]
  exact TL.split_join (s := 10) (S := []) (by decide +kernel) (by decide +kernel) (by simp) (lnS_nl ok)
theorem ln_split (l1 : 1 ≤ ls.length) (hr : ∀ l ∈ ls, 1 ≤ l ∧ l ≤ 64) : Txt.split (("lengths " : Str) ++ Txt.join " " (ls.map wr)) " " = ("lengths" : Str) :: ls.map wr := by
  have e : ("lengths " : Str) ++ Txt.join " " (ls.map wr) = Txt.join " " (("lengths" : Str) :: ls.map wr) := by
    rw [TL.join_eq, TL.join_eq]
    cases ls with
    | nil => simp at l1
    | cons x r =>
      show _ = ("lengths" : Str) ++ " " ++ Str.join " " (wr x :: r.map wr)
      rw [show ("lengths" : Str) ++ " " = "lengths " by decide +kernel]
      rfl
  rw [e]
  refine TL.split_join (s := 32) (S := []) (by decide +kernel) (by decide +kernel) (by simp) fun p hp => ?_
  rcases List.mem_cons.mp hp with rfl | hp
  · decide +kernel
  · obtain ⟨l, hl, rfl⟩ := List.mem_map.mp hp
    have r := hr l hl
    intro h
    have := wr_sg (by omega) (by omega) h
    omega
theorem tx_inj (ok : TxOk ls sz fo re ev ke) (ok2 : TxOk ls2 sz2 fo2 re2 ev2 ke2) (e : txS ls sz fo re ev ke = txS ls2 sz2 fo2 re2 ev2 ke2) : ls = ls2 ∧ sz = sz2 ∧ fo = fo2 ∧ re = re2 ∧ ev = ev2 ∧ ke = ke2 := by
  have h := tx_split ok
  rw [e, tx_split ok2] at h
  have h := List.append_cancel_right h
  unfold lnS at h
  injection h with h0 h
  injection h with h1 h
  injection h with h2 h
  injection h with h3 h
  injection h with h4 h
  injection h with h5 h
  obtain ⟨z1, z2⟩ := ok.sz
  obtain ⟨f1, f2⟩ := ok.fo
  obtain ⟨c1, c2⟩ := ok.re
  obtain ⟨v1, v2⟩ := ok.ev
  obtain ⟨k1, k2⟩ := ok.ke
  obtain ⟨y1, y2⟩ := ok2.sz
  obtain ⟨g1, g2⟩ := ok2.fo
  obtain ⟨d1, d2⟩ := ok2.re
  obtain ⟨w1, w2⟩ := ok2.ev
  obtain ⟨j1, j2⟩ := ok2.ke
  have s0 := ln_split ok.l1 ok.r
  rw [← h0, ln_split ok2.l1 ok2.r] at s0
  injection s0 with _ s0
  refine ⟨(map_wr_inj ok2.r ok.r s0).symm, ?_, ?_, ?_, ?_, ?_⟩
  · exact (wr_inj (by omega) (by omega) (by omega) (by omega) (str_cancel h1)).symm
  · exact (wr_inj (by omega) (by omega) (by omega) (by omega) (str_cancel h2)).symm
  · exact (wr_inj (by omega) (by omega) (by omega) (by omega) (str_cancel h3)).symm
  · exact (wr_inj (by omega) (by omega) (by omega) (by omega) (str_cancel h4)).symm
  · exact (wr_inj (by omega) (by omega) (by omega) (by omega) (str_cancel h5)).symm
theorem law_join : Txt.join ("" : Str) ((lnS ls sz fo re ev ke).map (· ++ ("\n" : Str))) = txS ls sz fo re ev ke := by
  unfold txS
  rw [TL.join_eq, TL.join_eq]
  refine TL.ext_tl ?_
  rw [TL.tl_append, TL.tl_join, TL.tl_join, show TL.tl ("" : Str) = [] by decide +kernel]
  unfold lnS
  simp only [List.map_cons, List.map_nil, TL.joinL, TL.tl_append, List.append_assoc, List.nil_append]
theorem _root_.Kw.SetOk.tx (ok : SetOk ls sz fo re ev ke) : TxOk ls sz fo re ev ke := by
  obtain ⟨f1, f2⟩ := ok.fo
  obtain ⟨c1, c2⟩ := ok.re
  obtain ⟨v1, v2⟩ := ok.ev
  obtain ⟨k1, k2⟩ := ok.ke
  have r := ok.r64
  have sz1 : 1 ≤ sz := by
    have l1 := ok.l1
    cases ls with
    | nil => simp at l1
    | cons x t => have := ok.all x List.mem_cons_self; omega
  exact ⟨ok.l1, ok.l6, fun l hl => ⟨(ok.all l hl).1, by have := (ok.all l hl).2; omega⟩, ⟨by omega, r⟩, ⟨by omega, f2⟩, ⟨by omega, c2⟩, ⟨by omega, v2⟩, ⟨by omega, k2⟩⟩
end
def prW : List Str := ["size ", "fanout ", "records ", "every ", "keep "]
theorem prW_le (p : Str) (h : p ∈ prW) : p.length ≤ 8 := of_decide_eq_true (List.all_eq_true.mp (show (prW.all fun p => decide (p.length ≤ 8)) = true by decide +kernel) p h)
theorem pvl_le {ls : List Int} {sz fo re ev ke : Int} (ok : TxOk ls sz fo re ev ke) (b : Int) (h : b ∈ pvl sz fo re ev ke) : 0 ≤ b ∧ b ≤ 100 := by
  obtain ⟨z1, z2⟩ := ok.sz
  obtain ⟨f1, f2⟩ := ok.fo
  obtain ⟨c1, c2⟩ := ok.re
  obtain ⟨v1, v2⟩ := ok.ev
  obtain ⟨k1, k2⟩ := ok.ke
  unfold pvl at h
  simp only [List.mem_cons, List.not_mem_nil, or_false] at h
  rcases h with rfl | rfl | rfl | rfl | rfl <;> omega
theorem sum_nl : ∀ ps : List Str, ((ps.map (· ++ ("\n" : Str))).map (·.length)).sum = (ps.map (·.length)).sum + ps.length
  | [] => rfl
  | x :: r => by
    have ih := sum_nl r
    rw [List.map_cons, List.map_cons, List.map_cons, List.sum_cons, List.sum_cons, List.length_cons, strLen_append, show ("\n" : Str).length = 1 by decide +kernel]
    omega
theorem mem_le_sum : ∀ {ps : List Str} {p : Str}, p ∈ ps → p.length ≤ (ps.map (·.length)).sum
  | x :: r, p, h => by
    rw [List.map_cons, List.sum_cons]
    rcases List.mem_cons.mp h with rfl | h
    · omega
    · have := mem_le_sum h
      omega
theorem ln_len {ls : List Int} {sz fo re ev ke : Int} (ok : TxOk ls sz fo re ev ke) {p : Str} (h : p ∈ lnS ls sz fo re ev ke) : p.length ≤ 200 := by
  have := lnS_le ok
  have := mem_le_sum h
  omega
/-- what raising InvalidText for line n asks -/
def RaiT (K : PySem.W.Frag) (H : Hp) (E : XK) (n : Int) : Prop := ∀ d H', Same H H' → H d = none → H' d = some (.xd [("line", .int n)]) → E (.ref (He.ga K "InvalidText")) (some d) H'
/-- the number from a on, of i of them, that is written so -/
def numF (s : Str) (a : Int) : Nat → Option Int
  | 0 => none
  | i + 1 => if s = wr (a + i) then some (a + i) else numF s a i
def oV (o : Option Int) : V := (o.map V.int).getD .non
def valIn (L p : Str) (a b : Int) : Option Int := if Txt.startswith L (p ++ " ") = true then numF (cutS L (some ((p.length : Int) + 1)) none) a (b + 1 - a).toNat else none
/-- all are numbers -/
def allS : List (Option Int) → Option (List Int)
  | [] => some []
  | none :: _ => none
  | some x :: r => (allS r).map (x :: ·)
def lenIn (L : Str) : Option (List Int) := match Txt.split L " " with
  | [] => none
  | w :: ws => if w = "lengths" ∧ 1 ≤ ws.length ∧ ws.length ≤ 6 then allS (ws.map fun s => numF s 1 64) else none
theorem oV_flat (o : Option Int) : flatV (oV o) = true := by cases o <;> rfl
theorem allS_in : ∀ os : List (Option Int), inV .non (os.map oV) = (allS os).isNone
  | [] => rfl
  | none :: r => rfl
  | some x :: r => by
    have ih := allS_in r
    unfold inV at ih ⊢
    rw [List.map_cons, List.any_cons, ih]
    show (eqV (oV (some x)) V.non || (allS r).isNone) = ((allS r).map (x :: ·)).isNone
    cases allS r <;> rfl
theorem allS_map : ∀ {os : List (Option Int)} {ls : List Int}, allS os = some ls → os.map oV = ls.map V.int ∧ os = ls.map some
  | [], ls, h => by
    cases h
    exact ⟨rfl, rfl⟩
  | none :: r, ls, h => by cases h
  | some x :: r, ls, h => by
    unfold allS at h
    obtain ⟨l, hl, rfl⟩ := Option.map_eq_some_iff.mp h
    obtain ⟨h1, h2⟩ := allS_map hl
    exact ⟨by rw [List.map_cons, h1]; rfl, by rw [h2]; rfl⟩
theorem spl_ne {S : List Nat} : ∀ {l : List Nat} {k : Nat} {acc : List Nat}, TL.spl S k acc l ≠ []
  | [], k, acc => by unfold TL.spl; simp
  | c :: r, 0, acc => by
    unfold TL.spl
    split
    · simp
    · exact spl_ne
  | c :: r, k + 1, acc => by
    unfold TL.spl
    exact spl_ne
theorem split_ne (x y : Str) (hy : TL.tl y ≠ []) (hk : y.cps.all (· < 256) = true) : Txt.split x y ≠ [] := fun e => by
  have h := TL.split_spl x y hy (TL.kind_ok hk)
  rw [e] at h
  exact spl_ne h.symm
theorem spl_le {S : List Nat} : ∀ {l : List Nat} {k : Nat} {acc p : List Nat}, p ∈ TL.spl S k acc l → p.length ≤ acc.length + l.length
  | [], k, acc, p, h => by
    unfold TL.spl at h
    rw [List.mem_singleton.mp h]
    simp
  | c :: r, 0, acc, p, h => by
    unfold TL.spl at h
    rw [List.length_cons]
    split at h
    · rcases List.mem_cons.mp h with rfl | h
      · omega
      · have := spl_le h
        simp at this
        omega
    · have := spl_le h
      rw [List.length_append] at this
      simp at this
      omega
  | c :: r, k + 1, acc, p, h => by
    unfold TL.spl at h
    have := spl_le h
    rw [List.length_cons]
    omega
theorem split_le {x p : Str} (h : p ∈ Txt.split x "\n") : p.length ≤ x.length := by
  have e := TL.split_spl x "\n" (by decide +kernel) (TL.kind_ok (by decide +kernel))
  have h2 : TL.tl p ∈ (Txt.split x "\n").map TL.tl := List.mem_map_of_mem h
  rw [e] at h2
  have := spl_le h2
  rw [TL.len_tl, TL.len_tl]
  simpa using this
/-- the parts behind the lengths with their bounds; m: the greatest length -/
def parB (m : Int) : Nat → Str × Int × Int
  | 0 => ("size", m, 64)
  | 1 => ("fanout", 2, 8)
  | 2 => ("records", 1, 16)
  | 3 => ("every", 1, 40)
  | _ => ("keep", 1, 100)
/-- the value of part k in these lines -/
def rdV (lines : List Str) (m : Int) (k : Nat) : Option Int := if k + 1 < lines.length - 1 then valIn (lines.getD (k + 1) "") (parB m k).1 (parB m k).2.1 (parB m k).2.2 else none
/-- what reading these lines comes to -/
def RdC (lines : List Str) (bad : Nat → Prop) (good : List Int → Int → Int → Int → Int → Int → Prop) : Prop :=
  ((lines.length ≤ 1 ∨ lenIn (lines.headD "") = none) ∧ bad 0) ∨
  ∃ (ls : List Int) (m : Int), 2 ≤ lines.length ∧ lenIn (lines.headD "") = some ls ∧ m ∈ ls ∧ (∀ y ∈ ls, y ≤ m) ∧
    ((∃ k, k < 5 ∧ (∀ j, j < k → ∃ v, rdV lines m j = some v) ∧ rdV lines m k = none ∧ bad (k + 1)) ∨
     ∃ sz fo re ev ke : Int, rdV lines m 0 = some sz ∧ rdV lines m 1 = some fo ∧ rdV lines m 2 = some re ∧ rdV lines m 3 = some ev ∧ rdV lines m 4 = some ke ∧
      (((lines.length ≠ 7 ∨ lines.getD 6 "" ≠ "") ∧ bad 6) ∨ (lines.length = 7 ∧ lines.getD 6 "" = "" ∧ good ls sz fo re ev ke)))
theorem numF_some {s : Str} {a : Int} : ∀ {i : Nat} {n : Int}, numF s a i = some n → s = wr n ∧ a ≤ n ∧ n < a + i
  | 0, n, h => by cases h
  | i + 1, n, h => by
    unfold numF at h
    split at h
    · rename_i z
      cases h
      exact ⟨z, by omega, by omega⟩
    · obtain ⟨h1, h2, h3⟩ := numF_some h
      exact ⟨h1, h2, by omega⟩
theorem numF_wr {n a : Int} (a0 : 0 ≤ a) : ∀ {i : Nat}, a ≤ n → n < a + i → a + i ≤ 101 → numF (wr n) a i = some n
  | 0, h1, h2, _ => by omega
  | i + 1, h1, h2, h3 => by
    unfold numF
    by_cases z : wr n = wr (a + i)
    · rw [if_pos z, wr_inj (by omega) (by omega) (by omega) (by omega) z]
    · rw [if_neg z]
      have : n ≠ a + i := fun e => z (by rw [e])
      exact numF_wr a0 h1 (by omega) (by omega)
theorem numF_none {s : Str} {a : Int} {i : Nat} (h : ∀ n, a ≤ n → n < a + i → s ≠ wr n) : numF s a i = none := by
  cases e : numF s a i with
  | none => rfl
  | some n =>
    obtain ⟨h1, h2, h3⟩ := numF_some e
    exact absurd h1 (h n h2 h3)
theorem numF_long {s : Str} {a : Int} {i : Nat} (a0 : 0 ≤ a) (h3 : a + i ≤ 101) (h : 3 < s.length) : numF s a i = none := numF_none fun n h1 h2 e => by
  have := wr_le (i := n) (by omega) (by omega)
  rw [← e] at this
  omega
theorem numF_narrow {s : Str} {a b : Int} {i j : Nat} (h : numF s a i = none) (a0 : 0 ≤ a) (ai : a + i ≤ 101) (h1 : a ≤ b) (h2 : b + j ≤ a + i) : numF s b j = none := numF_none fun n h3 h4 e => by
  rw [e, numF_wr a0 (by omega) (by omega) ai] at h
  cases h
theorem allS_length : ∀ {os : List (Option Int)} {ls : List Int}, allS os = some ls → ls.length = os.length
  | os, ls, h => by
    have := (allS_map h).2
    rw [this, List.length_map]
theorem allS_len {L : Str} {ls : List Int} (h : lenIn L = some ls) : 1 ≤ ls.length ∧ ls.length ≤ 6 := by
  unfold lenIn at h
  split at h
  · cases h
  · split at h
    · rename_i z
      have := allS_length h
      rw [List.length_map] at this
      omega
    · cases h
theorem lenIn_all {L : Str} {ls : List Int} (h : lenIn L = some ls) : ∀ l ∈ ls, 1 ≤ l ∧ l ≤ 64 := by
  unfold lenIn at h
  split at h
  · cases h
  · split at h
    · intro l hl
      have e := (allS_map h).2
      have : some l ∈ ls.map some := List.mem_map_of_mem hl
      rw [← e] at this
      obtain ⟨s, -, hs⟩ := List.mem_map.mp this
      obtain ⟨-, h1, h2⟩ := numF_some hs
      exact ⟨h1, by omega⟩
    · cases h
theorem rdV_len {lines : List Str} {m v : Int} {k : Nat} (h : rdV lines m k = some v) : k + 3 ≤ lines.length := by
  unfold rdV at h
  split at h
  · omega
  · cases h
theorem rdV_bd {lines : List Str} {m v : Int} {k : Nat} (h : rdV lines m k = some v) (h0 : 0 ≤ (parB m k).2.1) (h1 : (parB m k).2.1 ≤ (parB m k).2.2 + 1) : (parB m k).2.1 ≤ v ∧ v ≤ (parB m k).2.2 := by
  unfold rdV valIn at h
  split at h
  · split at h
    · obtain ⟨-, h2, h3⟩ := numF_some h
      exact ⟨h2, by omega⟩
    · cases h
  · cases h
theorem RdC.mono {lines : List Str} {b b' : Nat → Prop} {g g' : List Int → Int → Int → Int → Int → Int → Prop} (h : RdC lines b g) (hb : ∀ n, b n → b' n) (hg : ∀ ls sz fo re ev ke, g ls sz fo re ev ke → g' ls sz fo re ev ke) : RdC lines b' g' := by
  rcases h with ⟨h1, h2⟩ | ⟨ls, m, h1, h2, h3, h4, h⟩
  · exact .inl ⟨h1, hb _ h2⟩
  · refine .inr ⟨ls, m, h1, h2, h3, h4, ?_⟩
    rcases h with ⟨k, k5, ka, kn, h⟩ | ⟨sz, fo, re, ev, ke, g0, g1, g2, g3, g4, h⟩
    · exact .inl ⟨k, k5, ka, kn, hb _ h⟩
    · refine .inr ⟨sz, fo, re, ev, ke, g0, g1, g2, g3, g4, ?_⟩
      rcases h with ⟨c, h⟩ | ⟨c1, c2, h⟩
      · exact .inl ⟨c, hb _ h⟩
      · exact .inr ⟨c1, c2, hg _ _ _ _ _ _ h⟩
section
variable {ls : List Int} {sz fo re ev ke m : Int} {bad : Nat → Prop} {good : List Int → Int → Int → Int → Int → Int → Prop}
theorem allS_wr : ∀ {ls : List Int}, (∀ l ∈ ls, 1 ≤ l ∧ l ≤ 64) → allS ((ls.map wr).map fun s => numF s 1 64) = some ls
  | [], _ => rfl
  | l :: r, h => by
    have ih := allS_wr (ls := r) fun x hx => h x (List.mem_cons_of_mem _ hx)
    obtain ⟨h1, h2⟩ := h l List.mem_cons_self
    rw [List.map_cons, List.map_cons, numF_wr (by decide) h1 (by show l < 1 + 64; omega) (by decide)]
    unfold allS
    rw [ih]
    rfl
theorem lenIn_ls (l1 : 1 ≤ ls.length) (l6 : ls.length ≤ 6) (h : ∀ l ∈ ls, 1 ≤ l ∧ l ≤ 64) : lenIn (("lengths " : Str) ++ Txt.join " " (ls.map wr)) = some ls := by
  unfold lenIn
  rw [ln_split l1 h]
  show (if ("lengths" : Str) = "lengths" ∧ 1 ≤ (ls.map wr).length ∧ (ls.map wr).length ≤ 6 then allS ((ls.map wr).map fun s => numF s 1 64) else none) = some ls
  rw [List.length_map, if_pos ⟨rfl, l1, l6⟩, allS_wr h]
/-- the values of the parts -/
def pvI (sz fo re ev ke : Int) : Nat → Int
  | 0 => sz
  | 1 => fo
  | 2 => re
  | 3 => ev
  | _ => ke
/-- settings with the greatest of their lengths -/
structure SM (ls : List Int) (sz fo re ev ke m : Int) : Prop where
  ok : SetOk ls sz fo re ev ke
  mem : m ∈ ls
  mx : ∀ y ∈ ls, y ≤ m
theorem SM.bd (h : SM ls sz fo re ev ke m) : 1 ≤ m ∧ m ≤ sz ∧ sz ≤ 64 := by
  have := h.ok.all m h.mem
  have := h.ok.r64
  omega
theorem val_ok {p : Str} {v lo hi : Int} (hp : p ∈ prt) (l0 : 0 ≤ lo) (h1 : lo ≤ v) (h2 : v ≤ hi) (h9 : hi ≤ 100) : valIn (p ++ " " ++ wr v) p lo hi = some v := by
  obtain ⟨a, b⟩ := prt_at (n := v) hp (by omega) (by omega)
  unfold valIn
  rw [if_pos a, b]
  exact numF_wr l0 h1 (by omega) (by omega)
theorem ln_val (h : SM ls sz fo re ev ke m) {j : Nat} (hj : j < 5) : valIn ((lnS ls sz fo re ev ke ++ [("" : Str)]).getD (j + 1) "") (parB m j).1 (parB m j).2.1 (parB m j).2.2 = some (pvI sz fo re ev ke j) := by
  obtain ⟨f1, f2⟩ := h.ok.fo
  obtain ⟨c1, c2⟩ := h.ok.re
  obtain ⟨v1, v2⟩ := h.ok.ev
  obtain ⟨k1, k2⟩ := h.ok.ke
  obtain ⟨m1, m2, m3⟩ := h.bd
  rw [ln_at]
  rcases (show j = 0 ∨ j = 1 ∨ j = 2 ∨ j = 3 ∨ j = 4 by omega) with rfl | rfl | rfl | rfl | rfl
  · exact val_ok (p := "size") (lo := m) (hi := 64) (by decide +kernel) (by omega) m2 m3 (by decide)
  · exact val_ok (p := "fanout") (lo := 2) (hi := 8) (by decide +kernel) (by decide) f1 f2 (by decide)
  · exact val_ok (p := "records") (lo := 1) (hi := 16) (by decide +kernel) (by decide) c1 c2 (by decide)
  · exact val_ok (p := "every") (lo := 1) (hi := 40) (by decide +kernel) (by decide) v1 v2 (by decide)
  · exact val_ok (p := "keep") (lo := 1) (hi := 100) (by decide +kernel) (by decide) k1 k2 (by decide)
theorem take_getD {W V : List Str} {k i : Nat} (h : W.take k = V.take k) (hi : i < k) : W.getD i "" = V.getD i "" := by
  have e : (W.take k)[i]? = (V.take k)[i]? := by rw [h]
  rw [List.getElem?_take_of_lt hi, List.getElem?_take_of_lt hi] at e
  rw [List.getD_eq_getElem?_getD, List.getD_eq_getElem?_getD, e]
theorem rd_val (h : SM ls sz fo re ev ke m) {W : List Str} {k j : Nat} (hj : j < 5) (hk : j + 1 < k) (hl : j + 3 ≤ W.length) (hp : W.take k = (lnS ls sz fo re ev ke ++ [("" : Str)]).take k) : rdV W m j = some (pvI sz fo re ev ke j) := by
  unfold rdV
  rw [if_pos (by omega), take_getD hp hk]
  exact ln_val h hj
theorem head_ok (h : SM ls sz fo re ev ke m) {W : List Str} {k : Nat} (hk : 1 ≤ k) (hp : W.take k = (lnS ls sz fo re ev ke ++ [("" : Str)]).take k) : lenIn (W.headD "") = some ls := by
  have e := take_getD hp (show 0 < k by omega)
  have e2 : W.headD "" = W.getD 0 "" := by cases W <;> rfl
  rw [e2, e]
  have ok := h.ok.tx
  exact lenIn_ls ok.l1 ok.l6 ok.r
theorem rd_0 {W : List Str} (h : W.length ≤ 1 ∨ lenIn (W.headD "") = none) (hb : bad 0) : RdC W bad good := .inl ⟨h, hb⟩
theorem rd_at (h : SM ls sz fo re ev ke m) {W : List Str} {k : Nat} (k1 : 1 ≤ k) (k5 : k ≤ 5) (hl : k + 1 ≤ W.length) (hp : W.take k = (lnS ls sz fo re ev ke ++ [("" : Str)]).take k)
    (hv : k + 1 < W.length → valIn (W.getD k "") (parB m (k - 1)).1 (parB m (k - 1)).2.1 (parB m (k - 1)).2.2 = none) (hb : bad k) : RdC W bad good := by
  refine .inr ⟨ls, m, by omega, head_ok h k1 hp, h.mem, h.mx, .inl ⟨k - 1, by omega, fun j hj => ⟨_, rd_val h (by omega) (by omega) (by omega) hp⟩, ?_, by rw [Nat.sub_add_cancel k1]; exact hb⟩⟩
  unfold rdV
  rw [Nat.sub_add_cancel k1]
  split
  · exact hv (by omega)
  · rfl
theorem rd_6 (h : SM ls sz fo re ev ke m) {W : List Str} (hl : 7 ≤ W.length) (hp : W.take 6 = (lnS ls sz fo re ev ke ++ [("" : Str)]).take 6) (hq : W.length ≠ 7 ∨ W.getD 6 "" ≠ "") (hb : bad 6) : RdC W bad good :=
  .inr ⟨ls, m, by omega, head_ok h (by decide) hp, h.mem, h.mx, .inr ⟨_, _, _, _, _, rd_val h (j := 0) (by decide) (by decide) (by omega) hp, rd_val h (j := 1) (by decide) (by decide) (by omega) hp, rd_val h (j := 2) (by decide) (by decide) (by omega) hp, rd_val h (j := 3) (by decide) (by decide) (by omega) hp, rd_val h (j := 4) (by decide) (by decide) (by omega) hp, .inl ⟨hq, hb⟩⟩⟩
theorem rd_ok (h : SM ls sz fo re ev ke m) (hg : good ls sz fo re ev ke) : RdC (lnS ls sz fo re ev ke ++ [("" : Str)]) bad good :=
  .inr ⟨ls, m, by show 2 ≤ 7; decide, head_ok h (k := 6) (by decide) rfl, h.mem, h.mx, .inr ⟨_, _, _, _, _, rd_val h (k := 7) (j := 0) (by decide) (by decide) (by show 3 ≤ 7; decide) rfl, rd_val h (k := 7) (j := 1) (by decide) (by decide) (by show 4 ≤ 7; decide) rfl, rd_val h (k := 7) (j := 2) (by decide) (by decide) (by show 5 ≤ 7; decide) rfl, rd_val h (k := 7) (j := 3) (by decide) (by decide) (by show 6 ≤ 7; decide) rfl, rd_val h (k := 7) (j := 4) (by decide) (by decide) (by show 7 ≤ 7; decide) rfl, .inr ⟨rfl, rfl, hg⟩⟩⟩
/-! the lines of a text -/
theorem split_nl {parts : List Str} (ne : parts ≠ []) (h : ∀ p ∈ parts, 10 ∉ TL.tl p) : Txt.split (Txt.join "\n" parts) "\n" = parts := TL.split_join (s := 10) (S := []) (by decide +kernel) (by decide +kernel) ne h
theorem join_endT (y x : Str) (ps : List Str) : Txt.join y (x :: ps ++ [("" : Str)]) = Txt.join y (x :: ps) ++ y := by
  rw [TL.join_eq, TL.join_eq]
  exact join_end y x ps
end
theorem max_ex2 : ∀ ls : List Int, ls ≠ [] → ∃ m ∈ ls, ∀ y ∈ ls, y ≤ m
  | [], h => absurd rfl h
  | [x], _ => ⟨x, by simp, by simp⟩
  | x :: y :: r, _ => by
    obtain ⟨m, h1, h2⟩ := max_ex2 (y :: r) (by simp)
    by_cases h : m ≤ x
    · refine ⟨x, by simp, fun z hz => ?_⟩
      rcases List.mem_cons.mp hz with e | e
      · omega
      · have := h2 z e
        omega
    · refine ⟨m, by simp only [List.mem_cons] at h1 ⊢; exact .inr h1, fun z hz => ?_⟩
      rcases List.mem_cons.mp hz with e | e
      · omega
      · exact h2 z e
theorem cut_take (xs : List V) (k : Nat) : cutV xs none (some (k : Int)) = xs.take k := by
  show ((xs.drop 0).take (HT.sIx xs.length xs.length (some (k : Int)) - 0)) = _
  rw [HT.sIx_nat, List.drop_zero, Nat.sub_zero]
  exact (List.take_eq_take_min ..).symm
theorem cut_drop (xs : List V) (k : Nat) : cutV xs (some (k : Int)) none = xs.drop k := by
  show ((xs.drop (HT.sIx xs.length 0 (some (k : Int)))).take (xs.length - HT.sIx xs.length 0 (some (k : Int)))) = _
  rw [HT.sIx_nat]
  rcases Nat.le_total k xs.length with z | z
  · rw [Nat.min_eq_left z, List.take_of_length_le (by rw [List.length_drop]; exact Nat.le_refl _)]
  · rw [Nat.min_eq_right z, List.drop_of_length_le z, List.drop_of_length_le (Nat.le_refl _), List.take_nil]
theorem sum_len {B : Nat} : ∀ {ps : List Str}, (∀ p ∈ ps, p.length ≤ B) → (ps.map (·.length)).sum ≤ ps.length * B
  | [], _ => by simp
  | x :: r, h => by
    have ih := sum_len (ps := r) fun p hp => h p (List.mem_cons_of_mem _ hp)
    have := h x List.mem_cons_self
    rw [List.map_cons, List.sum_cons, List.length_cons, Nat.add_mul]
    omega
theorem txS_len {ls : List Int} {sz fo re ev ke : Int} (ok : TxOk ls sz fo re ev ke) : (txS ls sz fo re ev ke).length ≤ 300 := by
  have ll := lnS_le ok
  have jl2 := join_le "\n" (lnS ls sz fo re ev ke)
  have one : ("\n" : Str).length = 1 := by decide +kernel
  rw [one] at jl2
  unfold txS
  rw [strLen_append, one]
  omega
/-- words of up to three digits -/
theorem dig1 : ((List.range 10).all fun a => match PySem.intText? ⟨#[48 + a]⟩ with | some n => decide (0 ≤ n ∧ n ≤ 999) | none => false) = true := by decide +kernel
theorem dig2 : ((List.range 10).all fun a => (List.range 10).all fun b => match PySem.intText? ⟨#[48 + a, 48 + b]⟩ with | some n => decide (0 ≤ n ∧ n ≤ 999) | none => false) = true := by decide +kernel
theorem dig3 : ((List.range 10).all fun a => (List.range 10).all fun b => (List.range 10).all fun c => match PySem.intText? ⟨#[48 + a, 48 + b, 48 + c]⟩ with | some n => decide (0 ≤ n ∧ n ≤ 999) | none => false) = true := by decide +kernel
theorem wr_int : ((List.range 1000).all fun n : Nat => decide (PySem.intText? (wr (n : Int)) = some (n : Int)) && ((TL.tl (wr (n : Int))).all fun c => decide (48 ≤ c ∧ c ≤ 57)) && decide (1 ≤ (wr (n : Int)).length ∧ (wr (n : Int)).length ≤ 3)) = true := by decide +kernel
theorem wr_back {n : Int} (h0 : 0 ≤ n) (h1 : n ≤ 999) : PySem.intText? (wr n) = some n ∧ (∀ c ∈ TL.tl (wr n), 48 ≤ c ∧ c ≤ 57) ∧ 1 ≤ (wr n).length ∧ (wr n).length ≤ 3 := by
  have h := List.all_eq_true.mp wr_int n.toNat (List.mem_range.mpr (by omega))
  rw [show ((n.toNat : Nat) : Int) = n by omega] at h
  obtain ⟨h, h3⟩ := Bool.and_eq_true_iff.mp h
  obtain ⟨h1, h2⟩ := Bool.and_eq_true_iff.mp h
  exact ⟨of_decide_eq_true h1, fun c hc => of_decide_eq_true (List.all_eq_true.mp h2 c hc), of_decide_eq_true h3⟩
theorem dig_int {w : Str} (h1 : 1 ≤ w.length) (h3 : w.length ≤ 3) (hd : ∀ c ∈ TL.tl w, 48 ≤ c ∧ c ≤ 57) : ∃ n : Int, PySem.intText? w = some n ∧ 0 ≤ n ∧ n ≤ 999 := by
  have key : ∀ l : List Nat, l = TL.tl w → ∃ n : Int, PySem.intText? w = some n ∧ 0 ≤ n ∧ n ≤ 999 := by
    intro l hl
    have hw : w = ⟨l.toArray⟩ := by rw [hl, TL.mk_tl]
    have len : l.length = w.length := by rw [hl, TL.len_tl]
    rw [← hl] at hd
    have fin : ∀ {x : Str}, (match PySem.intText? x with | some n => decide (0 ≤ n ∧ n ≤ 999) | none => false) = true → ∃ n : Int, PySem.intText? x = some n ∧ 0 ≤ n ∧ n ≤ 999 := by
      intro x hx
      cases e : PySem.intText? x with
      | none => rw [e] at hx; cases hx
      | some n => rw [e] at hx; exact ⟨n, rfl, of_decide_eq_true hx⟩
    have dg : ∀ c ∈ l, ∃ a, a < 10 ∧ c = 48 + a := fun c hc => ⟨c - 48, by have := hd c hc; omega, by have := hd c hc; omega⟩
    rw [hw]
    rcases l with _ | ⟨a, _ | ⟨b, _ | ⟨c, _ | ⟨d, r⟩⟩⟩⟩
    · simp at len; omega
    · obtain ⟨a', la, rfl⟩ := dg a (by simp)
      exact fin (List.all_eq_true.mp dig1 a' (List.mem_range.mpr la))
    · obtain ⟨a', la, rfl⟩ := dg a (by simp)
      obtain ⟨b', lb, rfl⟩ := dg b (by simp)
      exact fin (List.all_eq_true.mp (List.all_eq_true.mp dig2 a' (List.mem_range.mpr la)) b' (List.mem_range.mpr lb))
    · obtain ⟨a', la, rfl⟩ := dg a (by simp)
      obtain ⟨b', lb, rfl⟩ := dg b (by simp)
      obtain ⟨c', lc, rfl⟩ := dg c (by simp)
      exact fin (List.all_eq_true.mp (List.all_eq_true.mp (List.all_eq_true.mp dig3 a' (List.mem_range.mpr la)) b' (List.mem_range.mpr lb)) c' (List.mem_range.mpr lc))
    · rw [List.length_cons, List.length_cons, List.length_cons, List.length_cons] at len; omega
  exact key _ rfl
theorem dig_tab : ((List.range 128).all fun c => decide (c ∈ ("0123456789" : Str).cps.toList) == decide (48 ≤ c ∧ c ≤ 57)) = true := by decide +kernel
theorem wr_log9 {i : Int} (h0 : 0 ≤ i) (h : i ≤ 999) : i.natAbs.log2 < 1920 := by
  rcases Nat.eq_zero_or_pos i.natAbs with z | z
  · rw [z]
    decide
  · exact (Nat.log2_lt (by omega)).mpr (Nat.lt_of_lt_of_le (show i.natAbs < 2 ^ 200 by omega) (Nat.pow_le_pow_right (n := 2) (i := 200) (j := 1920) (by decide) (by decide)))
/-! reading as a function -/
def maxL : List Int → Int
  | [] => 0
  | [x] => x
  | x :: y :: r => if maxL (y :: r) ≤ x then x else maxL (y :: r)
theorem maxL_ok : ∀ {ls : List Int}, ls ≠ [] → maxL ls ∈ ls ∧ ∀ y ∈ ls, y ≤ maxL ls
  | [], h => absurd rfl h
  | [x], _ => ⟨by simp [maxL], by simp [maxL]⟩
  | x :: y :: r, _ => by
    obtain ⟨h1, h2⟩ := maxL_ok (ls := y :: r) (by simp)
    unfold maxL
    split
    · rename_i h
      refine ⟨by simp, fun z hz => ?_⟩
      rcases List.mem_cons.mp hz with e | e
      · omega
      · have := h2 z e
        omega
    · rename_i h
      refine ⟨List.mem_cons_of_mem _ h1, fun z hz => ?_⟩
      rcases List.mem_cons.mp hz with e | e
      · omega
      · exact h2 z e
theorem maxL_eq {ls : List Int} {m : Int} (h : m ∈ ls) (hm : ∀ y ∈ ls, y ≤ m) : maxL ls = m := by
  obtain ⟨h1, h2⟩ := maxL_ok (ls := ls) (by rintro rfl; simp at h)
  have := hm _ h1
  have := h2 _ h
  omega
def due1 (lines : List Str) : Option Nat := if lines.length ≤ 1 then some 0 else match lenIn (lines.headD "") with
  | none => some 0
  | some ls => match (List.range 5).find? (fun k => (rdV lines (maxL ls) k).isNone) with
    | some k => some (k + 1)
    | none => if lines.length ≠ 7 ∨ lines.getD 6 "" ≠ "" then some 6 else none
section
variable {lines : List Str} {ls : List Int}
theorem due_0 (h : lines.length ≤ 1 ∨ lenIn (lines.headD "") = none) : due1 lines = some 0 := by
  unfold due1
  split
  · rfl
  · rename_i z
    rcases h with h | h
    · exact absurd h z
    · rw [h]
theorem find_at {p : Nat → Bool} {k : Nat} (k5 : k < 5) (hk : p k = true) (hl : ∀ j, j < k → p j = false) : (List.range 5).find? p = some k := by
  rw [show List.range 5 = [0, 1, 2, 3, 4] from rfl]
  rcases (show k = 0 ∨ k = 1 ∨ k = 2 ∨ k = 3 ∨ k = 4 by omega) with rfl | rfl | rfl | rfl | rfl
  · simp [hk]
  · simp [hk, hl 0 (by decide)]
  · simp [hk, hl 0 (by decide), hl 1 (by decide)]
  · simp [hk, hl 0 (by decide), hl 1 (by decide), hl 2 (by decide)]
  · simp [hk, hl 0 (by decide), hl 1 (by decide), hl 2 (by decide), hl 3 (by decide)]
theorem due_k (h1 : 2 ≤ lines.length) (hl : lenIn (lines.headD "") = some ls) {k : Nat} (k5 : k < 5) (ha : ∀ j, j < k → ∃ v, rdV lines (maxL ls) j = some v) (hk : rdV lines (maxL ls) k = none) : due1 lines = some (k + 1) := by
  unfold due1
  rw [if_neg (by omega), hl]
  show (match (List.range 5).find? (fun k => (rdV lines (maxL ls) k).isNone) with
    | some k => some (k + 1)
    | none => if lines.length ≠ 7 ∨ lines.getD 6 "" ≠ "" then some 6 else none) = _
  rw [find_at k5 (by rw [hk]; rfl) fun j hj => by obtain ⟨v, e⟩ := ha j hj; rw [e]; rfl]
theorem due_end (h1 : 2 ≤ lines.length) (hl : lenIn (lines.headD "") = some ls) (ha : ∀ j, j < 5 → ∃ v, rdV lines (maxL ls) j = some v) : due1 lines = if lines.length ≠ 7 ∨ lines.getD 6 "" ≠ "" then some 6 else none := by
  unfold due1
  rw [if_neg (by omega), hl]
  show (match (List.range 5).find? (fun k => (rdV lines (maxL ls) k).isNone) with
    | some k => some (k + 1)
    | none => if lines.length ≠ 7 ∨ lines.getD 6 "" ≠ "" then some 6 else none) = _
  have e : (List.range 5).find? (fun k => (rdV lines (maxL ls) k).isNone) = none := by
    rw [List.find?_eq_none]
    intro j hj
    obtain ⟨v, e⟩ := ha j (List.mem_range.mp hj)
    rw [e]
    exact fun z => (by cases z)
  rw [e]
theorem least5 (P : Nat → Prop) : (∃ k, k < 5 ∧ P k ∧ ∀ j, j < k → ¬ P j) ∨ ∀ j, j < 5 → ¬ P j := by
  by_cases h0 : P 0
  · exact .inl ⟨0, by decide, h0, fun j hj => by omega⟩
  by_cases h1 : P 1
  · exact .inl ⟨1, by decide, h1, fun j hj => by rw [show j = 0 by omega]; exact h0⟩
  by_cases h2 : P 2
  · exact .inl ⟨2, by decide, h2, fun j hj => by rcases (show j = 0 ∨ j = 1 by omega) with rfl | rfl <;> assumption⟩
  by_cases h3 : P 3
  · exact .inl ⟨3, by decide, h3, fun j hj => by rcases (show j = 0 ∨ j = 1 ∨ j = 2 by omega) with rfl | rfl | rfl <;> assumption⟩
  by_cases h4 : P 4
  · exact .inl ⟨4, by decide, h4, fun j hj => by rcases (show j = 0 ∨ j = 1 ∨ j = 2 ∨ j = 3 by omega) with rfl | rfl | rfl | rfl <;> assumption⟩
  exact .inr fun j hj => by rcases (show j = 0 ∨ j = 1 ∨ j = 2 ∨ j = 3 ∨ j = 4 by omega) with rfl | rfl | rfl | rfl | rfl <;> assumption
/-- what reading comes to, told by this function -/
theorem rd_due (hne : lines ≠ []) : RdC lines (fun n => due1 lines = some n) (fun l sz fo re ev ke => due1 lines = none ∧ lenIn (lines.headD "") = some l ∧ lines.length = 7 ∧ lines.getD 6 "" = "" ∧ rdV lines (maxL l) 0 = some sz ∧ rdV lines (maxL l) 1 = some fo ∧ rdV lines (maxL l) 2 = some re ∧ rdV lines (maxL l) 3 = some ev ∧ rdV lines (maxL l) 4 = some ke) := by
  by_cases h1 : lines.length ≤ 1
  · exact .inl ⟨.inl h1, due_0 (.inl h1)⟩
  · cases hl : lenIn (lines.headD "") with
    | none => exact .inl ⟨.inr hl, due_0 (.inr hl)⟩
    | some l =>
      obtain ⟨l1, l2⟩ := allS_len hl
      obtain ⟨m1, m2⟩ := maxL_ok (ls := l) (by rintro rfl; simp at l1)
      refine .inr ⟨l, maxL l, by omega, hl, m1, m2, ?_⟩
      rcases least5 (fun k => rdV lines (maxL l) k = none) with ⟨k, hm, hn, hb⟩ | ha
      · have hb : ∀ j, j < k → ∃ v, rdV lines (maxL l) j = some v := fun j hj => Option.ne_none_iff_exists'.mp (hb j hj)
        exact .inl ⟨k, hm, hb, hn, due_k (by omega) hl hm hb hn⟩
      · have ha : ∀ j, j < 5 → ∃ v, rdV lines (maxL l) j = some v := fun j hj => Option.ne_none_iff_exists'.mp (ha j hj)
        obtain ⟨sz, g0⟩ := ha 0 (by decide)
        obtain ⟨fo, g1⟩ := ha 1 (by decide)
        obtain ⟨re, g2⟩ := ha 2 (by decide)
        obtain ⟨ev, g3⟩ := ha 3 (by decide)
        obtain ⟨ke, g4⟩ := ha 4 (by decide)
        have de := due_end (by omega) hl ha
        refine .inr ⟨sz, fo, re, ev, ke, g0, g1, g2, g3, g4, ?_⟩
        by_cases c : lines.length ≠ 7 ∨ lines.getD 6 "" ≠ ""
        · exact .inl ⟨c, by rw [de, if_pos c]⟩
        · rw [if_neg c] at de
          have c1 : lines.length = 7 := Classical.byContradiction fun z => c (.inl z)
          have c2 : lines.getD 6 "" = "" := Classical.byContradiction fun z => c (.inr z)
          exact .inr ⟨c1, c2, de, rfl, c1, c2, g0, g1, g2, g3, g4⟩
end
/-! words of a line, lines of a text -/
theorem joinL_spl {s : Nat} : ∀ {l acc : List Nat}, TL.joinL [s] (TL.spl [s] 0 acc l) = acc ++ l
  | [], acc => by
    unfold TL.spl
    show acc = acc ++ []
    rw [List.append_nil]
  | c :: r, acc => by
    unfold TL.spl
    split
    · rename_i z
      have cs : c = s := by
        unfold TL.pre at z
        simpa using z
      have ih := joinL_spl (s := s) (l := r) (acc := [])
      have ne := spl_ne (S := [s]) (l := r) (k := 0) (acc := [])
      show TL.joinL [s] (acc :: TL.spl [s] 0 [] r) = _
      revert ih ne
      generalize TL.spl [s] 0 [] r = Z
      cases Z with
      | nil => exact fun _ ne => absurd rfl ne
      | cons a b =>
        intro ih _
        show acc ++ ([s] ++ TL.joinL [s] (a :: b)) = _
        rw [ih, cs]
        simp
    · rw [joinL_spl]
      simp
theorem join_split {y : Str} {s : Nat} (ey : TL.tl y = [s]) (hk : y.cps.all (· < 256) = true) (x : Str) : Txt.join y (Txt.split x y) = x := by
  refine TL.ext_tl ?_
  rw [TL.join_eq, TL.tl_join, TL.split_spl _ _ (by rw [ey]; simp) (TL.kind_ok hk), ey, joinL_spl, List.nil_append]
theorem starts_cut {L y : Str} (h : Txt.startswith L y = true) : L = y ++ cutS L (some (y.length : Int)) none := by
  have h2 : PySem.Builtin.Str.subAt L y 0 = true := by
    unfold Txt.startswith at h
    exact (Bool.and_eq_true_iff.mp h).2
  rw [PySem.StrLaws.subAt_eq, List.drop_zero] at h2
  have e : (TL.tl L).take y.length = TL.tl y := eq_of_beq h2
  refine TL.ext_tl ?_
  rw [TL.tl_append]
  have c : TL.tl (cutS L (some (y.length : Int)) none) = (TL.tl L).drop y.length := by
    show ((L.cps.toList.drop (HT.sIx L.length 0 (some (y.length : Int)))).take (L.length - HT.sIx L.length 0 (some (y.length : Int)))) = _
    rw [HT.sIx_nat]
    have le : y.length ≤ L.length := by
      have := congrArg List.length e
      rw [List.length_take, ← TL.len_tl, ← TL.len_tl] at this
      omega
    rw [Nat.min_eq_left le, List.take_of_length_le (by rw [List.length_drop, TL.len_tl]; exact Nat.le_refl _)]
  rw [c, ← e]
  exact (List.take_append_drop _ _).symm
theorem prt_sg : (prt.all fun p => !(TL.tl p).contains 32) = true := by decide +kernel
theorem prt_bl {p : Str} (h : p ∈ prt) : 32 ∉ TL.tl p := fun z => by
  have := List.all_eq_true.mp prt_sg p h
  rw [List.contains_iff_mem.mpr z] at this
  cases this
theorem val_split {L p : Str} {lo hi v : Int} (hp : p ∈ prt) (l0 : 0 ≤ lo) (h9 : hi ≤ 100) (h : valIn L p lo hi = some v) : L = p ++ " " ++ wr v ∧ Txt.split L " " = [p, wr v] ∧ lo ≤ v ∧ v ≤ hi := by
  unfold valIn at h
  split at h
  · rename_i z
    obtain ⟨h1, h2, h3⟩ := numF_some h
    have e := starts_cut z
    rw [strLen_append, show (" " : Str).length = 1 by decide +kernel, Int.natCast_add, show ((1 : Nat) : Int) = 1 from rfl, h1] at e
    refine ⟨e, ?_, h2, by omega⟩
    rw [e]
    have j : p ++ " " ++ wr v = Txt.join " " [p, wr v] := by rw [TL.join_eq]; rfl
    rw [j]
    refine TL.split_join (s := 32) (S := []) (by decide +kernel) (by decide +kernel) (by simp) fun q hq => ?_
    simp only [List.mem_cons, List.not_mem_nil, or_false] at hq
    rcases hq with rfl | rfl
    · exact prt_bl hp
    · intro z
      have := wr_sg (by omega) (by omega) z
      omega
  · cases h
theorem split_val {L p : Str} {lo hi v : Int} (hp : p ∈ prt) (l0 : 0 ≤ lo) (h9 : hi ≤ 100) (h : Txt.split L " " = [p, wr v]) (h1 : lo ≤ v) (h2 : v ≤ hi) : valIn L p lo hi = some v := by
  have e := join_split (y := " ") (s := 32) (by decide +kernel) (by decide +kernel) L
  rw [h, TL.join_eq] at e
  have e : p ++ " " ++ wr v = L := e
  rw [← e]
  exact val_ok hp l0 h1 h2 h9
/-- what _law_number tells of a word -/
def NumR (x : Str) (n : Int) : Prop := (0 ≤ n ∧ n ≤ 999 ∧ x = wr n) ∨ (n = -1 ∧ ∀ k : Int, 0 ≤ k → k ≤ 999 → x ≠ wr k)
theorem num_some {x : Str} {n lo hi : Int} (h : NumR x n) (l0 : 0 ≤ lo) (h9 : hi ≤ 100) (h1 : lo ≤ n) (h2 : n ≤ hi) : x = wr n ∧ numF x lo (hi + 1 - lo).toNat = some n := by
  rcases h with ⟨-, -, rfl⟩ | ⟨rfl, -⟩
  · exact ⟨rfl, numF_wr l0 h1 (by omega) (by omega)⟩
  · omega
theorem num_back {x : Str} {n v : Int} (h : NumR x n) (hv : x = wr v) (v0 : 0 ≤ v) (v9 : v ≤ 100) : n = v := by
  rcases h with ⟨n0, n9, e⟩ | ⟨-, h⟩
  · have a := (wr_back n0 n9).1
    have b := (wr_back v0 (by omega)).1
    rw [← e, hv, b] at a
    exact (Option.some.inj a).symm
  · exact absurd hv (h v v0 (by omega))
/-- the numbers of the words -/
structure Nums (ws : List Str) (ns : List Int) : Prop where
  len : ns.length = ws.length
  num : ∀ (i : Nat) x n, ws[i]? = some x → ns[i]? = some n → NumR x n
section
variable {L w0 p : Str} {ws : List Str} {ns : List Int} {lo hi : Int}
theorem allS_some : ∀ ls : List Int, allS (ls.map some) = some ls
  | [] => rfl
  | x :: r => by
    have ih := allS_some r
    rw [List.map_cons]
    unfold allS
    rw [ih]
    rfl
theorem len_pass (hs : Txt.split L " " = w0 :: ws) (hn : Nums ws ns) (h0 : w0 = "lengths") (h1 : 1 ≤ ws.length) (h6 : ws.length ≤ 6) (hr : ∀ n ∈ ns, 1 ≤ n ∧ n ≤ 64) : lenIn L = some ns := by
  unfold lenIn
  rw [hs]
  show (if w0 = "lengths" ∧ 1 ≤ ws.length ∧ ws.length ≤ 6 then allS (ws.map fun s => numF s 1 64) else none) = some ns
  rw [if_pos ⟨h0, h1, h6⟩]
  have e : (ws.map fun s => numF s 1 64) = ns.map some := by
    refine List.ext_getElem (by rw [List.length_map, List.length_map, hn.len]) fun i a b => ?_
    rw [List.length_map] at a b
    rw [List.getElem_map, List.getElem_map]
    have nr := hn.num i _ _ (List.getElem?_eq_getElem a) (List.getElem?_eq_getElem b)
    obtain ⟨n1, n2⟩ := hr _ (List.getElem_mem b)
    exact (num_some nr (by decide) (by decide) n1 n2).2
  rw [e, allS_some]
theorem len_fail (hs : Txt.split L " " = w0 :: ws) (hn : Nums ws ns) (h : ¬ (w0 = "lengths" ∧ 1 ≤ ws.length ∧ ws.length ≤ 6 ∧ ∀ n ∈ ns, 1 ≤ n ∧ n ≤ 64)) : lenIn L = none := by
  cases hl : lenIn L with
  | none => rfl
  | some ls =>
    exfalso
    unfold lenIn at hl
    rw [hs] at hl
    have hl : (if w0 = "lengths" ∧ 1 ≤ ws.length ∧ ws.length ≤ 6 then allS (ws.map fun s => numF s 1 64) else none) = some ls := hl
    split at hl
    · rename_i z
      refine h ⟨z.1, z.2.1, z.2.2, fun n hm => ?_⟩
      obtain ⟨i, hi, rfl⟩ := List.getElem_of_mem hm
      have hi' : i < ws.length := by rw [← hn.len]; exact hi
      have nr := hn.num i _ _ (List.getElem?_eq_getElem hi') (List.getElem?_eq_getElem hi)
      have e := (allS_map hl).2
      have e2 : (ws.map fun s => numF s 1 64)[i]? = (ls.map some)[i]? := by rw [e]
      rw [List.getElem?_map, List.getElem?_eq_getElem hi', List.getElem?_map] at e2
      cases hli : ls[i]? with
      | none => rw [hli] at e2; cases e2
      | some v =>
        rw [hli] at e2
        obtain ⟨a, b, c⟩ := numF_some (Option.some.inj e2)
        rw [num_back nr a (by omega) (by omega)]
        exact ⟨b, by omega⟩
    · cases hl
theorem val_pass {x : Str} {n : Int} (hp : p ∈ prt) (hs : Txt.split L " " = [p, x]) (hn : NumR x n) (l0 : 0 ≤ lo) (h9 : hi ≤ 100) (h1 : lo ≤ n) (h2 : n ≤ hi) : valIn L p lo hi = some n := by
  rw [(num_some hn l0 h9 h1 h2).1] at hs
  exact split_val hp l0 h9 hs h1 h2
theorem val_fail (hp : p ∈ prt) (hs : Txt.split L " " = w0 :: ws) (hn : Nums ws ns) (l0 : 0 ≤ lo) (h9 : hi ≤ 100) (h : ¬ (w0 = p ∧ ∃ n, ns = [n] ∧ lo ≤ n ∧ n ≤ hi)) : valIn L p lo hi = none := by
  cases hv : valIn L p lo hi with
  | none => rfl
  | some v =>
    exfalso
    obtain ⟨-, e, h1, h2⟩ := val_split hp l0 h9 hv
    rw [hs] at e
    injection e with e0 e1
    rw [e1] at hn
    have l1 := hn.len
    cases ns with
    | nil => simp at l1
    | cons n r =>
      cases r with
      | cons a b => simp at l1
      | nil =>
        have nr := hn.num 0 _ _ rfl rfl
        have := num_back nr rfl (by omega) (by omega)
        exact h ⟨e0, n, rfl, by omega, by omega⟩
end
def oN (o : Option Nat) : V := (o.map fun n : Nat => V.int (n : Int)).getD .non
def wdK : List Str := ["lengths", "size", "fanout", "records", "every", "keep"]
theorem spl_sub {s c : Nat} : ∀ {l acc p : List Nat}, p ∈ TL.spl [s] 0 acc l → c ∈ p → c ∈ acc ∨ c ∈ l
  | [], acc, p, h, hc => by
    unfold TL.spl at h
    rw [List.mem_singleton.mp h] at hc
    exact .inl hc
  | d :: r, acc, p, h, hc => by
    unfold TL.spl at h
    split at h
    · rcases List.mem_cons.mp h with rfl | h
      · exact .inl hc
      · rcases spl_sub h hc with z | z
        · simp at z
        · exact .inr (List.mem_cons_of_mem _ z)
    · rcases spl_sub h hc with z | z
      · rcases List.mem_append.mp z with z | z
        · exact .inl z
        · rw [List.mem_singleton.mp z]
          exact .inr List.mem_cons_self
      · exact .inr (List.mem_cons_of_mem _ z)
theorem split_sub {x y p : Str} {s c : Nat} (ey : TL.tl y = [s]) (hk : y.cps.all (· < 256) = true) (h : p ∈ Txt.split x y) (hc : c ∈ TL.tl p) : c ∈ TL.tl x := by
  have e := TL.split_spl x y (by rw [ey]; simp) (TL.kind_ok hk)
  have h2 : TL.tl p ∈ (Txt.split x y).map TL.tl := List.mem_map_of_mem h
  rw [e, ey] at h2
  rcases spl_sub h2 hc with z | z
  · simp at z
  · exact z
theorem split_leB {x p : Str} (h : p ∈ Txt.split x " ") : p.length ≤ x.length := by
  have e := TL.split_spl x " " (by decide +kernel) (TL.kind_ok (by decide +kernel))
  have h2 : TL.tl p ∈ (Txt.split x " ").map TL.tl := List.mem_map_of_mem h
  rw [e] at h2
  have := spl_le h2
  rw [TL.len_tl, TL.len_tl]
  simpa using this
theorem spl_cnt {s : Nat} : ∀ {l acc : List Nat}, (TL.spl [s] 0 acc l).length ≤ l.length + 1
  | [], acc => by
    unfold TL.spl
    simp
  | c :: r, acc => by
    unfold TL.spl
    split
    · have := spl_cnt (s := s) (l := r) (acc := [])
      show (acc :: TL.spl [s] 0 [] r).length ≤ _
      rw [List.length_cons, List.length_cons]
      omega
    · have := spl_cnt (s := s) (l := r) (acc := acc ++ [c])
      rw [List.length_cons]
      omega
theorem split_cnt {x y : Str} {s : Nat} (ey : TL.tl y = [s]) (hk : y.cps.all (· < 256) = true) : (Txt.split x y).length ≤ x.length + 1 := by
  have e := TL.split_spl x y (by rw [ey]; simp) (TL.kind_ok hk)
  have h := congrArg List.length e
  rw [List.length_map, ey] at h
  rw [h, TL.len_tl]
  exact spl_cnt
/-- how far reading has come before stage i -/
def Stg (sp : List Str) (i : Nat) (lo : Int) : Prop := i = 0 ∨ (2 ≤ sp.length ∧ ∃ ls, lenIn (sp.headD "") = some ls ∧ (i = 1 → lo = maxL ls) ∧ ∀ j, j + 1 < i → ∃ v, rdV sp (maxL ls) j = some v)
theorem stg_fail {sp : List Str} {i : Nat} {lo : Int} (st : Stg sp i lo) (i6 : i < 6) (h0 : i = 0 → sp.length ≤ 1 ∨ lenIn (sp.headD "") = none) (h1 : ∀ j ls, i = j + 1 → lenIn (sp.headD "") = some ls → (i = 1 → lo = maxL ls) → rdV sp (maxL ls) j = none) : due1 sp = some i := by
  rcases st with rfl | ⟨n2, ls, hl, hlo, ha⟩
  · exact due_0 (h0 rfl)
  · cases i with
    | zero => exact due_0 (h0 rfl)
    | succ j => exact due_k n2 hl (by omega) (fun k hk => ha k (by omega)) (h1 j ls rfl hl hlo)
theorem maxL_bd {L : Str} {ls : List Int} (h : lenIn L = some ls) : 1 ≤ maxL ls ∧ maxL ls ≤ 64 := by
  obtain ⟨l1, l2⟩ := allS_len h
  obtain ⟨m1, m2⟩ := maxL_ok (ls := ls) (by rintro rfl; simp at l1)
  exact lenIn_all h _ m1
theorem Nums.snoc {ws : List Str} {ns : List Int} {x : Str} {n : Int} (h : Nums ws ns) (hn : NumR x n) : Nums (ws ++ [x]) (ns ++ [n]) := by
  refine ⟨by rw [List.length_append, List.length_append, h.len]; rfl, fun i y k hy hk => ?_⟩
  rcases Nat.lt_or_ge i ws.length with z | z
  · rw [List.getElem?_append_left z] at hy
    rw [List.getElem?_append_left (by rw [h.len]; exact z)] at hk
    exact h.num i y k hy hk
  · rw [List.getElem?_append_right z] at hy
    rw [List.getElem?_append_right (by rw [h.len]; exact z)] at hk
    rw [h.len] at hk
    cases e : i - ws.length with
    | zero =>
      rw [e] at hy hk
      cases hy
      cases hk
      exact hn
    | succ m => rw [e] at hy; cases hy
theorem cut6 (xs : List V) : cutV xs (some 6) none = xs.drop 6 := cut_drop xs 6
theorem nums_wr {ws : List Str} {ls : List Int} (h : (ws.map fun s => numF s 1 64) = ls.map some) : ws = ls.map wr := by
  have l := congrArg List.length h
  rw [List.length_map, List.length_map] at l
  refine List.ext_getElem (by rw [List.length_map, l]) fun i a b => ?_
  rw [List.length_map] at b
  have e : (ws.map fun s => numF s 1 64)[i]? = (ls.map some)[i]? := by rw [h]
  rw [List.getElem?_map, List.getElem?_eq_getElem a, List.getElem?_map, List.getElem?_eq_getElem b] at e
  rw [List.getElem_map]
  exact (numF_some (Option.some.inj e)).1
theorem lenIn_eq {L : Str} {ls : List Int} (h : lenIn L = some ls) : L = ("lengths " : Str) ++ Txt.join " " (ls.map wr) := by
  have j := join_split (y := " ") (s := 32) (by decide +kernel) (by decide +kernel) L
  have l1 := (allS_len h).1
  unfold lenIn at h
  revert h j
  generalize Txt.split L " " = sp
  cases sp with
  | nil => exact fun h j => by cases h
  | cons w ws =>
    intro h j
    have h : (if w = "lengths" ∧ 1 ≤ ws.length ∧ ws.length ≤ 6 then allS (ws.map fun s => numF s 1 64) else none) = some ls := h
    split at h
    · rename_i z
      rw [← j, z.1, nums_wr (allS_map h).2]
      cases ls with
      | nil => simp at l1
      | cons x r =>
        rw [TL.join_eq, TL.join_eq]
        show ("lengths" : Str) ++ " " ++ Str.join " " (wr x :: r.map wr) = _
        rw [show ("lengths" : Str) ++ " " = "lengths " by decide +kernel]
        rfl
    · cases h
theorem rd_line {lines : List Str} {m v : Int} {k : Nat} (h : rdV lines m k = some v) (hp : (parB m k).1 ∈ prt) (l0 : 0 ≤ (parB m k).2.1) (h9 : (parB m k).2.2 ≤ 100) : lines.getD (k + 1) "" = (parB m k).1 ++ " " ++ wr v := by
  unfold rdV at h
  split at h
  · exact (val_split hp l0 h9 h).1
  · cases h
theorem tx_of {T : Str} {ls : List Int} {sz fo re ev ke : Int} (hl : lenIn ((Txt.split T "\n").headD "") = some ls) (l7 : (Txt.split T "\n").length = 7) (h6 : (Txt.split T "\n").getD 6 "" = "") (g0 : rdV (Txt.split T "\n") (maxL ls) 0 = some sz) (g1 : rdV (Txt.split T "\n") (maxL ls) 1 = some fo)
    (g2 : rdV (Txt.split T "\n") (maxL ls) 2 = some re) (g3 : rdV (Txt.split T "\n") (maxL ls) 3 = some ev) (g4 : rdV (Txt.split T "\n") (maxL ls) 4 = some ke) : T = txS ls sz fo re ev ke := by
  have j := join_split (y := "\n") (s := 10) (by decide +kernel) (by decide +kernel) T
  have mb := maxL_bd hl
  have e0 := lenIn_eq hl
  have e1 := rd_line g0 (by show ("size" : Str) ∈ prt; decide +kernel) (by show 0 ≤ maxL ls; omega) (by show (64 : Int) ≤ 100; decide)
  have e2 := rd_line g1 (by show ("fanout" : Str) ∈ prt; decide +kernel) (by show (0 : Int) ≤ 2; decide) (by show (8 : Int) ≤ 100; decide)
  have e3 := rd_line g2 (by show ("records" : Str) ∈ prt; decide +kernel) (by show (0 : Int) ≤ 1; decide) (by show (16 : Int) ≤ 100; decide)
  have e4 := rd_line g3 (by show ("every" : Str) ∈ prt; decide +kernel) (by show (0 : Int) ≤ 1; decide) (by show (40 : Int) ≤ 100; decide)
  have e5 := rd_line g4 (by show ("keep" : Str) ∈ prt; decide +kernel) (by show (0 : Int) ≤ 1; decide) (by show (100 : Int) ≤ 100; decide)
  clear g0 g1 g2 g3 g4 hl
  revert j l7 h6 e0 e1 e2 e3 e4 e5
  generalize Txt.split T "\n" = sp
  intro l7 h6 j e0 e1 e2 e3 e4 e5
  rcases sp with _ | ⟨a0, _ | ⟨a1, _ | ⟨a2, _ | ⟨a3, _ | ⟨a4, _ | ⟨a5, _ | ⟨a6, _ | ⟨a7, r⟩⟩⟩⟩⟩⟩⟩⟩
  all_goals first | (exfalso; simp at l7; done) | skip
  have h6 : a6 = "" := h6
  have e0 : a0 = ("lengths " : Str) ++ Txt.join " " (ls.map wr) := e0
  have e1 : a1 = ("size" : Str) ++ " " ++ wr sz := e1
  have e2 : a2 = ("fanout" : Str) ++ " " ++ wr fo := e2
  have e3 : a3 = ("records" : Str) ++ " " ++ wr re := e3
  have e4 : a4 = ("every" : Str) ++ " " ++ wr ev := e4
  have e5 : a5 = ("keep" : Str) ++ " " ++ wr ke := e5
  rw [← j, e0, e1, e2, e3, e4, e5, h6, ← ln_at]
  unfold txS
  exact join_endT _ _ _
/-! texts and lists of texts with bounds -/
def mu (ps : List Str) : Nat := (ps.map fun p => p.length + 1).sum
/-- a text of this length at most, its signs below 128 -/
structure St (B : Nat) (z : Str) : Prop where
  len : z.length ≤ B
  asc : ∀ c ∈ TL.tl z, c < 128
structure Ls (B : Nat) (ps : List Str) : Prop where
  mu : mu ps ≤ B
  asc : ∀ p ∈ ps, ∀ c ∈ TL.tl p, c < 128
theorem St.up {B B' : Nat} {z : Str} (h : St B z) (l : B ≤ B') : St B' z := ⟨Nat.le_trans h.len l, h.asc⟩
theorem Ls.up {B B' : Nat} {z : List Str} (h : Ls B z) (l : B ≤ B') : Ls B' z := ⟨Nat.le_trans h.mu l, h.asc⟩
theorem mu_app (a b : List Str) : mu (a ++ b) = mu a + mu b := by
  unfold mu
  rw [List.map_append, List.sum_append_nat]
theorem Ls.app {A B : Nat} {a b : List Str} (h : Ls A a) (g : Ls B b) : Ls (A + B) (a ++ b) := ⟨by rw [mu_app]; have := h.mu; have := g.mu; omega, fun p hp => by rcases List.mem_append.mp hp with z | z; exact h.asc p z; exact g.asc p z⟩
theorem Ls.take {B : Nat} {a : List Str} (h : Ls B a) (k : Nat) : Ls B (a.take k) := ⟨by
  have := mu_app (a.take k) (a.drop k)
  rw [List.take_append_drop] at this
  have := h.mu
  omega, fun p hp => h.asc p (List.mem_of_mem_take hp)⟩
theorem Ls.drop {B : Nat} {a : List Str} (h : Ls B a) (k : Nat) : Ls B (a.drop k) := ⟨by
  have := mu_app (a.take k) (a.drop k)
  rw [List.take_append_drop] at this
  have := h.mu
  omega, fun p hp => h.asc p (List.mem_of_mem_drop hp)⟩
theorem Ls.rev {B : Nat} {a : List Str} (h : Ls B a) : Ls B a.reverse := ⟨by
  have e : Kw.mu a.reverse = Kw.mu a := by
    unfold Kw.mu
    rw [List.map_reverse, List.sum_reverse]
  rw [e]
  exact h.mu, fun p hp => h.asc p (List.mem_reverse.mp hp)⟩
theorem Ls.one {B : Nat} {z : Str} (h : St B z) : Ls (B + 1) [z] := ⟨by unfold Kw.mu; simp; exact h.len, fun p hp => by rw [List.mem_singleton.mp hp]; exact h.asc⟩
theorem len_mu : ∀ ps : List Str, ps.length ≤ mu ps ∧ (ps.map (·.length)).sum + ps.length = mu ps
  | [] => ⟨Nat.le_refl _, rfl⟩
  | p :: r => by
    obtain ⟨h1, h2⟩ := len_mu r
    unfold mu at h1 h2 ⊢
    rw [List.map_cons, List.map_cons, List.sum_cons, List.sum_cons, List.length_cons]
    omega
theorem Ls.lens {B : Nat} {a : List Str} (h : Ls B a) : a.length ≤ B := Nat.le_trans (len_mu a).1 h.mu
theorem Ls.mem {B : Nat} {a : List Str} (h : Ls B a) {p : Str} (hp : p ∈ a) : St B p := ⟨by
  have := mem_le_sum hp
  have := (len_mu a).2
  have := h.mu
  omega, h.asc p hp⟩
theorem Ls.join {B : Nat} {a : List Str} {y : Str} (h : Ls B a) (hy : y.length = 1) (ay : ∀ c ∈ TL.tl y, c < 128) : St B (Txt.join y a) := ⟨by
  have := join_le y a
  have := (len_mu a).2
  have := h.mu
  rw [hy] at *
  omega, fun c hc => by
  rw [TL.join_eq] at hc
  rcases tl_join_mem hc with z | ⟨p, hp, z⟩
  · exact ay c z
  · exact h.asc p hp c z⟩
theorem spl_mu {s : Nat} : ∀ {l acc : List Nat}, ((TL.spl [s] 0 acc l).map fun p => p.length + 1).sum = acc.length + l.length + 1
  | [], acc => by
    unfold TL.spl
    simp
  | c :: r, acc => by
    unfold TL.spl
    split
    · have := spl_mu (s := s) (l := r) (acc := [])
      show ((acc :: TL.spl [s] 0 [] r).map fun p => p.length + 1).sum = _
      rw [List.map_cons, List.sum_cons, this, List.length_cons]
      simp
      omega
    · have := spl_mu (s := s) (l := r) (acc := acc ++ [c])
      rw [this, List.length_append, List.length_cons]
      simp
      omega
theorem split_ls {B : Nat} {x y : Str} {s : Nat} (h : St B x) (ey : TL.tl y = [s]) (hk : y.cps.all (· < 256) = true) : Ls (B + 1) (Txt.split x y) := by
  refine ⟨?_, fun p hp c hc => h.asc c (split_sub ey hk hp hc)⟩
  have e := TL.split_spl x y (by rw [ey]; simp) (TL.kind_ok hk)
  have g := congrArg (fun l : List (List Nat) => (l.map fun p => p.length + 1).sum) e
  simp only [List.map_map, ey] at g
  rw [spl_mu] at g
  have e2 : mu (Txt.split x y) = ((Txt.split x y).map ((fun p : List Nat => p.length + 1) ∘ TL.tl)).sum := by
    unfold mu
    congr 1
  rw [e2, g, ← TL.len_tl]
  have := h.len
  simp only [List.length_nil]
  omega
theorem cut_st {B : Nat} {z : Str} (h : St B z) (lo hi : Option Int) : St B (cutS z lo hi) := ⟨Nat.le_trans (cutS_length z lo hi) h.len, fun c hc => h.asc c (List.mem_of_mem_drop (List.mem_of_mem_take (show c ∈ (z.cps.toList.drop (HT.sIx z.length 0 lo)).take (HT.sIx z.length z.length hi - HT.sIx z.length 0 lo) from hc)))⟩
theorem St.app {A B : Nat} {x y : Str} (h : St A x) (g : St B y) : St (A + B) (x ++ y) := ⟨by rw [strLen_append]; have := h.len; have := g.len; omega, fun c hc => by
  rw [TL.tl_append] at hc
  rcases List.mem_append.mp hc with z | z
  · exact h.asc c z
  · exact g.asc c z⟩
theorem st_dec {B : Nat} {xs : List Str} (h : (xs.all fun z => decide (z.length ≤ B) && (TL.tl z).all fun c => decide (c < 128)) = true) {z : Str} (hz : z ∈ xs) : St B z := by
  obtain ⟨h1, h2⟩ := Bool.and_eq_true_iff.mp (List.all_eq_true.mp h z hz)
  exact ⟨of_decide_eq_true h1, fun c hc => of_decide_eq_true (List.all_eq_true.mp h2 c hc)⟩
def othL : List Str := ["0", "01", "1", "2", "6", "8", "9", "16", "17", "40", "41", "64", "65", "100", "101"]
def oth2L : List Str := ["1000", "", "keep", "+1"]
theorem oth_ok : ((othL ++ oth2L).all fun z => decide (z.length ≤ 4) && (TL.tl z).all fun c => decide (c < 128)) = true := by decide +kernel
def sgL : List Str := [" ", "\n", "0", "7", "x", "-", "\t"]
theorem sg_ok : (sgL.all fun z => decide (z.length ≤ 1) && (TL.tl z).all fun c => decide (c < 128)) = true := by decide +kernel
/-- a list of texts at v -/
def LsA (B : Nat) (H : Hp) (v : V) : Prop := ∃ (r : Addr) (ps : List Str), v = .ref r ∧ H r = some (.lst (ps.map V.str)) ∧ Ls B ps
theorem LsA.same {B : Nat} {H H' : Hp} {v : V} (h : LsA B H v) (s : Same H H') : LsA B H' v := by
  obtain ⟨r, ps, e, h, l⟩ := h
  exact ⟨r, ps, e, s _ _ h, l⟩
theorem lim_ok {n : Int} (h : 0 < n) (h2 : n ≤ 100000) : Lim n := ⟨h, Int.le_trans h2 (by decide)⟩
theorem lit_asc {w : Str} (h : ((TL.tl w).all fun c => decide (c < 128)) = true) : ∀ c ∈ TL.tl w, c < 128 := fun c hc => of_decide_eq_true (List.all_eq_true.mp h c hc)
theorem wr_asc {i : Int} {w : Str} (h0 : 0 ≤ i) (h1 : i ≤ 100) (hw : ∀ c ∈ TL.tl w, c < 128) : ∀ c ∈ TL.tl (w ++ wr i), c < 128 := fun c h => by
  rw [TL.tl_append] at h
  rcases List.mem_append.mp h with h | h
  · exact hw c h
  · have := wr_sg h0 h1 h
    omega
theorem lnS_asc {ls : List Int} {sz fo re ev ke : Int} (ok : TxOk ls sz fo re ev ke) : ∀ p ∈ lnS ls sz fo re ev ke, ∀ c ∈ TL.tl p, c < 128 := by
  intro p hp
  obtain ⟨z1, z2⟩ := ok.sz
  obtain ⟨f1, f2⟩ := ok.fo
  obtain ⟨c1, c2⟩ := ok.re
  obtain ⟨v1, v2⟩ := ok.ev
  obtain ⟨k1, k2⟩ := ok.ke
  unfold lnS at hp
  simp only [List.mem_cons, List.not_mem_nil, or_false] at hp
  rcases hp with rfl | rfl | rfl | rfl | rfl | rfl
  · intro c h
    rw [TL.tl_append] at h
    rcases List.mem_append.mp h with h | h
    · exact lit_asc (w := "lengths ") (by decide +kernel) c h
    · rw [TL.join_eq] at h
      rcases tl_join_mem h with h | ⟨p, hp, h⟩
      · exact lit_asc (w := " ") (by decide +kernel) c h
      · obtain ⟨l, hl, rfl⟩ := List.mem_map.mp hp
        have r := ok.r l hl
        have := wr_sg (by omega) (by omega) h
        omega
  · exact wr_asc (by omega) (by omega) (by decide +kernel)
  · exact wr_asc (by omega) (by omega) (by decide +kernel)
  · exact wr_asc (by omega) (by omega) (by decide +kernel)
  · exact wr_asc (by omega) (by omega) (by decide +kernel)
  · exact wr_asc (by omega) (by omega) (by decide +kernel)
theorem txS_st {ls : List Int} {sz fo re ev ke : Int} (ok : TxOk ls sz fo re ev ke) : St 300 (txS ls sz fo re ev ke) ∧ 1 ≤ (txS ls sz fo re ev ke).length := by
  refine ⟨⟨txS_len ok, fun c h => ?_⟩, ?_⟩
  · unfold txS at h
    rw [TL.tl_append] at h
    rcases List.mem_append.mp h with h | h
    · rw [TL.join_eq] at h
      rcases tl_join_mem h with h | ⟨p, hp, h⟩
      · exact lit_asc (w := "\n") (by decide +kernel) c h
      · exact lnS_asc ok p hp c h
    · exact lit_asc (w := "\n") (by decide +kernel) c h
  · unfold txS
    rw [strLen_append, show ("\n" : Str).length = 1 by decide +kernel]
    omega
theorem due_tx {ls : List Int} {sz fo re ev ke : Int} (ok : SetOk ls sz fo re ev ke) : due1 (Txt.split (txS ls sz fo re ev ke) "\n") = none := by
  rw [tx_split ok.tx]
  obtain ⟨m1, m2⟩ := maxL_ok (ls := ls) (by intro e; have := ok.l1; rw [e] at this; exact absurd this (by decide))
  have h : SM ls sz fo re ev ke (maxL ls) := ⟨ok, m1, m2⟩
  have l7 : (lnS ls sz fo re ev ke ++ [("" : Str)]).length = 7 := rfl
  rw [due_end (by rw [l7]; decide) (head_ok h (k := 7) (by decide) rfl) fun j hj => ⟨_, rd_val h (k := 7) hj (by omega) (by rw [l7]; omega) rfl⟩, if_neg]
  rintro (z | z)
  · exact z l7
  · exact z rfl
theorem len0 {x : Str} (h : x.length = 0) : x = "" := by
  refine TL.ext_tl ?_
  have e : TL.tl x = [] := List.eq_nil_of_length_eq_zero (by rw [← TL.len_tl]; exact h)
  rw [e]
  decide +kernel
theorem oN_sc (o : Option Nat) : scal (oN o) (oN o) = true := by cases o <;> rfl
def sp_InvalidText___init__ (K : PySem.W.Frag) : Sp := fun vs H Q _ => ∃ (a : Addr) (v : V), vs = [.ref a, v] ∧ H a = some (exo a (He.ga K "InvalidText") none) ∧ ∀ d, H d = none → d ≠ a → Q .non (upd (upd H d (exd d [("line", v)])) a (exo a (He.ga K "InvalidText") (some d)))
def sp_is_from (K : PySem.W.Frag) : Sp := fun vs H Q _ => ∃ n a : Int, vs = [.int n, .int a] ∧ Q (.bl (decide (a ≤ n))) H
def sp_is_within (K : PySem.W.Frag) : Sp := fun vs H Q _ => ∃ n a b : Int, vs = [.int n, .int a, .int b] ∧ Q (.bl (decide (a ≤ n ∧ n ≤ b))) H
def sp_are_lengths (K : PySem.W.Frag) : Sp := fun vs H Q _ => ∃ (p : Addr) (ls : List Int), vs = [.ref p] ∧ H p = some (.lst (ls.map V.int)) ∧ LensOk ls 64 ∧ ∀ H', Same H H' → Q (.bl true) H'
def sp_bounds_behind (K : PySem.W.Frag) : Sp := fun vs H Q _ => ∃ (p : Addr) (ls : List Int), vs = [.ref p] ∧ H p = some (.lst (ls.map V.int)) ∧ 1 ≤ ls.length ∧ ls.length ≤ 6 ∧
  ∀ (m : Int) (L : Addr) (H' : Hp), m ∈ ls → (∀ y ∈ ls, y ≤ m) → Same H H' → Bnds H' L m → Q (.ref L) H'
def sp_Settings___init__ (K : PySem.W.Frag) : Sp := fun vs H Q _ => ∃ (a dx p : Addr) (ls : List Int) (sz fo re ev ke : Int), vs = [.ref a, .ref p, .int sz, .int fo, .int re, .int ev, .int ke] ∧ H a = some (.ins (He.ga K "Settings") dx []) ∧
  H p = some (.lst (ls.map V.int)) ∧ SetOk ls sz fo re ev ke ∧ ∀ (t : Addr) (H' : Hp), (∀ b o, b ≠ a → H b = some o → H' b = some o) → H' a = some (.ins (He.ga K "Settings") dx (setF t sz fo re ev ke)) → H' t = some (.tup (ls.map V.int)) → Q .non H'
def sp_check_settings (K : PySem.W.Frag) : Sp := fun vs H Q _ => ∃ (a dx : Addr) (fs : List (Str × V)), vs = [.ref a] ∧ H a = some (.ins (He.ga K "Settings") dx fs) ∧ Q .non H
def sp_settings_text (K : PySem.W.Frag) : Sp := fun vs H Q _ => ∃ (a : Addr) (ls : List Int) (sz fo re ev ke : Int), vs = [.ref a] ∧ SetAt K H a ls sz fo re ev ke ∧ TxOk ls sz fo re ev ke ∧ ∀ H', Same H H' → Q (.str (txS ls sz fo re ev ke)) H'
def sp_number_in (K : PySem.W.Frag) : Sp := fun vs H Q _ => ∃ (s : Str) (a b : Int), vs = [.str s, .int a, .int b] ∧ 0 ≤ a ∧ a ≤ 100 ∧ 0 ≤ b ∧ b ≤ 100 ∧ ∀ H', Same H H' → Q (oV (numF s a (b + 1 - a).toNat)) H'
def sp_lengths_in (K : PySem.W.Frag) : Sp := fun vs H Q _ => ∃ (L : Str), vs = [.str L] ∧ L.length ≤ 90000 ∧ (lenIn L = none → ∀ H', Same H H' → Q .non H') ∧ ∀ ls, lenIn L = some ls → ∀ (t : Addr) (H' : Hp), Same H H' → H' t = some (.lst (ls.map V.int)) → Q (.ref t) H'
def sp_value_in (K : PySem.W.Frag) : Sp := fun vs H Q _ => ∃ (L p : Str) (a b : Int), vs = [.str L, .str p, .int a, .int b] ∧ 0 ≤ a ∧ a ≤ 100 ∧ 0 ≤ b ∧ b ≤ 100 ∧ p.length ≤ 20 ∧ L.length ≤ 90000 ∧ ∀ H', Same H H' → Q (oV (valIn L p a b)) H'
def sp_read_settings (K : PySem.W.Frag) : Sp := fun vs H Q E => ∃ v, vs = [v] ∧
  ((∃ T : Str, v = .str T ∧ T.length ≤ 80000 ∧ RdC (Txt.split T "\n") (fun n => RaiT K H E n) (fun ls sz fo re ev ke => SetOk ls sz fo re ev ke → ∀ (a : Addr) (H' : Hp), Same H H' → H a = none → SetAt K H' a ls sz fo re ev ke → Q (.ref a) H')) ∨
   (∃ U : String, TyX K H v (.type U) ∧ kitB U "str" = some false ∧ RaiT K H E (-1)))
def sp__law_mix (K : PySem.W.Frag) : Sp := fun vs H Q _ => ∃ c l : Int, vs = [.int c, .int l] ∧ ∀ z : Int, Q (.int z) H
def sp__law_source (K : PySem.W.Frag) : Sp := fun vs H Q _ => ∃ (a : Addr) (ns : List Int) (k : Int), vs = [.ref a, .int k] ∧ SqL K H a (ns.map V.int) ∧ ns.length ≤ 63 ∧ 0 ≤ k ∧
  ∀ (p : Addr) (H' : Hp), Same H H' → H p = none → Src H' p → Q (.ref p) H'
def sp__law_draw (K : PySem.W.Frag) : Sp := fun vs H Q _ => ∃ (a : Addr) (n : Int), vs = [.ref a, .int n] ∧ Src H a ∧ Lim n ∧
  ∀ (d : Int) (H' : Hp), 0 ≤ d → d < n → Dr a H H' → Q (.int d) H'
def sp__law_pick (K : PySem.W.Frag) : Sp := fun vs H Q _ => ∃ (a p : Addr) (xs : List V), vs = [.ref a, .ref p] ∧ Src H a ∧ p ≠ a ∧ SqL K H p xs ∧ 0 < xs.length ∧ xs.length ≤ 1000 ∧
  ∀ (x : V) (H' : Hp), x ∈ xs → Dr a H H' → Q x H'
def sp__law_parts (K : PySem.W.Frag) : Sp := fun vs H Q _ => ∃ a : Addr, vs = [.ref a] ∧ Src H a ∧
  ∀ (p q : Addr) (ls : List Int) (room fo re ev ke : Int) (H' : Hp), Dr a H H' → H p = none → H q = none → p ≠ q → H' p = some (.lst [.ref q, .int room, .int fo, .int re, .int ev, .int ke]) →
    H' q = some (.lst (ls.map V.int)) → PartsOk ls room fo re ev ke → Q (.ref p) H'
def sp__law_text (K : PySem.W.Frag) : Sp := fun vs H Q _ => ∃ (p q : Addr) (ls : List Int) (sz fo re ev ke : Int), vs = [.ref p] ∧ H p = some (.lst [.ref q, .int sz, .int fo, .int re, .int ev, .int ke]) ∧ H q = some (.lst (ls.map V.int)) ∧ TxOk ls sz fo re ev ke ∧
  ∀ H', Same H H' → Q (.str (txS ls sz fo re ev ke)) H'
def sp__law_number (K : PySem.W.Frag) : Sp := fun vs H Q _ => ∃ w : Str, vs = [.str w] ∧ w.length ≤ 90000 ∧ (∀ c ∈ TL.tl w, c < 128) ∧ ∀ n : Int, ((0 ≤ n ∧ n ≤ 999 ∧ w = wr n) ∨ (n = -1 ∧ ∀ k : Int, 0 ≤ k → k ≤ 999 → w ≠ wr k)) → ∀ H', Same H H' → Q (.int n) H'
def sp__law_due (K : PySem.W.Frag) : Sp := fun vs H Q _ => ∃ T : Str, vs = [.str T] ∧ T.length ≤ 80000 ∧ (∀ c ∈ TL.tl T, c < 128) ∧ ∀ H', Same H H' → Q (oN (due1 (Txt.split T "\n"))) H'
def sp__law_spoilt (K : PySem.W.Frag) : Sp := fun vs H Q _ => ∃ (a : Addr) (T : Str), vs = [.ref a, .str T] ∧ Src H a ∧ 1 ≤ T.length ∧ St 2000 T ∧ ∀ (T' : Str) (H' : Hp), St (4 * T.length + 12) T' → Dr a H H' → Q (.str T') H'
def sp__law_told (K : PySem.W.Frag) : Sp := fun vs H Q _ => ∃ T : Str, vs = [.str T] ∧ T.length ≤ 80000 ∧ ∀ H', Same H H' → Q (oN (due1 (Txt.split T "\n"))) H'
def sp__law_right (K : PySem.W.Frag) : Sp := fun vs H Q _ => ∃ a : Addr, vs = [.ref a] ∧ Src H a ∧ ∀ H', Dr a H H' → Q (.bl true) H'
def sp_law (K : PySem.W.Frag) : Sp := fun vs H Q _ => ∃ (a : Addr) (ns : List Int), vs = [.ref a] ∧ SqL K H a (ns.map V.int) ∧ ns.length ≤ 63 ∧ ∀ H', Q (.bl true) H'
local macro_rules | `(tactic| walk_at "side") => `(tactic| first
  | assumption
  | decide
  | exact ⟨by decide, by decide⟩
  | exact ⟨by decide, by decide, by decide⟩
  | exact Or.inl ⟨by decide, by decide⟩
  | exact Or.inr ⟨by decide, by decide⟩
  | omega
  | exact ⟨by omega, by omega⟩
  | exact Or.inl ⟨by omega, by omega⟩
  | exact Or.inr ⟨by omega, by omega⟩)
local macro_rules | `(tactic| walk_at "seq") => `(tactic| first
  | assumption
  | exact SqL.of (by assumption)
  | exact SqT.of (by assumption)
  | exact SqL.of upd_same
  | exact SqT.of upd_same)
local macro_rules | `(tactic| walk_at "var") => `(tactic| first
  | with_reducible refine r_v0 ?_
  | with_reducible refine r_v1 ?_
  | with_reducible refine r_v2 ?_
  | with_reducible refine r_v3 ?_
  | with_reducible refine r_v4 ?_
  | with_reducible refine r_v5 ?_
  | with_reducible refine r_v6 ?_
  | with_reducible refine r_v7 ?_
  | with_reducible refine r_v8 ?_
  | with_reducible refine r_v9 ?_
  | with_reducible refine r_v10 ?_
  | with_reducible refine r_v11 ?_
  | with_reducible refine r_v12 ?_
  | with_reducible refine r_v13 ?_
  | with_reducible refine r_v14 ?_
  | with_reducible refine r_v15 ?_
  | with_reducible refine r_v16 ?_
  | with_reducible refine r_v17 ?_
  | with_reducible refine r_v18 ?_
  | with_reducible refine r_v19 ?_
  | with_reducible refine r_v20 ?_
  | with_reducible refine r_v21 ?_)
local macro_rules | `(tactic| walk_at "nam") => `(tactic| first
  | with_reducible refine r_g0 ?_
  | with_reducible refine r_g1 ?_
  | with_reducible refine r_g2 ?_
  | with_reducible refine r_g3 ?_
  | with_reducible refine r_g4 ?_
  | with_reducible refine r_g5 ?_
  | with_reducible refine r_g6 ?_
  | with_reducible refine r_g7 ?_
  | with_reducible refine r_g8 ?_
  | with_reducible refine r_g9 ?_
  | with_reducible refine r_g10 ?_
  | with_reducible refine r_g11 ?_
  | with_reducible refine r_g12 ?_
  | with_reducible refine r_g13 ?_
  | with_reducible refine r_g14 ?_
  | with_reducible refine r_g15 ?_
  | with_reducible refine r_g16 ?_
  | with_reducible refine r_g17 ?_
  | with_reducible refine r_g18 ?_
  | with_reducible refine r_g19 ?_
  | with_reducible refine r_g20 ?_
  | with_reducible refine r_g21 ?_)
local macro_rules | `(tactic| walk_at "aug") => `(tactic| first
  | with_reducible refine r_aug0 ?_
  | with_reducible refine r_aug1 ?_
  | with_reducible refine r_aug2 ?_
  | with_reducible refine r_aug3 ?_
  | with_reducible refine r_aug4 ?_
  | with_reducible refine r_aug5 ?_
  | with_reducible refine r_aug6 ?_
  | with_reducible refine r_aug7 ?_
  | with_reducible refine r_aug8 ?_
  | with_reducible refine r_aug9 ?_
  | with_reducible refine r_aug10 ?_
  | with_reducible refine r_aug11 ?_
  | with_reducible refine r_aug12 ?_
  | with_reducible refine r_aug13 ?_
  | with_reducible refine r_aug14 ?_
  | with_reducible refine r_aug15 ?_
  | with_reducible refine r_aug16 ?_
  | with_reducible refine r_aug17 ?_
  | with_reducible refine r_aug18 ?_
  | with_reducible refine r_aug19 ?_
  | with_reducible refine r_aug20 ?_
  | with_reducible refine r_aug21 ?_)
local macro_rules | `(tactic| walk_at "s") => `(tactic| first
  | walk_at "var"
  | with_reducible refine r_seq ?_
  | with_reducible refine r_asg ?_
  | with_reducible refine r_tC ?_
  | with_reducible refine r_op ?_
  | with_reducible refine r_cons ?_
  | with_reducible refine r_nil ?_
  | with_reducible refine r_CB ?_
  | with_reducible refine r_I0 ?_
  | with_reducible refine r_ret ?_
  | with_reducible refine r_call ?_
  | with_reducible refine r_ifS ?_
  | with_reducible refine r_test ?_
  | with_reducible refine r_tB ?_
  | with_reducible refine r_bl ?_
  | with_reducible refine r_int1 ?_
  | with_reducible refine r_max2 ?_
  | with_reducible refine r_min2 ?_
  | with_reducible refine r_and ?_
  | with_reducible refine r_or ?_
  | with_reducible refine r_not ?_
  | with_reducible refine r_andV ?_
  | with_reducible refine r_orV ?_
  | with_reducible refine r_notV ?_
  | with_reducible refine r_if ?_
  | with_reducible refine r_drop ?_
  | with_reducible refine r_next ?_
  | with_reducible refine r_gSub ?_
  | with_reducible refine r_gCons ?_
  | with_reducible refine r_gNil ?_
  | with_reducible refine r_tup ?_
  | with_reducible refine r_lst ?_
  | with_reducible refine r_un ?_
  | with_reducible refine r_U ?_
  | with_reducible refine r_chain ?_
  | with_reducible refine r_fld ?_
  | with_reducible refine r_sFld ?_
  | with_reducible refine r_meth ?_
  | with_reducible refine r_mkK ?_
  | with_reducible refine r_mk ?_
  | with_reducible refine r_sl ?_
  | with_reducible refine r_part ?_
  | with_reducible refine r_po ?_
  | with_reducible refine r_nopart ?_
  | with_reducible refine r_BM ?_
  | with_reducible refine r_tru ?_
  | with_reducible refine r_lc ?_
  | with_reducible refine r_dnotin ?_
  | with_reducible refine r_din ?_
  | with_reducible refine r_dget ?_
  | with_reducible refine r_dput ?_
  | with_reducible refine r_dnew ?_
  | with_reducible refine r_for ?_
  | with_reducible refine r_list ?_
  | with_reducible refine r_tupI ?_
  | with_reducible refine r_rng1 ?_
  | with_reducible refine r_rng2 ?_
  | with_reducible refine r_yes ?_
  | with_reducible refine r_par ?_
  | with_reducible refine r_two ?_
  | with_reducible refine r_par3 ?_
  | with_reducible refine r_tri ?_
  | with_reducible refine r_enum ?_
  | with_reducible refine r_ip ?_
  | with_reducible refine r_eqI ?_
  | with_reducible refine r_neI ?_
  | with_reducible refine r_eqS ?_
  | with_reducible refine r_neS ?_
  | with_reducible refine r_neB ?_
  | with_reducible refine r_eqB ?_
  | with_reducible refine r_BM0 ?_
  | with_reducible refine r_lstRg ?_
  | with_reducible refine r_rgA ?_
  | with_reducible refine iteT ?_
  | with_reducible refine iteF ?_
  | with_reducible refine iteNt ?_
  | with_reducible refine iteNf ?_
  | ((with_reducible refine' r_I ?k1 ?_); (case k1 => walk_at "side"))
  | ((with_reducible refine' r_ixL ?k1 ?k2 ?_); (case k1 => walk_at "seq"); (case k2 => rfl))
  | ((with_reducible refine' r_ixT ?k1 ?k2 ?_); (case k1 => walk_at "seq"); (case k2 => rfl))
  | ((with_reducible refine' r_lenL ?k1 ?_); (case k1 => walk_at "seq"))
  | ((with_reducible refine' r_lenT ?k1 ?_); (case k1 => walk_at "seq"))
  | ((with_reducible refine' r_sum ?k1 ?_); (case k1 => walk_at "seq"))
  | ((with_reducible refine' r_sumT ?k1 ?_); (case k1 => walk_at "seq"))
  | ((with_reducible refine' r_tupOf ?k1 ?_); (case k1 => walk_at "seq"))
  | ((with_reducible refine' r_listOf ?k1 ?_); (case k1 => walk_at "seq"))
  | ((with_reducible refine' r_slL ?k1 ?_); (case k1 => walk_at "seq"))
  | ((with_reducible refine' r_sq ?k1 ?_); (case k1 => walk_at "seq"))
  | ((with_reducible refine' r_sqT ?k1 ?_); (case k1 => walk_at "seq"))
  | ((with_reducible refine' r_en ?k1 ?_); (case k1 => walk_at "seq"))
  | ((with_reducible refine' r_tyL ?k1 ?_); (case k1 => walk_at "seq"))
  | ((with_reducible refine' r_gTup ?k1 ?k2 ?_); (case k1 => walk_at "seq"); (case k2 => rfl))
  | ((with_reducible refine' r_setL ?k1 ?k2 ?_); (case k1 => assumption); (case k2 => rfl))
  | ((with_reducible refine' r_fd ?k1 ?k2 ?k3 ?k4 ?_); (case k1 => assumption); (case k2 => assumption); (case k3 => assumption); (case k4 => first | rfl | assumption))
  | ((with_reducible refine' r_obj ?k1 ?k2 ?_); (case k1 => assumption); (case k2 => rfl))
  | ((with_reducible refine' r_rg1 ?k1 ?_); (case k1 => walk_at "side"))
  | ((with_reducible refine' r_rg2 ?k1 ?_); (case k1 => walk_at "side"))
  | ((with_reducible refine' r_sz ?k1 ?_); (case k1 => (show _ ≤ _; simp)))
  | walk_at "nam"
  | walk_at "aug")
local macro_rules | `(tactic| walk_at "ss") => `(tactic| repeat walk_at "s")

theorem ok_InvalidText___init__ {P : Program} {w : World} {K : PySem.W.Frag} {mg : Str → Option Value} {base : Heap} {f : Addr} {fd : FuncData} (F : FunD K "__init__" "InvalidText.__init__" (defArgs s_InvalidText___init__) (defBody s_InvalidText___init__) (defScope s_InvalidText___init__) [] [] f fd) (x_err_InvalidText : KrE.ErrC K (He.ga K "InvalidText")) (x_tk_InvalidText : PySem.W.takerIn K (He.ga K "InvalidText") "line" = some none) : FnOk P w K mg base CX0 1 f fd ["self", "line"] (sp_InvalidText___init__ K) := by
  refine F.ok sc_InvalidText___init__ (fun vs H Q E h => by first | (obtain ⟨rfl, _⟩ := h; rfl) | (obtain ⟨_, rfl, _⟩ := h; rfl) | (obtain ⟨_, _, rfl, _⟩ := h; rfl) | (obtain ⟨_, _, _, rfl, _⟩ := h; rfl) | (obtain ⟨_, _, _, _, rfl, _⟩ := h; rfl) | (obtain ⟨_, _, _, _, _, rfl, _⟩ := h; rfl) | (obtain ⟨_, _, _, _, _, _, rfl, _⟩ := h; rfl) | (obtain ⟨_, _, _, _, _, _, _, rfl, _⟩ := h; rfl) | (obtain ⟨_, _, _, _, _, _, _, _, rfl, _⟩ := h; rfl) | (obtain ⟨_, _, _, _, _, _, _, _, _, rfl, _⟩ := h; rfl) | (obtain ⟨_, _, _, _, _, _, _, _, _, _, rfl, _⟩ := h; rfl) | (obtain ⟨_, _, _, _, _, _, _, _, _, _, _, rfl, _⟩ := h; rfl) | (obtain ⟨_, _, _, _, _, _, _, _, _, _, _, _, rfl, _⟩ := h; rfl) | (obtain ⟨_, _, _, _, _, _, _, _, _, _, _, _, _, rfl, _⟩ := h; rfl) | (obtain ⟨_, _, _, _, _, _, _, _, _, _, _, _, _, _, rfl, _⟩ := h; rfl) | (obtain ⟨_, _, _, _, _, _, _, _, _, _, _, _, _, _, _, rfl, _⟩ := h; rfl) | (obtain ⟨_, _, _, _, _, _, _, _, _, _, _, _, _, _, _, _, rfl, _⟩ := h; rfl) | (obtain ⟨_, _, _, _, _, _, _, _, _, _, _, _, _, _, _, _, _, rfl, _⟩ := h; rfl)) (fun cdv A outer s H vs Q E hr h => ?_)
  · have hu := hu_of hr
    obtain ⟨a, v, rfl, ha, q⟩ := h
    have e1 := x_err_InvalidText
    have e2 := x_tk_InvalidText
    refine ⟨_, PSs.nox (pss_one (KrE.ps_ers (pv 0) (pv 1))), ?_⟩
    rw [st_InvalidText___init__]
    refine KrE.r_sErs ?_
    walk_at "ss"
    refine KrE.r_ers e1 e2 ha fun d n1 n2 => ?_
    walk_at "ss"
    exact q d n1 n2
theorem ok_is_from {P : Program} {w : World} {K : PySem.W.Frag} {mg : Str → Option Value} {base : Heap} {f : Addr} {fd : FuncData} (F : FunD K "is_from" "is_from" (defArgs s_is_from) (defBody s_is_from) (defScope s_is_from) [] [] f fd) (n_bool : mg "bool" = none) (n_int : mg "int" = none) (n_isinstance : mg "isinstance" = none) : FnOk P w K mg base CX0 1 f fd ["number", "least"] (sp_is_from K) := by
  refine F.ok sc_is_from (fun vs H Q E h => by first | (obtain ⟨rfl, _⟩ := h; rfl) | (obtain ⟨_, rfl, _⟩ := h; rfl) | (obtain ⟨_, _, rfl, _⟩ := h; rfl) | (obtain ⟨_, _, _, rfl, _⟩ := h; rfl) | (obtain ⟨_, _, _, _, rfl, _⟩ := h; rfl) | (obtain ⟨_, _, _, _, _, rfl, _⟩ := h; rfl) | (obtain ⟨_, _, _, _, _, _, rfl, _⟩ := h; rfl) | (obtain ⟨_, _, _, _, _, _, _, rfl, _⟩ := h; rfl) | (obtain ⟨_, _, _, _, _, _, _, _, rfl, _⟩ := h; rfl) | (obtain ⟨_, _, _, _, _, _, _, _, _, rfl, _⟩ := h; rfl) | (obtain ⟨_, _, _, _, _, _, _, _, _, _, rfl, _⟩ := h; rfl) | (obtain ⟨_, _, _, _, _, _, _, _, _, _, _, rfl, _⟩ := h; rfl) | (obtain ⟨_, _, _, _, _, _, _, _, _, _, _, _, rfl, _⟩ := h; rfl) | (obtain ⟨_, _, _, _, _, _, _, _, _, _, _, _, _, rfl, _⟩ := h; rfl) | (obtain ⟨_, _, _, _, _, _, _, _, _, _, _, _, _, _, rfl, _⟩ := h; rfl) | (obtain ⟨_, _, _, _, _, _, _, _, _, _, _, _, _, _, _, rfl, _⟩ := h; rfl) | (obtain ⟨_, _, _, _, _, _, _, _, _, _, _, _, _, _, _, _, rfl, _⟩ := h; rfl) | (obtain ⟨_, _, _, _, _, _, _, _, _, _, _, _, _, _, _, _, _, rfl, _⟩ := h; rfl)) (fun cdv A outer s H vs Q E hr h => ?_)
  · have hu := hu_of hr
    obtain ⟨n, a, rfl, q⟩ := h
    refine ⟨_, PSs.nox (pss_one (ps_ret (pe_and (pe_callB (id := "isinstance") call_isi rfl n_isinstance (by decide +kernel) (pa_cons (pv 0) (pa_cons (Kr.pe_bty (T := "int") n_int) pa_nil))) (pe_and (pe_not (pe_callB (id := "isinstance") call_isi rfl n_isinstance (by decide +kernel) (pa_cons (pv 0) (pa_cons (Kr.pe_bty (T := "bool") n_bool) pa_nil)))) (pe_one (pe_cmpR op_le (pv 1) (pv 0) (nomark _))))))), ?_⟩
    rw [st_is_from]
    walk_at "ss"
    refine r_isiT (.base (.int n)) (b := true) (by decide +kernel) ?_
    walk_at "ss"
    refine r_isiT (.base (.int n)) (b := false) (by decide +kernel) ?_
    walk_at "ss"
    exact q
theorem ok_is_within {P : Program} {w : World} {K : PySem.W.Frag} {mg : Str → Option Value} {base : Heap} {f : Addr} {fd : FuncData} (F : FunD K "is_within" "is_within" (defArgs s_is_within) (defBody s_is_within) (defScope s_is_within) [] [] f fd) (h_is_from : Kr.FnH P w K mg base CX0 1 "is_from" ["number", "least"] (sp_is_from K)) : FnOk P w K mg base CX0 2 f fd ["number", "least", "most"] (sp_is_within K) := by
  refine F.ok sc_is_within (fun vs H Q E h => by first | (obtain ⟨rfl, _⟩ := h; rfl) | (obtain ⟨_, rfl, _⟩ := h; rfl) | (obtain ⟨_, _, rfl, _⟩ := h; rfl) | (obtain ⟨_, _, _, rfl, _⟩ := h; rfl) | (obtain ⟨_, _, _, _, rfl, _⟩ := h; rfl) | (obtain ⟨_, _, _, _, _, rfl, _⟩ := h; rfl) | (obtain ⟨_, _, _, _, _, _, rfl, _⟩ := h; rfl) | (obtain ⟨_, _, _, _, _, _, _, rfl, _⟩ := h; rfl) | (obtain ⟨_, _, _, _, _, _, _, _, rfl, _⟩ := h; rfl) | (obtain ⟨_, _, _, _, _, _, _, _, _, rfl, _⟩ := h; rfl) | (obtain ⟨_, _, _, _, _, _, _, _, _, _, rfl, _⟩ := h; rfl) | (obtain ⟨_, _, _, _, _, _, _, _, _, _, _, rfl, _⟩ := h; rfl) | (obtain ⟨_, _, _, _, _, _, _, _, _, _, _, _, rfl, _⟩ := h; rfl) | (obtain ⟨_, _, _, _, _, _, _, _, _, _, _, _, _, rfl, _⟩ := h; rfl) | (obtain ⟨_, _, _, _, _, _, _, _, _, _, _, _, _, _, rfl, _⟩ := h; rfl) | (obtain ⟨_, _, _, _, _, _, _, _, _, _, _, _, _, _, _, rfl, _⟩ := h; rfl) | (obtain ⟨_, _, _, _, _, _, _, _, _, _, _, _, _, _, _, _, rfl, _⟩ := h; rfl) | (obtain ⟨_, _, _, _, _, _, _, _, _, _, _, _, _, _, _, _, _, rfl, _⟩ := h; rfl)) (fun cdv A outer s H vs Q E hr h => ?_)
  · have hu := hu_of hr
    obtain ⟨n, a, b, rfl, q⟩ := h
    refine ⟨_, PSs.nox (pss_one (ps_ret (pe_and (Kr.pe_cl h_is_from (hr.mono (by decide)) (pa_cons (pv 0) (pa_cons (pv 1) pa_nil))) (pe_one (pe_cmpR op_le (pv 0) (pv 2) (nomark _)))))), ?_⟩
    rw [st_is_within]
    walk_at "ss"
    refine ⟨_, _, rfl, ?_⟩
    walk_at "ss"
    refine r_dec (fun h1 => ?_) fun h1 => ?_
    · walk_at "ss"
      have e : decide (n ≤ b) = decide (a ≤ n ∧ n ≤ b) := by simp [h1]
      rw [e]
      exact q
    · have e : false = decide (a ≤ n ∧ n ≤ b) := by simp [h1]
      rw [e]
      exact q
theorem ok_are_lengths {P : Program} {w : World} {K : PySem.W.Frag} {mg : Str → Option Value} {base : Heap} {f : Addr} {fd : FuncData} (F : FunD K "are_lengths" "are_lengths" (defArgs s_are_lengths) (defBody s_are_lengths) (defScope s_are_lengths) [] [] f fd) (g_MOST_LENGTHS : ∃ t, mg "MOST_LENGTHS" = some (.int 6 t)) (g_MOST_UNITS : ∃ t, mg "MOST_UNITS" = some (.int 64 t)) (h_is_within : Kr.FnH P w K mg base CX0 2 "is_within" ["number", "least", "most"] (sp_is_within K)) (n_all : mg "all" = none) (n_isinstance : mg "isinstance" = none) (n_len : mg "len" = none) (n_list : mg "list" = none) : FnOk P w K mg base CX0 3 f fd ["lengths"] (sp_are_lengths K) := by
  refine F.ok sc_are_lengths (fun vs H Q E h => by first | (obtain ⟨rfl, _⟩ := h; rfl) | (obtain ⟨_, rfl, _⟩ := h; rfl) | (obtain ⟨_, _, rfl, _⟩ := h; rfl) | (obtain ⟨_, _, _, rfl, _⟩ := h; rfl) | (obtain ⟨_, _, _, _, rfl, _⟩ := h; rfl) | (obtain ⟨_, _, _, _, _, rfl, _⟩ := h; rfl) | (obtain ⟨_, _, _, _, _, _, rfl, _⟩ := h; rfl) | (obtain ⟨_, _, _, _, _, _, _, rfl, _⟩ := h; rfl) | (obtain ⟨_, _, _, _, _, _, _, _, rfl, _⟩ := h; rfl) | (obtain ⟨_, _, _, _, _, _, _, _, _, rfl, _⟩ := h; rfl) | (obtain ⟨_, _, _, _, _, _, _, _, _, _, rfl, _⟩ := h; rfl) | (obtain ⟨_, _, _, _, _, _, _, _, _, _, _, rfl, _⟩ := h; rfl) | (obtain ⟨_, _, _, _, _, _, _, _, _, _, _, _, rfl, _⟩ := h; rfl) | (obtain ⟨_, _, _, _, _, _, _, _, _, _, _, _, _, rfl, _⟩ := h; rfl) | (obtain ⟨_, _, _, _, _, _, _, _, _, _, _, _, _, _, rfl, _⟩ := h; rfl) | (obtain ⟨_, _, _, _, _, _, _, _, _, _, _, _, _, _, _, rfl, _⟩ := h; rfl) | (obtain ⟨_, _, _, _, _, _, _, _, _, _, _, _, _, _, _, _, rfl, _⟩ := h; rfl) | (obtain ⟨_, _, _, _, _, _, _, _, _, _, _, _, _, _, _, _, _, rfl, _⟩ := h; rfl)) (fun cdv A outer s H vs Q E hr h => ?_)
  · have hu := hu_of hr
    obtain ⟨p, ls, rfl, hp, ok, q⟩ := h
    have l1 := ok.l1
    have l6 := ok.l6
    have hl : (ls.map V.int).length = ls.length := List.length_map ..
    refine ⟨_, PSs.nox (pss_cons (ps_if (PW.pt (pw_or (pt_not (pt_val (pe_callB (id := "isinstance") call_isi rfl n_isinstance (by decide +kernel) (pa_cons (pv 0) (pa_cons (Kr.pe_bty (T := "list") n_list) pa_nil))))) (pw_or1 (pt_not (pt_chain op_le op_le pe_int (pe_callB (id := "len") Kr.c_len rfl n_len (by decide +kernel) (pa_cons (pv 0) pa_nil)) (Kr.pe_gint g_MOST_LENGTHS)))))) (pss_one (ps_ret pe_bl)) pss_nil) (pss_one (ps_ret (pe_callB (id := "all") (cr_all rfl) rfl n_all (by decide +kernel) (pa_cons (pe_lc (own := [("length", 1)]) rfl sc_are_lengths.nd (pi_list (pv 0)) (blkOk_by (own := [("length", 1)]) (N := N_are_lengths) (sc := defScope s_are_lengths) (by decide +kernel)) (fun _ _ _ _ _ => (pg_name (i := 1) sc_are_lengths.nd rfl (.inl rfl))) (fun _ _ _ _ _ => pts_nil) (fun _ _ _ _ _ => (Kr.pe_cl h_is_within (hr.mono (by decide)) (pa_cons (pv 1) (pa_cons pe_int (pa_cons (Kr.pe_gint g_MOST_UNITS) pa_nil)))))) pa_nil))))), ?_⟩
    rw [st_are_lengths]
    walk_at "ss"
    refine r_isiT (.base (.lst hp)) (b := true) (by decide +kernel) ?_
    walk_at "ss"
    rw [hl]
    refine r_dec (fun _ => ?_) fun z => absurd (show (1 : Int) ≤ ls.length by omega) z
    walk_at "ss"
    refine r_decN (fun z => absurd (show (ls.length : Int) ≤ 6 by omega) z) fun _ => ?_
    walk_at "ss"
    intro D hD
    refine lc_listS (xs := ls.map V.int) [some (.ref p), none] rfl (fun i H5 => H5 D = some (.lst ((List.replicate i true).map V.bl)) ∧ Same H H5) ⟨upd_same, same_new hD⟩ (fun i H5 _ hh => hh.2.seq (SqL.of hp)) ?_ ?_
    · rintro i x H5 hx ⟨h5, s5⟩
      obtain ⟨l, hm, rfl⟩ : ∃ l, l ∈ ls ∧ x = V.int l := by
        rw [List.getElem?_map] at hx
        obtain ⟨l, h1, h2⟩ := Option.map_eq_some_iff.mp hx
        exact ⟨l, List.mem_of_getElem? h1, h2.symm⟩
      have hi : i < ls.length := by
        have := (List.getElem?_eq_some_iff.mp hx).1
        omega
      obtain ⟨b1, b2⟩ := ok.all l hm
      walk_at "ss"
      refine ⟨rfl, ?_⟩
      walk_at "ss"
      refine ⟨_, _, _, rfl, ?_⟩
      rw [decide_eq_true (⟨b1, b2⟩ : 1 ≤ l ∧ l ≤ 64)]
      refine ⟨_, h5, by rw [List.length_map, List.length_replicate]; exact szl (by omega), ?_, fun b o e => ?_⟩
      · rw [upd_same, List.replicate_succ', List.map_append]
        rfl
      · rw [upd_ne (ne_of_none e hD)]
        exact s5 b o e
    · rintro H5 ⟨h5, s5⟩
      walk_at "ss"
      refine r_all (SqL.of h5) ?_
      rw [take_map_bl (fun b hb => (List.mem_replicate.mp hb).2)]
      walk_at "ss"
      exact q _ s5
theorem ok_bounds_behind {P : Program} {w : World} {K : PySem.W.Frag} {mg : Str → Option Value} {base : Heap} {f : Addr} {fd : FuncData} (F : FunD K "bounds_behind" "bounds_behind" (defArgs s_bounds_behind) (defBody s_bounds_behind) (defScope s_bounds_behind) [] [] f fd) (g_MOST_UNITS : ∃ t, mg "MOST_UNITS" = some (.int 64 t)) (n_max : mg "max" = none) : FnOk P w K mg base CX0 1 f fd ["lengths"] (sp_bounds_behind K) := by
  refine F.ok sc_bounds_behind (fun vs H Q E h => by first | (obtain ⟨rfl, _⟩ := h; rfl) | (obtain ⟨_, rfl, _⟩ := h; rfl) | (obtain ⟨_, _, rfl, _⟩ := h; rfl) | (obtain ⟨_, _, _, rfl, _⟩ := h; rfl) | (obtain ⟨_, _, _, _, rfl, _⟩ := h; rfl) | (obtain ⟨_, _, _, _, _, rfl, _⟩ := h; rfl) | (obtain ⟨_, _, _, _, _, _, rfl, _⟩ := h; rfl) | (obtain ⟨_, _, _, _, _, _, _, rfl, _⟩ := h; rfl) | (obtain ⟨_, _, _, _, _, _, _, _, rfl, _⟩ := h; rfl) | (obtain ⟨_, _, _, _, _, _, _, _, _, rfl, _⟩ := h; rfl) | (obtain ⟨_, _, _, _, _, _, _, _, _, _, rfl, _⟩ := h; rfl) | (obtain ⟨_, _, _, _, _, _, _, _, _, _, _, rfl, _⟩ := h; rfl) | (obtain ⟨_, _, _, _, _, _, _, _, _, _, _, _, rfl, _⟩ := h; rfl) | (obtain ⟨_, _, _, _, _, _, _, _, _, _, _, _, _, rfl, _⟩ := h; rfl) | (obtain ⟨_, _, _, _, _, _, _, _, _, _, _, _, _, _, rfl, _⟩ := h; rfl) | (obtain ⟨_, _, _, _, _, _, _, _, _, _, _, _, _, _, _, rfl, _⟩ := h; rfl) | (obtain ⟨_, _, _, _, _, _, _, _, _, _, _, _, _, _, _, _, rfl, _⟩ := h; rfl) | (obtain ⟨_, _, _, _, _, _, _, _, _, _, _, _, _, _, _, _, _, rfl, _⟩ := h; rfl)) (fun cdv A outer s H vs Q E hr h => ?_)
  · have hu := hu_of hr
    obtain ⟨p, ls, rfl, hp, l1, l6, q⟩ := h
    refine ⟨_, PSs.nox (pss_one (ps_ret (pe_lst (pa_cons (pe_tup (pa_cons pe_str (pa_cons (pe_callB (id := "max") (cr_max rfl) rfl n_max (by decide +kernel) (pa_cons (pv 0) pa_nil)) (pa_cons (Kr.pe_gint g_MOST_UNITS) pa_nil)))) (pa_cons (pe_tup (pa_cons pe_str (pa_cons pe_int (pa_cons pe_int pa_nil)))) (pa_cons (pe_tup (pa_cons pe_str (pa_cons pe_int (pa_cons pe_int pa_nil)))) (pa_cons (pe_tup (pa_cons pe_str (pa_cons pe_int (pa_cons pe_int pa_nil)))) (pa_cons (pe_tup (pa_cons pe_str (pa_cons pe_int (pa_cons pe_int pa_nil)))) pa_nil)))))))), ?_⟩
    rw [st_bounds_behind]
    walk_at "ss"
    refine r_max (SqL.of hp) l1 fun m hm hmx => ?_
    walk_at "ss"
    refine r_newS fun t1 G1 _ u1 e1 => ?_
    walk_at "ss"
    refine r_newS fun t2 G2 _ u2 e2 => ?_
    walk_at "ss"
    refine r_newS fun t3 G3 _ u3 e3 => ?_
    walk_at "ss"
    refine r_newS fun t4 G4 _ u4 e4 => ?_
    walk_at "ss"
    refine r_newS fun t5 G5 _ u5 e5 => ?_
    walk_at "ss"
    refine r_newS fun L G6 _ u6 e6 => ?_
    have f5 := u6 _ _ e5
    have f4 := u6 _ _ (u5 _ _ e4)
    have f3 := u6 _ _ (u5 _ _ (u4 _ _ e3))
    have f2 := u6 _ _ (u5 _ _ (u4 _ _ (u3 _ _ e2)))
    have f1 := u6 _ _ (u5 _ _ (u4 _ _ (u3 _ _ (u2 _ _ e1))))
    exact q m L G6 hm hmx (((((u1.trans u2).trans u3).trans u4).trans u5).trans u6) ⟨_, _, _, _, _, e6, f1, f2, f3, f4, f5⟩
theorem ok_Settings___init__ {P : Program} {w : World} {K : PySem.W.Frag} {mg : Str → Option Value} {base : Heap} {f : Addr} {fd : FuncData} (F : FunD K "__init__" "Settings.__init__" (defArgs s_Settings___init__) (defBody s_Settings___init__) (defScope s_Settings___init__) [] [] f fd) (a_Settings_every : NoAttr K (He.ga K "Settings") "every") (a_Settings_fanout : NoAttr K (He.ga K "Settings") "fanout") (a_Settings_keep : NoAttr K (He.ga K "Settings") "keep") (a_Settings_lengths : NoAttr K (He.ga K "Settings") "lengths") (a_Settings_records : NoAttr K (He.ga K "Settings") "records") (a_Settings_size : NoAttr K (He.ga K "Settings") "size") (c_Settings : Cls K (He.ga K "Settings")) (h_are_lengths : Kr.FnH P w K mg base CX0 3 "are_lengths" ["lengths"] (sp_are_lengths K)) (h_bounds_behind : Kr.FnH P w K mg base CX0 1 "bounds_behind" ["lengths"] (sp_bounds_behind K)) (h_is_within : Kr.FnH P w K mg base CX0 2 "is_within" ["number", "least", "most"] (sp_is_within K)) (n_tuple : mg "tuple" = none) : FnOk P w K mg base CX0 4 f fd ["self", "lengths", "size", "fanout", "records", "every", "keep"] (sp_Settings___init__ K) := by
  refine F.ok sc_Settings___init__ (fun vs H Q E h => by first | (obtain ⟨rfl, _⟩ := h; rfl) | (obtain ⟨_, rfl, _⟩ := h; rfl) | (obtain ⟨_, _, rfl, _⟩ := h; rfl) | (obtain ⟨_, _, _, rfl, _⟩ := h; rfl) | (obtain ⟨_, _, _, _, rfl, _⟩ := h; rfl) | (obtain ⟨_, _, _, _, _, rfl, _⟩ := h; rfl) | (obtain ⟨_, _, _, _, _, _, rfl, _⟩ := h; rfl) | (obtain ⟨_, _, _, _, _, _, _, rfl, _⟩ := h; rfl) | (obtain ⟨_, _, _, _, _, _, _, _, rfl, _⟩ := h; rfl) | (obtain ⟨_, _, _, _, _, _, _, _, _, rfl, _⟩ := h; rfl) | (obtain ⟨_, _, _, _, _, _, _, _, _, _, rfl, _⟩ := h; rfl) | (obtain ⟨_, _, _, _, _, _, _, _, _, _, _, rfl, _⟩ := h; rfl) | (obtain ⟨_, _, _, _, _, _, _, _, _, _, _, _, rfl, _⟩ := h; rfl) | (obtain ⟨_, _, _, _, _, _, _, _, _, _, _, _, _, rfl, _⟩ := h; rfl) | (obtain ⟨_, _, _, _, _, _, _, _, _, _, _, _, _, _, rfl, _⟩ := h; rfl) | (obtain ⟨_, _, _, _, _, _, _, _, _, _, _, _, _, _, _, rfl, _⟩ := h; rfl) | (obtain ⟨_, _, _, _, _, _, _, _, _, _, _, _, _, _, _, _, rfl, _⟩ := h; rfl) | (obtain ⟨_, _, _, _, _, _, _, _, _, _, _, _, _, _, _, _, _, rfl, _⟩ := h; rfl)) (fun cdv A outer s H vs Q E hr h => ?_)
  · have hu := hu_of hr
    obtain ⟨a, dx, p, ls, sz, fo, re, ev, ke, rfl, ha, hp, ok, q⟩ := h
    have l1 := ok.l1
    have l6 := ok.l6
    have r64 := ok.r64
    have cc := c_Settings
    have n1 := a_Settings_lengths
    have n2 := a_Settings_size
    have n3 := a_Settings_fanout
    have n4 := a_Settings_records
    have n5 := a_Settings_every
    have n6 := a_Settings_keep
    refine ⟨_, PSs.nox (pss_cons (ps_if (pt_not (pt_val (Kr.pe_cl h_are_lengths (hr.mono (by decide)) (pa_cons (pv 1) pa_nil)))) (pss_one ps_never) pss_nil) (pss_cons (ps_set (i := 7) sc_Settings___init__.nd rfl (.inl rfl) (pe_disp (pps_cons pe_str (pv 2) (pps_cons pe_str (pv 3) (pps_cons pe_str (pv 4) (pps_cons pe_str (pv 5) (pps_cons pe_str (pv 6) pps_nil))))) (by rfl) (by rfl) (fun z => by cases z) (by decide))) (pss_cons (ps_for PassesOwn.never rfl (pi_list (Kr.pe_cl h_bounds_behind (hr.mono (by decide)) (pa_cons (pv 1) pa_nil))) (pg_tup rfl (pgs_cons (pg_name (i := 8) sc_Settings___init__.nd rfl (.inl rfl)) (pgs_cons (pg_name (i := 9) sc_Settings___init__.nd rfl (.inl rfl)) (pgs_cons (pg_name (i := 10) sc_Settings___init__.nd rfl (.inl rfl)) pgs_nil)))) (pss_one (ps_if (pt_not (pt_val (Kr.pe_cl h_is_within (hr.mono (by decide)) (pa_cons (pe_dget hu (pv 7) (pv 8) (fun _ _ => rfl)) (pa_cons (pv 9) (pa_cons (pv 10) pa_nil)))))) (pss_one ps_never) pss_nil))) (pss_cons (ps_fld (pv 0) (pe_callTy (T := "tuple") Kr.c_tuple rfl n_tuple (by decide +kernel) (pa_cons (pv 1) pa_nil)) rfl) (pss_cons (ps_fld (pv 0) (pv 2) rfl) (pss_cons (ps_fld (pv 0) (pv 3) rfl) (pss_cons (ps_fld (pv 0) (pv 4) rfl) (pss_cons (ps_fld (pv 0) (pv 5) rfl) (pss_one (ps_fld (pv 0) (pv 6) rfl)))))))))), ?_⟩
    rw [st_Settings___init__]
    walk_at "ss"
    refine ⟨_, _, rfl, hp, ⟨l1, l6, fun l hl => ⟨(ok.all l hl).1, by have := (ok.all l hl).2; omega⟩, by decide⟩, fun H1 s1 => ?_⟩
    have hp1 := s1 _ _ hp
    have ha1 := s1 _ _ ha
    walk_at "ss"
    refine r_disp fun g hg => ?_
    refine r_pairs ?_
    walk_at "ss"
    refine r_pairs ?_
    walk_at "ss"
    refine r_pairs ?_
    walk_at "ss"
    refine r_pairs ?_
    walk_at "ss"
    refine r_pairs ?_
    walk_at "ss"
    refine r_pairs0 ?_
    refine r_dispE (givD (.int sz) (.int fo) (.int re) (.int ev) (.int ke)) upd_same rfl (by show 5 ≤ 15; decide) ?_
    rw [upd_upd]
    have s2 : Same H (upd H1 g (.dK (mergeK [] (givD (.int sz) (.int fo) (.int re) (.int ev) (.int ke))))) := s1.trans (same_new hg)
    have e2 : upd H1 g (.dK (mergeK [] (givD (.int sz) (.int fo) (.int re) (.int ev) (.int ke)))) g = some (.dK (givD (.int sz) (.int fo) (.int re) (.int ev) (.int ke))) := upd_same
    generalize upd H1 g (.dK (mergeK [] (givD (.int sz) (.int fo) (.int re) (.int ev) (.int ke)))) = H2 at s2 e2 ⊢
    walk_at "ss"
    refine ⟨p, ls, rfl, s2 _ _ hp, l1, l6, fun m L G6 hm _ s3 hB => ?_⟩
    have hmz := (ok.all m hm).2
    have hm1 := (ok.all m hm).1
    obtain ⟨t1, t2, t3, t4, t5, e6, f1, f2, f3, f4, f5⟩ := hB
    have s6 : Same H G6 := s2.trans s3
    have eg := s3 _ _ e2
    walk_at "ss"
    refine r_forL (xs := [.ref t1, .ref t2, .ref t3, .ref t4, .ref t5]) (fun i σ H' => H' = G6 ∧ ∃ y1 y2 y3 : Option V, σ = [some (.ref a), some (.ref p), some (.int sz), some (.int fo), some (.int re), some (.int ev), some (.int ke), some (.ref g), y1, y2, y3])
      ⟨rfl, _, _, _, rfl⟩ (fun i σ H' _ hh => by obtain ⟨rfl, _⟩ := hh; exact SqL.of e6) ?_ ?_
    · rintro i x σ H' hx ⟨rfl, y1, y2, y3, rfl⟩
      obtain ⟨t, w, n, lo, hi, rfl, ht, hv, hlo, hhi⟩ : ∃ (t : Addr) (w : Str) (n lo hi : Int), x = .ref t ∧ H' t = some (.tup [.str w, .int lo, .int hi]) ∧ valV (givD (.int sz) (.int fo) (.int re) (.int ev) (.int ke)) (Sum.inr w) = some (.int n) ∧ lo ≤ n ∧ n ≤ hi := by
        rcases i with _ | _ | _ | _ | _ | i
        · cases hx
          exact ⟨_, _, _, _, _, rfl, f1, rfl, hmz, r64⟩
        · cases hx
          exact ⟨_, _, _, _, _, rfl, f2, rfl, ok.fo.1, ok.fo.2⟩
        · cases hx
          exact ⟨_, _, _, _, _, rfl, f3, rfl, ok.re.1, ok.re.2⟩
        · cases hx
          exact ⟨_, _, _, _, _, rfl, f4, rfl, ok.ev.1, ok.ev.2⟩
        · cases hx
          exact ⟨_, _, _, _, _, rfl, f5, rfl, ok.ke.1, ok.ke.2⟩
        · cases hx
      walk_at "ss"
      refine r_dgS eg hv ?_
      walk_at "ss"
      refine ⟨_, _, _, rfl, ?_⟩
      rw [decide_eq_true (⟨hlo, hhi⟩ : lo ≤ n ∧ n ≤ hi)]
      walk_at "ss"
      exact ⟨rfl, _, _, _, rfl⟩
    · rintro σ H' ⟨rfl, y1, y2, y3, rfl⟩
      have hp6 := s6 _ _ hp
      have ha6 := s6 _ _ ha
      walk_at "ss"
      refine r_new fun t ht => ?_
      have nta : t ≠ a := (ne_of_none ha6 ht).symm
      walk_at "ss"
      refine r_st (upd_free ha6 ht) cc n1 (by decide) rfl ?_
      walk_at "ss"
      refine r_st upd_same cc n2 (by show 1 < 1000; decide) rfl ?_
      walk_at "ss"
      refine r_st upd_same cc n3 (by show 2 < 1000; decide) rfl ?_
      walk_at "ss"
      refine r_st upd_same cc n4 (by show 3 < 1000; decide) rfl ?_
      walk_at "ss"
      refine r_st upd_same cc n5 (by show 4 < 1000; decide) rfl ?_
      walk_at "ss"
      refine r_st upd_same cc n6 (by show 5 < 1000; decide) rfl ?_
      simp only [upd_upd]
      refine q t _ (fun b o n e => ?_) upd_same ?_
      · rw [upd_ne n]
        exact upd_free (s6 b o e) ht
      · rw [upd_ne nta]
        exact upd_same
theorem ok_check_settings {P : Program} {w : World} {K : PySem.W.Frag} {mg : Str → Option Value} {base : Heap} {f : Addr} {fd : FuncData} (F : FunD K "check_settings" "check_settings" (defArgs s_check_settings) (defBody s_check_settings) (defScope s_check_settings) [] [] f fd) (i_Settings : Kr.InsI K (He.ga K "Settings")) (k_Settings : mg "Settings" = some (.ref (He.ga K "Settings"))) (n_isinstance : mg "isinstance" = none) : FnOk P w K mg base CX0 1 f fd ["settings"] (sp_check_settings K) := by
  refine F.ok sc_check_settings (fun vs H Q E h => by first | (obtain ⟨rfl, _⟩ := h; rfl) | (obtain ⟨_, rfl, _⟩ := h; rfl) | (obtain ⟨_, _, rfl, _⟩ := h; rfl) | (obtain ⟨_, _, _, rfl, _⟩ := h; rfl) | (obtain ⟨_, _, _, _, rfl, _⟩ := h; rfl) | (obtain ⟨_, _, _, _, _, rfl, _⟩ := h; rfl) | (obtain ⟨_, _, _, _, _, _, rfl, _⟩ := h; rfl) | (obtain ⟨_, _, _, _, _, _, _, rfl, _⟩ := h; rfl) | (obtain ⟨_, _, _, _, _, _, _, _, rfl, _⟩ := h; rfl) | (obtain ⟨_, _, _, _, _, _, _, _, _, rfl, _⟩ := h; rfl) | (obtain ⟨_, _, _, _, _, _, _, _, _, _, rfl, _⟩ := h; rfl) | (obtain ⟨_, _, _, _, _, _, _, _, _, _, _, rfl, _⟩ := h; rfl) | (obtain ⟨_, _, _, _, _, _, _, _, _, _, _, _, rfl, _⟩ := h; rfl) | (obtain ⟨_, _, _, _, _, _, _, _, _, _, _, _, _, rfl, _⟩ := h; rfl) | (obtain ⟨_, _, _, _, _, _, _, _, _, _, _, _, _, _, rfl, _⟩ := h; rfl) | (obtain ⟨_, _, _, _, _, _, _, _, _, _, _, _, _, _, _, rfl, _⟩ := h; rfl) | (obtain ⟨_, _, _, _, _, _, _, _, _, _, _, _, _, _, _, _, rfl, _⟩ := h; rfl) | (obtain ⟨_, _, _, _, _, _, _, _, _, _, _, _, _, _, _, _, _, rfl, _⟩ := h; rfl)) (fun cdv A outer s H vs Q E hr h => ?_)
  · have hu := hu_of hr
    obtain ⟨a, dx, fs, rfl, ha, q⟩ := h
    refine ⟨_, PSs.nox (pss_one (ps_if (pt_not (pt_val (pe_callB (id := "isinstance") call_isi rfl n_isinstance (by decide +kernel) (pa_cons (pv 0) (pa_cons (Kr.pe_gcls k_Settings) pa_nil))))) (pss_one ps_never) pss_nil)), ?_⟩
    rw [st_check_settings]
    walk_at "ss"
    refine r_isiC i_Settings ha ?_
    walk_at "ss"
    exact q
theorem ok_settings_text {P : Program} {w : World} {K : PySem.W.Frag} {mg : Str → Option Value} {base : Heap} {f : Addr} {fd : FuncData} (F : FunD K "settings_text" "settings_text" (defArgs s_settings_text) (defBody s_settings_text) (defScope s_settings_text) [] [] f fd) (a_Settings_every : NoAttr K (He.ga K "Settings") "every") (a_Settings_fanout : NoAttr K (He.ga K "Settings") "fanout") (a_Settings_keep : NoAttr K (He.ga K "Settings") "keep") (a_Settings_lengths : NoAttr K (He.ga K "Settings") "lengths") (a_Settings_records : NoAttr K (He.ga K "Settings") "records") (a_Settings_size : NoAttr K (He.ga K "Settings") "size") (c_Settings : Cls K (He.ga K "Settings")) (h_check_settings : Kr.FnH P w K mg base CX0 1 "check_settings" ["settings"] (sp_check_settings K)) (n_str : mg "str" = none) : FnOk P w K mg base CX0 2 f fd ["settings"] (sp_settings_text K) := by
  refine F.ok sc_settings_text (fun vs H Q E h => by first | (obtain ⟨rfl, _⟩ := h; rfl) | (obtain ⟨_, rfl, _⟩ := h; rfl) | (obtain ⟨_, _, rfl, _⟩ := h; rfl) | (obtain ⟨_, _, _, rfl, _⟩ := h; rfl) | (obtain ⟨_, _, _, _, rfl, _⟩ := h; rfl) | (obtain ⟨_, _, _, _, _, rfl, _⟩ := h; rfl) | (obtain ⟨_, _, _, _, _, _, rfl, _⟩ := h; rfl) | (obtain ⟨_, _, _, _, _, _, _, rfl, _⟩ := h; rfl) | (obtain ⟨_, _, _, _, _, _, _, _, rfl, _⟩ := h; rfl) | (obtain ⟨_, _, _, _, _, _, _, _, _, rfl, _⟩ := h; rfl) | (obtain ⟨_, _, _, _, _, _, _, _, _, _, rfl, _⟩ := h; rfl) | (obtain ⟨_, _, _, _, _, _, _, _, _, _, _, rfl, _⟩ := h; rfl) | (obtain ⟨_, _, _, _, _, _, _, _, _, _, _, _, rfl, _⟩ := h; rfl) | (obtain ⟨_, _, _, _, _, _, _, _, _, _, _, _, _, rfl, _⟩ := h; rfl) | (obtain ⟨_, _, _, _, _, _, _, _, _, _, _, _, _, _, rfl, _⟩ := h; rfl) | (obtain ⟨_, _, _, _, _, _, _, _, _, _, _, _, _, _, _, rfl, _⟩ := h; rfl) | (obtain ⟨_, _, _, _, _, _, _, _, _, _, _, _, _, _, _, _, rfl, _⟩ := h; rfl) | (obtain ⟨_, _, _, _, _, _, _, _, _, _, _, _, _, _, _, _, _, rfl, _⟩ := h; rfl)) (fun cdv A outer s H vs Q E hr h => ?_)
  · have hu := hu_of hr
    obtain ⟨a, ls, sz, fo, re, ev, ke, rfl, S, ok, q⟩ := h
    obtain ⟨dx, t, h1, h2⟩ := id S
    have cc := c_Settings
    have n1 := a_Settings_lengths
    have n2 := a_Settings_size
    have n3 := a_Settings_fanout
    have n4 := a_Settings_records
    have n5 := a_Settings_every
    have n6 := a_Settings_keep
    refine ⟨_, PSs.nox (pss_cons (ps_expr (Kr.pe_cl h_check_settings (hr.mono (by decide)) (pa_cons (pv 0) pa_nil))) (pss_cons (ps_set (i := 1) sc_settings_text.nd rfl (.inl rfl) (pe_lst (pa_cons (pe_op Kr.o_adds pe_str (KrT.pe_joinK (K := K) rfl pe_str (pe_lc (own := [("length", 2)]) rfl sc_settings_text.nd (pi_tup (pe_fld (pv 0) rfl)) (blkOk_by (own := [("length", 2)]) (N := N_settings_text) (sc := defScope s_settings_text) (by decide +kernel)) (fun _ _ _ _ _ => (pg_name (i := 2) sc_settings_text.nd rfl (.inl rfl))) (fun _ _ _ _ _ => pts_nil) (fun _ _ _ _ _ => (pe_callTy (T := "str") KrT.c_str rfl n_str (by decide +kernel) (pa_cons (pv 2) pa_nil)))))) (pa_cons (pe_op Kr.o_adds pe_str (pe_callTy (T := "str") KrT.c_str rfl n_str (by decide +kernel) (pa_cons (pe_fld (pv 0) rfl) pa_nil))) (pa_cons (pe_op Kr.o_adds pe_str (pe_callTy (T := "str") KrT.c_str rfl n_str (by decide +kernel) (pa_cons (pe_fld (pv 0) rfl) pa_nil))) (pa_cons (pe_op Kr.o_adds pe_str (pe_callTy (T := "str") KrT.c_str rfl n_str (by decide +kernel) (pa_cons (pe_fld (pv 0) rfl) pa_nil))) (pa_cons (pe_op Kr.o_adds pe_str (pe_callTy (T := "str") KrT.c_str rfl n_str (by decide +kernel) (pa_cons (pe_fld (pv 0) rfl) pa_nil))) (pa_cons (pe_op Kr.o_adds pe_str (pe_callTy (T := "str") KrT.c_str rfl n_str (by decide +kernel) (pa_cons (pe_fld (pv 0) rfl) pa_nil))) pa_nil)))))))) (pss_one (ps_ret (pe_op Kr.o_adds (KrT.pe_joinK (K := K) rfl pe_str (pv 1)) pe_str))))), ?_⟩
    rw [st_settings_text]
    walk_at "ss"
    refine ⟨a, _, _, rfl, h1, ?_⟩
    walk_at "ss"
    refine KrT.r_m1 ?_
    walk_at "ss"
    refine ⟨⟨" ", rfl⟩, ?_⟩
    walk_at "ss"
    intro D hD
    refine lc_tupS (xs := ls.map V.int) [some (.ref a), none, none] rfl (fun i H5 => Same H H5 ∧ H5 D = some (.lst (((ls.take i).map wr).map V.str))) ⟨same_new hD, upd_same⟩ (fun i H5 hi e => SqT.of (e.1 _ _ h2)) ?_ ?_
    · rintro i x H5 hx ⟨s5, e5⟩
      rw [List.getElem?_map] at hx
      obtain ⟨l, el, rfl⟩ := Option.map_eq_some_iff.mp hx
      obtain ⟨r1, r2⟩ := ok.r l (List.mem_of_getElem? el)
      have tk : ls.take (i + 1) = ls.take i ++ [l] := by rw [List.take_add_one, el]; rfl
      have l6 := ok.l6
      walk_at "ss"
      refine ⟨rfl, ?_⟩
      walk_at "ss"
      refine KrT.r_str (wr_log (by omega) (by omega)) ?_
      walk_at "ss"
      refine ⟨_, e5, by rw [List.length_map, List.length_map]; exact szl (Nat.lt_of_le_of_lt (List.length_take_le' _ _) (by omega)), fun b o e => ?_, ?_⟩
      · rw [upd_ne (ne_of_none e hD)]
        exact s5 b o e
      · rw [upd_same, tk, List.map_append, List.map_append]
        rfl
    rintro H2 ⟨s2, e2⟩
    rw [List.length_map, List.take_length] at e2
    have sm := sum_wr ok.r
    have l6 := ok.l6
    have g1 := s2 _ _ h1
    walk_at "ss"
    refine KrT.r_join e2 (by rw [List.length_map, show (" " : Str).length = 1 by decide +kernel]; omega) ?_
    have zl := sizeLine_eq
    have jl := join_le " " (ls.map wr)
    rw [List.length_map, show (" " : Str).length = 1 by decide +kernel] at jl
    obtain ⟨z1, z2⟩ := ok.sz
    obtain ⟨f1, f2⟩ := ok.fo
    obtain ⟨c1, c2⟩ := ok.re
    obtain ⟨v1, v2⟩ := ok.ev
    obtain ⟨k1, k2⟩ := ok.ke
    refine ⟨"lengths ", _, rfl, rfl, by rw [show ("lengths " : Str).length = 8 by decide +kernel]; omega, ?_⟩
    walk_at "ss"
    refine KrT.r_str (wr_log (by omega) (by omega)) ?_
    walk_at "ss"
    refine ⟨"size ", _, rfl, rfl, by rw [show ("size " : Str).length = 5 by decide +kernel]; have := wr_le (i := sz) (by omega) (by omega); show 5 + (wr sz).length ≤ sizeLine; omega, ?_⟩
    walk_at "ss"
    refine KrT.r_str (wr_log (by omega) (by omega)) ?_
    walk_at "ss"
    refine ⟨"fanout ", _, rfl, rfl, by rw [show ("fanout " : Str).length = 7 by decide +kernel]; have := wr_le (i := fo) (by omega) (by omega); show 7 + (wr fo).length ≤ sizeLine; omega, ?_⟩
    walk_at "ss"
    refine KrT.r_str (wr_log (by omega) (by omega)) ?_
    walk_at "ss"
    refine ⟨"records ", _, rfl, rfl, by rw [show ("records " : Str).length = 8 by decide +kernel]; have := wr_le (i := re) (by omega) (by omega); show 8 + (wr re).length ≤ sizeLine; omega, ?_⟩
    walk_at "ss"
    refine KrT.r_str (wr_log (by omega) (by omega)) ?_
    walk_at "ss"
    refine ⟨"every ", _, rfl, rfl, by rw [show ("every " : Str).length = 6 by decide +kernel]; have := wr_le (i := ev) (by omega) (by omega); show 6 + (wr ev).length ≤ sizeLine; omega, ?_⟩
    walk_at "ss"
    refine KrT.r_str (wr_log (by omega) (by omega)) ?_
    walk_at "ss"
    refine ⟨"keep ", _, rfl, rfl, by rw [show ("keep " : Str).length = 5 by decide +kernel]; have := wr_le (i := ke) (by omega) (by omega); show 5 + (wr ke).length ≤ sizeLine; omega, ?_⟩
    walk_at "ss"
    refine r_newS fun l3 H3 n3' s3 e3 => ?_
    have e3' : H3 l3 = some (.lst ((lnS ls sz fo re ev ke).map V.str)) := e3
    have ll := lnS_le ok
    have jl2 := join_le "\n" (lnS ls sz fo re ev ke)
    rw [show ("\n" : Str).length = 1 by decide +kernel] at jl2
    walk_at "ss"
    refine KrT.r_m1 ?_
    walk_at "ss"
    refine ⟨⟨"\n", rfl⟩, ?_⟩
    walk_at "ss"
    refine KrT.r_join e3' (by rw [show ("\n" : Str).length = 1 by decide +kernel]; omega) ?_
    walk_at "ss"
    refine ⟨_, "\n", rfl, rfl, by rw [show ("\n" : Str).length = 1 by decide +kernel]; omega, ?_⟩
    exact q H3 (s2.trans s3)
theorem ok_number_in {P : Program} {w : World} {K : PySem.W.Frag} {mg : Str → Option Value} {base : Heap} {f : Addr} {fd : FuncData} (F : FunD K "number_in" "number_in" (defArgs s_number_in) (defBody s_number_in) (defScope s_number_in) [] [] f fd) (n_range : mg "range" = none) (n_str : mg "str" = none) : FnOk P w K mg base CX0 1 f fd ["text", "least", "most"] (sp_number_in K) := by
  refine F.ok sc_number_in (fun vs H Q E h => by first | (obtain ⟨rfl, _⟩ := h; rfl) | (obtain ⟨_, rfl, _⟩ := h; rfl) | (obtain ⟨_, _, rfl, _⟩ := h; rfl) | (obtain ⟨_, _, _, rfl, _⟩ := h; rfl) | (obtain ⟨_, _, _, _, rfl, _⟩ := h; rfl) | (obtain ⟨_, _, _, _, _, rfl, _⟩ := h; rfl) | (obtain ⟨_, _, _, _, _, _, rfl, _⟩ := h; rfl) | (obtain ⟨_, _, _, _, _, _, _, rfl, _⟩ := h; rfl) | (obtain ⟨_, _, _, _, _, _, _, _, rfl, _⟩ := h; rfl) | (obtain ⟨_, _, _, _, _, _, _, _, _, rfl, _⟩ := h; rfl) | (obtain ⟨_, _, _, _, _, _, _, _, _, _, rfl, _⟩ := h; rfl) | (obtain ⟨_, _, _, _, _, _, _, _, _, _, _, rfl, _⟩ := h; rfl) | (obtain ⟨_, _, _, _, _, _, _, _, _, _, _, _, rfl, _⟩ := h; rfl) | (obtain ⟨_, _, _, _, _, _, _, _, _, _, _, _, _, rfl, _⟩ := h; rfl) | (obtain ⟨_, _, _, _, _, _, _, _, _, _, _, _, _, _, rfl, _⟩ := h; rfl) | (obtain ⟨_, _, _, _, _, _, _, _, _, _, _, _, _, _, _, rfl, _⟩ := h; rfl) | (obtain ⟨_, _, _, _, _, _, _, _, _, _, _, _, _, _, _, _, rfl, _⟩ := h; rfl) | (obtain ⟨_, _, _, _, _, _, _, _, _, _, _, _, _, _, _, _, _, rfl, _⟩ := h; rfl)) (fun cdv A outer s H vs Q E hr h => ?_)
  · have hu := hu_of hr
    obtain ⟨s, a, b, rfl, a0, a9, b0, b9, q⟩ := h
    refine ⟨_, PSs.nox (pss_cons (KrT.ps_setDc (i := 3) (own := [("number", 4)]) rfl sc_number_in.nd rfl rfl (KrT.sw_trueD rfl rfl rfl (by decide +kernel)) (pi_range2 rfl n_range (pa_cons (pv 1) (pa_cons (pe_op op_add (pv 2) pe_int) pa_nil))) (blkOk_by (own := [("number", 4)]) (N := N_number_in) (sc := defScope s_number_in) (by decide +kernel)) (fun _ _ _ _ _ => (pg_name (i := 4) sc_number_in.nd rfl (.inl rfl))) (fun _ _ _ _ _ => pts_nil) (fun _ _ _ _ _ => (pe_callTy (T := "str") KrT.c_str rfl n_str (by decide +kernel) (pa_cons (pv 4) pa_nil))) (fun _ _ _ _ _ => (pv 4))) (pss_one (ps_ret (pe_dget1 hu (pv 3) (pv 0) ⟨rfl, rfl, rfl, rfl⟩)))), ?_⟩
    rw [st_number_in]
    walk_at "ss"
    refine KrT.r_dc ?_
    walk_at "ss"
    intro D hD
    refine KrT.dc_rangeS [some (.str s), some (.int a), some (.int b), none, none] rfl (fun i H5 => Same H H5 ∧ ∃ kvs : List (Key × V), H5 D = some (.dK kvs) ∧ kvs.length ≤ i ∧ ∀ x : Str, valV kvs (Sum.inr x) = (numF x a i).map V.int) ⟨same_new hD, [], upd_same, Nat.le_refl _, fun x => rfl⟩ ?_ ?_
    · rintro i H5 hi ⟨s5, kvs, e5, lk, hv⟩
      walk_at "ss"
      refine ⟨rfl, ?_⟩
      walk_at "ss"
      refine KrT.r_str (wr_log (by omega) (by omega)) ?_
      walk_at "ss"
      refine ⟨kvs, Sum.inr (wr (a + i)), rfl, e5, szl (by omega), fun b' o e => ?_, _, upd_same, ?_, fun x => ?_⟩
      · rw [upd_ne (ne_of_none e hD)]
        exact s5 b' o e
      · have := length_putK kvs (Sum.inr (wr (a + i))) (V.int (a + i))
        omega
      · rw [valV_put]
        unfold numF
        by_cases z : x = wr (a + i)
        · rw [if_pos (by rw [z]), if_pos z]
          rfl
        · rw [if_neg (fun e => z (Sum.inr.inj e)), if_neg z]
          exact hv x
    rintro H5 ⟨s5, kvs, e5, lk, hv⟩
    walk_at "ss"
    refine KrT.r_dget1 ?_
    walk_at "ss"
    refine ⟨D, rfl, .inl ⟨kvs, .inl e5⟩, ?_⟩
    walk_at "ss"
    refine ⟨(numF s a (b + 1 - a).toNat).map V.int, .inl ⟨kvs, Sum.inr s, .inl e5, rfl, (hv s).symm⟩, ?_⟩
    exact q H5 s5
theorem ok_lengths_in {P : Program} {w : World} {K : PySem.W.Frag} {mg : Str → Option Value} {base : Heap} {f : Addr} {fd : FuncData} (F : FunD K "lengths_in" "lengths_in" (defArgs s_lengths_in) (defBody s_lengths_in) (defScope s_lengths_in) [] [] f fd) (g_MOST_LENGTHS : ∃ t, mg "MOST_LENGTHS" = some (.int 6 t)) (g_MOST_UNITS : ∃ t, mg "MOST_UNITS" = some (.int 64 t)) (h_number_in : Kr.FnH P w K mg base CX0 1 "number_in" ["text", "least", "most"] (sp_number_in K)) (n_len : mg "len" = none) : FnOk P w K mg base CX0 2 f fd ["line"] (sp_lengths_in K) := by
  refine F.ok sc_lengths_in (fun vs H Q E h => by first | (obtain ⟨rfl, _⟩ := h; rfl) | (obtain ⟨_, rfl, _⟩ := h; rfl) | (obtain ⟨_, _, rfl, _⟩ := h; rfl) | (obtain ⟨_, _, _, rfl, _⟩ := h; rfl) | (obtain ⟨_, _, _, _, rfl, _⟩ := h; rfl) | (obtain ⟨_, _, _, _, _, rfl, _⟩ := h; rfl) | (obtain ⟨_, _, _, _, _, _, rfl, _⟩ := h; rfl) | (obtain ⟨_, _, _, _, _, _, _, rfl, _⟩ := h; rfl) | (obtain ⟨_, _, _, _, _, _, _, _, rfl, _⟩ := h; rfl) | (obtain ⟨_, _, _, _, _, _, _, _, _, rfl, _⟩ := h; rfl) | (obtain ⟨_, _, _, _, _, _, _, _, _, _, rfl, _⟩ := h; rfl) | (obtain ⟨_, _, _, _, _, _, _, _, _, _, _, rfl, _⟩ := h; rfl) | (obtain ⟨_, _, _, _, _, _, _, _, _, _, _, _, rfl, _⟩ := h; rfl) | (obtain ⟨_, _, _, _, _, _, _, _, _, _, _, _, _, rfl, _⟩ := h; rfl) | (obtain ⟨_, _, _, _, _, _, _, _, _, _, _, _, _, _, rfl, _⟩ := h; rfl) | (obtain ⟨_, _, _, _, _, _, _, _, _, _, _, _, _, _, _, rfl, _⟩ := h; rfl) | (obtain ⟨_, _, _, _, _, _, _, _, _, _, _, _, _, _, _, _, rfl, _⟩ := h; rfl) | (obtain ⟨_, _, _, _, _, _, _, _, _, _, _, _, _, _, _, _, _, rfl, _⟩ := h; rfl)) (fun cdv A outer s H vs Q E hr h => ?_)
  · have hu := hu_of hr
    obtain ⟨L, rfl, lL, qn, qs⟩ := h
    unfold lenIn at qn qs
    refine ⟨_, PSs.nox (pss_cons (ps_set (i := 1) sc_lengths_in.nd rfl (.inl rfl) (KrT.pe_splitT (pv 0) pe_str)) (pss_cons (ps_if (PW.pt (pw_or (pt_cmpR op_ne (pe_ix ix_list (pv 1) pe_int (fun _ _ => rfl)) pe_str (nomark _)) (pw_or1 (pt_not (pt_chain op_le op_le pe_int (pe_callB (id := "len") Kr.c_len rfl n_len (by decide +kernel) (pa_cons (pv 1) pa_nil)) (pe_op op_add (Kr.pe_gint g_MOST_LENGTHS) pe_int)))))) (pss_one (ps_ret pe_non)) pss_nil) (pss_cons (ps_setLc (i := 2) (own := [("word", 3)]) rfl sc_lengths_in.nd rfl rfl (sw_true rfl rfl rfl (by decide +kernel)) (pi_list (pe_slice sl_list (pv 1) (po_some pe_int) po_none)) (blkOk_by (own := [("word", 3)]) (N := N_lengths_in) (sc := defScope s_lengths_in) (by decide +kernel)) (fun _ _ _ _ _ => (pg_name (i := 3) sc_lengths_in.nd rfl (.inl rfl))) (fun _ _ _ _ _ => pts_nil) (fun _ _ _ _ _ => (Kr.pe_cl h_number_in (hr.mono (by decide)) (pa_cons (pv 3) (pa_cons pe_int (pa_cons (Kr.pe_gint g_MOST_UNITS) pa_nil)))))) (pss_cons (ps_if (pt_cmpR op_in_seq pe_non (pv 2) (by rfl)) (pss_one (ps_ret pe_non)) pss_nil) (pss_one (ps_ret (pv 2))))))), ?_⟩
    rw [st_lengths_in]
    have zl := sizeLine_eq
    walk_at "ss"
    refine KrT.r_m1 ?_
    walk_at "ss"
    refine ⟨⟨L, rfl⟩, ?_⟩
    walk_at "ss"
    refine KrT.r_split (by decide +kernel) (by omega) fun p H1 hp s1 e1 => ?_
    have ne := split_ne L " " (by decide +kernel) (by decide +kernel)
    revert ne e1 qn qs
    generalize Txt.split L " " = sp
    cases sp with
    | nil => exact fun _ _ _ ne => absurd rfl ne
    | cons w ws =>
    intro qn qs e1 ne
    have lw : ((w :: ws).map V.str).length = ws.length + 1 := by simp
    walk_at "ss"
    refine r_ixL (SqL.of e1) (at_of (j := 0) (v := V.str w) rfl rfl) ?_
    walk_at "ss"
    refine r_decN (fun ew => ?_) fun ew => ?_
    · walk_at "ss"
      exact qn (if_neg fun z => ew z.1) H1 s1
    walk_at "ss"
    rw [lw]
    walk_at "ss"
    refine r_dec (fun n1 => ?_) fun n1 => ?_
    rotate_left
    · walk_at "ss"
      exact qn (if_neg fun z => n1 (by have := z.2.1; omega)) H1 s1
    walk_at "ss"
    refine r_decN (fun n2 => ?_) fun n2 => ?_
    · walk_at "ss"
      exact qn (if_neg fun z => n2 (by have := z.2.2; omega)) H1 s1
    have cd : w = "lengths" ∧ 1 ≤ ws.length ∧ ws.length ≤ 6 := ⟨ew, by omega, by omega⟩
    have qn : allS (ws.map fun s => numF s 1 64) = none → ∀ H', Same H H' → Q .non H' := fun h => qn ((if_pos cd).trans h)
    have qs : ∀ ls, allS (ws.map fun s => numF s 1 64) = some ls → ∀ (t : Addr) (H' : Hp), Same H H' → H' t = some (.lst (ls.map V.int)) → Q (.ref t) H' := fun ls h => qs ls ((if_pos cd).trans h)
    walk_at "ss"
    rw [List.map_cons, cut_one]
    refine r_newS fun g H2 n2 s2 e2 => ?_
    walk_at "ss"
    intro D hD
    refine lc_listS (xs := ws.map V.str) [some (.str L), some (.ref p), none, none] rfl (fun i H5 => Same H2 H5 ∧ H5 D = some (.lst (((ws.take i).map fun s => numF s 1 64).map oV))) ⟨same_new hD, upd_same⟩ (fun i H5 hi e => SqL.of (e.1 _ _ e2)) ?_ ?_
    · rintro i x H5 hx ⟨s5, e5⟩
      rw [List.getElem?_map] at hx
      obtain ⟨l, el, rfl⟩ := Option.map_eq_some_iff.mp hx
      have tk : ws.take (i + 1) = ws.take i ++ [l] := by rw [List.take_add_one, el]; rfl
      walk_at "ss"
      refine ⟨rfl, ?_⟩
      walk_at "ss"
      refine ⟨l, 1, 64, rfl, by decide, by decide, by decide, by decide, fun H6 s6 => ?_⟩
      refine ⟨_, s6 _ _ e5, by rw [List.length_map, List.length_map]; exact szl (Nat.lt_of_le_of_lt (List.length_take_le' _ _) (by omega)), fun b o e => ?_, ?_⟩
      · rw [upd_ne (ne_of_none e hD)]
        exact s6 _ _ (s5 b o e)
      · rw [upd_same, tk, List.map_append, List.map_append]
        rfl
    rintro H3 ⟨s3, e3⟩
    rw [List.length_map, List.take_length] at e3
    walk_at "ss"
    refine ⟨D, _, rfl, .inl (SqL.of e3), rfl, ?_, ?_⟩
    · rw [List.all_eq_true]
      intro v hv
      obtain ⟨l, -, rfl⟩ := List.mem_map.mp hv
      exact oV_flat l
    · rw [show (if false = true then !inV V.non ((ws.map fun s => numF s 1 64).map oV) else inV V.non ((ws.map fun s => numF s 1 64).map oV)) = (allS (ws.map fun s => numF s 1 64)).isNone from allS_in _]
      have s13 := s1.trans (s2.trans s3)
      cases ha : allS (ws.map fun s => numF s 1 64) with
      | none =>
        rw [show (none : Option (List Int)).isNone = true from rfl]
        walk_at "ss"
        exact qn ha H3 s13
      | some ls =>
        rw [show (some ls).isNone = false from rfl]
        walk_at "ss"
        rw [(allS_map ha).1] at e3
        exact qs ls ha D H3 s13 e3
theorem ok_value_in {P : Program} {w : World} {K : PySem.W.Frag} {mg : Str → Option Value} {base : Heap} {f : Addr} {fd : FuncData} (F : FunD K "value_in" "value_in" (defArgs s_value_in) (defBody s_value_in) (defScope s_value_in) [] [] f fd) (h_number_in : Kr.FnH P w K mg base CX0 1 "number_in" ["text", "least", "most"] (sp_number_in K)) (n_len : mg "len" = none) : FnOk P w K mg base CX0 2 f fd ["line", "part", "least", "most"] (sp_value_in K) := by
  refine F.ok sc_value_in (fun vs H Q E h => by first | (obtain ⟨rfl, _⟩ := h; rfl) | (obtain ⟨_, rfl, _⟩ := h; rfl) | (obtain ⟨_, _, rfl, _⟩ := h; rfl) | (obtain ⟨_, _, _, rfl, _⟩ := h; rfl) | (obtain ⟨_, _, _, _, rfl, _⟩ := h; rfl) | (obtain ⟨_, _, _, _, _, rfl, _⟩ := h; rfl) | (obtain ⟨_, _, _, _, _, _, rfl, _⟩ := h; rfl) | (obtain ⟨_, _, _, _, _, _, _, rfl, _⟩ := h; rfl) | (obtain ⟨_, _, _, _, _, _, _, _, rfl, _⟩ := h; rfl) | (obtain ⟨_, _, _, _, _, _, _, _, _, rfl, _⟩ := h; rfl) | (obtain ⟨_, _, _, _, _, _, _, _, _, _, rfl, _⟩ := h; rfl) | (obtain ⟨_, _, _, _, _, _, _, _, _, _, _, rfl, _⟩ := h; rfl) | (obtain ⟨_, _, _, _, _, _, _, _, _, _, _, _, rfl, _⟩ := h; rfl) | (obtain ⟨_, _, _, _, _, _, _, _, _, _, _, _, _, rfl, _⟩ := h; rfl) | (obtain ⟨_, _, _, _, _, _, _, _, _, _, _, _, _, _, rfl, _⟩ := h; rfl) | (obtain ⟨_, _, _, _, _, _, _, _, _, _, _, _, _, _, _, rfl, _⟩ := h; rfl) | (obtain ⟨_, _, _, _, _, _, _, _, _, _, _, _, _, _, _, _, rfl, _⟩ := h; rfl) | (obtain ⟨_, _, _, _, _, _, _, _, _, _, _, _, _, _, _, _, _, rfl, _⟩ := h; rfl)) (fun cdv A outer s H vs Q E hr h => ?_)
  · have hu := hu_of hr
    obtain ⟨L, p, a, b, rfl, a0, a9, b0, b9, lp, lL, q⟩ := h
    unfold valIn at q
    refine ⟨_, PSs.nox (pss_cons (ps_if (pt_not (pt_val (KrT.pe_starts (pv 0) (pe_op Kr.o_adds (pv 1) pe_str)))) (pss_one (ps_ret pe_non)) pss_nil) (pss_one (ps_ret (Kr.pe_cl h_number_in (hr.mono (by decide)) (pa_cons (pe_slice sl_str (pv 0) (po_some (pe_op op_add (pe_callB (id := "len") call_len_str rfl n_len (by decide +kernel) (pa_cons (pv 1) pa_nil)) pe_int)) po_none) (pa_cons (pv 2) (pa_cons (pv 3) pa_nil))))))), ?_⟩
    rw [st_value_in]
    walk_at "ss"
    refine KrT.r_m1 ?_
    walk_at "ss"
    have e1 : (" " : Str).length = 1 := by decide +kernel
    have zl := sizeLine_eq
    refine ⟨⟨L, rfl⟩, ?_⟩
    walk_at "ss"
    refine ⟨p, " ", rfl, rfl, by omega, ?_⟩
    walk_at "ss"
    refine KrT.r_starts ?_
    generalize hs : Txt.startswith L (p ++ " ") = w at q ⊢
    cases w with
    | false =>
      walk_at "ss"
      exact q H fun _ _ e => e
    | true =>
      walk_at "ss"
      refine ⟨p, rfl, by omega, ?_⟩
      walk_at "ss"
      refine ⟨_, rfl, ?_⟩
      walk_at "ss"
      refine ⟨by omega, ?_⟩
      walk_at "ss"
      exact ⟨_, a, b, rfl, a0, a9, b0, b9, q⟩
theorem ok_read_settings {P : Program} {w : World} {K : PySem.W.Frag} {mg : Str → Option Value} {base : Heap} {f : Addr} {fd : FuncData} (F : FunD K "read_settings" "read_settings" (defArgs s_read_settings) (defBody s_read_settings) (defScope s_read_settings) [] [] f fd) (er_InvalidText : KrE.ErH P w K mg base CX0 1 "InvalidText" (He.ga K "InvalidText") ["self", "line"] (sp_InvalidText___init__ K)) (h_bounds_behind : Kr.FnH P w K mg base CX0 1 "bounds_behind" ["lengths"] (sp_bounds_behind K)) (h_lengths_in : Kr.FnH P w K mg base CX0 2 "lengths_in" ["line"] (sp_lengths_in K)) (h_value_in : Kr.FnH P w K mg base CX0 2 "value_in" ["line", "part", "least", "most"] (sp_value_in K)) (mk_Settings : Kr.MkK P w K mg base CX0 4 "Settings" (He.ga K "Settings") ["self", "lengths", "size", "fanout", "records", "every", "keep"] 3 ["fanout", "records", "every", "keep"] (sp_Settings___init__ K)) (n_enumerate : mg "enumerate" = none) (n_isinstance : mg "isinstance" = none) (n_len : mg "len" = none) (n_str : mg "str" = none) : FnOk P w K mg base (L2.CX P w) 6 f fd ["text"] (sp_read_settings K) := by
  refine F.ok sc_read_settings (fun vs H Q E h => by first | (obtain ⟨rfl, _⟩ := h; rfl) | (obtain ⟨_, rfl, _⟩ := h; rfl) | (obtain ⟨_, _, rfl, _⟩ := h; rfl) | (obtain ⟨_, _, _, rfl, _⟩ := h; rfl) | (obtain ⟨_, _, _, _, rfl, _⟩ := h; rfl) | (obtain ⟨_, _, _, _, _, rfl, _⟩ := h; rfl) | (obtain ⟨_, _, _, _, _, _, rfl, _⟩ := h; rfl) | (obtain ⟨_, _, _, _, _, _, _, rfl, _⟩ := h; rfl) | (obtain ⟨_, _, _, _, _, _, _, _, rfl, _⟩ := h; rfl) | (obtain ⟨_, _, _, _, _, _, _, _, _, rfl, _⟩ := h; rfl) | (obtain ⟨_, _, _, _, _, _, _, _, _, _, rfl, _⟩ := h; rfl) | (obtain ⟨_, _, _, _, _, _, _, _, _, _, _, rfl, _⟩ := h; rfl) | (obtain ⟨_, _, _, _, _, _, _, _, _, _, _, _, rfl, _⟩ := h; rfl) | (obtain ⟨_, _, _, _, _, _, _, _, _, _, _, _, _, rfl, _⟩ := h; rfl) | (obtain ⟨_, _, _, _, _, _, _, _, _, _, _, _, _, _, rfl, _⟩ := h; rfl) | (obtain ⟨_, _, _, _, _, _, _, _, _, _, _, _, _, _, _, rfl, _⟩ := h; rfl) | (obtain ⟨_, _, _, _, _, _, _, _, _, _, _, _, _, _, _, _, rfl, _⟩ := h; rfl) | (obtain ⟨_, _, _, _, _, _, _, _, _, _, _, _, _, _, _, _, _, rfl, _⟩ := h; rfl)) (fun cdv A outer s H vs Q E hr h => ?_)
  · have hu := hu_of hr
    obtain ⟨v, rfl, h⟩ := h
    have out : ∀ {n : Int} {H' : Hp}, RaiT K H E n → Same H H' → KrE.rMkE (He.ga K "InvalidText") (sp_InvalidText___init__ K) [.int n] H' fun cls d H2 => E cls d H2 := fun {n H'} er s => KrE.r_mk1 (f := "line") (fun x Hx Q' hx k => ⟨x, _, rfl, hx, k⟩) fun d H2 s2 hd hx => er d H2 (s.trans s2) (s.free hd) hx
    have zl := sizeLine_eq
    refine ⟨_, (pss_cons (ps_if (pt_not (pt_val (pe_callB (id := "isinstance") call_isi rfl n_isinstance (by decide +kernel) (pa_cons (pv 0) (pa_cons (Kr.pe_bty (T := "str") n_str) pa_nil))))) (pss_one (ps_raise rfl (takes_of rfl rfl rfl rfl) (KrE.pmk_mk er_InvalidText (hr.mono (by decide)) (pa_cons (pe_un un_neg pe_int) pa_nil)))) pss_nil) (pss_cons (ps_set (i := 1) sc_read_settings.nd rfl (.inl rfl) (KrT.pe_splitT (pv 0) pe_str)) (pss_cons (ps_set (i := 2) sc_read_settings.nd rfl (.inl rfl) (pe_op op_sub (pe_callB (id := "len") Kr.c_len rfl n_len (by decide +kernel) (pa_cons (pv 1) pa_nil)) pe_int)) (pss_cons (ps_set (i := 3) sc_read_settings.nd rfl (.inl rfl) (Kr.pe_cl h_lengths_in (hr.mono (by decide)) (pa_cons (pe_ix ix_list (pv 1) pe_int (fun _ _ => rfl)) pa_nil))) (pss_cons (ps_if (PW.pt (pw_or (pt_cmpR op_lt (pv 2) pe_int (nomark _)) (pw_or1 (pt_cmpR Kr.o_isN (pv 3) pe_non (nomark _))))) (pss_one (ps_raise rfl (takes_of rfl rfl rfl rfl) (KrE.pmk_mk er_InvalidText (hr.mono (by decide)) (pa_cons pe_int pa_nil)))) pss_nil) (pss_cons (ps_set (i := 4) sc_read_settings.nd rfl (.inl rfl) (Kr.pe_cl h_bounds_behind (hr.mono (by decide)) (pa_cons (pv 3) pa_nil))) (pss_cons (ps_set (i := 5) sc_read_settings.nd rfl (.inl rfl) pe_dnewK) (pss_cons (ps_for (passes_of rfl) rfl (pi_enum rfl n_enumerate (pa_cons (pv 4) pa_nil)) (pg_tup rfl (pgs_cons (pg_name (i := 6) sc_read_settings.nd rfl (.inl rfl)) (pgs_cons (pg_tup rfl (pgs_cons (pg_name (i := 7) sc_read_settings.nd rfl (.inl rfl)) (pgs_cons (pg_name (i := 8) sc_read_settings.nd rfl (.inl rfl)) (pgs_cons (pg_name (i := 9) sc_read_settings.nd rfl (.inl rfl)) pgs_nil)))) pgs_nil))) (pss_cons (ps_set (i := 10) sc_read_settings.nd rfl (.inl rfl) (pe_ifExp (pt_cmpR op_lt (pe_op op_add (pv 6) pe_int) (pv 2) (nomark _)) (Kr.pe_cl h_value_in (hr.mono (by decide)) (pa_cons (pe_ix ix_list (pv 1) (pe_op op_add (pv 6) pe_int) (fun _ _ => rfl)) (pa_cons (pv 7) (pa_cons (pv 8) (pa_cons (pv 9) pa_nil))))) pe_non)) (pss_cons (ps_if (pt_cmpR Kr.o_isN (pv 10) pe_non (nomark _)) (pss_one (ps_raise rfl (takes_of rfl rfl rfl rfl) (KrE.pmk_mk er_InvalidText (hr.mono (by decide)) (pa_cons (pe_op op_add (pv 6) pe_int) pa_nil)))) pss_nil) (pss_one (ps_dput hu (pv 5) (pv 7) (pv 10) rfl))))) (pss_cons (ps_if (PW.pt (pw_or (pt_cmpR op_gt (pv 2) (pe_op op_add (pe_callB (id := "len") Kr.c_len rfl n_len (by decide +kernel) (pa_cons (pv 4) pa_nil)) pe_int) (nomark _)) (pw_or1 (pt_cmpR op_ne (pe_ix ix_list (pv 1) (pv 2) (fun _ _ => rfl)) pe_str (nomark _))))) (pss_one (ps_raise rfl (takes_of rfl rfl rfl rfl) (KrE.pmk_mk er_InvalidText (hr.mono (by decide)) (pa_cons (pe_op op_add (pe_callB (id := "len") Kr.c_len rfl n_len (by decide +kernel) (pa_cons (pv 4) pa_nil)) pe_int) pa_nil)))) pss_nil) (pss_one (ps_ret (Kr.pe_mkE mk_Settings (hr.mono (by decide)) pass0 (pa_cons (pv 3) (pa_cons (pe_dget hu (pv 5) pe_str (fun _ _ => rfl)) pa_nil)) (pk_cons (pe_dget hu (pv 5) pe_str (fun _ _ => rfl)) (pk_cons (pe_dget hu (pv 5) pe_str (fun _ _ => rfl)) (pk_cons (pe_dget hu (pv 5) pe_str (fun _ _ => rfl)) (pk_cons (pe_dget hu (pv 5) pe_str (fun _ _ => rfl)) pk_nil)))))))))))))))), ?_⟩
    rw [st_read_settings]
    walk_at "ss"
    rcases h with ⟨T, rfl, lT, h⟩ | ⟨U, ty, kt, er⟩
    rotate_left
    · refine r_isiT ty kt ?_
      walk_at "ss"
      refine KrE.r_mkE ?_
      walk_at "ss"
      exact out er fun _ _ e => e
    refine r_isiT (.base (.str _)) (b := true) (by decide +kernel) ?_
    walk_at "ss"
    refine KrT.r_m1 ?_
    walk_at "ss"
    refine ⟨⟨_, rfl⟩, ?_⟩
    walk_at "ss"
    refine KrT.r_split (by decide +kernel) (by omega) fun p H1 hp s1 e1 => ?_
    have ne := split_ne T "\n" (by decide +kernel) (by decide +kernel)
    have lens : ∀ x ∈ Txt.split T "\n", x.length ≤ 80000 := fun x hx => Nat.le_trans (split_le hx) lT
    revert ne e1 h lens
    generalize Txt.split T "\n" = sp
    cases sp with
    | nil => exact fun _ _ ne _ => absurd rfl ne
    | cons w0 ws =>
    intro h e1 ne lens
    have lw : ((w0 :: ws).map V.str).length = ws.length + 1 := by simp
    have l0 := lens w0 List.mem_cons_self
    walk_at "ss"
    rw [lw]
    walk_at "ss"
    refine r_ixL (SqL.of e1) (at_of (j := 0) (v := V.str w0) rfl rfl) ?_
    walk_at "ss"
    rcases h with ⟨c0, er⟩ | ⟨ls, m, n2, hl, hm, hmax, h⟩
    · cases hl : lenIn w0 with
      | none =>
        refine ⟨w0, rfl, by omega, fun _ H2 s2 => ?_, fun ls z => (by rw [hl] at z; cases z)⟩
        walk_at "ss"
        by_cases z : (((ws.length + 1 : Nat) : Int) - 1 < 1)
        · rw [decide_eq_true z]
          walk_at "ss"
          refine KrE.r_mkE ?_
          walk_at "ss"
          exact out er (s1.trans s2)
        · rw [decide_eq_false z]
          walk_at "ss"
          refine ⟨rfl, ?_⟩
          rw [decide_eq_true rfl]
          walk_at "ss"
          refine KrE.r_mkE ?_
          walk_at "ss"
          exact out er (s1.trans s2)
      | some ls =>
        refine ⟨w0, rfl, by omega, fun z => (by rw [hl] at z; cases z), fun ls' _ t H2 s2 e2 => ?_⟩
        have z : (((ws.length + 1 : Nat) : Int) - 1 < 1) := by
          rcases c0 with c0 | c0
          · rw [List.length_cons] at c0
            omega
          · rw [show (w0 :: ws).headD "" = w0 from rfl, hl] at c0
            cases c0
        walk_at "ss"
        rw [decide_eq_true z]
        walk_at "ss"
        refine KrE.r_mkE ?_
        walk_at "ss"
        exact out er (s1.trans s2)
    have hl : lenIn w0 = some ls := hl
    rw [List.length_cons] at n2
    refine ⟨w0, rfl, by omega, fun z => (by rw [hl] at z; cases z), fun ls' z t H2 s2 e2 => ?_⟩
    rw [hl] at z
    cases z
    walk_at "ss"
    rw [decide_eq_false (show ¬ (((ws.length + 1 : Nat) : Int) - 1 < 1) by omega)]
    walk_at "ss"
    refine ⟨rfl, ?_⟩
    rw [decide_eq_false (by intro z; cases z)]
    walk_at "ss"
    obtain ⟨hl2, hl3⟩ := allS_len hl
    refine ⟨t, ls, rfl, e2, hl2, hl3, fun m' L H3 hm' hmx' s3 hB => ?_⟩
    have em : m' = m := by
      have h1 := hmax m' hm'
      have h2 := hmx' m hm
      omega
    rw [em] at hB
    walk_at "ss"
    refine r_newS fun d H4 nd s4 e4 => ?_
    obtain ⟨t1, t2, t3, t4, t5, hL, b1, b2, b3, b4, b5⟩ := hB
    have hL4 := s4 _ _ hL
    have ndL : L ≠ d := fun e => by rw [e, nd] at hL; cases hL
    have s13 : Same H H3 := s1.trans (s2.trans s3)
    have hb : ∀ i, i < 5 → (∀ j, j < i → ∃ v, rdV (w0 :: ws) m j = some v) → rdV (w0 :: ws) m i = none → RaiT K H E ((i : Int) + 1) := by
      intro i hi ha hn
      rcases h with ⟨k, hk, hall, hkn, er⟩ | ⟨sz, fo, re, ev, ke, g0, g1, g2, g3, g4, -⟩
      · have ki : k = i := by
          rcases Nat.lt_trichotomy k i with z | z | z
          · obtain ⟨v, e⟩ := ha k z
            rw [hkn] at e
            cases e
          · exact z
          · obtain ⟨v, e⟩ := hall i z
            rw [hn] at e
            cases e
        rw [ki] at er
        exact er
      · rcases (show i = 0 ∨ i = 1 ∨ i = 2 ∨ i = 3 ∨ i = 4 by omega) with rfl | rfl | rfl | rfl | rfl
        · rw [g0] at hn; cases hn
        · rw [g1] at hn; cases hn
        · rw [g2] at hn; cases hn
        · rw [g3] at hn; cases hn
        · rw [g4] at hn; cases hn
    have m0 : 0 ≤ m ∧ m ≤ 64 := by
      have := lenIn_all hl m hm
      omega
    obtain ⟨f, hf⟩ : ∃ f : Nat → V, f = fun j => oV (rdV (w0 :: ws) m j) := ⟨_, rfl⟩
    walk_at "ss"
    refine r_forE (xs := [.ref t1, .ref t2, .ref t3, .ref t4, .ref t5]) (fun i σ H' => ∃ (x6 x7 x8 x9 x10 : Option V), σ = [some (.str T), some (.ref p), some (.int (((ws.length + 1 : Nat) : Int) - 1)), some (.ref t), some (.ref L), some (.ref d), x6, x7, x8, x9, x10] ∧ But d H4 H' ∧ H' d = some (.dK ((givD (f 0) (f 1) (f 2) (f 3) (f 4)).take i)) ∧ ∀ j, j < i → ∃ v, rdV (w0 :: ws) m j = some v)
      ⟨_, _, _, _, _, rfl, But.refl d H4, e4, fun j z => absurd z (by omega)⟩ (fun i σ H' hi e => ?_) ?_ ?_
    · obtain ⟨_, _, _, _, _, -, b, -⟩ := e
      exact SqL.of (b L _ ndL hL4)
    · rintro i x σ H5 U H6 hx ⟨x6, x7, x8, x9, x10, rfl, B5, e5, ha⟩ hT s6 eT
      have B6 : But d H4 H6 := B5.same s6
      have e6 := s6 _ _ e5
      have ne : ∀ {z : Addr} {o : HO}, H3 z = some o → H6 z = some o := fun {z o} h => B6 z o (fun q => by rw [q, nd] at h; cases h) (s4 _ _ h)
      have p6 := ne (s3 _ _ (s2 _ _ e1))
      have s06 : Same H H6 := fun b o e => ne (s13 b o e)
      obtain ⟨c, w, lo, hi, i5, rfl, ht, ep, lo0, lo1, hi0, hi1, lwd, put⟩ : ∃ (c : Addr) (w : Str) (lo hi : Int), i < 5 ∧ x = .ref c ∧ H6 c = some (.tup [.str w, .int lo, .int hi]) ∧ parB m i = (w, lo, hi) ∧ 0 ≤ lo ∧ lo ≤ 100 ∧ 0 ≤ hi ∧ hi ≤ 100 ∧ w.length ≤ 20 ∧
          putK ((givD (f 0) (f 1) (f 2) (f 3) (f 4)).take i) (Sum.inr w) (f i) = (givD (f 0) (f 1) (f 2) (f 3) (f 4)).take (i + 1) := by
        rcases i with _ | _ | _ | _ | _ | i
        · cases hx
          exact ⟨_, _, _, _, by decide, rfl, ne b1, rfl, by omega, by omega, by omega, by omega, by decide +kernel, rfl⟩
        · cases hx
          exact ⟨_, _, _, _, by decide, rfl, ne b2, rfl, by omega, by omega, by omega, by omega, by decide +kernel, rfl⟩
        · cases hx
          exact ⟨_, _, _, _, by decide, rfl, ne b3, rfl, by omega, by omega, by omega, by omega, by decide +kernel, rfl⟩
        · cases hx
          exact ⟨_, _, _, _, by decide, rfl, ne b4, rfl, by omega, by omega, by omega, by omega, by decide +kernel, rfl⟩
        · cases hx
          exact ⟨_, _, _, _, by decide, rfl, ne b5, rfl, by omega, by omega, by omega, by omega, by decide +kernel, rfl⟩
        · cases hx
      have fi : f i = oV (rdV (w0 :: ws) m i) := by rw [hf]
      have rv : rdV (w0 :: ws) m i = if i + 1 < ws.length then valIn ((w0 :: ws).getD (i + 1) "") w lo hi else none := by
        unfold rdV
        rw [ep]
        rfl
      walk_at "ss"
      refine r_dec (fun lt => ?_) fun nlt => ?_
      · have lt' : i + 1 < ws.length := by omega
        have li : i + 1 < (w0 :: ws).length := by rw [List.length_cons]; omega
        have gx : (w0 :: ws).getD (i + 1) "" = (w0 :: ws)[i + 1] := by rw [List.getD_eq_getElem?_getD, List.getElem?_eq_getElem li]; rfl
        have mx := lens _ (List.getElem_mem li)
        rw [if_pos lt', gx] at rv
        rw [rv] at fi
        walk_at "ss"
        refine r_ixL (SqL.of p6) (at_of (j := i + 1) (v := V.str (w0 :: ws)[i + 1]) (by omega) (by rw [List.getElem?_map, List.getElem?_eq_getElem li]; rfl)) ?_
        walk_at "ss"
        refine ⟨_, w, lo, hi, rfl, lo0, lo1, hi0, hi1, lwd, by omega, fun H7 s7 => ?_⟩
        generalize valIn (w0 :: ws)[i + 1] w lo hi = o at rv fi ⊢
        cases o with
        | none =>
          rw [show oV none = V.non from rfl]
          walk_at "ss"
          refine ⟨rfl, ?_⟩
          rw [decide_eq_true rfl]
          walk_at "ss"
          refine KrE.r_mkE ?_
          walk_at "ss"
          exact out (hb i i5 ha rv) (s06.trans s7)
        | some v =>
          rw [show oV (some v) = V.int v from rfl] at fi ⊢
          walk_at "ss"
          refine ⟨rfl, ?_⟩
          rw [decide_eq_false (by intro z; cases z)]
          walk_at "ss"
          refine r_dpS (s7 _ _ e6) (Nat.lt_of_le_of_lt (List.length_take_le' _ _) (by show 5 < 100000; decide)) ?_
          rw [← fi, put]
          refine ⟨_, _, _, _, _, rfl, (B6.same s7).upd, upd_same, fun j hj => ?_⟩
          rcases Nat.lt_or_ge j i with z | z
          · exact ha j z
          · rw [show j = i by omega]
            exact ⟨v, rv⟩
      · have rn : rdV (w0 :: ws) m i = none := by rw [rv, if_neg (by omega)]
        walk_at "ss"
        refine ⟨rfl, ?_⟩
        rw [decide_eq_true rfl]
        walk_at "ss"
        refine KrE.r_mkE ?_
        walk_at "ss"
        exact out (hb i i5 ha rn) s06
    · rintro σ H5 ⟨x6, x7, x8, x9, x10, rfl, B5, e5, ha⟩
      have L5 := B5 L _ ndL hL4
      have be : ∀ {z : Addr} {o : HO}, H3 z = some o → H5 z = some o := fun {z o} h => B5 z o (fun q => by rw [q, nd] at h; cases h) (s4 _ _ h)
      have p5 := be (s3 _ _ (s2 _ _ e1))
      have s05 : Same H H5 := fun b o e => be (s13 b o e)
      obtain ⟨sz, fo, re, ev, ke, g0, g1, g2, g3, g4, h⟩ : ∃ sz fo re ev ke : Int, rdV (w0 :: ws) m 0 = some sz ∧ rdV (w0 :: ws) m 1 = some fo ∧ rdV (w0 :: ws) m 2 = some re ∧ rdV (w0 :: ws) m 3 = some ev ∧ rdV (w0 :: ws) m 4 = some ke ∧
        ((((w0 :: ws).length ≠ 7 ∨ (w0 :: ws).getD 6 "" ≠ "") ∧ RaiT K H E 6) ∨ ((w0 :: ws).length = 7 ∧ (w0 :: ws).getD 6 "" = "" ∧ (SetOk ls sz fo re ev ke → ∀ (a : Addr) (H' : Hp), Same H H' → H a = none → SetAt K H' a ls sz fo re ev ke → Q (.ref a) H'))) := by
        rcases h with ⟨k, hk, hall, hkn, er⟩ | h
        · obtain ⟨v, e⟩ := ha k hk
          rw [hkn] at e
          cases e
        · exact h
      have n6 := rdV_len g4
      rw [List.length_cons] at n6
      walk_at "ss"
      have gt : (((ws.length + 1 : Nat) : Int) - 1 > ((([V.ref t1, V.ref t2, V.ref t3, V.ref t4, V.ref t5] : List V).length : Nat) : Int) + 1) ↔ ws.length ≠ 6 := by
        show (((ws.length + 1 : Nat) : Int) - 1 > ((5 : Nat) : Int) + 1) ↔ _
        omega
      refine r_dec (fun z => ?_) fun z => ?_
      · have er : RaiT K H E 6 := by
          rcases h with ⟨-, er⟩ | ⟨n7, -⟩
          · exact er
          · rw [List.length_cons] at n7
            have := gt.mp z
            omega
        walk_at "ss"
        refine KrE.r_mkE ?_
        walk_at "ss"
        exact out er s05
      · have n7 : ws.length = 6 := Classical.byContradiction fun e => z (gt.mpr e)
        have li : 6 < (w0 :: ws).length := by rw [List.length_cons]; omega
        have gx : (w0 :: ws).getD 6 "" = (w0 :: ws)[6] := by rw [List.getD_eq_getElem?_getD, List.getElem?_eq_getElem li]; rfl
        rw [gx] at h
        walk_at "ss"
        refine r_ixL (SqL.of p5) (at_of (j := 6) (v := V.str (w0 :: ws)[6]) (by omega) (by rw [List.getElem?_map, List.getElem?_eq_getElem li]; rfl)) ?_
        walk_at "ss"
        refine r_decN (fun ne => ?_) fun eq => ?_
        · have er : RaiT K H E 6 := by
            rcases h with ⟨-, er⟩ | ⟨-, e, -⟩
            · exact er
            · exact absurd e ne
          walk_at "ss"
          refine KrE.r_mkE ?_
          walk_at "ss"
          exact out er s05
        have qg : SetOk ls sz fo re ev ke → ∀ (a : Addr) (H' : Hp), Same H H' → H a = none → SetAt K H' a ls sz fo re ev ke → Q (.ref a) H' := by
          rcases h with ⟨z | z, -⟩ | ⟨-, -, q⟩
          · rw [List.length_cons] at z
            omega
          · exact absurd eq z
          · exact q
        have bz : m ≤ sz ∧ sz ≤ 64 := rdV_bd g0 (by show 0 ≤ m; omega) (by show m ≤ 64 + 1; omega)
        have bf : 2 ≤ fo ∧ fo ≤ 8 := rdV_bd g1 (by show (0 : Int) ≤ 2; decide) (by show (2 : Int) ≤ 8 + 1; decide)
        have br : 1 ≤ re ∧ re ≤ 16 := rdV_bd g2 (by show (0 : Int) ≤ 1; decide) (by show (1 : Int) ≤ 16 + 1; decide)
        have bv : 1 ≤ ev ∧ ev ≤ 40 := rdV_bd g3 (by show (0 : Int) ≤ 1; decide) (by show (1 : Int) ≤ 40 + 1; decide)
        have bk : 1 ≤ ke ∧ ke ≤ 100 := rdV_bd g4 (by show (0 : Int) ≤ 1; decide) (by show (1 : Int) ≤ 100 + 1; decide)
        have so : SetOk ls sz fo re ev ke := ⟨⟨hl2, hl3, fun l hh => ⟨(lenIn_all hl l hh).1, by have := hmax l hh; omega⟩, bz.2⟩, bf, br, bv, bk⟩
        have q := qg so
        rw [hf] at e5
        rw [show (givD (oV (rdV (w0 :: ws) m 0)) (oV (rdV (w0 :: ws) m 1)) (oV (rdV (w0 :: ws) m 2)) (oV (rdV (w0 :: ws) m 3)) (oV (rdV (w0 :: ws) m 4))).take ([V.ref t1, V.ref t2, V.ref t3, V.ref t4, V.ref t5] : List V).length = givD (.int sz) (.int fo) (.int re) (.int ev) (.int ke) by rw [g0, g1, g2, g3, g4]; rfl] at e5
        walk_at "ss"
        refine r_dgS e5 rfl ?_
        walk_at "ss"
        refine r_dgS e5 rfl ?_
        walk_at "ss"
        refine r_dgS e5 rfl ?_
        walk_at "ss"
        refine r_dgS e5 rfl ?_
        walk_at "ss"
        refine r_dgS e5 rfl ?_
        walk_at "ss"
        refine ⟨rfl, rfl, fun x dx hx hdx ne => ?_⟩
        have tt := be (s3 _ _ e2)
        have s6 : Same H5 (upd (upd H5 dx (.own x)) x (.ins (He.ga K "Settings") dx [])) := (same_new hdx).trans (same_new (by rw [upd_ne ne.symm]; exact hx))
        refine ⟨x, dx, t, ls, sz, fo, re, ev, ke, rfl, upd_same, s6 _ _ tt, so, fun t' H' u2 h1 h2 => ⟨rfl, ?_⟩⟩
        exact q x H' (fun b o e => u2 b o (ne_of_none (s05 b o e) hx) (s6 b o (s05 b o e))) (s05.free hx) ⟨dx, t', h1, h2⟩
theorem ok__law_mix {P : Program} {w : World} {K : PySem.W.Frag} {mg : Str → Option Value} {base : Heap} {f : Addr} {fd : FuncData} (F : FunD K "_law_mix" "_law_mix" (defArgs s__law_mix) (defBody s__law_mix) (defScope s__law_mix) [] [] f fd) (n_int : mg "int" = none) : FnOk P w K mg base CX0 1 f fd ["cell", "lap"] (sp__law_mix K) := by
  refine F.ok sc__law_mix (fun vs H Q E h => by first | (obtain ⟨rfl, _⟩ := h; rfl) | (obtain ⟨_, rfl, _⟩ := h; rfl) | (obtain ⟨_, _, rfl, _⟩ := h; rfl) | (obtain ⟨_, _, _, rfl, _⟩ := h; rfl) | (obtain ⟨_, _, _, _, rfl, _⟩ := h; rfl) | (obtain ⟨_, _, _, _, _, rfl, _⟩ := h; rfl) | (obtain ⟨_, _, _, _, _, _, rfl, _⟩ := h; rfl) | (obtain ⟨_, _, _, _, _, _, _, rfl, _⟩ := h; rfl) | (obtain ⟨_, _, _, _, _, _, _, _, rfl, _⟩ := h; rfl) | (obtain ⟨_, _, _, _, _, _, _, _, _, rfl, _⟩ := h; rfl) | (obtain ⟨_, _, _, _, _, _, _, _, _, _, rfl, _⟩ := h; rfl) | (obtain ⟨_, _, _, _, _, _, _, _, _, _, _, rfl, _⟩ := h; rfl) | (obtain ⟨_, _, _, _, _, _, _, _, _, _, _, _, rfl, _⟩ := h; rfl) | (obtain ⟨_, _, _, _, _, _, _, _, _, _, _, _, _, rfl, _⟩ := h; rfl) | (obtain ⟨_, _, _, _, _, _, _, _, _, _, _, _, _, _, rfl, _⟩ := h; rfl) | (obtain ⟨_, _, _, _, _, _, _, _, _, _, _, _, _, _, _, rfl, _⟩ := h; rfl) | (obtain ⟨_, _, _, _, _, _, _, _, _, _, _, _, _, _, _, _, rfl, _⟩ := h; rfl) | (obtain ⟨_, _, _, _, _, _, _, _, _, _, _, _, _, _, _, _, _, rfl, _⟩ := h; rfl)) (fun cdv A outer s H vs Q E hr h => ?_)
  · have hu := hu_of hr
    obtain ⟨c, l, rfl, q⟩ := h
    refine ⟨_, PSs.nox (pss_cons (ps_set (i := 2) sc__law_mix.nd rfl (.inl rfl) (pe_op op_add (pe_op op_add (pe_op op_add (pe_op op_mod (pe_callTy (T := "int") Kr.c_int1 rfl n_int (by decide +kernel) (pa_cons (pv 0) pa_nil)) pe_int) (pe_op op_mul pe_int (pv 1))) (pe_op op_mod (pe_callTy (T := "int") Kr.c_int1 rfl n_int (by decide +kernel) (pa_cons (pe_op op_fdivW (pv 0) pe_int) pa_nil)) pe_int)) pe_int)) (pss_cons (ps_set (i := 2) sc__law_mix.nd rfl (.inl rfl) (pe_op op_mod (pe_callTy (T := "int") Kr.c_int1 rfl n_int (by decide +kernel) (pa_cons (pe_op op_mul (pv 2) pe_int) pa_nil)) pe_int)) (pss_cons (ps_set (i := 2) sc__law_mix.nd rfl (.inl rfl) (pe_op op_mod (pe_callTy (T := "int") Kr.c_int1 rfl n_int (by decide +kernel) (pa_cons (pe_op op_mul (pv 2) (pe_op op_add (pe_op op_add (pe_op op_fdivW (pv 2) pe_int) pe_int) (pv 1))) pa_nil)) pe_int)) (pss_one (ps_ret (pe_op op_mod (pe_callTy (T := "int") Kr.c_int1 rfl n_int (by decide +kernel) (pa_cons (pe_op op_mul (pv 2) (pe_op op_add (pe_op op_fdivW (pv 2) pe_int) pe_int)) pa_nil)) pe_int)))))), ?_⟩
    rw [st__law_mix]
    iterate 3 (walk_at "ss"; try (with_reducible refine r_I (.inl (mod_fit (by decide) (by decide))) ?_))
    walk_at "ss"
    exact q _
theorem ok__law_source {P : Program} {w : World} {K : PySem.W.Frag} {mg : Str → Option Value} {base : Heap} {f : Addr} {fd : FuncData} (F : FunD K "_law_source" "_law_source" (defArgs s__law_source) (defBody s__law_source) (defScope s__law_source) [] [] f fd) (n_len : mg "len" = none) : FnOk P w K mg base CX0 1 f fd ["script", "k"] (sp__law_source K) := by
  refine F.ok sc__law_source (fun vs H Q E h => by first | (obtain ⟨rfl, _⟩ := h; rfl) | (obtain ⟨_, rfl, _⟩ := h; rfl) | (obtain ⟨_, _, rfl, _⟩ := h; rfl) | (obtain ⟨_, _, _, rfl, _⟩ := h; rfl) | (obtain ⟨_, _, _, _, rfl, _⟩ := h; rfl) | (obtain ⟨_, _, _, _, _, rfl, _⟩ := h; rfl) | (obtain ⟨_, _, _, _, _, _, rfl, _⟩ := h; rfl) | (obtain ⟨_, _, _, _, _, _, _, rfl, _⟩ := h; rfl) | (obtain ⟨_, _, _, _, _, _, _, _, rfl, _⟩ := h; rfl) | (obtain ⟨_, _, _, _, _, _, _, _, _, rfl, _⟩ := h; rfl) | (obtain ⟨_, _, _, _, _, _, _, _, _, _, rfl, _⟩ := h; rfl) | (obtain ⟨_, _, _, _, _, _, _, _, _, _, _, rfl, _⟩ := h; rfl) | (obtain ⟨_, _, _, _, _, _, _, _, _, _, _, _, rfl, _⟩ := h; rfl) | (obtain ⟨_, _, _, _, _, _, _, _, _, _, _, _, _, rfl, _⟩ := h; rfl) | (obtain ⟨_, _, _, _, _, _, _, _, _, _, _, _, _, _, rfl, _⟩ := h; rfl) | (obtain ⟨_, _, _, _, _, _, _, _, _, _, _, _, _, _, _, rfl, _⟩ := h; rfl) | (obtain ⟨_, _, _, _, _, _, _, _, _, _, _, _, _, _, _, _, rfl, _⟩ := h; rfl) | (obtain ⟨_, _, _, _, _, _, _, _, _, _, _, _, _, _, _, _, _, rfl, _⟩ := h; rfl)) (fun cdv A outer s H vs Q E hr h => ?_)
  · have hu := hu_of hr
    obtain ⟨a, ns, k, rfl, hS, hl, hk, q⟩ := h
    refine ⟨_, PSs.nox (pss_cons (ps_set (i := 2) sc__law_source.nd rfl (.inl rfl) (pe_op op_add (pe_ix ix_list (pe_op Kr.op_catS (pv 0) (pe_lst (pa_cons pe_int pa_nil))) pe_int (fun _ _ => rfl)) (pe_op op_mul pe_int (pv 1)))) (pss_cons (ps_if (pt_cmpR op_lt (pv 1) (pe_callB (id := "len") Kr.c_len rfl n_len (by decide +kernel) (pa_cons (pv 0) pa_nil)) (nomark _)) (pss_one (ps_set (i := 2) sc__law_source.nd rfl (.inl rfl) (pe_ix ix_list (pv 0) (pv 1) (fun _ _ => rfl)))) pss_nil) (pss_one (ps_ret (pe_lst (pa_cons (pv 2) (pa_cons (pv 2) (pa_cons pe_int pa_nil)))))))), ?_⟩
    rw [st__law_source]
    walk_at "ss"
    refine r_new fun p hp => ?_
    have s1 : Same H (upd H p (.lst [.int 0])) := same_new hp
    refine r_catS (s1.seq hS) (SqL.of upd_same) (by simp; omega) (r_new fun p2 hp2 => ?_)
    have s2 := s1.trans (same_new (o := .lst (ns.map V.int ++ [V.int 0])) hp2)
    obtain ⟨z, hz⟩ : ∃ z, atI (ns.map V.int ++ [V.int 0]) 0 = some (V.int z) := by
      cases ns with
      | nil => exact ⟨0, rfl⟩
      | cons n r => exact ⟨n, at_of (j := 0) rfl rfl⟩
    walk_at "ss"
    refine r_ixL (SqL.of upd_same) hz ?_
    walk_at "ss"
    have hS2 := s2.seq hS
    have fin : ∀ (H3 : Hp) (z2 : Int), Same H H3 → rNew (.lst [.int z2, .int z2, .int 0]) H3 Q := fun H3 z2 s3 => r_new fun p3 hp3 => q p3 _ (s3.trans (same_new hp3)) (s3.free hp3) (Src.set z2 z2 0)
    walk_at "ss"
    refine r_dec (fun hk2 => ?_) fun _ => ?_
    · walk_at "ss"
      rw [List.length_map] at hk2
      obtain ⟨j, rfl⟩ := Int.eq_ofNat_of_zero_le hk
      have hj : j < ns.length := by omega
      refine r_ixL hS2 (at_of rfl (by rw [List.getElem?_map, List.getElem?_eq_getElem hj]; rfl)) ?_
      walk_at "ss"
      exact fin _ _ s2
    · walk_at "ss"
      exact fin _ _ s2
theorem ok__law_draw {P : Program} {w : World} {K : PySem.W.Frag} {mg : Str → Option Value} {base : Heap} {f : Addr} {fd : FuncData} (F : FunD K "_law_draw" "_law_draw" (defArgs s__law_draw) (defBody s__law_draw) (defScope s__law_draw) [] [] f fd) (h__law_mix : Kr.FnH P w K mg base CX0 1 "_law_mix" ["cell", "lap"] (sp__law_mix K)) (n_int : mg "int" = none) : FnOk P w K mg base CX0 2 f fd ["source", "limit"] (sp__law_draw K) := by
  refine F.ok sc__law_draw (fun vs H Q E h => by first | (obtain ⟨rfl, _⟩ := h; rfl) | (obtain ⟨_, rfl, _⟩ := h; rfl) | (obtain ⟨_, _, rfl, _⟩ := h; rfl) | (obtain ⟨_, _, _, rfl, _⟩ := h; rfl) | (obtain ⟨_, _, _, _, rfl, _⟩ := h; rfl) | (obtain ⟨_, _, _, _, _, rfl, _⟩ := h; rfl) | (obtain ⟨_, _, _, _, _, _, rfl, _⟩ := h; rfl) | (obtain ⟨_, _, _, _, _, _, _, rfl, _⟩ := h; rfl) | (obtain ⟨_, _, _, _, _, _, _, _, rfl, _⟩ := h; rfl) | (obtain ⟨_, _, _, _, _, _, _, _, _, rfl, _⟩ := h; rfl) | (obtain ⟨_, _, _, _, _, _, _, _, _, _, rfl, _⟩ := h; rfl) | (obtain ⟨_, _, _, _, _, _, _, _, _, _, _, rfl, _⟩ := h; rfl) | (obtain ⟨_, _, _, _, _, _, _, _, _, _, _, _, rfl, _⟩ := h; rfl) | (obtain ⟨_, _, _, _, _, _, _, _, _, _, _, _, _, rfl, _⟩ := h; rfl) | (obtain ⟨_, _, _, _, _, _, _, _, _, _, _, _, _, _, rfl, _⟩ := h; rfl) | (obtain ⟨_, _, _, _, _, _, _, _, _, _, _, _, _, _, _, rfl, _⟩ := h; rfl) | (obtain ⟨_, _, _, _, _, _, _, _, _, _, _, _, _, _, _, _, rfl, _⟩ := h; rfl) | (obtain ⟨_, _, _, _, _, _, _, _, _, _, _, _, _, _, _, _, _, rfl, _⟩ := h; rfl)) (fun cdv A outer s H vs Q E hr h => ?_)
  · have hu := hu_of hr
    obtain ⟨a, n, rfl, ⟨c0, c1, c2, hs⟩, hn, q⟩ := h
    have h0 := hn.1
    have hd : ∀ i, CDivW i n := fun i => hn.div
    refine ⟨_, PSs.nox (pss_cons (ps_if (pt_cmpR op_ge (pe_ix ix_list (pv 0) pe_int (fun _ _ => rfl)) (pe_op op_pow pe_int pe_int) (nomark _)) (pss_cons (ps_set (i := 2) sc__law_draw.nd rfl (.inl rfl) (pe_op op_mod (pe_callTy (T := "int") Kr.c_int1 rfl n_int (by decide +kernel) (pa_cons (pe_ix ix_list (pv 0) pe_int (fun _ _ => rfl)) pa_nil)) (pv 1))) (pss_cons (ps_asg (pe_op op_fdivW (pe_ix ix_list (pv 0) pe_int (fun _ _ => rfl)) (pv 1)) (pg_sub (pv 0) pe_int set_list)) (pss_one (ps_ret (pv 2))))) pss_nil) (pss_cons (ps_asg (pe_op op_add (pe_ix ix_list (pv 0) pe_int (fun _ _ => rfl)) pe_int) (pg_sub (pv 0) pe_int set_list)) (pss_one (ps_ret (pe_op op_mod (pe_callTy (T := "int") Kr.c_int1 rfl n_int (by decide +kernel) (pa_cons (Kr.pe_cl h__law_mix (hr.mono (by decide)) (pa_cons (pe_ix ix_list (pv 0) pe_int (fun _ _ => rfl)) (pa_cons (pe_ix ix_list (pv 0) pe_int (fun _ _ => rfl)) pa_nil))) pa_nil)) (pv 1)))))), ?_⟩
    rw [st__law_draw]
    walk_at "ss"
    refine r_dec (fun _ => ?_) fun _ => ?_
    · walk_at "ss"
      refine r_I (hd _) ?_
      walk_at "ss"
      exact q _ _ (emod_lt h0).1 (emod_lt h0).2 ⟨Src.set _ _ _, (But.refl a H).upd⟩
    · walk_at "ss"
      refine ⟨_, _, rfl, fun z => ?_⟩
      walk_at "ss"
      exact q _ _ (emod_lt h0).1 (emod_lt h0).2 ⟨Src.set _ _ _, (But.refl a H).upd⟩
theorem ok__law_pick {P : Program} {w : World} {K : PySem.W.Frag} {mg : Str → Option Value} {base : Heap} {f : Addr} {fd : FuncData} (F : FunD K "_law_pick" "_law_pick" (defArgs s__law_pick) (defBody s__law_pick) (defScope s__law_pick) [] [] f fd) (h__law_draw : Kr.FnH P w K mg base CX0 2 "_law_draw" ["source", "limit"] (sp__law_draw K)) (n_len : mg "len" = none) : FnOk P w K mg base CX0 3 f fd ["source", "items"] (sp__law_pick K) := by
  refine F.ok sc__law_pick (fun vs H Q E h => by first | (obtain ⟨rfl, _⟩ := h; rfl) | (obtain ⟨_, rfl, _⟩ := h; rfl) | (obtain ⟨_, _, rfl, _⟩ := h; rfl) | (obtain ⟨_, _, _, rfl, _⟩ := h; rfl) | (obtain ⟨_, _, _, _, rfl, _⟩ := h; rfl) | (obtain ⟨_, _, _, _, _, rfl, _⟩ := h; rfl) | (obtain ⟨_, _, _, _, _, _, rfl, _⟩ := h; rfl) | (obtain ⟨_, _, _, _, _, _, _, rfl, _⟩ := h; rfl) | (obtain ⟨_, _, _, _, _, _, _, _, rfl, _⟩ := h; rfl) | (obtain ⟨_, _, _, _, _, _, _, _, _, rfl, _⟩ := h; rfl) | (obtain ⟨_, _, _, _, _, _, _, _, _, _, rfl, _⟩ := h; rfl) | (obtain ⟨_, _, _, _, _, _, _, _, _, _, _, rfl, _⟩ := h; rfl) | (obtain ⟨_, _, _, _, _, _, _, _, _, _, _, _, rfl, _⟩ := h; rfl) | (obtain ⟨_, _, _, _, _, _, _, _, _, _, _, _, _, rfl, _⟩ := h; rfl) | (obtain ⟨_, _, _, _, _, _, _, _, _, _, _, _, _, _, rfl, _⟩ := h; rfl) | (obtain ⟨_, _, _, _, _, _, _, _, _, _, _, _, _, _, _, rfl, _⟩ := h; rfl) | (obtain ⟨_, _, _, _, _, _, _, _, _, _, _, _, _, _, _, _, rfl, _⟩ := h; rfl) | (obtain ⟨_, _, _, _, _, _, _, _, _, _, _, _, _, _, _, _, _, rfl, _⟩ := h; rfl)) (fun cdv A outer s H vs Q E hr h => ?_)
  · have hu := hu_of hr
    obtain ⟨a, p, xs, rfl, hs, hpa, hS, h0, h1, q⟩ := h
    refine ⟨_, PSs.nox (pss_one (ps_ret (pe_ix ix_list (pv 1) (Kr.pe_cl h__law_draw (hr.mono (by decide)) (pa_cons (pv 0) (pa_cons (pe_callB (id := "len") Kr.c_len rfl n_len (by decide +kernel) (pa_cons (pv 1) pa_nil)) pa_nil))) (fun _ _ => rfl)))), ?_⟩
    rw [st__law_pick]
    walk_at "ss"
    refine ⟨_, _, rfl, hs, ⟨by omega, by omega⟩, fun d H1 d0 d1 D1 => ?_⟩
    walk_at "ss"
    obtain ⟨j, rfl⟩ := Int.eq_ofNat_of_zero_le d0
    have hj : j < xs.length := by omega
    refine r_ixL (D1.old.seq hpa hS) (at_of rfl (List.getElem?_eq_getElem hj)) ?_
    exact q _ _ (List.getElem_mem hj) D1
theorem ok__law_parts {P : Program} {w : World} {K : PySem.W.Frag} {mg : Str → Option Value} {base : Heap} {f : Addr} {fd : FuncData} (F : FunD K "_law_parts" "_law_parts" (defArgs s__law_parts) (defBody s__law_parts) (defScope s__law_parts) [] [] f fd) (h__law_draw : Kr.FnH P w K mg base CX0 2 "_law_draw" ["source", "limit"] (sp__law_draw K)) (h__law_pick : Kr.FnH P w K mg base CX0 3 "_law_pick" ["source", "items"] (sp__law_pick K)) (n_range : mg "range" = none) : FnOk P w K mg base CX0 4 f fd ["source"] (sp__law_parts K) := by
  refine F.ok sc__law_parts (fun vs H Q E h => by first | (obtain ⟨rfl, _⟩ := h; rfl) | (obtain ⟨_, rfl, _⟩ := h; rfl) | (obtain ⟨_, _, rfl, _⟩ := h; rfl) | (obtain ⟨_, _, _, rfl, _⟩ := h; rfl) | (obtain ⟨_, _, _, _, rfl, _⟩ := h; rfl) | (obtain ⟨_, _, _, _, _, rfl, _⟩ := h; rfl) | (obtain ⟨_, _, _, _, _, _, rfl, _⟩ := h; rfl) | (obtain ⟨_, _, _, _, _, _, _, rfl, _⟩ := h; rfl) | (obtain ⟨_, _, _, _, _, _, _, _, rfl, _⟩ := h; rfl) | (obtain ⟨_, _, _, _, _, _, _, _, _, rfl, _⟩ := h; rfl) | (obtain ⟨_, _, _, _, _, _, _, _, _, _, rfl, _⟩ := h; rfl) | (obtain ⟨_, _, _, _, _, _, _, _, _, _, _, rfl, _⟩ := h; rfl) | (obtain ⟨_, _, _, _, _, _, _, _, _, _, _, _, rfl, _⟩ := h; rfl) | (obtain ⟨_, _, _, _, _, _, _, _, _, _, _, _, _, rfl, _⟩ := h; rfl) | (obtain ⟨_, _, _, _, _, _, _, _, _, _, _, _, _, _, rfl, _⟩ := h; rfl) | (obtain ⟨_, _, _, _, _, _, _, _, _, _, _, _, _, _, _, rfl, _⟩ := h; rfl) | (obtain ⟨_, _, _, _, _, _, _, _, _, _, _, _, _, _, _, _, rfl, _⟩ := h; rfl) | (obtain ⟨_, _, _, _, _, _, _, _, _, _, _, _, _, _, _, _, _, rfl, _⟩ := h; rfl)) (fun cdv A outer s H vs Q E hr h => ?_)
  · have hu := hu_of hr
    obtain ⟨a, rfl, hs, q⟩ := h
    refine ⟨_, PSs.nox (pss_cons (ps_set (i := 1) sc__law_parts.nd rfl (.inr rfl) (Kr.pe_cl h__law_pick (hr.mono (by decide)) (pa_cons (pv 0) (pa_cons (pe_lst (pa_cons (pe_op op_add pe_int (Kr.pe_cl h__law_draw (hr.mono (by decide)) (pa_cons (pv 0) (pa_cons pe_int pa_nil)))) (pa_cons (pe_op op_add pe_int (Kr.pe_cl h__law_draw (hr.mono (by decide)) (pa_cons (pv 0) (pa_cons pe_int pa_nil)))) (pa_cons pe_int pa_nil)))) pa_nil)))) (pss_cons (ps_setLc (i := 2) (own := [("k", 6)]) rfl sc__law_parts.nd rfl rfl (sw_true rfl rfl rfl (by decide +kernel)) (pi_range1 rfl n_range (pa_cons (pe_op op_add pe_int (Kr.pe_cl h__law_draw (hr.mono (by decide)) (pa_cons (pv 0) (pa_cons pe_int pa_nil)))) pa_nil)) (blkOk_by (own := [("k", 6)]) (N := N__law_parts) (sc := defScope s__law_parts) (by decide +kernel)) (fun _ _ _ _ _ => (pg_name (i := 6) sc__law_parts.nd rfl (.inl rfl))) (fun _ _ _ _ _ => pts_nil) (fun _ _ _ _ _ => (pe_op op_add pe_int (Kr.pe_cl h__law_draw (hr.mono (by decide)) (pa_cons (pv 0) (pa_cons (pv 1) pa_nil)))))) (pss_cons (ps_set (i := 3) sc__law_parts.nd rfl (.inl rfl) (pe_lst (pa_cons (pv 2) (pa_cons (pv 1) pa_nil)))) (pss_cons (ps_for PassesOwn.never rfl (pi_list (pe_lst (pa_cons (pe_tup (pa_cons pe_int (pa_cons pe_int pa_nil))) (pa_cons (pe_tup (pa_cons pe_int (pa_cons pe_int pa_nil))) (pa_cons (pe_tup (pa_cons pe_int (pa_cons pe_int pa_nil))) (pa_cons (pe_tup (pa_cons pe_int (pa_cons pe_int pa_nil))) pa_nil)))))) (pg_tup rfl (pgs_cons (pg_name (i := 4) sc__law_parts.nd rfl (.inl rfl)) (pgs_cons (pg_name (i := 5) sc__law_parts.nd rfl (.inl rfl)) pgs_nil))) (pss_one (ps_expr (pe_bm PySem.F.plainAttrs_list PySem.F.slot_list_append PySem.F.type_list_append mt_append (pv 3) (pa_cons (Kr.pe_cl h__law_pick (hr.mono (by decide)) (pa_cons (pv 0) (pa_cons (pe_lst (pa_cons (pv 4) (pa_cons (pv 5) (pa_cons (pe_op op_add (pv 4) (Kr.pe_cl h__law_draw (hr.mono (by decide)) (pa_cons (pv 0) (pa_cons (pe_op op_add (pe_op op_sub (pv 5) (pv 4)) pe_int) pa_nil)))) pa_nil)))) pa_nil))) pa_nil))))) (pss_one (ps_ret (pv 3))))))), ?_⟩
    rw [st__law_parts]
    walk_at "ss"
    refine ⟨_, _, rfl, hs, ⟨by decide, by decide⟩, fun d1 H1 l1 u1 D1 => ?_⟩
    walk_at "ss"
    refine ⟨_, _, rfl, D1.src, ⟨by decide, by decide⟩, fun d2 H2 l2 u2 D2' => ?_⟩
    have D2 := D1.trans D2'
    walk_at "ss"
    refine r_new fun p0 hp0 => ?_
    walk_at "ss"
    refine ⟨_, _, _, rfl, D2.src.new hp0, D2.src.ne hp0, SqL.of upd_same, by simp, by simp, fun x H3 hx D3' => ?_⟩
    have D3 := (D2.new hp0).trans D3'
    obtain ⟨room, rfl, hr1, hr64⟩ : ∃ room : Int, x = .int room ∧ 1 ≤ room ∧ room ≤ 64 := by
      simp only [List.mem_cons, List.not_mem_nil, or_false] at hx
      rcases hx with rfl | rfl | rfl
      · exact ⟨_, rfl, by omega, by omega⟩
      · exact ⟨_, rfl, by omega, by omega⟩
      · exact ⟨_, rfl, by omega, by omega⟩
    walk_at "ss"
    refine ⟨_, _, rfl, D3.src, ⟨by decide, by decide⟩, fun d4 H4 l4 u4 D4' => ?_⟩
    have D4 := D3.trans D4'
    walk_at "ss"
    intro D hD
    have hDa : D ≠ a := D4.src.ne hD
    refine lc_rangeS [some (.ref a), some (.int room), none, none, none, none, none] rfl (fun i H5 => ∃ ls : List Int, ls.length = i ∧ (∀ l ∈ ls, 1 ≤ l ∧ l ≤ room) ∧ H5 D = some (.lst (ls.map V.int)) ∧ Dr a H H5) ⟨[], rfl, by simp, upd_same, D4.new hD⟩ ?_ ?_
    · rintro i H5 hi ⟨ls, hl, hall, h5, D5⟩
      walk_at "ss"
      refine ⟨rfl, ?_⟩
      walk_at "ss"
      refine ⟨_, _, rfl, D5.src, ⟨by omega, by omega⟩, fun d6 H6 l6 u6 D6 => ?_⟩
      walk_at "ss"
      have h6 := D6.old _ _ hDa h5
      refine ⟨_, h6, by rw [List.length_map]; exact szl (by omega), ls ++ [1 + d6], by simp [hl], fun l hm => ?_, ?_, (D5.trans D6).mut (D4.free hD) hDa⟩
      · rcases List.mem_append.mp hm with hm | hm
        · exact hall l hm
        · rw [List.mem_singleton] at hm
          omega
      · rw [upd_same, List.map_append]
        rfl
    · rintro H5 ⟨ls, hl, hall, h5, D5⟩
      have hD0 : H D = none := D4.free hD
      walk_at "ss"
      refine r_new fun p hp => ?_
      have hpa : p ≠ a := D5.src.ne hp
      have hpD : D ≠ p := ne_of_none h5 hp
      have hp0 : H p = none := D5.free hp
      have D6 := D5.new (o := .lst [.ref D, .int room]) hp
      have h6 := upd_free (o := .lst [.ref D, .int room]) h5 hp
      have g6 : upd H5 p (.lst [.ref D, .int room]) p = some (.lst [.ref D, .int room]) := upd_same
      generalize upd H5 p (.lst [.ref D, .int room]) = H6 at D6 h6 g6 ⊢
      walk_at "ss"
      refine r_new fun t1 e1 => ?_
      walk_at "ss"
      refine r_new fun t2 e2 => ?_
      walk_at "ss"
      refine r_new fun t3 e3 => ?_
      walk_at "ss"
      refine r_new fun t4 e4 => ?_
      walk_at "ss"
      refine r_new fun L eL => ?_
      have D7 := ((((D6.new (o := .tup [.int 2, .int 8]) e1).new (o := .tup [.int 1, .int 16]) e2).new (o := .tup [.int 1, .int 40]) e3).new (o := .tup [.int 1, .int 100]) e4).new (o := .lst [.ref t1, .ref t2, .ref t3, .ref t4]) eL
      have k1 := upd_free (o := .lst [.ref t1, .ref t2, .ref t3, .ref t4]) (upd_free (o := .tup [.int 1, .int 100]) (upd_free (o := .tup [.int 1, .int 40]) (upd_free (o := .tup [.int 1, .int 16]) (upd_same (H := H6) (a := t1) (o := .tup [.int 2, .int 8])) e2) e3) e4) eL
      have k2 := upd_free (o := .lst [.ref t1, .ref t2, .ref t3, .ref t4]) (upd_free (o := .tup [.int 1, .int 100]) (upd_free (o := .tup [.int 1, .int 40]) (upd_same (H := upd H6 t1 (.tup [.int 2, .int 8])) (a := t2) (o := .tup [.int 1, .int 16])) e3) e4) eL
      have k3 := upd_free (o := .lst [.ref t1, .ref t2, .ref t3, .ref t4]) (upd_free (o := .tup [.int 1, .int 100]) (upd_same (H := upd (upd H6 t1 (.tup [.int 2, .int 8])) t2 (.tup [.int 1, .int 16])) (a := t3) (o := .tup [.int 1, .int 40])) e4) eL
      have k4 := upd_free (o := .lst [.ref t1, .ref t2, .ref t3, .ref t4]) (upd_same (H := upd (upd (upd H6 t1 (.tup [.int 2, .int 8])) t2 (.tup [.int 1, .int 16])) t3 (.tup [.int 1, .int 40])) (a := t4) (o := .tup [.int 1, .int 100])) eL
      have s7 : ∀ b o, H6 b = some o → upd (upd (upd (upd (upd H6 t1 (.tup [.int 2, .int 8])) t2 (.tup [.int 1, .int 16])) t3 (.tup [.int 1, .int 40])) t4 (.tup [.int 1, .int 100])) L (.lst [.ref t1, .ref t2, .ref t3, .ref t4]) b = some o := fun b o e => upd_free (upd_free (upd_free (upd_free (upd_free e e1) e2) e3) e4) eL
      have h7 := s7 _ _ h6
      have g7 := s7 _ _ g6
      have kL : upd (upd (upd (upd (upd H6 t1 (.tup [.int 2, .int 8])) t2 (.tup [.int 1, .int 16])) t3 (.tup [.int 1, .int 40])) t4 (.tup [.int 1, .int 100])) L (.lst [.ref t1, .ref t2, .ref t3, .ref t4]) L = some (.lst [.ref t1, .ref t2, .ref t3, .ref t4]) := upd_same
      generalize upd (upd (upd (upd (upd H6 t1 (.tup [.int 2, .int 8])) t2 (.tup [.int 1, .int 16])) t3 (.tup [.int 1, .int 40])) t4 (.tup [.int 1, .int 100])) L (.lst [.ref t1, .ref t2, .ref t3, .ref t4]) = H7 at D7 k1 k2 k3 k4 h7 g7 kL ⊢
      have hLa : L ≠ a := D7.src.ne_lst4 kL
      have hLp : L ≠ p := ne_of kL g7 (by intro z; cases z)
      walk_at "ss"
      refine r_forL (xs := [.ref t1, .ref t2, .ref t3, .ref t4]) (fun i σ H' => ∃ (y4 y5 : Option V) (fs : List Int), σ = [some (.ref a), some (.int room), some (.ref D), some (.ref p), y4, y5, none] ∧ fs.length = i ∧ (∀ j v, fs[j]? = some v → Bd j v) ∧
        H' p = some (.lst ([.ref D, .int room] ++ fs.map V.int)) ∧ H' D = some (.lst (ls.map V.int)) ∧ H' L = some (.lst [.ref t1, .ref t2, .ref t3, .ref t4]) ∧
        H' t1 = some (.tup [.int 2, .int 8]) ∧ H' t2 = some (.tup [.int 1, .int 16]) ∧ H' t3 = some (.tup [.int 1, .int 40]) ∧ H' t4 = some (.tup [.int 1, .int 100]) ∧ Dr a H H')
        ⟨_, _, [], rfl, rfl, by simp, g7, h7, kL, k1, k2, k3, k4, D7⟩ (fun i σ H' _ ⟨_, _, _, _, _, _, _, _, w, _⟩ => SqL.of w) ?_ ?_
      · rintro i x σ H8 hx ⟨y4, y5, fs, rfl, hf, hb, w1, w2, w3, w4, w5, w6, w7, D8⟩
        obtain ⟨t, lo, hi, rfl, ht, hlo, hhi, hbd⟩ : ∃ (t : Addr) (lo hi : Int), x = .ref t ∧ H8 t = some (.tup [.int lo, .int hi]) ∧ lo < hi ∧ hi ≤ 100 ∧ 0 < lo ∧ ∀ v, lo ≤ v → v ≤ hi → Bd i v := by
          rcases i with _ | _ | _ | _ | i
          · cases hx
            exact ⟨_, 2, 8, rfl, w4, by decide, by decide, by decide, fun v a b => ⟨a, b⟩⟩
          · cases hx
            exact ⟨_, 1, 16, rfl, w5, by decide, by decide, by decide, fun v a b => ⟨a, b⟩⟩
          · cases hx
            exact ⟨_, 1, 40, rfl, w6, by decide, by decide, by decide, fun v a b => ⟨a, b⟩⟩
          · cases hx
            exact ⟨_, 1, 100, rfl, w7, by decide, by decide, by decide, fun v a b => ⟨a, b⟩⟩
          · cases hx
        obtain ⟨hlo0, hbd⟩ := hbd
        walk_at "ss"
        refine ⟨_, _, rfl, D8.src, ⟨by omega, by omega⟩, fun d9 H9 l9 u9 D9 => ?_⟩
        walk_at "ss"
        refine r_new fun m hm => ?_
        walk_at "ss"
        refine ⟨_, _, _, rfl, D9.src.new hm, D9.src.ne hm, SqL.of upd_same, by simp, by simp, fun y H10 hy D10' => ?_⟩
        have D10 := (D9.new (o := .lst [.int lo, .int hi, .int (lo + d9)]) hm).trans D10'
        obtain ⟨v, rfl, hv1, hv2⟩ : ∃ v : Int, y = .int v ∧ lo ≤ v ∧ v ≤ hi := by
          simp only [List.mem_cons, List.not_mem_nil, or_false] at hy
          rcases hy with rfl | rfl | rfl
          · exact ⟨_, rfl, by omega, by omega⟩
          · exact ⟨_, rfl, by omega, by omega⟩
          · exact ⟨_, rfl, by omega, by omega⟩
        have n1 := D8.src.ne_tup w4
        have n2 := D8.src.ne_tup w5
        have n3 := D8.src.ne_tup w6
        have n4 := D8.src.ne_tup w7
        walk_at "ss"
        have hi4 : i < 4 := by
          rcases Nat.lt_or_ge i 4 with z | z
          · exact z
          · rw [List.getElem?_eq_none (by simpa using z)] at hx
            cases hx
        refine r_append (D10.old _ _ hpa w1) (by simp; omega) ?_
        walk_at "ss"
        have tp : ∀ {t : Addr} {xs : List V}, H8 t = some (.tup xs) → t ≠ p := fun h => ne_of h w1 (by intro z; cases z)
        refine ⟨_, _, fs ++ [v], rfl, by simp [hf], fun j u hj => ?_, ?_, ?_, ?_, ?_, ?_, ?_, ?_, (D8.trans D10).mut hp0 hpa⟩
        · rw [List.getElem?_append] at hj
          split at hj
          · exact hb j u hj
          · rename_i hge
            have e : j = i := by
              rcases Nat.lt_or_ge (j - fs.length) 1 with z | z
              · omega
              · rw [List.getElem?_eq_none (by simpa using z)] at hj
                cases hj
            subst e
            rw [hf, Nat.sub_self] at hj
            cases hj
            exact hbd _ hv1 hv2
        · rw [upd_same, List.map_append, List.append_assoc]
          rfl
        · rw [upd_ne hpD]
          exact D10.old _ _ hDa w2
        · rw [upd_ne hLp]
          exact D10.old _ _ hLa w3
        · rw [upd_ne (tp w4)]
          exact D10.old _ _ n1 w4
        · rw [upd_ne (tp w5)]
          exact D10.old _ _ n2 w5
        · rw [upd_ne (tp w6)]
          exact D10.old _ _ n3 w6
        · rw [upd_ne (tp w7)]
          exact D10.old _ _ n4 w7
      · rintro σ H8 ⟨y4, y5, fs, rfl, hf, hb, w1, w2, w3, w4, w5, w6, w7, D8⟩
        rcases fs with _ | ⟨fo, _ | ⟨re, _ | ⟨ev, _ | ⟨ke, _ | ⟨z, r⟩⟩⟩⟩⟩
        · cases hf
        · cases hf
        · cases hf
        · cases hf
        · walk_at "ss"
          exact q p D ls room fo re ev ke H8 D8 hp0 hD0 (Ne.symm hpD) w1 w2 ⟨by omega, by omega, hall, hr1, hr64, hb 0 _ rfl, hb 1 _ rfl, hb 2 _ rfl, hb 3 _ rfl⟩
        · simp at hf
theorem ok__law_text {P : Program} {w : World} {K : PySem.W.Frag} {mg : Str → Option Value} {base : Heap} {f : Addr} {fd : FuncData} (F : FunD K "_law_text" "_law_text" (defArgs s__law_text) (defBody s__law_text) (defScope s__law_text) [] [] f fd) (n_str : mg "str" = none) (n_zip : mg "zip" = none) : FnOk P w K mg base CX0 1 f fd ["p"] (sp__law_text K) := by
  refine F.ok sc__law_text (fun vs H Q E h => by first | (obtain ⟨rfl, _⟩ := h; rfl) | (obtain ⟨_, rfl, _⟩ := h; rfl) | (obtain ⟨_, _, rfl, _⟩ := h; rfl) | (obtain ⟨_, _, _, rfl, _⟩ := h; rfl) | (obtain ⟨_, _, _, _, rfl, _⟩ := h; rfl) | (obtain ⟨_, _, _, _, _, rfl, _⟩ := h; rfl) | (obtain ⟨_, _, _, _, _, _, rfl, _⟩ := h; rfl) | (obtain ⟨_, _, _, _, _, _, _, rfl, _⟩ := h; rfl) | (obtain ⟨_, _, _, _, _, _, _, _, rfl, _⟩ := h; rfl) | (obtain ⟨_, _, _, _, _, _, _, _, _, rfl, _⟩ := h; rfl) | (obtain ⟨_, _, _, _, _, _, _, _, _, _, rfl, _⟩ := h; rfl) | (obtain ⟨_, _, _, _, _, _, _, _, _, _, _, rfl, _⟩ := h; rfl) | (obtain ⟨_, _, _, _, _, _, _, _, _, _, _, _, rfl, _⟩ := h; rfl) | (obtain ⟨_, _, _, _, _, _, _, _, _, _, _, _, _, rfl, _⟩ := h; rfl) | (obtain ⟨_, _, _, _, _, _, _, _, _, _, _, _, _, _, rfl, _⟩ := h; rfl) | (obtain ⟨_, _, _, _, _, _, _, _, _, _, _, _, _, _, _, rfl, _⟩ := h; rfl) | (obtain ⟨_, _, _, _, _, _, _, _, _, _, _, _, _, _, _, _, rfl, _⟩ := h; rfl) | (obtain ⟨_, _, _, _, _, _, _, _, _, _, _, _, _, _, _, _, _, rfl, _⟩ := h; rfl)) (fun cdv A outer s H vs Q E hr h => ?_)
  · have hu := hu_of hr
    obtain ⟨p, q, ls, sz, fo, re, ev, ke, rfl, hp, hq, ok, k⟩ := h
    refine ⟨_, PSs.nox (pss_cons (ps_set (i := 1) sc__law_text.nd rfl (.inl rfl) (pe_lst (pa_cons pe_str (pa_cons pe_str (pa_cons pe_str (pa_cons pe_str (pa_cons pe_str pa_nil))))))) (pss_cons (ps_set (i := 2) sc__law_text.nd rfl (.inl rfl) (pe_lst (pa_cons (pe_op Kr.o_adds pe_str (KrT.pe_joinK (K := K) rfl pe_str (pe_lc (own := [("one", 3)]) rfl sc__law_text.nd (pi_list (pe_ix ix_list (pv 0) pe_int (fun _ _ => rfl))) (blkOk_by (own := [("one", 3)]) (N := N__law_text) (sc := defScope s__law_text) (by decide +kernel)) (fun _ _ _ _ _ => (pg_name (i := 3) sc__law_text.nd rfl (.inl rfl))) (fun _ _ _ _ _ => pts_nil) (fun _ _ _ _ _ => (pe_callTy (T := "str") KrT.c_str rfl n_str (by decide +kernel) (pa_cons (pv 3) pa_nil)))))) pa_nil))) (pss_cons (ps_set (i := 2) sc__law_text.nd rfl (.inl rfl) (pe_op Kr.op_catS (pv 2) (pe_lc (own := [("word", 4), ("one", 3)]) rfl sc__law_text.nd (pi_zip rfl n_zip (pa_cons (pv 1) (pa_cons (pe_slice sl_list (pv 0) (po_some pe_int) po_none) pa_nil))) (blkOk_by (own := [("word", 4), ("one", 3)]) (N := N__law_text) (sc := defScope s__law_text) (by decide +kernel)) (fun _ _ _ _ _ => (Kr.pg_tupK (K := K) (n := 2) rfl rfl (pgs_cons (pg_name (i := 4) sc__law_text.nd rfl (.inl rfl)) (pgs_cons (pg_name (i := 3) sc__law_text.nd rfl (.inl rfl)) pgs_nil)))) (fun _ _ _ _ _ => pts_nil) (fun _ _ _ _ _ => (pe_op Kr.o_adds (pv 4) (pe_callTy (T := "str") KrT.c_str rfl n_str (by decide +kernel) (pa_cons (pv 3) pa_nil))))))) (pss_one (ps_ret (KrT.pe_joinK (K := K) rfl pe_str (pe_lc (own := [("line", 5)]) rfl sc__law_text.nd (pi_list (pv 2)) (blkOk_by (own := [("line", 5)]) (N := N__law_text) (sc := defScope s__law_text) (by decide +kernel)) (fun _ _ _ _ _ => (pg_name (i := 5) sc__law_text.nd rfl (.inl rfl))) (fun _ _ _ _ _ => pts_nil) (fun _ _ _ _ _ => (pe_op Kr.o_adds (pv 5) pe_str))))))))), ?_⟩
    rw [st__law_text]
    walk_at "ss"
    refine r_newS fun w H1 hw s1 ew => ?_
    have p1 := s1 _ _ hp
    have q1 := s1 _ _ hq
    walk_at "ss"
    refine KrT.r_m1 ?_
    walk_at "ss"
    refine ⟨⟨" ", rfl⟩, ?_⟩
    walk_at "ss"
    intro D hD
    refine lc_listS (xs := ls.map V.int) [some (.ref p), some (.ref w), none, none, none, none] rfl (fun i H5 => Same H1 H5 ∧ H5 D = some (.lst (((ls.take i).map wr).map V.str))) ⟨same_new hD, upd_same⟩ (fun i H5 hi e => SqL.of (e.1 _ _ q1)) ?_ ?_
    · rintro i x H5 hx ⟨s5, e5⟩
      rw [List.getElem?_map] at hx
      obtain ⟨l, el, rfl⟩ := Option.map_eq_some_iff.mp hx
      obtain ⟨r1, r2⟩ := ok.r l (List.mem_of_getElem? el)
      have tk : ls.take (i + 1) = ls.take i ++ [l] := by rw [List.take_add_one, el]; rfl
      have l6 := ok.l6
      walk_at "ss"
      refine ⟨rfl, ?_⟩
      walk_at "ss"
      refine KrT.r_str (wr_log (by omega) (by omega)) ?_
      walk_at "ss"
      refine ⟨_, e5, by rw [List.length_map, List.length_map]; exact szl (Nat.lt_of_le_of_lt (List.length_take_le' _ _) (by omega)), fun b o e => ?_, ?_⟩
      · rw [upd_ne (ne_of_none e hD)]
        exact s5 b o e
      · rw [upd_same, tk, List.map_append, List.map_append]
        rfl
    rintro H2 ⟨s2, e2⟩
    rw [List.length_map, List.take_length] at e2
    have sm := sum_wr ok.r
    have l6 := ok.l6
    have zl := sizeLine_eq
    have jl := join_le " " (ls.map wr)
    rw [List.length_map, show (" " : Str).length = 1 by decide +kernel] at jl
    have p2 := s2 _ _ p1
    have w2 := s2 _ _ ew
    walk_at "ss"
    refine KrT.r_join e2 (by rw [List.length_map, show (" " : Str).length = 1 by decide +kernel]; omega) ?_
    refine ⟨"lengths ", _, rfl, rfl, by rw [show ("lengths " : Str).length = 8 by decide +kernel]; omega, ?_⟩
    walk_at "ss"
    refine r_newS fun l3 H3 n3 s3 e3 => ?_
    have p3 := s3 _ _ p2
    have w3 := s3 _ _ w2
    walk_at "ss"
    refine KrT.r_zip ?_
    walk_at "ss"
    rw [cut_one]
    refine r_newS fun g H4 n4 s4 e4 => ?_
    have e4' : H4 g = some (.lst ((pvl sz fo re ev ke).map V.int)) := e4
    have w4 : H4 w = some (.lst (prW.map V.str)) := s4 _ _ w3
    have l4 := s4 _ _ e3
    walk_at "ss"
    refine ⟨w, g, _, _, rfl, SqL.of w4, SqL.of e4', ?_⟩
    intro D2 hD2
    refine KrT.lc_zipS [some (.ref p), some (.ref w), some (.ref l3), none, none, none] rfl 5 rfl rfl (fun i H5 => Same H4 H5 ∧ H5 D2 = some (.lst (((prW.zipWith (fun a b => a ++ wr b) (pvl sz fo re ev ke)).take i).map V.str))) ⟨same_new hD2, upd_same⟩ (fun i H5 hi e => ⟨SqL.of (e.1 _ _ w4), SqL.of (e.1 _ _ e4')⟩) ?_ ?_
    · rintro i x y T H5 H6 hx hy ⟨s5, e5⟩ hT s6 eT
      rw [List.getElem?_map] at hx hy
      obtain ⟨u, eu, rfl⟩ := Option.map_eq_some_iff.mp hx
      obtain ⟨b, eb, rfl⟩ := Option.map_eq_some_iff.mp hy
      have u8 := prW_le u (List.mem_of_getElem? eu)
      obtain ⟨b0, b1⟩ := pvl_le ok b (List.mem_of_getElem? eb)
      have wl := wr_le b0 b1
      have tk : (prW.zipWith (fun a b => a ++ wr b) (pvl sz fo re ev ke)).take (i + 1) = (prW.zipWith (fun a b => a ++ wr b) (pvl sz fo re ev ke)).take i ++ [u ++ wr b] := by
        rw [List.take_add_one, List.getElem?_zipWith, eu, eb]
        rfl
      walk_at "ss"
      refine ⟨rfl, ?_⟩
      walk_at "ss"
      refine KrT.r_str (wr_log b0 b1) ?_
      refine ⟨u, wr b, rfl, rfl, by omega, ?_⟩
      refine ⟨_, s6 _ _ e5, by rw [List.length_map]; exact szl (Nat.lt_of_le_of_lt (List.length_take_le' _ _) (by show 5 < 100000; decide)), fun c o e => ?_, ?_⟩
      · rw [upd_ne (ne_of_none e hD2)]
        exact s6 _ _ (s5 c o e)
      · rw [upd_same, tk, List.map_append]
        rfl
    rintro H5 ⟨s5, e5⟩
    have e5' : H5 D2 = some (.lst ((lnS ls sz fo re ev ke).tail.map V.str)) := e5
    refine r_catS (SqL.of (s5 _ _ l4)) (SqL.of e5') (by show 1 + 5 ≤ 100000; decide) (r_newS fun g2 H6 n6 s6 e6 => ?_)
    have e6' : H6 g2 = some (.lst ((lnS ls sz fo re ev ke).map V.str)) := e6
    walk_at "ss"
    refine KrT.r_m1 ?_
    walk_at "ss"
    refine ⟨⟨"", rfl⟩, ?_⟩
    walk_at "ss"
    intro D3 hD3
    refine lc_listS (xs := (lnS ls sz fo re ev ke).map V.str) [some (.ref p), some (.ref w), some (.ref g2), none, none, none] rfl (fun i H7 => Same H6 H7 ∧ H7 D3 = some (.lst ((((lnS ls sz fo re ev ke).take i).map (· ++ ("\n" : Str))).map V.str))) ⟨same_new hD3, upd_same⟩ (fun i H7 hi e => SqL.of (e.1 _ _ e6')) ?_ ?_
    · rintro i x H7 hx ⟨s7, e7⟩
      rw [List.getElem?_map] at hx
      obtain ⟨l, el, rfl⟩ := Option.map_eq_some_iff.mp hx
      have tk : (lnS ls sz fo re ev ke).take (i + 1) = (lnS ls sz fo re ev ke).take i ++ [l] := by rw [List.take_add_one, el]; rfl
      have ll := ln_len ok (List.mem_of_getElem? el)
      walk_at "ss"
      refine ⟨rfl, ?_⟩
      walk_at "ss"
      refine ⟨l, "\n", rfl, rfl, by rw [show ("\n" : Str).length = 1 by decide +kernel]; omega, ?_⟩
      refine ⟨_, e7, by rw [List.length_map, List.length_map]; exact szl (Nat.lt_of_le_of_lt (List.length_take_le' _ _) (by show 6 < 100000; decide)), fun c o e => ?_, ?_⟩
      · rw [upd_ne (ne_of_none e hD3)]
        exact s7 c o e
      · rw [upd_same, tk, List.map_append, List.map_append]
        rfl
    rintro H7 ⟨s7, e7⟩
    rw [List.length_map, List.take_length] at e7
    refine KrT.r_join e7 ?_ ?_
    · rw [show ("" : Str).length = 0 by decide +kernel]
      have := lnS_le ok
      have e := sum_nl (lnS ls sz fo re ev ke)
      omega
    rw [law_join]
    exact k H7 (s1.trans (s2.trans (s3.trans (s4.trans (s5.trans (s6.trans s7))))))
theorem ok__law_number {P : Program} {w : World} {K : PySem.W.Frag} {mg : Str → Option Value} {base : Heap} {f : Addr} {fd : FuncData} (F : FunD K "_law_number" "_law_number" (defArgs s__law_number) (defBody s__law_number) (defScope s__law_number) [] [] f fd) (n_int : mg "int" = none) (n_len : mg "len" = none) (n_str : mg "str" = none) : FnOk P w K mg base CX0 1 f fd ["word"] (sp__law_number K) := by
  refine F.ok sc__law_number (fun vs H Q E h => by first | (obtain ⟨rfl, _⟩ := h; rfl) | (obtain ⟨_, rfl, _⟩ := h; rfl) | (obtain ⟨_, _, rfl, _⟩ := h; rfl) | (obtain ⟨_, _, _, rfl, _⟩ := h; rfl) | (obtain ⟨_, _, _, _, rfl, _⟩ := h; rfl) | (obtain ⟨_, _, _, _, _, rfl, _⟩ := h; rfl) | (obtain ⟨_, _, _, _, _, _, rfl, _⟩ := h; rfl) | (obtain ⟨_, _, _, _, _, _, _, rfl, _⟩ := h; rfl) | (obtain ⟨_, _, _, _, _, _, _, _, rfl, _⟩ := h; rfl) | (obtain ⟨_, _, _, _, _, _, _, _, _, rfl, _⟩ := h; rfl) | (obtain ⟨_, _, _, _, _, _, _, _, _, _, rfl, _⟩ := h; rfl) | (obtain ⟨_, _, _, _, _, _, _, _, _, _, _, rfl, _⟩ := h; rfl) | (obtain ⟨_, _, _, _, _, _, _, _, _, _, _, _, rfl, _⟩ := h; rfl) | (obtain ⟨_, _, _, _, _, _, _, _, _, _, _, _, _, rfl, _⟩ := h; rfl) | (obtain ⟨_, _, _, _, _, _, _, _, _, _, _, _, _, _, rfl, _⟩ := h; rfl) | (obtain ⟨_, _, _, _, _, _, _, _, _, _, _, _, _, _, _, rfl, _⟩ := h; rfl) | (obtain ⟨_, _, _, _, _, _, _, _, _, _, _, _, _, _, _, _, rfl, _⟩ := h; rfl) | (obtain ⟨_, _, _, _, _, _, _, _, _, _, _, _, _, _, _, _, _, rfl, _⟩ := h; rfl)) (fun cdv A outer s H vs Q E hr h => ?_)
  · have hu := hu_of hr
    obtain ⟨w, rfl, lw, hw, q⟩ := h
    have zl := sizeLine_eq
    have no : (¬ (1 ≤ w.length ∧ w.length ≤ 3 ∧ ∀ c ∈ TL.tl w, 48 ≤ c ∧ c ≤ 57)) → ∀ k : Int, 0 ≤ k → k ≤ 999 → w ≠ wr k := fun h k k0 k9 e => by
      obtain ⟨-, b, c, d⟩ := wr_back k0 k9
      rw [← e] at b c d
      exact h ⟨c, d, b⟩
    have dg := dig_tab
    refine ⟨_, PSs.nox (pss_cons (ps_if (PW.pt (pw_or (pt_not (pt_chain op_le op_le pe_int (pe_callB (id := "len") call_len_str rfl n_len (by decide +kernel) (pa_cons (pv 0) pa_nil)) pe_int)) (pw_or1 (pt_cmpR (op_neD hr.units) (pe_lc (own := [("sign", 1)]) rfl sc__law_number.nd (pi_str (pv 0)) (blkOk_by (own := [("sign", 1)]) (N := N__law_number) (sc := defScope s__law_number) (by decide +kernel)) (fun _ _ _ _ _ => (pg_name (i := 1) sc__law_number.nd rfl (.inl rfl))) (fun _ _ _ _ _ => (pts_one (pt_cmpR KrT.op_ninS (pv 1) pe_str (by rfl)))) (fun _ _ _ _ _ => (pv 1))) (pe_lst pa_nil) (nomark _))))) (pss_one (ps_ret (pe_un un_neg pe_int))) pss_nil) (pss_one (ps_ret (pe_ifExp (pt_cmpR op_eq (pe_callTy (T := "str") KrT.c_str rfl n_str (by decide +kernel) (pa_cons (pe_callTy (T := "int") KrT.c_intS rfl n_int (by decide +kernel) (pa_cons (pv 0) pa_nil)) pa_nil)) (pv 0) (nomark _)) (pe_callTy (T := "int") KrT.c_intS rfl n_int (by decide +kernel) (pa_cons (pv 0) pa_nil)) (pe_un un_neg pe_int))))), ?_⟩
    rw [st__law_number]
    walk_at "ss"
    refine ⟨w, rfl, by omega, ?_⟩
    walk_at "ss"
    refine r_dec (fun a1 => ?_) fun a1 => ?_
    rotate_left
    · walk_at "ss"
      exact q (-1) (.inr ⟨rfl, no fun z => a1 (by have := z.1; omega)⟩) H fun _ _ e => e
    walk_at "ss"
    refine r_decN (fun a2 => ?_) fun a2 => ?_
    · walk_at "ss"
      exact q (-1) (.inr ⟨rfl, no fun z => a2 (by have := z.2.1; omega)⟩) H fun _ _ e => e
    walk_at "ss"
    refine KrT.r_iStr ?_
    walk_at "ss"
    refine ⟨w, rfl, ?_⟩
    intro D hD
    refine KrT.lc_strS [some (.str w), none] rfl (fun i H5 => Same H H5 ∧ ∃ acc : List Str, H5 D = some (.lst (acc.map V.str)) ∧ acc.length ≤ i ∧ (∀ x ∈ acc, PyData.strOk x = true) ∧ (acc = [] ↔ ∀ c ∈ (TL.tl w).take i, 48 ≤ c ∧ c ≤ 57)) ⟨same_new hD, [], upd_same, Nat.le_refl _, fun x hx => absurd hx (by simp), by simp⟩ ?_ ?_
    · rintro i c H5 hc ⟨s5, acc, e5, la, oka, iff⟩
      have hi : i < w.cps.size := (Array.getElem?_eq_some_iff.mp hc).1
      have hi3 : i < 3 := by
        have : w.cps.size = w.length := rfl
        omega
      have ec : (TL.tl w)[i]? = some c := by rw [← hc]; exact Array.getElem?_toList ..
      have c128 := hw c (List.mem_of_getElem? ec)
      have tk : (TL.tl w).take (i + 1) = (TL.tl w).take i ++ [c] := by rw [List.take_add_one, ec]; rfl
      have tb := List.all_eq_true.mp dg c (List.mem_range.mpr c128)
      have tb : decide (c ∈ ("0123456789" : Str).cps.toList) = decide (48 ≤ c ∧ c ≤ 57) := eq_of_beq tb
      walk_at "ss"
      refine ⟨rfl, ?_⟩
      walk_at "ss"
      refine ⟨c, "0123456789", rfl, rfl, ?_⟩
      rw [tb]
      walk_at "ss"
      by_cases z : 48 ≤ c ∧ c ≤ 57
      · rw [decide_eq_true z]
        walk_at "ss"
        refine ⟨s5, acc, e5, by omega, oka, iff.trans ?_⟩
        rw [tk]
        constructor
        · intro h x hx
          rcases List.mem_append.mp hx with hx | hx
          · exact h x hx
          · rw [List.mem_singleton.mp hx]
            exact z
        · exact fun h x hx => h x (List.mem_append_left _ hx)
      · rw [decide_eq_false z]
        walk_at "ss"
        refine ⟨_, e5, by rw [List.length_map]; exact szl (by omega), fun b o e => ?_, acc ++ [(⟨#[c]⟩ : Str)], ?_, by rw [List.length_append]; show _ + 1 ≤ i + 1; omega, fun x hx => ?_, ?_⟩
        · rw [upd_ne (ne_of_none e hD)]
          exact s5 b o e
        · rw [upd_same, List.map_append]
          rfl
        · rcases List.mem_append.mp hx with hx | hx
          · exact oka x hx
          · rw [List.mem_singleton.mp hx]
            show (#[c] : Array Nat).all (· < 0x110000) = true
            simp
            omega
        · constructor
          · intro h
            simp at h
          · intro h
            exact absurd (h c (by rw [tk]; exact List.mem_append_right _ (List.mem_singleton_self _))) z
    rintro H5 ⟨s5, acc, e5, la, oka, iff⟩
    have full : (TL.tl w).take w.cps.size = TL.tl w := List.take_of_length_le (by show w.cps.toList.length ≤ _; rw [Array.length_toList]; exact Nat.le_refl _)
    rw [full] at iff
    walk_at "ss"
    refine r_newS fun u H6 n6 s6 e6 => ?_
    refine KrT.r_neSS (ys := []) oka (fun x hx => absurd hx (by simp)) (SqL.of (s6 _ _ e5)) (SqL.of e6) ?_
    walk_at "ss"
    refine r_decN (fun na => ?_) fun ae => ?_
    · walk_at "ss"
      exact q (-1) (.inr ⟨rfl, no fun z => na (iff.mpr z.2.2)⟩) H6 (s5.trans s6)
    walk_at "ss"
    obtain ⟨n, hn, n0, n9⟩ := dig_int (w := w) (by omega) (by omega) (iff.mp ae)
    refine KrT.r_intS hn (by omega) ?_
    walk_at "ss"
    refine KrT.r_str (wr_log9 n0 n9) ?_
    walk_at "ss"
    refine r_dec (fun e => ?_) fun e => ?_
    · walk_at "ss"
      refine KrT.r_intS hn (by omega) ?_
      exact q n (.inl ⟨n0, n9, e.symm⟩) H6 (s5.trans s6)
    · walk_at "ss"
      refine q (-1) (.inr ⟨rfl, fun k k0 k9 z => e ?_⟩) H6 (s5.trans s6)
      have b := (wr_back k0 k9).1
      rw [← z, hn] at b
      cases b
      exact z.symm
theorem ok__law_due {P : Program} {w : World} {K : PySem.W.Frag} {mg : Str → Option Value} {base : Heap} {f : Addr} {fd : FuncData} (F : FunD K "_law_due" "_law_due" (defArgs s__law_due) (defBody s__law_due) (defScope s__law_due) [] [] f fd) (h__law_number : Kr.FnH P w K mg base CX0 1 "_law_number" ["word"] (sp__law_number K)) (n_enumerate : mg "enumerate" = none) (n_len : mg "len" = none) (n_max : mg "max" = none) (n_min : mg "min" = none) : FnOk P w K mg base CX0 2 f fd ["text"] (sp__law_due K) := by
  refine F.ok sc__law_due (fun vs H Q E h => by first | (obtain ⟨rfl, _⟩ := h; rfl) | (obtain ⟨_, rfl, _⟩ := h; rfl) | (obtain ⟨_, _, rfl, _⟩ := h; rfl) | (obtain ⟨_, _, _, rfl, _⟩ := h; rfl) | (obtain ⟨_, _, _, _, rfl, _⟩ := h; rfl) | (obtain ⟨_, _, _, _, _, rfl, _⟩ := h; rfl) | (obtain ⟨_, _, _, _, _, _, rfl, _⟩ := h; rfl) | (obtain ⟨_, _, _, _, _, _, _, rfl, _⟩ := h; rfl) | (obtain ⟨_, _, _, _, _, _, _, _, rfl, _⟩ := h; rfl) | (obtain ⟨_, _, _, _, _, _, _, _, _, rfl, _⟩ := h; rfl) | (obtain ⟨_, _, _, _, _, _, _, _, _, _, rfl, _⟩ := h; rfl) | (obtain ⟨_, _, _, _, _, _, _, _, _, _, _, rfl, _⟩ := h; rfl) | (obtain ⟨_, _, _, _, _, _, _, _, _, _, _, _, rfl, _⟩ := h; rfl) | (obtain ⟨_, _, _, _, _, _, _, _, _, _, _, _, _, rfl, _⟩ := h; rfl) | (obtain ⟨_, _, _, _, _, _, _, _, _, _, _, _, _, _, rfl, _⟩ := h; rfl) | (obtain ⟨_, _, _, _, _, _, _, _, _, _, _, _, _, _, _, rfl, _⟩ := h; rfl) | (obtain ⟨_, _, _, _, _, _, _, _, _, _, _, _, _, _, _, _, rfl, _⟩ := h; rfl) | (obtain ⟨_, _, _, _, _, _, _, _, _, _, _, _, _, _, _, _, _, rfl, _⟩ := h; rfl)) (fun cdv A outer s H vs Q E hr h => ?_)
  · have hu := hu_of hr
    obtain ⟨T, rfl, lT, aT, q⟩ := h
    have zl := sizeLine_eq
    refine ⟨_, PSs.nox (pss_cons (ps_par (i := 1) (j := 2) rfl sc__law_due.nd rfl rfl (by decide) rfl rfl (pa_cons (KrT.pe_splitT (pv 0) pe_str) (pa_cons (pe_lst (pa_cons pe_str (pa_cons pe_str (pa_cons pe_str (pa_cons pe_str (pa_cons pe_str (pa_cons pe_str pa_nil))))))) pa_nil)) (by rfl)) (pss_cons (ps_asg (pe_tup (pa_cons pe_int (pa_cons pe_int pa_nil))) (pg_tup rfl (pgs_cons (pg_name (i := 3) sc__law_due.nd rfl (.inl rfl)) (pgs_cons (pg_name (i := 4) sc__law_due.nd rfl (.inl rfl)) pgs_nil)))) (pss_cons (ps_for PassesOwn.never rfl (pi_enum rfl n_enumerate (pa_cons (pv 2) pa_nil)) (pg_tup rfl (pgs_cons (pg_name (i := 5) sc__law_due.nd rfl (.inl rfl)) (pgs_cons (pg_name (i := 6) sc__law_due.nd rfl (.inl rfl)) pgs_nil))) (pss_cons (ps_if (pt_cmpR op_ge (pv 5) (pe_op op_sub (pe_callB (id := "len") Kr.c_len rfl n_len (by decide +kernel) (pa_cons (pv 1) pa_nil)) pe_int) (nomark _)) (pss_one (ps_ret (pv 5))) pss_nil) (pss_cons (ps_set (i := 7) sc__law_due.nd rfl (.inl rfl) (KrT.pe_splitT (pe_ix ix_list (pv 1) (pv 5) (fun _ _ => rfl)) pe_str)) (pss_cons (ps_setLc (i := 8) (own := [("part", 10)]) rfl sc__law_due.nd rfl rfl (sw_true rfl rfl rfl (by decide +kernel)) (pi_list (pe_slice sl_list (pv 7) (po_some pe_int) po_none)) (blkOk_by (own := [("part", 10)]) (N := N__law_due) (sc := defScope s__law_due) (by decide +kernel)) (fun _ _ _ _ _ => (pg_name (i := 10) sc__law_due.nd rfl (.inl rfl))) (fun _ _ _ _ _ => pts_nil) (fun _ _ _ _ _ => (Kr.pe_cl h__law_number (hr.mono (by decide)) (pa_cons (pv 10) pa_nil)))) (pss_cons (ps_set (i := 9) sc__law_due.nd rfl (.inl rfl) (pe_ix ix_list (pe_lst (pa_cons pe_int (pa_cons pe_int (pa_cons pe_int (pa_cons pe_int (pa_cons pe_int (pa_cons pe_int pa_nil))))))) (pv 5) (fun _ _ => rfl))) (pss_cons (ps_if (PW.pt (pw_or (pt_cmpR op_ne (pe_ix ix_list (pv 7) pe_int (fun _ _ => rfl)) (pv 6) (nomark _)) (pw_or1 (pt_not (pt_chain op_le op_le pe_int (pe_callB (id := "len") Kr.c_len rfl n_len (by decide +kernel) (pa_cons (pv 8) pa_nil)) (pv 9)))))) (pss_one (ps_ret (pv 5))) pss_nil) (pss_cons (ps_par (i := 3) (j := 4) rfl sc__law_due.nd rfl rfl (by decide) rfl rfl (pa_cons (pe_ix ix_list (pe_lst (pa_cons pe_int (pa_cons (pv 3) (pa_cons pe_int (pa_cons pe_int (pa_cons pe_int (pa_cons pe_int pa_nil))))))) (pv 5) (fun _ _ => rfl)) (pa_cons (pe_ix ix_list (pe_lst (pa_cons pe_int (pa_cons pe_int (pa_cons pe_int (pa_cons pe_int (pa_cons pe_int (pa_cons pe_int pa_nil))))))) (pv 5) (fun _ _ => rfl)) pa_nil)) (by rfl)) (pss_cons (ps_if (PW.pt (pw_or (pt_cmpR op_lt (pe_callB (id := "min") (cr_min rfl) rfl n_min (by decide +kernel) (pa_cons (pv 8) pa_nil)) (pv 3) (nomark _)) (pw_or1 (pt_cmpR op_gt (pe_callB (id := "max") (cr_max rfl) rfl n_max (by decide +kernel) (pa_cons (pv 8) pa_nil)) (pv 4) (nomark _))))) (pss_one (ps_ret (pv 5))) pss_nil) (pss_one (ps_set (i := 3) sc__law_due.nd rfl (.inl rfl) (pe_callB (id := "max") (cr_max rfl) rfl n_max (by decide +kernel) (pa_cons (pv 8) pa_nil)))))))))))) (pss_one (ps_ret (pe_ifExp (pt_cmpR (op_eqD hr.units) (pe_slice sl_list (pv 1) (po_some pe_int) po_none) (pe_lst (pa_cons pe_str pa_nil)) (nomark _)) pe_non pe_int)))))), ?_⟩
    rw [st__law_due]
    walk_at "ss"
    refine KrT.r_m1 ?_
    walk_at "ss"
    refine ⟨⟨_, rfl⟩, ?_⟩
    walk_at "ss"
    refine KrT.r_split (by decide +kernel) (by omega) fun lp H1 hp s1 e1 => ?_
    have ne := split_ne T "\n" (by decide +kernel) (by decide +kernel)
    have lens : ∀ x ∈ Txt.split T "\n", x.length ≤ 80000 := fun x hx => Nat.le_trans (split_le hx) lT
    have sgn : ∀ x ∈ Txt.split T "\n", ∀ c ∈ TL.tl x, c < 128 := fun x hx c hc => aT c (split_sub (s := 10) (by decide +kernel) (by decide +kernel) hx hc)
    revert ne e1 q lens sgn
    generalize Txt.split T "\n" = sp
    intro q e1 ne lens sgn
    walk_at "ss"
    refine r_newS fun wp H2 nw s2 e2 => ?_
    have e2' : H2 wp = some (.lst (wdK.map V.str)) := e2
    have e12 := s2 _ _ e1
    walk_at "ss"
    refine r_newS fun t0 H3 n3 s3 e3 => ?_
    have f1 := s3 _ _ e12
    have f2 := s3 _ _ e2'
    have s03 : Same H H3 := s1.trans (s2.trans s3)
    walk_at "ss"
    refine r_forE (xs := wdK.map V.str) (fun i σ H' => ∃ (lo hi : Int) (x5 x6 x7 x8 x9 : Option V), σ = [some (.str T), some (.ref lp), some (.ref wp), some (.int lo), some (.int hi), x5, x6, x7, x8, x9, none] ∧ Same H3 H' ∧ Stg sp i lo)
      ⟨1, 64, _, _, _, _, _, rfl, fun _ _ e => e, .inl rfl⟩ (fun i σ H' hi e => by obtain ⟨_, _, _, _, _, _, _, _, s, _⟩ := e; exact SqL.of (s _ _ f2)) ?_ ?_
    · rintro i x σ H4 U H5 hx ⟨lo, hi, x5, x6, x7, x8, x9, rfl, s4, st⟩ hT s5 eT
      have i6 : i < 6 := by
        have := (List.getElem?_eq_some_iff.mp hx).1
        rw [List.length_map] at this
        exact this
      have hlo : i = 1 → 0 ≤ lo := by
        rintro rfl
        rcases st with z | ⟨-, ls, hl, e, -⟩
        · cases z
        · rw [e rfl]
          have := maxL_bd hl
          omega
      obtain ⟨p, mo, lo', hi', rfl, gm, gl, gh, kind⟩ : ∃ (p : Str) (mo lo' hi' : Int), x = .str p ∧ (([6, 1, 1, 1, 1, 1] : List Int).map V.int)[i]? = some (.int mo) ∧ (([1, lo, 2, 1, 1, 1] : List Int).map V.int)[i]? = some (.int lo') ∧ (([64, 64, 8, 16, 40, 100] : List Int).map V.int)[i]? = some (.int hi') ∧
          ((i = 0 ∧ p = "lengths" ∧ mo = 6 ∧ lo' = 1 ∧ hi' = 64) ∨ ∃ j, i = j + 1 ∧ j < 5 ∧ p ∈ prt ∧ mo = 1 ∧ 0 ≤ lo' ∧ hi' ≤ 100 ∧ ∀ m, (i = 1 → lo = m) → parB m j = (p, lo', hi')) := by
        rcases (show i = 0 ∨ i = 1 ∨ i = 2 ∨ i = 3 ∨ i = 4 ∨ i = 5 by omega) with rfl | rfl | rfl | rfl | rfl | rfl
        · cases hx
          exact ⟨_, _, _, _, rfl, rfl, rfl, rfl, .inl ⟨rfl, rfl, rfl, rfl, rfl⟩⟩
        · cases hx
          exact ⟨_, _, _, _, rfl, rfl, rfl, rfl, .inr ⟨0, rfl, by decide, by decide +kernel, rfl, hlo rfl, by decide, fun m h => by rw [h rfl]; rfl⟩⟩
        · cases hx
          exact ⟨_, _, _, _, rfl, rfl, rfl, rfl, .inr ⟨1, rfl, by decide, by decide +kernel, rfl, by decide, by decide, fun m h => rfl⟩⟩
        · cases hx
          exact ⟨_, _, _, _, rfl, rfl, rfl, rfl, .inr ⟨2, rfl, by decide, by decide +kernel, rfl, by decide, by decide, fun m h => rfl⟩⟩
        · cases hx
          exact ⟨_, _, _, _, rfl, rfl, rfl, rfl, .inr ⟨3, rfl, by decide, by decide +kernel, rfl, by decide, by decide, fun m h => rfl⟩⟩
        · cases hx
          exact ⟨_, _, _, _, rfl, rfl, rfl, rfl, .inr ⟨4, rfl, by decide, by decide +kernel, rfl, by decide, by decide, fun m h => rfl⟩⟩
      have s05 : Same H H5 := s03.trans (s4.trans s5)
      have qi : due1 sp = some i → ∀ H', Same H5 H' → Q (.int i) H' := fun e H' s => by
        have := q H' (s05.trans s)
        rw [e] at this
        exact this
      have f5 := s5 _ _ (s4 _ _ f1)
      walk_at "ss"
      rw [List.length_map]
      refine r_dec (fun c => ?_) fun c => ?_
      · walk_at "ss"
        refine qi (stg_fail st i6 (fun z => .inl (by omega)) fun j ls e hl h => ?_) H5 fun _ _ e => e
        unfold rdV
        rw [if_neg (by omega)]
      have li : i + 1 < sp.length := by omega
      have li' : i < sp.length := by omega
      have gd : sp.getD i "" = sp[i] := by rw [List.getD_eq_getElem?_getD, List.getElem?_eq_getElem li']; rfl
      have hd0 : i = 0 → sp.headD "" = sp[i] := by
        rintro rfl
        rw [← gd]
        cases sp <;> rfl
      have mL := List.getElem_mem li'
      have lL := lens _ mL
      have aL := sgn _ mL
      have rdv : ∀ j ls, i = j + 1 → (i = 1 → lo = maxL ls) → (∀ m, (i = 1 → lo = m) → parB m j = (p, lo', hi')) → rdV sp (maxL ls) j = valIn sp[i] p lo' hi' := by
        intro j ls e h hp
        unfold rdV
        rw [hp _ h, if_pos (by omega), show j + 1 = i from e.symm, gd]
      walk_at "ss"
      refine KrT.r_m1 ?_
      walk_at "ss"
      refine r_ixL (SqL.of f5) (at_of (j := i) (v := V.str sp[i]) rfl (by rw [List.getElem?_map, List.getElem?_eq_getElem li']; rfl)) ?_
      refine ⟨⟨_, rfl⟩, ?_⟩
      walk_at "ss"
      refine KrT.r_split (by decide +kernel) (by omega) fun pp H6 np s6 e6 => ?_
      have wne := split_ne sp[i] " " (by decide +kernel) (by decide +kernel)
      have wlen : ∀ x ∈ Txt.split sp[i] " ", x.length ≤ 80000 := fun x hx => Nat.le_trans (split_leB hx) lL
      have wsg : ∀ x ∈ Txt.split sp[i] " ", ∀ c ∈ TL.tl x, c < 128 := fun x hx c hc => aL c (split_sub (s := 32) (by decide +kernel) (by decide +kernel) hx hc)
      have wct : (Txt.split sp[i] " ").length ≤ 80001 := Nat.le_trans (split_cnt (s := 32) (by decide +kernel) (by decide +kernel)) (by omega)
      obtain ⟨pw, hpw⟩ : ∃ pw, pw = Txt.split sp[i] " " := ⟨_, rfl⟩
      rw [← hpw] at wne wlen wsg wct e6
      cases pw with
      | nil => exact absurd rfl wne
      | cons w0 ws =>
      have hs := hpw.symm
      rw [List.length_cons] at wct
      walk_at "ss"
      rw [List.map_cons, cut_one]
      refine r_newS fun g H7 n7 s7 e7 => ?_
      walk_at "ss"
      intro D hD
      refine lc_listS (xs := ws.map V.str) [some (.str T), some (.ref lp), some (.ref wp), some (.int lo), some (.int hi), some (.int i), some (.str p), some (.ref pp), x8, x9, none] rfl (fun k H8 => Same H7 H8 ∧ ∃ ns : List Int, Nums (ws.take k) ns ∧ H8 D = some (.lst (ns.map V.int))) ⟨same_new hD, [], ⟨rfl, fun k x n h => by simp at h⟩, upd_same⟩ (fun k H8 hk e => SqL.of (e.1 _ _ e7)) ?_ ?_
      · rintro k x H8 hx ⟨s8, ns, nr, e8⟩
        rw [List.getElem?_map] at hx
        obtain ⟨y, ey, rfl⟩ := Option.map_eq_some_iff.mp hx
        have my : y ∈ w0 :: ws := List.mem_cons_of_mem _ (List.mem_of_getElem? ey)
        have tk : ws.take (k + 1) = ws.take k ++ [y] := by rw [List.take_add_one, ey]; rfl
        have ln := nr.len
        walk_at "ss"
        refine ⟨rfl, ?_⟩
        walk_at "ss"
        refine ⟨y, rfl, by have := wlen y my; omega, wsg y my, fun n hn H9 s9 => ?_⟩
        refine ⟨_, s9 _ _ e8, by rw [List.length_map, ln]; exact szl (Nat.lt_of_le_of_lt (List.length_take_le' _ _) (by omega)), fun b o e => ?_, ns ++ [n], by rw [tk]; exact nr.snoc hn, ?_⟩
        · rw [upd_ne (ne_of_none e hD)]
          exact s9 _ _ (s8 b o e)
        · rw [upd_same, List.map_append]
          rfl
      rintro H8 ⟨s8, ns, nr, e8⟩
      rw [List.length_map, List.take_length] at nr
      have ln := nr.len
      have s58 : Same H5 H8 := s6.trans (s7.trans s8)
      have e6' := s8 _ _ (s7 _ _ e6)
      walk_at "ss"
      refine r_newS fun u H9 n9 s9 e9 => ?_
      walk_at "ss"
      refine r_ixL (SqL.of (show H9 u = some (.lst (([6, 1, 1, 1, 1, 1] : List Int).map V.int)) from e9)) (at_of (j := i) (v := .int mo) rfl gm) ?_
      have e8' := s9 _ _ e8
      have e6'' := s9 _ _ e6'
      have s59 : Same H5 H9 := s58.trans s9
      -- how the stage fails, and passes
      have bad : (i = 0 → ¬ (w0 = "lengths" ∧ 1 ≤ ws.length ∧ ws.length ≤ 6 ∧ ∀ n ∈ ns, 1 ≤ n ∧ n ≤ 64)) → (i ≠ 0 → ¬ (w0 = p ∧ ∃ n, ns = [n] ∧ lo' ≤ n ∧ n ≤ hi')) → due1 sp = some i := by
        intro b0 b1
        refine stg_fail st i6 (fun z => .inr ?_) fun j ls e hl h => ?_
        · rw [hd0 z]
          exact len_fail hs nr (b0 z)
        · rcases kind with ⟨z, -⟩ | ⟨j', e', -, hp, -, l0, h9, pb⟩
          · omega
          · have ej : j' = j := by omega
            rw [ej] at pb
            rw [rdv j ls e h pb]
            exact val_fail hp hs nr l0 h9 (b1 (by omega))
      walk_at "ss"
      refine r_ixL (SqL.of e6'') (at_of (j := 0) (v := V.str w0) rfl rfl) ?_
      walk_at "ss"
      refine r_decN (fun c1 => ?_) fun c1 => ?_
      · walk_at "ss"
        refine qi (bad (fun z y => c1 ?_) fun z y => c1 y.1) H9 s59
        rcases kind with ⟨-, e, -⟩ | ⟨j, e, -⟩
        · rw [e]
          exact y.1
        · omega
      walk_at "ss"
      rw [List.length_map]
      walk_at "ss"
      refine r_dec (fun c2 => ?_) fun c2 => ?_
      rotate_left
      · walk_at "ss"
        refine qi (bad (fun z y => c2 (by have := y.2.1; omega)) fun z y => ?_) H9 s59
        obtain ⟨-, n, e, -⟩ := y
        rw [e] at c2
        exact c2 (by simp)
      walk_at "ss"
      refine r_decN (fun c3 => ?_) fun c3 => ?_
      · walk_at "ss"
        refine qi (bad (fun z y => ?_) fun z y => ?_) H9 s59
        · rcases kind with ⟨-, -, e, -⟩ | ⟨j, e, -⟩
          · rw [e] at c3
            exact c3 (by have := y.2.2.1; omega)
          · omega
        · obtain ⟨-, n, e, -⟩ := y
          rw [e] at c3
          rcases kind with ⟨e2, -⟩ | ⟨j, -, -, -, e2, -⟩
          · exact z e2
          · rw [e2] at c3
            exact c3 (by simp)
      walk_at "ss"
      refine r_newS fun u2 G1 v1 d1 g1 => ?_
      walk_at "ss"
      refine r_ixL (SqL.of (show G1 u2 = some (.lst (([1, lo, 2, 1, 1, 1] : List Int).map V.int)) from g1)) (at_of (j := i) (v := .int lo') rfl gl) ?_
      walk_at "ss"
      refine r_newS fun u3 G2 v2 d2 g2 => ?_
      walk_at "ss"
      refine r_ixL (SqL.of (show G2 u3 = some (.lst (([64, 64, 8, 16, 40, 100] : List Int).map V.int)) from g2)) (at_of (j := i) (v := .int hi') rfl gh) ?_
      have e8'' := d2 _ _ (d1 _ _ e8')
      have s5g : Same H5 G2 := s59.trans (d1.trans d2)
      have nl : 0 < ns.length := by omega
      walk_at "ss"
      refine ⟨D, ns, rfl, SqL.of e8'', nl, fun mn m1 m2 => ?_⟩
      walk_at "ss"
      refine r_dec (fun c4 => ?_) fun c4 => ?_
      · walk_at "ss"
        refine qi (bad (fun z y => ?_) fun z y => ?_) G2 s5g
        · rcases kind with ⟨-, -, -, e, -⟩ | ⟨j, e, -⟩
          · have := y.2.2.2 mn m1
            omega
          · omega
        · obtain ⟨-, n, e, h1, -⟩ := y
          rw [e] at m1
          have := List.mem_singleton.mp m1
          omega
      walk_at "ss"
      refine r_max (SqL.of e8'') nl fun mx x1 x2 => ?_
      walk_at "ss"
      refine r_dec (fun c5 => ?_) fun c5 => ?_
      · walk_at "ss"
        refine qi (bad (fun z y => ?_) fun z y => ?_) G2 s5g
        · rcases kind with ⟨-, -, -, -, e⟩ | ⟨j, e, -⟩
          · have := y.2.2.2 mx x1
            omega
          · omega
        · obtain ⟨-, n, e, -, h1⟩ := y
          rw [e] at x1
          have := List.mem_singleton.mp x1
          omega
      walk_at "ss"
      refine r_max (SqL.of e8'') nl fun mz z1 z2 => ?_
      have ez : mz = mx := by
        have := x2 _ z1
        have := z2 _ x1
        omega
      rw [ez]
      walk_at "ss"
      refine ⟨_, _, _, _, _, _, _, rfl, s4.trans (s5.trans s5g), .inr ⟨by omega, ?_⟩⟩
      rcases kind with ⟨rfl, hp, hmo, rfl, rfl⟩ | ⟨j, ej, j5, hp, hmo, l0, h9, pb⟩
      · rw [hmo] at c3
        refine ⟨ns, ?_, fun _ => (maxL_eq x1 x2).symm, fun j hj => by omega⟩
        rw [hd0 rfl]
        exact len_pass hs nr (c1.trans hp) (by omega) (by omega) fun n hn => ⟨by have := m2 n hn; omega, by have := x2 n hn; omega⟩
      · rw [hmo] at c3
        rcases st with z | ⟨n2, ls, hl, hlo', ha⟩
        · omega
        · refine ⟨ls, hl, fun z => by omega, fun k hk => ?_⟩
          rcases Nat.lt_or_ge (k + 1) i with z | z
          · exact ha k z
          · have ek : k = j := by omega
            rw [ek, rdv j ls ej hlo' pb]
            cases ns with
            | nil => simp at nl
            | cons n r =>
              cases r with
              | cons a b => simp at c3; omega
              | nil =>
                cases ws with
                | nil => simp at ln
                | cons y r2 =>
                  cases r2 with
                  | cons a b => simp at ln
                  | nil =>
                    have h1 := m2 n (List.mem_singleton_self n)
                    have e1' : mn = n := List.mem_singleton.mp m1
                    have e2' : mx = n := List.mem_singleton.mp x1
                    rw [c1] at hs
                    exact ⟨n, val_pass hp hs (nr.num 0 _ _ rfl rfl) l0 h9 (by omega) (by omega)⟩
    · rintro σ H4 ⟨lo, hi, x5, x6, x7, x8, x9, rfl, s4, st⟩
      have f4 := s4 _ _ f1
      walk_at "ss"
      rw [cut6]
      refine r_newS fun u1 G1 v1 c1 g1 => ?_
      rw [← List.map_drop] at g1
      walk_at "ss"
      refine r_newS fun u2 G2 v2 c2 g2 => ?_
      have s0G : Same H G2 := s03.trans (s4.trans (c1.trans c2))
      refine KrT.r_eqSS (ys := [("" : Str)]) (fun x hx => ?_) (fun x hx => by rw [List.mem_singleton.mp hx]; decide +kernel) (SqL.of (c2 _ _ g1)) (SqL.of g2) ?_
      · have := sgn x (List.mem_of_mem_drop hx)
        show x.cps.all (· < 0x110000) = true
        rw [Array.all_eq_true']
        intro c hc
        have := this c (by simpa using hc)
        simp
        omega
      rcases st with z | ⟨n2, ls, hl, -, ha⟩
      · cases z
      have de := due_end n2 hl fun j hj => ha j (by show j + 1 < 6; omega)
      have n7 : 7 ≤ sp.length := by
        obtain ⟨v, e⟩ := ha 4 (by show 4 + 1 < 6; decide)
        exact rdV_len e
      have dr : sp.drop 6 = [("" : Str)] ↔ sp.length = 7 ∧ sp.getD 6 "" = "" := by
        constructor
        · intro e
          have l := congrArg List.length e
          rw [List.length_drop] at l
          have l7 : sp.length = 7 := by
            have : sp.length - 6 = 1 := l
            omega
          refine ⟨l7, ?_⟩
          have g := congrArg (fun l : List Str => l[0]?) e
          simp only [List.getElem?_drop] at g
          rw [List.getD_eq_getElem?_getD, g]
          rfl
        · rintro ⟨l7, g⟩
          refine List.ext_getElem (by rw [List.length_drop, l7]; rfl) fun k a b => ?_
          have k0 : k = 0 := by
            rw [List.length_singleton] at b
            omega
          subst k0
          rw [List.getElem_drop]
          rw [List.getD_eq_getElem?_getD, List.getElem?_eq_getElem (by omega)] at g
          exact g
      walk_at "ss"
      refine r_dec (fun y => ?_) fun y => ?_
      · walk_at "ss"
        have := q G2 s0G
        rw [de, if_neg (by rintro (z | z); exact z (dr.mp y).1; exact z (dr.mp y).2)] at this
        exact this
      · walk_at "ss"
        have := q G2 s0G
        rw [de, if_pos (Classical.byContradiction fun z => y (dr.mpr ⟨Classical.byContradiction fun t => z (.inl t), Classical.byContradiction fun t => z (.inr t)⟩))] at this
        exact this
theorem ok__law_spoilt {P : Program} {w : World} {K : PySem.W.Frag} {mg : Str → Option Value} {base : Heap} {f : Addr} {fd : FuncData} (F : FunD K "_law_spoilt" "_law_spoilt" (defArgs s__law_spoilt) (defBody s__law_spoilt) (defScope s__law_spoilt) [] [] f fd) (h__law_draw : Kr.FnH P w K mg base CX0 2 "_law_draw" ["source", "limit"] (sp__law_draw K)) (h__law_pick : Kr.FnH P w K mg base CX0 3 "_law_pick" ["source", "items"] (sp__law_pick K)) (n_len : mg "len" = none) : FnOk P w K mg base CX0 4 f fd ["source", "text"] (sp__law_spoilt K) := by
  refine F.ok sc__law_spoilt (fun vs H Q E h => by first | (obtain ⟨rfl, _⟩ := h; rfl) | (obtain ⟨_, rfl, _⟩ := h; rfl) | (obtain ⟨_, _, rfl, _⟩ := h; rfl) | (obtain ⟨_, _, _, rfl, _⟩ := h; rfl) | (obtain ⟨_, _, _, _, rfl, _⟩ := h; rfl) | (obtain ⟨_, _, _, _, _, rfl, _⟩ := h; rfl) | (obtain ⟨_, _, _, _, _, _, rfl, _⟩ := h; rfl) | (obtain ⟨_, _, _, _, _, _, _, rfl, _⟩ := h; rfl) | (obtain ⟨_, _, _, _, _, _, _, _, rfl, _⟩ := h; rfl) | (obtain ⟨_, _, _, _, _, _, _, _, _, rfl, _⟩ := h; rfl) | (obtain ⟨_, _, _, _, _, _, _, _, _, _, rfl, _⟩ := h; rfl) | (obtain ⟨_, _, _, _, _, _, _, _, _, _, _, rfl, _⟩ := h; rfl) | (obtain ⟨_, _, _, _, _, _, _, _, _, _, _, _, rfl, _⟩ := h; rfl) | (obtain ⟨_, _, _, _, _, _, _, _, _, _, _, _, _, rfl, _⟩ := h; rfl) | (obtain ⟨_, _, _, _, _, _, _, _, _, _, _, _, _, _, rfl, _⟩ := h; rfl) | (obtain ⟨_, _, _, _, _, _, _, _, _, _, _, _, _, _, _, rfl, _⟩ := h; rfl) | (obtain ⟨_, _, _, _, _, _, _, _, _, _, _, _, _, _, _, _, rfl, _⟩ := h; rfl) | (obtain ⟨_, _, _, _, _, _, _, _, _, _, _, _, _, _, _, _, _, rfl, _⟩ := h; rfl)) (fun cdv A outer s H vs Q E hr h => ?_)
  · have hu := hu_of hr
    obtain ⟨a, T, rfl, src, t1, tS, q⟩ := h
    have zl := sizeLine_eq
    have tB : St T.length T := ⟨Nat.le_refl _, tS.asc⟩
    have tl2 := tS.len
    obtain ⟨N, hN⟩ : ∃ N, N = T.length + 1 := ⟨_, rfl⟩
    have N2 : N ≤ 2001 := by omega
    refine ⟨_, PSs.nox (pss_cons (ps_par (i := 2) (j := 3) rfl sc__law_spoilt.nd rfl rfl (by decide) rfl rfl (pa_cons (KrT.pe_splitT (pv 1) pe_str) (pa_cons (Kr.pe_cl h__law_draw (hr.mono (by decide)) (pa_cons (pv 0) (pa_cons (pe_callB (id := "len") call_len_str rfl n_len (by decide +kernel) (pa_cons (pv 1) pa_nil)) pa_nil))) pa_nil)) (by rfl)) (pss_cons (ps_set (i := 4) sc__law_spoilt.nd rfl (.inl rfl) (Kr.pe_cl h__law_draw (hr.mono (by decide)) (pa_cons (pv 0) (pa_cons (pe_callB (id := "len") Kr.c_len rfl n_len (by decide +kernel) (pa_cons (pv 2) pa_nil)) pa_nil)))) (pss_cons (ps_set (i := 5) sc__law_spoilt.nd rfl (.inl rfl) (KrT.pe_splitT (pe_ix ix_list (pv 2) (pv 4) (fun _ _ => rfl)) pe_str)) (pss_cons (ps_set (i := 6) sc__law_spoilt.nd rfl (.inl rfl) (Kr.pe_cl h__law_draw (hr.mono (by decide)) (pa_cons (pv 0) (pa_cons (pe_callB (id := "len") Kr.c_len rfl n_len (by decide +kernel) (pa_cons (pv 5) pa_nil)) pa_nil)))) (pss_cons (ps_set (i := 7) sc__law_spoilt.nd rfl (.inl rfl) (pe_lst (pa_cons pe_str (pa_cons pe_str (pa_cons pe_str (pa_cons pe_str (pa_cons pe_str (pa_cons pe_str (pa_cons pe_str (pa_cons pe_str (pa_cons pe_str (pa_cons pe_str (pa_cons pe_str (pa_cons pe_str (pa_cons pe_str (pa_cons pe_str (pa_cons pe_str pa_nil))))))))))))))))) (pss_cons (ps_set (i := 8) sc__law_spoilt.nd rfl (.inl rfl) (pe_op Kr.op_catS (pe_op Kr.op_catS (pe_slice sl_list (pv 5) po_none (po_some (pv 6))) (pe_lst (pa_cons (Kr.pe_cl h__law_pick (hr.mono (by decide)) (pa_cons (pv 0) (pa_cons (pe_op Kr.op_catS (pv 7) (pe_lst (pa_cons pe_str (pa_cons pe_str (pa_cons pe_str (pa_cons pe_str pa_nil)))))) pa_nil))) pa_nil))) (pe_slice sl_list (pv 5) (po_some (pe_op op_add (pv 6) pe_int)) po_none))) (pss_cons (ps_par (i := 9) (j := 10) rfl sc__law_spoilt.nd rfl rfl (by decide) rfl rfl (pa_cons (pe_slice sl_list (pv 2) po_none (po_some (pv 4))) (pa_cons (pe_slice sl_list (pv 2) (po_some (pe_op op_add (pv 4) pe_int)) po_none) pa_nil)) (by rfl)) (pss_cons (ps_set (i := 11) sc__law_spoilt.nd rfl (.inl rfl) (pe_op Kr.op_catS (pe_slice sl_list (pv 5) po_none (po_some (pe_op op_add (pv 6) pe_int))) (pe_slice sl_list (pv 5) (po_some (pv 6)) po_none))) (pss_cons (ps_set (i := 12) sc__law_spoilt.nd rfl (.inl rfl) (pe_lst (pa_cons (pe_op Kr.op_catS (pv 9) (pv 10)) (pa_cons (pe_op Kr.op_catS (pe_slice sl_list (pv 2) po_none (po_some (pe_op op_add (pv 4) pe_int))) (pe_slice sl_list (pv 2) (po_some (pv 4)) po_none)) pa_nil)))) (pss_cons (ps_expr (pe_bm PySem.F.plainAttrs_list PySem.F.slot_list_append PySem.F.type_list_append mt_append (pv 12) (pa_cons (pe_op Kr.op_catS (pv 9) (pe_revL (pe_slice sl_list (pv 2) (po_some (pv 4)) po_none))) pa_nil))) (pss_cons (ps_set (i := 12) sc__law_spoilt.nd rfl (.inl rfl) (pe_op Kr.op_catS (pv 12) (pe_op op_rep (pe_lst (pa_cons (pe_op Kr.op_catS (pe_op Kr.op_catS (pv 9) (pe_lst (pa_cons (KrT.pe_joinK (K := K) rfl pe_str (pv 8)) pa_nil))) (pv 10)) pa_nil)) pe_int))) (pss_cons (ps_expr (pe_bm PySem.F.plainAttrs_list PySem.F.slot_list_append PySem.F.type_list_append mt_append (pv 12) (pa_cons (pe_op Kr.op_catS (pe_op Kr.op_catS (pv 9) (pe_lst (pa_cons (KrT.pe_joinK (K := K) rfl pe_str (pv 11)) pa_nil))) (pv 10)) pa_nil))) (pss_cons (ps_set (i := 13) sc__law_spoilt.nd rfl (.inl rfl) (pe_op Kr.op_catS (pe_lc (own := [("one", 15)]) rfl sc__law_spoilt.nd (pi_list (pv 12)) (blkOk_by (own := [("one", 15)]) (N := N__law_spoilt) (sc := defScope s__law_spoilt) (by decide +kernel)) (fun _ _ _ _ _ => (pg_name (i := 15) sc__law_spoilt.nd rfl (.inl rfl))) (fun _ _ _ _ _ => pts_nil) (fun _ _ _ _ _ => (KrT.pe_joinK (K := K) rfl pe_str (pv 15)))) (pe_lst (pa_cons (pe_slice sl_str (pv 1) po_none (po_some (pv 3))) (pa_cons (pe_op Kr.o_adds (pe_slice sl_str (pv 1) po_none (po_some (pv 3))) (pe_slice sl_str (pv 1) (po_some (pe_op op_add (pv 3) pe_int)) po_none)) pa_nil))))) (pss_cons (ps_for PassesOwn.never rfl (pi_list (pe_lst (pa_cons pe_str (pa_cons pe_str (pa_cons pe_str (pa_cons pe_str (pa_cons pe_str (pa_cons pe_str (pa_cons pe_str pa_nil))))))))) (pg_name (i := 14) sc__law_spoilt.nd rfl (.inl rfl)) (pss_one (ps_expr (pe_bm PySem.F.plainAttrs_list PySem.F.slot_list_append PySem.F.type_list_append mt_append (pv 13) (pa_cons (pe_op Kr.o_adds (pe_op Kr.o_adds (pe_slice sl_str (pv 1) po_none (po_some (pv 3))) (pv 14)) (pe_slice sl_str (pv 1) (po_some (pv 3)) po_none)) pa_nil))))) (pss_one (ps_ret (Kr.pe_cl h__law_pick (hr.mono (by decide)) (pa_cons (pv 0) (pa_cons (pv 13) pa_nil))))))))))))))))))), ?_⟩
    rw [st__law_spoilt]
    walk_at "ss"
    refine KrT.r_m1 ?_
    walk_at "ss"
    refine ⟨⟨_, rfl⟩, ?_⟩
    walk_at "ss"
    refine KrT.r_split (by decide +kernel) (by omega) fun lp H1 nlp s1 e1 => ?_
    have ne := split_ne T "\n" (by decide +kernel) (by decide +kernel)
    have spL : Ls N (Txt.split T "\n") := by rw [hN]; exact split_ls (s := 10) tB (by decide +kernel) (by decide +kernel)
    revert ne e1 spL
    generalize Txt.split T "\n" = sp
    intro e1 ne spL
    have lpa : lp ≠ a := src.ne nlp
    have spn := spL.lens
    have sp1 : 1 ≤ sp.length := List.length_pos_iff.mpr ne
    have D1 := Dr.ofSame src s1
    walk_at "ss"
    refine ⟨T, rfl, by omega, ?_⟩
    walk_at "ss"
    refine ⟨a, _, rfl, D1.src, lim_ok (by omega) (by omega), fun d H2 d0 d1 D2' => ?_⟩
    have D2 := D1.trans D2'
    have e2 := D2'.old _ _ lpa e1
    obtain ⟨pl, rfl⟩ := Int.eq_ofNat_of_zero_le d0
    walk_at "ss"
    rw [List.length_map]
    refine ⟨a, _, rfl, D2.src, lim_ok (by omega) (by omega), fun d H3 c0 c1 D3' => ?_⟩
    have D3 := D2.trans D3'
    have e3 := D3'.old _ _ lpa e2
    obtain ⟨at', rfl⟩ := Int.eq_ofNat_of_zero_le c0
    have lat : at' < sp.length := by omega
    walk_at "ss"
    refine KrT.r_m1 ?_
    walk_at "ss"
    refine r_ixL (SqL.of e3) (at_of (j := at') (v := V.str sp[at']) rfl (by rw [List.getElem?_map, List.getElem?_eq_getElem lat]; rfl)) ?_
    refine ⟨⟨_, rfl⟩, ?_⟩
    have lnS' : St N sp[at'] := spL.mem (List.getElem_mem lat)
    have lnB := lnS'.len
    walk_at "ss"
    refine KrT.r_split (by decide +kernel) (by omega) fun wp H4 nwp s4 e4 => ?_
    have wne := split_ne sp[at'] " " (by decide +kernel) (by decide +kernel)
    have wL : Ls (N + 1) (Txt.split sp[at'] " ") := split_ls (s := 32) lnS' (by decide +kernel) (by decide +kernel)
    revert wne e4 wL
    generalize Txt.split sp[at'] " " = pw
    intro e4 wne wL
    have D4 := D3.same s4
    have f4 := s4 _ _ e3
    have wpa : wp ≠ a := D3.src.ne nwp
    have wn := wL.lens
    have w1 : 1 ≤ pw.length := List.length_pos_iff.mpr wne
    walk_at "ss"
    rw [List.length_map]
    refine ⟨a, _, rfl, D4.src, lim_ok (by omega) (by omega), fun d H5 b0 b1 D5' => ?_⟩
    have D5 := D4.trans D5'
    have e5 := D5'.old _ _ wpa e4
    have f5 := D5'.old _ _ lpa f4
    obtain ⟨so, rfl⟩ := Int.eq_ofNat_of_zero_le b0
    walk_at "ss"
    refine r_newS fun op H6 nop s6 o6 => ?_
    have o6' : H6 op = some (.lst (othL.map V.str)) := o6
    have e6 := s6 _ _ e5
    have f6 := s6 _ _ f5
    have D6 := D5.same s6
    walk_at "ss"
    -- changed
    rw [cut_take]
    refine r_newS fun u1 H7 v1 s7 g7 => ?_
    rw [← List.map_take] at g7
    have D7 := D6.same s7
    have u1a : u1 ≠ a := D6.src.ne v1
    have o7 := s7 _ _ o6'
    have e7 := s7 _ _ e6
    have f7 := s7 _ _ f6
    walk_at "ss"
    refine r_newS fun u2 H8 v2 s8 g8 => ?_
    have D8 := D7.same s8
    have g8' : H8 u2 = some (.lst (oth2L.map V.str)) := g8
    refine r_catS (SqL.of (s8 _ _ o7)) (SqL.of g8') (by show 15 + 4 ≤ 100000; decide) (r_newS fun u3 H9 v3 s9 g9 => ?_)
    rw [← List.map_append] at g9
    have D9 := D8.same s9
    have u3a : u3 ≠ a := D8.src.ne v3
    have e9 := s9 _ _ (s8 _ _ e7)
    have f9 := s9 _ _ (s8 _ _ f7)
    have k9 := s9 _ _ (s8 _ _ g7)
    walk_at "ss"
    refine ⟨a, u3, _, rfl, D9.src, u3a, SqL.of g9, by show 0 < 19; decide, by show 19 ≤ 1000; decide, fun x H10 hx D10' => ?_⟩
    obtain ⟨z, hz, rfl⟩ := List.mem_map.mp hx
    have zS : St 4 z := st_dec oth_ok hz
    have D10 := D9.trans D10'
    have e10 := D10'.old _ _ wpa e9
    have f10 := D10'.old _ _ lpa f9
    have k10 := D10'.old _ _ u1a k9
    clear g9 hx hz
    walk_at "ss"
    refine r_newS fun u4 G1 v4 c1 h1 => ?_
    have h1' : G1 u4 = some (.lst (([z] : List Str).map V.str)) := h1
    refine r_catS (SqL.of (c1 _ _ k10)) (SqL.of h1') (by rw [List.length_map, List.length_map, List.length_take]; show _ + 1 ≤ 100000; omega) (r_newS fun u5 G2 v5 c2 h2 => ?_)
    rw [← List.map_append] at h2
    have e12 := c2 _ _ (c1 _ _ e10)
    have f12 := c2 _ _ (c1 _ _ f10)
    have A1 : Ls (N + 1 + 5) (pw.take so ++ [z]) := (wL.take so).app (Ls.one zS)
    walk_at "ss"
    rw [show (so : Int) + 1 = ((so + 1 : Nat) : Int) from rfl, cut_drop]
    refine r_newS fun u6 G3 v6 c3 h3 => ?_
    rw [← List.map_drop] at h3
    have A2 := A1.app (wL.drop (so + 1))
    have a1n := A1.lens
    refine r_catS (SqL.of (c3 _ _ h2)) (SqL.of h3) (by rw [List.length_map, List.length_map, List.length_drop]; omega) (r_newS fun ch G4 v7 c4 h4 => ?_)
    rw [← List.map_append] at h4
    obtain ⟨CH, hCH⟩ : ∃ CH, CH = pw.take so ++ [z] ++ pw.drop (so + 1) := ⟨_, rfl⟩
    rw [← hCH] at h4 A2
    have e14 := c4 _ _ (c3 _ _ e12)
    have f14 := c4 _ _ (c3 _ _ f12)
    clear h1 h1' h2 h3 k10 hCH
    walk_at "ss"
    -- ahead, behind
    rw [cut_take]
    refine r_newS fun ah G5 v8 c5 h5 => ?_
    rw [← List.map_take] at h5
    have f15 := c5 _ _ f14
    walk_at "ss"
    rw [show (at' : Int) + 1 = ((at' + 1 : Nat) : Int) from rfl, cut_drop]
    refine r_newS fun bh G6 v9 c6 h6 => ?_
    rw [← List.map_drop] at h6
    have e16 := c6 _ _ (c5 _ _ e14)
    have f16 := c6 _ _ f15
    have ch16 := c6 _ _ (c5 _ _ h4)
    have ah16 := c6 _ _ h5
    have AH : Ls N (sp.take at') := spL.take at'
    have BH : Ls N (sp.drop (at' + 1)) := spL.drop (at' + 1)
    obtain ⟨PA, hPA⟩ : ∃ PA, PA = sp.take at' := ⟨_, rfl⟩
    obtain ⟨PB, hPB⟩ : ∃ PB, PB = sp.drop (at' + 1) := ⟨_, rfl⟩
    rw [← hPA] at ah16 AH
    rw [← hPB] at h6 BH
    clear h5 h4 hPA hPB
    have ahn := AH.lens
    have bhn := BH.lens
    have cn := A2.lens
    walk_at "ss"
    -- more
    rw [show (so : Int) + 1 = ((so + 1 : Nat) : Int) from rfl, cut_take]
    refine r_newS fun m1 G7 w1' c7 h7 => ?_
    rw [← List.map_take] at h7
    have e17 := c7 _ _ e16
    walk_at "ss"
    rw [cut_drop]
    refine r_newS fun m2 G8 w2' c8 h8 => ?_
    rw [← List.map_drop] at h8
    refine r_catS (SqL.of (c8 _ _ h7)) (SqL.of h8) (by rw [List.length_map, List.length_map, List.length_take, List.length_drop]; omega) (r_newS fun mo G9 w3' c9 h9 => ?_)
    rw [← List.map_append] at h9
    have MO : Ls (N + 1 + (N + 1)) (pw.take (so + 1) ++ pw.drop so) := (wL.take (so + 1)).app (wL.drop so)
    obtain ⟨PM, hPM⟩ : ∃ PM, PM = pw.take (so + 1) ++ pw.drop so := ⟨_, rfl⟩
    rw [← hPM] at h9 MO
    have mn := MO.lens
    have s79 := c7.trans (c8.trans c9)
    have f19 := s79 _ _ f16
    have ch19 := s79 _ _ ch16
    have ah19 := s79 _ _ ah16
    have bh19 := s79 _ _ h6
    clear h7 h8 hPM e17 e16 e14 e12 e10 f14 f15 f12 f16 ch16 ah16 h6
    walk_at "ss"
    -- glued
    refine r_catS (SqL.of ah19) (SqL.of bh19) (by rw [List.length_map, List.length_map]; omega) (r_newS fun r1 K1 y1 d1' i1 => ?_)
    rw [← List.map_append] at i1
    have R1 : Ls (4 * N + 8) (PA ++ PB) := (AH.app BH).up (by omega)
    have f20 := d1' _ _ f19
    walk_at "ss"
    rw [show (at' : Int) + 1 = ((at' + 1 : Nat) : Int) from rfl, cut_take]
    refine r_newS fun r2 K2 y2 d2 i2 => ?_
    rw [← List.map_take] at i2
    have f21 := d2 _ _ f20
    walk_at "ss"
    rw [cut_drop]
    refine r_newS fun r3 K3 y3 d3 i3 => ?_
    rw [← List.map_drop] at i3
    refine r_catS (SqL.of (d3 _ _ i2)) (SqL.of i3) (by rw [List.length_map, List.length_map, List.length_take, List.length_drop]; omega) (r_newS fun r4 K4 y4 d4 i4 => ?_)
    rw [← List.map_append] at i4
    have R2 : Ls (4 * N + 8) (sp.take (at' + 1) ++ sp.drop at') := ((spL.take (at' + 1)).app (spL.drop at')).up (by omega)
    have i14 := d4 _ _ (d3 _ _ (d2 _ _ i1))
    have s14 := d1'.trans (d2.trans (d3.trans d4))
    have f24 := s14 _ _ f19
    walk_at "ss"
    refine r_newS fun gl K5 ygl d5 i5 => ?_
    have f25 := d5 _ _ f24
    have ah25 := d5 _ _ (s14 _ _ ah19)
    have bh25 := d5 _ _ (s14 _ _ bh19)
    have ch25 := d5 _ _ (s14 _ _ ch19)
    have mo25 := d5 _ _ (s14 _ _ h9)
    have r125 := d5 _ _ i14
    have r225 := d5 _ _ i4
    have q1 : r1 ≠ gl := ne_of_none i14 ygl
    have q2 : r4 ≠ gl := ne_of_none i4 ygl
    have q3 : ah ≠ gl := ne_of_none (s14 _ _ ah19) ygl
    have q4 : bh ≠ gl := ne_of_none (s14 _ _ bh19) ygl
    have q5 : ch ≠ gl := ne_of_none (s14 _ _ ch19) ygl
    have q6 : mo ≠ gl := ne_of_none (s14 _ _ h9) ygl
    walk_at "ss"
    refine KrT.r_revL ?_
    walk_at "ss"
    rw [cut_drop]
    refine r_newS fun r5 K6 y6 d6 i6 => ?_
    rw [← List.map_drop] at i6
    refine ⟨r5, _, rfl, SqL.of i6, fun r6 y7 => ?_⟩
    rw [← List.map_reverse]
    have d7 : Same K6 (upd K6 r6 (.lst ((sp.drop at').reverse.map V.str))) := same_new y7
    have i7 : upd K6 r6 (.lst ((sp.drop at').reverse.map V.str)) r6 = some (.lst ((sp.drop at').reverse.map V.str)) := upd_same
    generalize upd K6 r6 (.lst ((sp.drop at').reverse.map V.str)) = K7 at d7 i7 ⊢
    refine r_catS (SqL.of (d7 _ _ (d6 _ _ ah25))) (SqL.of i7) (by rw [List.length_map, List.length_map, List.length_reverse, List.length_drop]; omega) (r_newS fun r7 K8 y8 d8 i8 => ?_)
    rw [← List.map_append] at i8
    have R3 : Ls (4 * N + 8) (PA ++ (sp.drop at').reverse) := (AH.app (spL.drop at').rev).up (by omega)
    have s58 := d6.trans (d7.trans d8)
    have gl8 := s58 _ _ i5
    have q7 : r7 ≠ gl := (ne_of_none (d7 _ _ (d6 _ _ i5)) y8).symm
    walk_at "ss"
    refine r_append gl8 (by show 2 < 100000; decide) ?_
    have off : ∀ {b : Addr} {o : HO}, b ≠ gl → K5 b = some o → upd K8 gl (.lst ([V.ref r1, V.ref r4] ++ [V.ref r7])) b = some o := fun n e => by
      rw [upd_ne n]
      exact s58 _ _ e
    have ah9 := off q3 ah25
    have bh9 := off q4 bh25
    have ch9 := off q5 ch25
    have mo9 := off q6 mo25
    have ra9 := off q1 r125
    have rb9 := off q2 r225
    have rc9 : upd K8 gl (.lst ([V.ref r1, V.ref r4] ++ [V.ref r7])) r7 = some (.lst ((PA ++ (sp.drop at').reverse).map V.str)) := by
      rw [upd_ne q7]
      exact i8
    have gl9 : upd K8 gl (.lst ([V.ref r1, V.ref r4] ++ [V.ref r7])) gl = some (.lst [V.ref r1, V.ref r4, V.ref r7]) := upd_same
    have nglH : H10 gl = none := by
      have := (c1.trans (c2.trans (c3.trans (c4.trans (c5.trans (c6.trans (s79.trans s14))))))).free ygl
      exact this
    have gla : gl ≠ a := D10.src.ne nglH
    have s10K : Same H10 K8 := (c1.trans (c2.trans (c3.trans (c4.trans (c5.trans (c6.trans (s79.trans (s14.trans (d5.trans s58)))))))))
    have D11 : Dr a H (upd K8 gl (.lst ([V.ref r1, V.ref r4] ++ [V.ref r7]))) := (D10.same s10K).mut (D10.free nglH) gla
    have G0 : ∀ v ∈ [V.ref r1, V.ref r4, V.ref r7], LsA (4 * N + 8) (upd K8 gl (.lst ([V.ref r1, V.ref r4] ++ [V.ref r7]))) v := by
      intro v hv
      simp only [List.mem_cons, List.not_mem_nil, or_false] at hv
      rcases hv with rfl | rfl | rfl
      · exact ⟨_, _, rfl, ra9, R1⟩
      · exact ⟨_, _, rfl, rb9, R2⟩
      · exact ⟨_, _, rfl, rc9, R3⟩
    clear off ra9 rb9 rc9 i7 i8 i6 i4 i5 i14 i2 i3 i1 gl8 r125 r225 ah25 bh25 ch25 mo25
    generalize upd K8 gl (.lst ([V.ref r1, V.ref r4] ++ [V.ref r7])) = M0 at ah9 bh9 ch9 mo9 gl9 D11 G0 ⊢
    have bl1 : (" " : Str).length = 1 := by decide +kernel
    have bla : ∀ c ∈ TL.tl (" " : Str), c < 128 := by decide +kernel
    have jC := A2.join bl1 bla
    have jM := MO.join bl1 bla
    have szC : (CH.map (·.length)).sum + CH.length * (" " : Str).length ≤ 16777216 := by
      have := (len_mu CH).2
      have := A2.mu
      rw [bl1]
      omega
    have szM : (PM.map (·.length)).sum + PM.length * (" " : Str).length ≤ 16777216 := by
      have := (len_mu PM).2
      have := MO.mu
      rw [bl1]
      omega
    walk_at "ss"
    refine KrT.r_m1 ?_
    walk_at "ss"
    refine ⟨⟨_, rfl⟩, ?_⟩
    walk_at "ss"
    refine KrT.r_join ch9 szC ?_
    walk_at "ss"
    refine r_newS fun x1 M1 z1 t1' j1 => ?_
    have j1' : M1 x1 = some (.lst (([Txt.join " " CH] : List Str).map V.str)) := j1
    refine r_catS (SqL.of (t1' _ _ ah9)) (SqL.of j1') (by rw [List.length_map, List.length_map]; show _ + 1 ≤ 100000; omega) (r_newS fun x2 M2 z2 t2 j2 => ?_)
    rw [← List.map_append] at j2
    walk_at "ss"
    refine r_catS (SqL.of j2) (SqL.of (t2 _ _ (t1' _ _ bh9))) (by rw [List.length_map, List.length_map, List.length_append]; show _ + 1 + _ ≤ 100000; omega) (r_newS fun x3 M3 z3 t3 j3 => ?_)
    rw [← List.map_append] at j3
    have X3 : Ls (4 * N + 8) (PA ++ [Txt.join " " CH] ++ PB) := ((AH.app (Ls.one jC)).app BH).up (by omega)
    walk_at "ss"
    refine r_newS fun x4 M4 z4 t4 j4 => ?_
    walk_at "ss"
    refine ⟨x4, 4, [V.ref x3], rfl, rfl, j4, by decide, by decide, szl (by show 1 * 4 < 100000; decide) |> Nat.le_of_lt, ?_⟩
    intro x5 z5
    have t5 : Same M4 (upd M4 x5 (.lst (List.replicate (Int.toNat 4) [V.ref x3]).flatten)) := same_new z5
    have j5 : (upd M4 x5 (.lst (List.replicate (Int.toNat 4) [V.ref x3]).flatten)) x5 = some (.lst [V.ref x3, V.ref x3, V.ref x3, V.ref x3]) := upd_same
    generalize upd M4 x5 (.lst (List.replicate (Int.toNat 4) [V.ref x3]).flatten) = M5 at t5 j5 ⊢
    have t05 : Same M0 M5 := t1'.trans (t2.trans (t3.trans (t4.trans t5)))
    refine r_catS (SqL.of (t05 _ _ gl9)) (SqL.of j5) (by show 3 + 4 ≤ 100000; decide) (r_newS fun g2 M6 z6 t6 j6 => ?_)
    have g2a : g2 ≠ a := (D11.same t05).src.ne z6
    have g2H : H g2 = none := (D11.same t05).free z6
    have D12 := D11.same (t05.trans t6)
    have G1' : ∀ v ∈ [V.ref r1, V.ref r4, V.ref r7] ++ [V.ref x3, V.ref x3, V.ref x3, V.ref x3], LsA (4 * N + 8) M5 v := by
      intro v hv
      rcases List.mem_append.mp hv with hv | hv
      · exact (G0 v hv).same t05
      · have hv : v = V.ref x3 := by simpa using hv
        rw [hv]
        exact ⟨x3, _, rfl, t5 _ _ (t4 _ _ j3), X3⟩
    have ah6 := t6 _ _ (t05 _ _ ah9)
    have bh6 := t6 _ _ (t05 _ _ bh9)
    have mo6 := t6 _ _ (t05 _ _ mo9)
    clear j1 j1' j2 j3 j4 j5 G0 ah9 bh9 ch9 mo9 gl9
    obtain ⟨GL, hGL⟩ : ∃ GL, GL = [V.ref r1, V.ref r4, V.ref r7] ++ [V.ref x3, V.ref x3, V.ref x3, V.ref x3] := ⟨_, rfl⟩
    have lGL : GL.length = 7 := by rw [hGL]; rfl
    rw [← hGL] at j6 G1'
    clear hGL
    walk_at "ss"
    refine KrT.r_m1 ?_
    walk_at "ss"
    refine ⟨⟨_, rfl⟩, ?_⟩
    walk_at "ss"
    refine KrT.r_join mo6 szM ?_
    walk_at "ss"
    refine r_newS fun x6 M7 z7 t7 j7 => ?_
    have j7' : M7 x6 = some (.lst (([Txt.join " " PM] : List Str).map V.str)) := j7
    refine r_catS (SqL.of (t7 _ _ ah6)) (SqL.of j7') (by rw [List.length_map, List.length_map]; show _ + 1 ≤ 100000; omega) (r_newS fun x7 M8 z8 t8 j8 => ?_)
    rw [← List.map_append] at j8
    walk_at "ss"
    refine r_catS (SqL.of j8) (SqL.of (t8 _ _ (t7 _ _ bh6))) (by rw [List.length_map, List.length_map, List.length_append]; show _ + 1 + _ ≤ 100000; omega) (r_newS fun x8 M9 z9 t9 j9 => ?_)
    rw [← List.map_append] at j9
    have X8 : Ls (4 * N + 8) (PA ++ [Txt.join " " PM] ++ PB) := ((AH.app (Ls.one jM)).app BH).up (by omega)
    have t69 := t7.trans (t8.trans t9)
    walk_at "ss"
    refine r_append (t69 _ _ j6) (by rw [lGL]; decide) ?_
    have D13 : Dr a H (upd M9 g2 (.lst (GL ++ [V.ref x8]))) := (D12.same t69).mut g2H g2a
    have G2' : ∀ v ∈ GL ++ [V.ref x8], LsA (4 * N + 8) (upd M9 g2 (.lst (GL ++ [V.ref x8]))) v := by
      intro v hv
      rcases List.mem_append.mp hv with hv | hv
      · obtain ⟨r, ps, rfl, h, l⟩ := G1' v hv
        exact ⟨r, ps, rfl, by rw [upd_ne (ne_of_none h z6)]; exact t69 _ _ (t6 _ _ h), l⟩
      · have hv : v = V.ref x8 := by simpa using hv
        rw [hv]
        exact ⟨x8, _, rfl, by rw [upd_ne (ne_of_none (t8 _ _ (t7 _ _ j6)) z9).symm]; exact j9, X8⟩
    have gx : upd M9 g2 (.lst (GL ++ [V.ref x8])) g2 = some (.lst (GL ++ [V.ref x8])) := upd_same
    have lGX : (GL ++ [V.ref x8]).length = 8 := by rw [List.length_append, lGL]; rfl
    clear j7 j7' j8 j9 j6 G1' ah6 bh6 mo6
    generalize upd M9 g2 (.lst (GL ++ [V.ref x8])) = P0 at D13 G2' gx ⊢
    generalize GL ++ [V.ref x8] = GX at G2' gx lGX
    have nl1 : ("\n" : Str).length = 1 := by decide +kernel
    have nla : ∀ c ∈ TL.tl ("\n" : Str), c < 128 := by decide +kernel
    walk_at "ss"
    intro D hD
    refine lc_listS (xs := GX) [some (.ref a), some (.str T), some (.ref lp), some (.int pl), some (.int at'), some (.ref wp), some (.int so), some (.ref op), some (.ref ch), some (.ref ah), some (.ref bh), some (.ref mo), some (.ref g2), none, none, none] rfl (fun i H5 => Same P0 H5 ∧ ∃ ts : List Str, ts.length = i ∧ (∀ t ∈ ts, St (4 * N + 8) t) ∧ H5 D = some (.lst (ts.map V.str))) ⟨same_new hD, [], rfl, fun t h => absurd h (by simp), upd_same⟩ (fun i H5 hi e => SqL.of (e.1 _ _ gx)) ?_ ?_
    · rintro i x H5 hx ⟨s5', ts, lt, tsS, e5'⟩
      obtain ⟨r, ps, rfl, h, l⟩ := (G2' x (List.mem_of_getElem? hx)).same s5'
      have hi : i < 8 := by
        have := (List.getElem?_eq_some_iff.mp hx).1
        omega
      walk_at "ss"
      refine ⟨rfl, ?_⟩
      walk_at "ss"
      refine KrT.r_m1 ?_
      walk_at "ss"
      refine ⟨⟨_, rfl⟩, ?_⟩
      walk_at "ss"
      refine KrT.r_join h (by have := (len_mu ps).2; have := l.mu; rw [nl1]; omega) ?_
      refine ⟨_, e5', by rw [List.length_map, lt]; exact szl (by omega), fun b o e => ?_, ts ++ [Txt.join "\n" ps], by rw [List.length_append, lt]; rfl, fun t ht => ?_, ?_⟩
      · rw [upd_ne (ne_of_none e hD)]
        exact s5' b o e
      · rcases List.mem_append.mp ht with z | z
        · exact tsS t z
        · rw [List.mem_singleton.mp z]
          exact l.join nl1 nla
      · rw [upd_same, List.map_append]
        rfl
    rintro P1 ⟨s1', ts, lt, tsS, e1'⟩
    rw [lGX] at lt
    have D14 := D13.same s1'
    have cA := cut_st tB none (some (pl : Int))
    have cB := cut_st tB (some ((pl + 1 : Nat) : Int)) none
    have cC := cut_st tB (some (pl : Int)) none
    walk_at "ss"
    refine ⟨T, rfl, by omega, ?_⟩
    walk_at "ss"
    refine ⟨T, rfl, by omega, ?_⟩
    walk_at "ss"
    rw [show (pl : Int) + 1 = ((pl + 1 : Nat) : Int) from rfl]
    refine ⟨T, rfl, by omega, ?_⟩
    refine ⟨_, _, rfl, rfl, by have := cA.len; have := cB.len; omega, ?_⟩
    walk_at "ss"
    refine r_newS fun y1' P2 y2' s2' e2' => ?_
    have e2'' : P2 y1' = some (.lst (([cutS T none (some (pl : Int)), cutS T none (some (pl : Int)) ++ cutS T (some ((pl + 1 : Nat) : Int)) none] : List Str).map V.str)) := e2'
    refine r_catS (SqL.of (s2' _ _ e1')) (SqL.of e2'') (by rw [List.length_map, lt]; show 8 + 2 ≤ 100000; decide) (r_newS fun so2 P3 y3' s3' e3' => ?_)
    rw [← List.map_append] at e3'
    have so2a : so2 ≠ a := (D14.same s2').src.ne y3'
    have so2H : H so2 = none := (D14.same s2').free y3'
    have D15 := D14.same (s2'.trans s3')
    have base : ∃ bs : List Str, bs.length = 10 ∧ (∀ t ∈ bs, St (4 * T.length + 12) t) ∧ P3 so2 = some (.lst (bs.map V.str)) := by
      refine ⟨_, by rw [List.length_append, lt]; rfl, fun t ht => ?_, e3'⟩
      rcases List.mem_append.mp ht with z | z
      · exact (tsS t z).up (by omega)
      · simp only [List.mem_cons, List.not_mem_nil, or_false] at z
        rcases z with rfl | rfl
        · exact cA.up (by omega)
        · exact (cA.app cB).up (by omega)
    obtain ⟨bs, lbs, bsS, ebs⟩ := base
    clear e1' e2' e2'' e3' tsS
    walk_at "ss"
    refine r_newS fun sg P4 ysg s4' e4' => ?_
    have e4'' : P4 sg = some (.lst (sgL.map V.str)) := e4'
    have nsg : so2 ≠ sg := ne_of_none ebs ysg
    walk_at "ss"
    refine r_forL (xs := sgL.map V.str) (fun i σ H' => ∃ (x14 : Option V) (ts : List Str), σ = [some (.ref a), some (.str T), some (.ref lp), some (.int pl), some (.int at'), some (.ref wp), some (.int so), some (.ref op), some (.ref ch), some (.ref ah), some (.ref bh), some (.ref mo), some (.ref g2), some (.ref so2), x14, none] ∧ Dr a H H' ∧ H' sg = some (.lst (sgL.map V.str)) ∧ ts.length = 10 + i ∧ (∀ t ∈ ts, St (4 * T.length + 12) t) ∧ H' so2 = some (.lst (ts.map V.str)))
      ⟨_, bs, rfl, D15.same s4', e4'', lbs, bsS, s4' _ _ ebs⟩ (fun i σ H' hi e => by obtain ⟨_, _, _, _, g, _⟩ := e; exact SqL.of g) ?_ ?_
    · rintro i x σ P5 hx ⟨x14, ts, rfl, D5'', eg, lts, tsS, ets⟩
      rw [List.getElem?_map] at hx
      obtain ⟨z, ez, rfl⟩ := Option.map_eq_some_iff.mp hx
      have zS : St 1 z := st_dec sg_ok (List.mem_of_getElem? ez)
      have i7 : i < 7 := (List.getElem?_eq_some_iff.mp ez).1
      walk_at "ss"
      refine ⟨T, rfl, by omega, ?_⟩
      walk_at "ss"
      refine ⟨_, z, rfl, rfl, by have := cA.len; have := zS.len; omega, ?_⟩
      walk_at "ss"
      refine ⟨T, rfl, by omega, ?_⟩
      refine ⟨_, _, rfl, rfl, by rw [strLen_append]; have := cA.len; have := cC.len; have := zS.len; omega, ?_⟩
      walk_at "ss"
      refine r_append ets (by rw [List.length_map, lts]; omega) ?_
      refine ⟨_, ts ++ [cutS T none (some (pl : Int)) ++ z ++ cutS T (some (pl : Int)) none], rfl, D5''.mut so2H so2a, by rw [upd_ne nsg.symm]; exact eg, by rw [List.length_append, lts]; rfl, fun t ht => ?_, by rw [upd_same, List.map_append]; rfl⟩
      rcases List.mem_append.mp ht with w | w
      · exact tsS t w
      · rw [List.mem_singleton.mp w]
        exact ((cA.app zS).app cC).up (by omega)
    · rintro σ P5 ⟨x14, ts, rfl, D5'', eg, lts, tsS, ets⟩
      walk_at "ss"
      refine ⟨a, so2, _, rfl, D5''.src, so2a, SqL.of ets, by rw [List.length_map, lts]; omega, by rw [List.length_map, lts]; show 10 + 7 ≤ 1000; decide, fun x H9 hx D9' => ?_⟩
      obtain ⟨z, hz, rfl⟩ := List.mem_map.mp hx
      exact q z H9 (tsS z hz) (D5''.trans D9')
theorem ok__law_told {P : Program} {w : World} {K : PySem.W.Frag} {mg : Str → Option Value} {base : Heap} {f : Addr} {fd : FuncData} (F : FunD K "_law_told" "_law_told" (defArgs s__law_told) (defBody s__law_told) (defScope s__law_told) [] [] f fd) (h_read_settings : Kr.FnH P w K mg base (L2.CX P w) 6 "read_settings" ["text"] (sp_read_settings K)) (h_settings_text : Kr.FnH P w K mg base CX0 2 "settings_text" ["settings"] (sp_settings_text K)) (i_Settings : Kr.InsI K (He.ga K "Settings")) (k_InvalidText : mg "InvalidText" = some (.ref (He.ga K "InvalidText"))) (k_Settings : mg "Settings" = some (.ref (He.ga K "Settings"))) (n_isinstance : mg "isinstance" = none) (x_em_InvalidText : PySem.W.exmOne K (.ref (He.ga K "InvalidText")) (.ref (He.ga K "InvalidText")) = some true) (x_no_InvalidText : PySem.W.findIn K (.ref (He.ga K "InvalidText")) "line" = some none) (x_xf_InvalidText : XfC K (He.ga K "InvalidText")) : FnOk P w K mg base CX0 7 f fd ["text"] (sp__law_told K) := by
  refine F.ok sc__law_told (fun vs H Q E h => by first | (obtain ⟨rfl, _⟩ := h; rfl) | (obtain ⟨_, rfl, _⟩ := h; rfl) | (obtain ⟨_, _, rfl, _⟩ := h; rfl) | (obtain ⟨_, _, _, rfl, _⟩ := h; rfl) | (obtain ⟨_, _, _, _, rfl, _⟩ := h; rfl) | (obtain ⟨_, _, _, _, _, rfl, _⟩ := h; rfl) | (obtain ⟨_, _, _, _, _, _, rfl, _⟩ := h; rfl) | (obtain ⟨_, _, _, _, _, _, _, rfl, _⟩ := h; rfl) | (obtain ⟨_, _, _, _, _, _, _, _, rfl, _⟩ := h; rfl) | (obtain ⟨_, _, _, _, _, _, _, _, _, rfl, _⟩ := h; rfl) | (obtain ⟨_, _, _, _, _, _, _, _, _, _, rfl, _⟩ := h; rfl) | (obtain ⟨_, _, _, _, _, _, _, _, _, _, _, rfl, _⟩ := h; rfl) | (obtain ⟨_, _, _, _, _, _, _, _, _, _, _, _, rfl, _⟩ := h; rfl) | (obtain ⟨_, _, _, _, _, _, _, _, _, _, _, _, _, rfl, _⟩ := h; rfl) | (obtain ⟨_, _, _, _, _, _, _, _, _, _, _, _, _, _, rfl, _⟩ := h; rfl) | (obtain ⟨_, _, _, _, _, _, _, _, _, _, _, _, _, _, _, rfl, _⟩ := h; rfl) | (obtain ⟨_, _, _, _, _, _, _, _, _, _, _, _, _, _, _, _, rfl, _⟩ := h; rfl) | (obtain ⟨_, _, _, _, _, _, _, _, _, _, _, _, _, _, _, _, _, rfl, _⟩ := h; rfl)) (fun cdv A outer s H vs Q E hr h => ?_)
  · have hu := hu_of hr
    obtain ⟨T, rfl, lT, q⟩ := h
    have e1 := x_em_InvalidText
    refine ⟨_, PSs.nox (pss_cons (KrE.ps_try_first (i := 2) rfl rfl sc__law_told.nd rfl rfl ⟨rfl, by decide, .inl k_InvalidText⟩ (fun W pn xe tk _ => (pss_one (ps_set (i := 1) sc__law_told.nd rfl (.inl rfl) (KrE.pe_clES h_read_settings (hr.mono (by decide)) (fun st => passAt tk st) (pa_cons (pv 0) pa_nil))))) (fun a oe cls d pn hz hf => (pss_one (ps_ret (pe_xf x_xf_InvalidText x_no_InvalidText hz hf (pv 2)))))) (pss_one (ps_ret (pe_ifExp (PW.pt (pw_and (pt_val (pe_callB (id := "isinstance") call_isi rfl n_isinstance (by decide +kernel) (pa_cons (pv 1) (pa_cons (Kr.pe_gcls k_Settings) pa_nil)))) (pw_and1 (pt_cmpR op_eq (Kr.pe_cl h_settings_text (hr.mono (by decide)) (pa_cons (pv 1) pa_nil)) (pv 0) (nomark _))))) pe_non pe_str)))), ?_⟩
    rw [st__law_told]
    walk_at "ss"
    refine KrE.r_clS ?_
    walk_at "ss"
    generalize hE : WE _ _ = E'
    have out : ∀ n : Nat, due1 (Txt.split T "\n") = some n → RaiT K H E' n := fun n e d H' s hd hf => by
      rw [← hE]
      refine ⟨e1, fun a ha => ?_⟩
      dsimp only [List.set]
      walk_at "ss"
      refine KrE.r_tXf ?_
      walk_at "ss"
      refine KrE.r_xf hf rfl ?_
      walk_at "ss"
      have := q H' s
      rw [e] at this
      exact this
    have ne := split_ne T "\n" (by decide +kernel) (by decide +kernel)
    refine ⟨_, rfl, .inl ⟨T, rfl, lT, (rd_due ne).mono out fun ls sz fo re ev ke f so a H' s ha S => ?_⟩⟩
    obtain ⟨dn, hl, l7, h6, g0, g1, g2, g3, g4⟩ := f
    have eT := tx_of hl l7 h6 g0 g1 g2 g3 g4
    obtain ⟨dx, t, hS, ht⟩ := id S
    walk_at "ss"
    refine r_isiC i_Settings hS ?_
    walk_at "ss"
    refine ⟨a, ls, sz, fo, re, ev, ke, rfl, S, so.tx, fun H2 s2 => ?_⟩
    rw [← eT]
    walk_at "ss"
    refine r_dec (fun _ => ?_) fun z => absurd rfl z
    walk_at "ss"
    have := q H2 (s.trans s2)
    rw [dn] at this
    exact this
theorem ok__law_right {P : Program} {w : World} {K : PySem.W.Frag} {mg : Str → Option Value} {base : Heap} {f : Addr} {fd : FuncData} (F : FunD K "_law_right" "_law_right" (defArgs s__law_right) (defBody s__law_right) (defScope s__law_right) [] [] f fd) (h__law_draw : Kr.FnH P w K mg base CX0 2 "_law_draw" ["source", "limit"] (sp__law_draw K)) (h__law_due : Kr.FnH P w K mg base CX0 2 "_law_due" ["text"] (sp__law_due K)) (h__law_parts : Kr.FnH P w K mg base CX0 4 "_law_parts" ["source"] (sp__law_parts K)) (h__law_spoilt : Kr.FnH P w K mg base CX0 4 "_law_spoilt" ["source", "text"] (sp__law_spoilt K)) (h__law_text : Kr.FnH P w K mg base CX0 1 "_law_text" ["p"] (sp__law_text K)) (h__law_told : Kr.FnH P w K mg base CX0 7 "_law_told" ["text"] (sp__law_told K)) (n_range : mg "range" = none) : FnOk P w K mg base CX0 8 f fd ["source"] (sp__law_right K) := by
  refine F.ok sc__law_right (fun vs H Q E h => by first | (obtain ⟨rfl, _⟩ := h; rfl) | (obtain ⟨_, rfl, _⟩ := h; rfl) | (obtain ⟨_, _, rfl, _⟩ := h; rfl) | (obtain ⟨_, _, _, rfl, _⟩ := h; rfl) | (obtain ⟨_, _, _, _, rfl, _⟩ := h; rfl) | (obtain ⟨_, _, _, _, _, rfl, _⟩ := h; rfl) | (obtain ⟨_, _, _, _, _, _, rfl, _⟩ := h; rfl) | (obtain ⟨_, _, _, _, _, _, _, rfl, _⟩ := h; rfl) | (obtain ⟨_, _, _, _, _, _, _, _, rfl, _⟩ := h; rfl) | (obtain ⟨_, _, _, _, _, _, _, _, _, rfl, _⟩ := h; rfl) | (obtain ⟨_, _, _, _, _, _, _, _, _, _, rfl, _⟩ := h; rfl) | (obtain ⟨_, _, _, _, _, _, _, _, _, _, _, rfl, _⟩ := h; rfl) | (obtain ⟨_, _, _, _, _, _, _, _, _, _, _, _, rfl, _⟩ := h; rfl) | (obtain ⟨_, _, _, _, _, _, _, _, _, _, _, _, _, rfl, _⟩ := h; rfl) | (obtain ⟨_, _, _, _, _, _, _, _, _, _, _, _, _, _, rfl, _⟩ := h; rfl) | (obtain ⟨_, _, _, _, _, _, _, _, _, _, _, _, _, _, _, rfl, _⟩ := h; rfl) | (obtain ⟨_, _, _, _, _, _, _, _, _, _, _, _, _, _, _, _, rfl, _⟩ := h; rfl) | (obtain ⟨_, _, _, _, _, _, _, _, _, _, _, _, _, _, _, _, _, rfl, _⟩ := h; rfl)) (fun cdv A outer s H vs Q E hr h => ?_)
  · have hu := hu_of hr
    obtain ⟨a, rfl, hs, q0⟩ := h
    have zl := sizeLine_eq
    refine ⟨_, PSs.nox (pss_cons (ps_set (i := 1) sc__law_right.nd rfl (.inl rfl) (Kr.pe_cl h__law_text (hr.mono (by decide)) (pa_cons (Kr.pe_cl h__law_parts (hr.mono (by decide)) (pa_cons (pv 0) pa_nil)) pa_nil))) (pss_cons (ps_if (pt_cmpR Kr.o_notN (Kr.pe_cl h__law_told (hr.mono (by decide)) (pa_cons (pv 1) pa_nil)) pe_non (nomark _)) (pss_one (ps_ret pe_bl)) pss_nil) (pss_cons (ps_for PassesOwn.never rfl (pi_range1 rfl n_range (pa_cons pe_int pa_nil)) (pg_name (i := 2) sc__law_right.nd rfl (.inl rfl)) (pss_cons (ps_set (i := 3) sc__law_right.nd rfl (.inl rfl) (Kr.pe_cl h__law_spoilt (hr.mono (by decide)) (pa_cons (pv 0) (pa_cons (pv 1) pa_nil)))) (pss_cons (ps_if (PW.pt (pw_and (pt_cmpR op_eq (Kr.pe_cl h__law_draw (hr.mono (by decide)) (pa_cons (pv 0) (pa_cons pe_int pa_nil))) pe_int (nomark _)) (pw_and1 (pt_cmpR op_ne (pv 3) pe_str (nomark _))))) (pss_one (ps_set (i := 3) sc__law_right.nd rfl (.inl rfl) (Kr.pe_cl h__law_spoilt (hr.mono (by decide)) (pa_cons (pv 0) (pa_cons (pv 3) pa_nil))))) pss_nil) (pss_one (ps_if (pt_cmpR op_ne (Kr.pe_cl h__law_told (hr.mono (by decide)) (pa_cons (pv 3) pa_nil)) (Kr.pe_cl h__law_due (hr.mono (by decide)) (pa_cons (pv 3) pa_nil)) (nomark _)) (pss_one (ps_ret pe_bl)) pss_nil))))) (pss_one (ps_ret pe_bl))))), ?_⟩
    rw [st__law_right]
    walk_at "ss"
    refine ⟨a, rfl, hs, fun p q ls room fo re ev ke H1 D1 hp hq hpq ep eq ok => ?_⟩
    have tk := ok.set.tx
    obtain ⟨ts, t1⟩ := txS_st tk
    have tl := ts.len
    have dn := due_tx ok.set
    walk_at "ss"
    refine ⟨p, q, ls, room, fo, re, ev, ke, rfl, ep, eq, tk, fun H2 s2 => ?_⟩
    walk_at "ss"
    refine ⟨_, rfl, by omega, fun H3 s3 => ?_⟩
    rw [dn, show oN none = V.non from rfl]
    walk_at "ss"
    refine ⟨rfl, ?_⟩
    walk_at "ss"
    have D3 := (D1.same s2).same s3
    generalize txS ls room fo re ev ke = T at ts t1 tl ⊢
    refine r_decN (fun z => absurd rfl z) fun _ => ?_
    walk_at "ss"
    refine r_forR (fun i σ H' => ∃ (x2 x3 : Option V), σ = [some (.ref a), some (.str T), x2, x3] ∧ Dr a H H') ⟨_, _, rfl, D3⟩ ?_ ?_
    · rintro i σ H4 hi ⟨x2, x3, rfl, D4⟩
      walk_at "ss"
      refine ⟨a, T, rfl, D4.src, t1, ts.up (by decide), fun T1 H5 S1 D5' => ?_⟩
      have D5 := D4.trans D5'
      have l1 := S1.len
      walk_at "ss"
      refine ⟨a, _, rfl, D5.src, lim_ok (by decide) (by decide), fun d H6 d0 d1 D6' => ?_⟩
      have D6 := D5.trans D6'
      walk_at "ss"
      refine r_dec (fun z0 => ?_) fun z0 => ?_
      · walk_at "ss"
        refine r_decN (fun ne => ?_) fun ee => ?_
        · have o1 : 1 ≤ T1.length := Nat.one_le_iff_ne_zero.mpr fun e => ne (len0 e)
          walk_at "ss"
          refine ⟨a, T1, rfl, D6.src, o1, S1.up (by omega), fun T2 H7 S2 D7' => ?_⟩
          have D7 := D6.trans D7'
          walk_at "ss"
          refine ⟨T2, rfl, by have := (S2).len; omega, fun H8 s8 => ?_⟩
          walk_at "ss"
          refine ⟨T2, rfl, by have := (S2).len; omega, (S2).asc, fun H9 s9 => ?_⟩
          refine r_ne (oN_sc _) ?_
          walk_at "ss"
          refine r_decN (fun z => absurd rfl z) fun _ => ?_
          walk_at "ss"
          exact ⟨_, _, rfl, ((D7).same s8).same s9⟩
        · walk_at "ss"
          refine ⟨T1, rfl, by have := (S1).len; omega, fun H8 s8 => ?_⟩
          walk_at "ss"
          refine ⟨T1, rfl, by have := (S1).len; omega, (S1).asc, fun H9 s9 => ?_⟩
          refine r_ne (oN_sc _) ?_
          walk_at "ss"
          refine r_decN (fun z => absurd rfl z) fun _ => ?_
          walk_at "ss"
          exact ⟨_, _, rfl, ((D6).same s8).same s9⟩
      · walk_at "ss"
        refine ⟨T1, rfl, by have := (S1).len; omega, fun H8 s8 => ?_⟩
        walk_at "ss"
        refine ⟨T1, rfl, by have := (S1).len; omega, (S1).asc, fun H9 s9 => ?_⟩
        refine r_ne (oN_sc _) ?_
        walk_at "ss"
        refine r_decN (fun z => absurd rfl z) fun _ => ?_
        walk_at "ss"
        exact ⟨_, _, rfl, ((D6).same s8).same s9⟩
    · rintro σ H4 ⟨x2, x3, rfl, D4⟩
      walk_at "ss"
      exact q0 _ D4
theorem ok_law {P : Program} {w : World} {K : PySem.W.Frag} {mg : Str → Option Value} {base : Heap} {f : Addr} {fd : FuncData} (F : FunD K "law" "law" (defArgs s_law) (defBody s_law) (defScope s_law) [] [] f fd) (h__law_right : Kr.FnH P w K mg base CX0 8 "_law_right" ["source"] (sp__law_right K)) (h__law_source : Kr.FnH P w K mg base CX0 1 "_law_source" ["script", "k"] (sp__law_source K)) (n_len : mg "len" = none) (n_max : mg "max" = none) (n_min : mg "min" = none) (n_range : mg "range" = none) : FnOk P w K mg base CX0 9 f fd ["script"] (sp_law K) := by
  refine F.ok sc_law (fun vs H Q E h => by first | (obtain ⟨rfl, _⟩ := h; rfl) | (obtain ⟨_, rfl, _⟩ := h; rfl) | (obtain ⟨_, _, rfl, _⟩ := h; rfl) | (obtain ⟨_, _, _, rfl, _⟩ := h; rfl) | (obtain ⟨_, _, _, _, rfl, _⟩ := h; rfl) | (obtain ⟨_, _, _, _, _, rfl, _⟩ := h; rfl) | (obtain ⟨_, _, _, _, _, _, rfl, _⟩ := h; rfl) | (obtain ⟨_, _, _, _, _, _, _, rfl, _⟩ := h; rfl) | (obtain ⟨_, _, _, _, _, _, _, _, rfl, _⟩ := h; rfl) | (obtain ⟨_, _, _, _, _, _, _, _, _, rfl, _⟩ := h; rfl) | (obtain ⟨_, _, _, _, _, _, _, _, _, _, rfl, _⟩ := h; rfl) | (obtain ⟨_, _, _, _, _, _, _, _, _, _, _, rfl, _⟩ := h; rfl) | (obtain ⟨_, _, _, _, _, _, _, _, _, _, _, _, rfl, _⟩ := h; rfl) | (obtain ⟨_, _, _, _, _, _, _, _, _, _, _, _, _, rfl, _⟩ := h; rfl) | (obtain ⟨_, _, _, _, _, _, _, _, _, _, _, _, _, _, rfl, _⟩ := h; rfl) | (obtain ⟨_, _, _, _, _, _, _, _, _, _, _, _, _, _, _, rfl, _⟩ := h; rfl) | (obtain ⟨_, _, _, _, _, _, _, _, _, _, _, _, _, _, _, _, rfl, _⟩ := h; rfl) | (obtain ⟨_, _, _, _, _, _, _, _, _, _, _, _, _, _, _, _, _, rfl, _⟩ := h; rfl)) (fun cdv A outer s H vs Q E hr h => ?_)
  · have hu := hu_of hr
    obtain ⟨a, ns, rfl, hS, hl, q0⟩ := h
    refine ⟨_, PSs.nox (pss_cons (ps_for PassesOwn.never rfl (pi_range1 rfl n_range (pa_cons (pe_callB (id := "max") (Kr.c_max2 rfl) rfl n_max (by decide +kernel) (pa_cons pe_int (pa_cons (pe_callB (id := "min") (Kr.c_min2 rfl) rfl n_min (by decide +kernel) (pa_cons pe_int (pa_cons (pe_callB (id := "len") Kr.c_len rfl n_len (by decide +kernel) (pa_cons (pv 0) pa_nil)) pa_nil))) pa_nil))) pa_nil)) (pg_name (i := 1) sc_law.nd rfl (.inl rfl)) (pss_cons (ps_set (i := 2) sc_law.nd rfl (.inl rfl) (Kr.pe_cl h__law_source (hr.mono (by decide)) (pa_cons (pv 0) (pa_cons (pv 1) pa_nil)))) (pss_one (ps_if (pt_not (pt_val (Kr.pe_cl h__law_right (hr.mono (by decide)) (pa_cons (pv 2) pa_nil)))) (pss_one (ps_ret pe_bl)) pss_nil)))) (pss_one (ps_ret pe_bl))), ?_⟩
    rw [st_law]
    walk_at "ss"
    rw [List.length_map]
    walk_at "ss"
    have hle : 1 ≤ (if (if (ns.length : Int) < 6 then (ns.length : Int) else 6) > 1 then (if (ns.length : Int) < 6 then (ns.length : Int) else 6) else 1) ∧ (if (if (ns.length : Int) < 6 then (ns.length : Int) else 6) > 1 then (if (ns.length : Int) < 6 then (ns.length : Int) else 6) else 1) ≤ 6 := by
      split <;> split <;> omega
    generalize (if (if (ns.length : Int) < 6 then (ns.length : Int) else 6) > 1 then (if (ns.length : Int) < 6 then (ns.length : Int) else 6) else 1) = many at hle ⊢
    walk_at "ss"
    refine r_forR (fun i σ H' => ∃ x1 x2 : Option V, σ = [some (.ref a), x1, x2] ∧ Same H H') ⟨_, _, rfl, fun _ _ h => h⟩ ?_ ?_
    · rintro i σ H0 hi ⟨x1, x2, rfl, s0⟩
      walk_at "ss"
      refine ⟨a, ns, _, rfl, s0.seq hS, hl, by omega, fun p H1 s1 hp hsrc => ?_⟩
      walk_at "ss"
      refine ⟨p, rfl, hsrc, fun H2 D2 => ?_⟩
      walk_at "ss"
      refine ⟨_, _, rfl, fun b o e => ?_⟩
      exact D2.old b o (ne_of_none (s0 b o e) hp) (s1 b o (s0 b o e))
    · rintro σ H0 ⟨x1, x2, rfl, s0⟩
      walk_at "ss"
      exact q0 _
def d_InvalidText___init__ : He.DefD := ⟨("InvalidText", some "__init__"), "__init__", "InvalidText.__init__", defArgs s_InvalidText___init__, defBody s_InvalidText___init__, defScope s_InvalidText___init__, [], []⟩
def d_is_from : He.DefD := ⟨("is_from", none), "is_from", "is_from", defArgs s_is_from, defBody s_is_from, defScope s_is_from, [], []⟩
def d_is_within : He.DefD := ⟨("is_within", none), "is_within", "is_within", defArgs s_is_within, defBody s_is_within, defScope s_is_within, [], []⟩
def d_are_lengths : He.DefD := ⟨("are_lengths", none), "are_lengths", "are_lengths", defArgs s_are_lengths, defBody s_are_lengths, defScope s_are_lengths, [], []⟩
def d_bounds_behind : He.DefD := ⟨("bounds_behind", none), "bounds_behind", "bounds_behind", defArgs s_bounds_behind, defBody s_bounds_behind, defScope s_bounds_behind, [], []⟩
def d_Settings___init__ : He.DefD := ⟨("Settings", some "__init__"), "__init__", "Settings.__init__", defArgs s_Settings___init__, defBody s_Settings___init__, defScope s_Settings___init__, [], []⟩
def d_check_settings : He.DefD := ⟨("check_settings", none), "check_settings", "check_settings", defArgs s_check_settings, defBody s_check_settings, defScope s_check_settings, [], []⟩
def d_settings_text : He.DefD := ⟨("settings_text", none), "settings_text", "settings_text", defArgs s_settings_text, defBody s_settings_text, defScope s_settings_text, [], []⟩
def d_number_in : He.DefD := ⟨("number_in", none), "number_in", "number_in", defArgs s_number_in, defBody s_number_in, defScope s_number_in, [], []⟩
def d_lengths_in : He.DefD := ⟨("lengths_in", none), "lengths_in", "lengths_in", defArgs s_lengths_in, defBody s_lengths_in, defScope s_lengths_in, [], []⟩
def d_value_in : He.DefD := ⟨("value_in", none), "value_in", "value_in", defArgs s_value_in, defBody s_value_in, defScope s_value_in, [], []⟩
def d_read_settings : He.DefD := ⟨("read_settings", none), "read_settings", "read_settings", defArgs s_read_settings, defBody s_read_settings, defScope s_read_settings, [], []⟩
def d__law_mix : He.DefD := ⟨("_law_mix", none), "_law_mix", "_law_mix", defArgs s__law_mix, defBody s__law_mix, defScope s__law_mix, [], []⟩
def d__law_source : He.DefD := ⟨("_law_source", none), "_law_source", "_law_source", defArgs s__law_source, defBody s__law_source, defScope s__law_source, [], []⟩
def d__law_draw : He.DefD := ⟨("_law_draw", none), "_law_draw", "_law_draw", defArgs s__law_draw, defBody s__law_draw, defScope s__law_draw, [], []⟩
def d__law_pick : He.DefD := ⟨("_law_pick", none), "_law_pick", "_law_pick", defArgs s__law_pick, defBody s__law_pick, defScope s__law_pick, [], []⟩
def d__law_parts : He.DefD := ⟨("_law_parts", none), "_law_parts", "_law_parts", defArgs s__law_parts, defBody s__law_parts, defScope s__law_parts, [], []⟩
def d__law_text : He.DefD := ⟨("_law_text", none), "_law_text", "_law_text", defArgs s__law_text, defBody s__law_text, defScope s__law_text, [], []⟩
def d__law_number : He.DefD := ⟨("_law_number", none), "_law_number", "_law_number", defArgs s__law_number, defBody s__law_number, defScope s__law_number, [], []⟩
def d__law_due : He.DefD := ⟨("_law_due", none), "_law_due", "_law_due", defArgs s__law_due, defBody s__law_due, defScope s__law_due, [], []⟩
def d__law_spoilt : He.DefD := ⟨("_law_spoilt", none), "_law_spoilt", "_law_spoilt", defArgs s__law_spoilt, defBody s__law_spoilt, defScope s__law_spoilt, [], []⟩
def d__law_told : He.DefD := ⟨("_law_told", none), "_law_told", "_law_told", defArgs s__law_told, defBody s__law_told, defScope s__law_told, [], []⟩
def d__law_right : He.DefD := ⟨("_law_right", none), "_law_right", "_law_right", defArgs s__law_right, defBody s__law_right, defScope s__law_right, [], []⟩
def d_law : He.DefD := ⟨("law", none), "law", "law", defArgs s_law, defBody s_law, defScope s_law, [], []⟩
def fn : List He.DefD := [d_InvalidText___init__, d_is_from, d_is_within, d_are_lengths, d_bounds_behind, d_Settings___init__, d_check_settings, d_settings_text, d_number_in, d_lengths_in, d_value_in, d_read_settings, d__law_mix, d__law_source, d__law_draw, d__law_pick, d__law_parts, d__law_text, d__law_number, d__law_due, d__law_spoilt, d__law_told, d__law_right, d_law]
def fa : List He.Fa := [.noat "Settings" "every", .noat "Settings" "fanout", .noat "Settings" "keep", .noat "Settings" "lengths", .noat "Settings" "records", .noat "Settings" "size", .cls "Settings", .int "MOST_LENGTHS" 6, .int "MOST_UNITS" 64, .glo "InvalidText", .glo "Settings", .free "all", .free "bool", .free "enumerate", .free "int", .free "isinstance", .free "len", .free "list", .free "max", .free "min", .free "range", .free "str", .free "tuple", .free "zip", .meth "InvalidText" "__init__", .glo "is_from", .glo "is_within", .glo "are_lengths", .glo "bounds_behind", .mkr "Settings", .glo "check_settings", .glo "settings_text", .glo "number_in", .glo "lengths_in", .glo "value_in", .glo "read_settings", .glo "_law_mix", .glo "_law_source", .glo "_law_draw", .glo "_law_pick", .glo "_law_parts", .glo "_law_text", .glo "_law_number", .glo "_law_due", .glo "_law_spoilt", .glo "_law_told", .glo "_law_right", .glo "law"]
def exs : List (PySem.W.Frag → Bool) := [fun K => Kr.insB K (He.ga K "Settings"), fun K => decide (PySem.W.exmOne K (.ref (He.ga K "InvalidText")) (.ref (He.ga K "InvalidText")) = some true), fun K => KrE.errB K (He.ga K "InvalidText"), fun K => decide (PySem.W.findIn K (.ref (He.ga K "InvalidText")) "line" = some none), fun K => decide (PySem.W.takerIn K (He.ga K "InvalidText") "line" = some none), fun K => xfB K (He.ga K "InvalidText")]
def ex (K : PySem.W.Frag) : Bool := exs.all fun e => e K
theorem ex_at {K : PySem.W.Frag} (i : Nat) (h : ex K = true) {e : PySem.W.Frag → Bool} (hi : exs[i]? = some e := by rfl) : e K = true := Kr.ex_all h i hi
abbrev hk : PySem.W.Hook := Kr.hookM 8 fa fn ex
def ob (s : PySem.W.SharedT) : Kr.AlM := Kr.obsM 8 fa fn ex (HandSHeadRun.getT s)
theorem ob_eq (s : PySem.W.SharedT) : ob s = hk.obs s.abs := Kr.obsM_eq (HandSHeadRun.getT_eq s)
abbrev R0 : PySem.W.OpenRow := PySem.W.OpenLaw.row PySem.Challenge.rw_keeprows_k04_whole_changed_texts
def loose : List Str := ["_wall", "StoreError", "InvalidSettings", "InvalidText", "is_from", "is_within", "MOST_LENGTHS", "MOST_UNITS", "are_lengths", "bounds_behind", "Settings", "check_settings", "settings_text", "number_in", "lengths_in", "value_in", "read_settings", "_law_mix", "_law_source", "_law_draw", "_law_pick", "_law_parts", "_law_text", "_law_number", "_law_due", "_law_spoilt", "_law_told", "_law_right"]
theorem runs (w : World) : HandSHeadRun.RunEq R0 (PySem.W.view R0.prog [33]) hk ob 6000 loose w := by
  intro os
  kernel_rfl
theorem facts {P : Program} {w : World} {K : PySem.W.Frag} {h : Heap} {mg : Str → Option Value} {f : Addr} (X : K.In h) (G : h.Ns mainGlobals mg) (hfa : mg ("law" : Str) = some (.ref f)) (c : He.SaysD fa fn K) (e : ex K = true) :
    ∃ fd : FuncData, (∀ (s : Shared) (v : Value), BindsTo s fd ⟨[v], []⟩ [("script", v)]) ∧ ∀ base : Heap, K.In base → base.Ns mainGlobals mg → FnOk P w K mg base CX0 9 f fd ["script"] (sp_law K) := by
  have a_Settings_every : NoAttr K (He.ga K "Settings") "every" := He.noat_ok (c.fact 0 (f := .noat "Settings" "every") rfl)
  have a_Settings_fanout : NoAttr K (He.ga K "Settings") "fanout" := He.noat_ok (c.fact 1 (f := .noat "Settings" "fanout") rfl)
  have a_Settings_keep : NoAttr K (He.ga K "Settings") "keep" := He.noat_ok (c.fact 2 (f := .noat "Settings" "keep") rfl)
  have a_Settings_lengths : NoAttr K (He.ga K "Settings") "lengths" := He.noat_ok (c.fact 3 (f := .noat "Settings" "lengths") rfl)
  have a_Settings_records : NoAttr K (He.ga K "Settings") "records" := He.noat_ok (c.fact 4 (f := .noat "Settings" "records") rfl)
  have a_Settings_size : NoAttr K (He.ga K "Settings") "size" := He.noat_ok (c.fact 5 (f := .noat "Settings" "size") rfl)
  have c_Settings : Cls K (He.ga K "Settings") := He.cls_ok (c.fact 6 (f := .cls "Settings") rfl)
  have g_MOST_LENGTHS : ∃ t, mg "MOST_LENGTHS" = some (.int 6 t) := He.int_ok X G (c.fact 7 (f := .int "MOST_LENGTHS" 6) rfl)
  have g_MOST_UNITS : ∃ t, mg "MOST_UNITS" = some (.int 64 t) := He.int_ok X G (c.fact 8 (f := .int "MOST_UNITS" 64) rfl)
  have i_Settings : Kr.InsI K (He.ga K "Settings") := Kr.insB_ok (He.cls_ok (c.fact 6 (f := .cls "Settings") rfl)) (ex_at 0 e)
  have k_InvalidText : mg "InvalidText" = some (.ref (He.ga K "InvalidText")) := He.glo_ok X G (c.fact 9 (f := .glo "InvalidText") rfl)
  have k_Settings : mg "Settings" = some (.ref (He.ga K "Settings")) := He.glo_ok X G (c.fact 10 (f := .glo "Settings") rfl)
  have n_all : mg "all" = none := He.free_ok X G (c.fact 11 (f := .free "all") rfl)
  have n_bool : mg "bool" = none := He.free_ok X G (c.fact 12 (f := .free "bool") rfl)
  have n_enumerate : mg "enumerate" = none := He.free_ok X G (c.fact 13 (f := .free "enumerate") rfl)
  have n_int : mg "int" = none := He.free_ok X G (c.fact 14 (f := .free "int") rfl)
  have n_isinstance : mg "isinstance" = none := He.free_ok X G (c.fact 15 (f := .free "isinstance") rfl)
  have n_len : mg "len" = none := He.free_ok X G (c.fact 16 (f := .free "len") rfl)
  have n_list : mg "list" = none := He.free_ok X G (c.fact 17 (f := .free "list") rfl)
  have n_max : mg "max" = none := He.free_ok X G (c.fact 18 (f := .free "max") rfl)
  have n_min : mg "min" = none := He.free_ok X G (c.fact 19 (f := .free "min") rfl)
  have n_range : mg "range" = none := He.free_ok X G (c.fact 20 (f := .free "range") rfl)
  have n_str : mg "str" = none := He.free_ok X G (c.fact 21 (f := .free "str") rfl)
  have n_tuple : mg "tuple" = none := He.free_ok X G (c.fact 22 (f := .free "tuple") rfl)
  have n_zip : mg "zip" = none := He.free_ok X G (c.fact 23 (f := .free "zip") rfl)
  have x_em_InvalidText : PySem.W.exmOne K (.ref (He.ga K "InvalidText")) (.ref (He.ga K "InvalidText")) = some true := of_decide_eq_true (ex_at 1 e)
  have x_err_InvalidText : KrE.ErrC K (He.ga K "InvalidText") := KrE.errB_ok (ex_at 2 e)
  have x_no_InvalidText : PySem.W.findIn K (.ref (He.ga K "InvalidText")) "line" = some none := of_decide_eq_true (ex_at 3 e)
  have x_tk_InvalidText : PySem.W.takerIn K (He.ga K "InvalidText") "line" = some none := of_decide_eq_true (ex_at 4 e)
  have x_xf_InvalidText : XfC K (He.ga K "InvalidText") := xfB_ok (ex_at 5 e)
  obtain ⟨fd0, F0⟩ := c.def_ 0 (d := d_InvalidText___init__) rfl
  obtain ⟨fd1, F1⟩ := c.def_ 1 (d := d_is_from) rfl
  obtain ⟨fd2, F2⟩ := c.def_ 2 (d := d_is_within) rfl
  obtain ⟨fd3, F3⟩ := c.def_ 3 (d := d_are_lengths) rfl
  obtain ⟨fd4, F4⟩ := c.def_ 4 (d := d_bounds_behind) rfl
  obtain ⟨fd5, F5⟩ := c.def_ 5 (d := d_Settings___init__) rfl
  obtain ⟨fd6, F6⟩ := c.def_ 6 (d := d_check_settings) rfl
  obtain ⟨fd7, F7⟩ := c.def_ 7 (d := d_settings_text) rfl
  obtain ⟨fd8, F8⟩ := c.def_ 8 (d := d_number_in) rfl
  obtain ⟨fd9, F9⟩ := c.def_ 9 (d := d_lengths_in) rfl
  obtain ⟨fd10, F10⟩ := c.def_ 10 (d := d_value_in) rfl
  obtain ⟨fd11, F11⟩ := c.def_ 11 (d := d_read_settings) rfl
  obtain ⟨fd12, F12⟩ := c.def_ 12 (d := d__law_mix) rfl
  obtain ⟨fd13, F13⟩ := c.def_ 13 (d := d__law_source) rfl
  obtain ⟨fd14, F14⟩ := c.def_ 14 (d := d__law_draw) rfl
  obtain ⟨fd15, F15⟩ := c.def_ 15 (d := d__law_pick) rfl
  obtain ⟨fd16, F16⟩ := c.def_ 16 (d := d__law_parts) rfl
  obtain ⟨fd17, F17⟩ := c.def_ 17 (d := d__law_text) rfl
  obtain ⟨fd18, F18⟩ := c.def_ 18 (d := d__law_number) rfl
  obtain ⟨fd19, F19⟩ := c.def_ 19 (d := d__law_due) rfl
  obtain ⟨fd20, F20⟩ := c.def_ 20 (d := d__law_spoilt) rfl
  obtain ⟨fd21, F21⟩ := c.def_ 21 (d := d__law_told) rfl
  obtain ⟨fd22, F22⟩ := c.def_ 22 (d := d__law_right) rfl
  obtain ⟨fd23, F23⟩ := c.def_ 23 (d := d_law) rfl
  have eq := hfa.symm.trans (He.glo_ok X G (c.fact 47 (f := .glo "law") rfl))
  cases eq
  have bl := FunD.bindsA (ps := ["script"]) F23 fun _ _ _ _ _ _ us hl => match us, hl with | [_], _ => rfl
  refine ⟨fd23, fun s v => bl s [v] rfl, fun base _ _ => ?_⟩
  have er_InvalidText : KrE.ErH P w K mg base CX0 1 "InvalidText" (He.ga K "InvalidText") ["self", "line"] (sp_InvalidText___init__ K) := ⟨_, _, He.glo_ok X G (c.fact 9 (f := .glo "InvalidText") rfl), x_err_InvalidText, (He.meth_ok (c.fact 24 (f := .meth "InvalidText" "__init__") rfl)).at_, beq_iff_eq.mp (He.meth_ok (c.fact 24 (f := .meth "InvalidText" "__init__") rfl)).fn, (F0.bindsN fun _ _ _ _ _ _ us hl => match us, hl with | [_, _], _ => rfl), (ok_InvalidText___init__ F0 x_err_InvalidText x_tk_InvalidText)⟩
  have h_is_from : Kr.FnH P w K mg base CX0 1 "is_from" ["number", "least"] (sp_is_from K) := Kr.FnH.of F1 (He.glo_ok X G (c.fact 25 (f := .glo "is_from") rfl)) (F1.bindsN fun _ _ _ _ _ _ us hl => match us, hl with | [_, _], _ => rfl) (ok_is_from F1 n_bool n_int n_isinstance)
  have h_is_within : Kr.FnH P w K mg base CX0 2 "is_within" ["number", "least", "most"] (sp_is_within K) := Kr.FnH.of F2 (He.glo_ok X G (c.fact 26 (f := .glo "is_within") rfl)) (F2.bindsN fun _ _ _ _ _ _ us hl => match us, hl with | [_, _, _], _ => rfl) (ok_is_within F2 h_is_from)
  have h_are_lengths : Kr.FnH P w K mg base CX0 3 "are_lengths" ["lengths"] (sp_are_lengths K) := Kr.FnH.of F3 (He.glo_ok X G (c.fact 27 (f := .glo "are_lengths") rfl)) (F3.bindsN fun _ _ _ _ _ _ us hl => match us, hl with | [_], _ => rfl) (ok_are_lengths F3 g_MOST_LENGTHS g_MOST_UNITS h_is_within n_all n_isinstance n_len n_list)
  have h_bounds_behind : Kr.FnH P w K mg base CX0 1 "bounds_behind" ["lengths"] (sp_bounds_behind K) := Kr.FnH.of F4 (He.glo_ok X G (c.fact 28 (f := .glo "bounds_behind") rfl)) (F4.bindsN fun _ _ _ _ _ _ us hl => match us, hl with | [_], _ => rfl) (ok_bounds_behind F4 g_MOST_UNITS n_max)
  have mk_Settings : Kr.MkK P w K mg base CX0 4 "Settings" (He.ga K "Settings") ["self", "lengths", "size", "fanout", "records", "every", "keep"] 3 ["fanout", "records", "every", "keep"] (sp_Settings___init__ K) := Kr.MkK.of (He.glo_ok X G (c.fact 10 (f := .glo "Settings") rfl)) (He.mkr_ok (c.fact 29 (f := .mkr "Settings") rfl)) (Kr.kbn_all F5 3 ["fanout", "records", "every", "keep"] fun _ _ _ _ _ _ us ws h1 h2 => match us, ws, h1, h2 with | [_, _, _], [_, _, _, _], _, _ => rfl) (ok_Settings___init__ F5 a_Settings_every a_Settings_fanout a_Settings_keep a_Settings_lengths a_Settings_records a_Settings_size c_Settings h_are_lengths h_bounds_behind h_is_within n_tuple)
  have h_check_settings : Kr.FnH P w K mg base CX0 1 "check_settings" ["settings"] (sp_check_settings K) := Kr.FnH.of F6 (He.glo_ok X G (c.fact 30 (f := .glo "check_settings") rfl)) (F6.bindsN fun _ _ _ _ _ _ us hl => match us, hl with | [_], _ => rfl) (ok_check_settings F6 i_Settings k_Settings n_isinstance)
  have h_settings_text : Kr.FnH P w K mg base CX0 2 "settings_text" ["settings"] (sp_settings_text K) := Kr.FnH.of F7 (He.glo_ok X G (c.fact 31 (f := .glo "settings_text") rfl)) (F7.bindsN fun _ _ _ _ _ _ us hl => match us, hl with | [_], _ => rfl) (ok_settings_text F7 a_Settings_every a_Settings_fanout a_Settings_keep a_Settings_lengths a_Settings_records a_Settings_size c_Settings h_check_settings n_str)
  have h_number_in : Kr.FnH P w K mg base CX0 1 "number_in" ["text", "least", "most"] (sp_number_in K) := Kr.FnH.of F8 (He.glo_ok X G (c.fact 32 (f := .glo "number_in") rfl)) (F8.bindsN fun _ _ _ _ _ _ us hl => match us, hl with | [_, _, _], _ => rfl) (ok_number_in F8 n_range n_str)
  have h_lengths_in : Kr.FnH P w K mg base CX0 2 "lengths_in" ["line"] (sp_lengths_in K) := Kr.FnH.of F9 (He.glo_ok X G (c.fact 33 (f := .glo "lengths_in") rfl)) (F9.bindsN fun _ _ _ _ _ _ us hl => match us, hl with | [_], _ => rfl) (ok_lengths_in F9 g_MOST_LENGTHS g_MOST_UNITS h_number_in n_len)
  have h_value_in : Kr.FnH P w K mg base CX0 2 "value_in" ["line", "part", "least", "most"] (sp_value_in K) := Kr.FnH.of F10 (He.glo_ok X G (c.fact 34 (f := .glo "value_in") rfl)) (F10.bindsN fun _ _ _ _ _ _ us hl => match us, hl with | [_, _, _, _], _ => rfl) (ok_value_in F10 h_number_in n_len)
  have h_read_settings : Kr.FnH P w K mg base (L2.CX P w) 6 "read_settings" ["text"] (sp_read_settings K) := Kr.FnH.of F11 (He.glo_ok X G (c.fact 35 (f := .glo "read_settings") rfl)) (F11.bindsN fun _ _ _ _ _ _ us hl => match us, hl with | [_], _ => rfl) (ok_read_settings F11 er_InvalidText h_bounds_behind h_lengths_in h_value_in mk_Settings n_enumerate n_isinstance n_len n_str)
  have h__law_mix : Kr.FnH P w K mg base CX0 1 "_law_mix" ["cell", "lap"] (sp__law_mix K) := Kr.FnH.of F12 (He.glo_ok X G (c.fact 36 (f := .glo "_law_mix") rfl)) (F12.bindsN fun _ _ _ _ _ _ us hl => match us, hl with | [_, _], _ => rfl) (ok__law_mix F12 n_int)
  have h__law_source : Kr.FnH P w K mg base CX0 1 "_law_source" ["script", "k"] (sp__law_source K) := Kr.FnH.of F13 (He.glo_ok X G (c.fact 37 (f := .glo "_law_source") rfl)) (F13.bindsN fun _ _ _ _ _ _ us hl => match us, hl with | [_, _], _ => rfl) (ok__law_source F13 n_len)
  have h__law_draw : Kr.FnH P w K mg base CX0 2 "_law_draw" ["source", "limit"] (sp__law_draw K) := Kr.FnH.of F14 (He.glo_ok X G (c.fact 38 (f := .glo "_law_draw") rfl)) (F14.bindsN fun _ _ _ _ _ _ us hl => match us, hl with | [_, _], _ => rfl) (ok__law_draw F14 h__law_mix n_int)
  have h__law_pick : Kr.FnH P w K mg base CX0 3 "_law_pick" ["source", "items"] (sp__law_pick K) := Kr.FnH.of F15 (He.glo_ok X G (c.fact 39 (f := .glo "_law_pick") rfl)) (F15.bindsN fun _ _ _ _ _ _ us hl => match us, hl with | [_, _], _ => rfl) (ok__law_pick F15 h__law_draw n_len)
  have h__law_parts : Kr.FnH P w K mg base CX0 4 "_law_parts" ["source"] (sp__law_parts K) := Kr.FnH.of F16 (He.glo_ok X G (c.fact 40 (f := .glo "_law_parts") rfl)) (F16.bindsN fun _ _ _ _ _ _ us hl => match us, hl with | [_], _ => rfl) (ok__law_parts F16 h__law_draw h__law_pick n_range)
  have h__law_text : Kr.FnH P w K mg base CX0 1 "_law_text" ["p"] (sp__law_text K) := Kr.FnH.of F17 (He.glo_ok X G (c.fact 41 (f := .glo "_law_text") rfl)) (F17.bindsN fun _ _ _ _ _ _ us hl => match us, hl with | [_], _ => rfl) (ok__law_text F17 n_str n_zip)
  have h__law_number : Kr.FnH P w K mg base CX0 1 "_law_number" ["word"] (sp__law_number K) := Kr.FnH.of F18 (He.glo_ok X G (c.fact 42 (f := .glo "_law_number") rfl)) (F18.bindsN fun _ _ _ _ _ _ us hl => match us, hl with | [_], _ => rfl) (ok__law_number F18 n_int n_len n_str)
  have h__law_due : Kr.FnH P w K mg base CX0 2 "_law_due" ["text"] (sp__law_due K) := Kr.FnH.of F19 (He.glo_ok X G (c.fact 43 (f := .glo "_law_due") rfl)) (F19.bindsN fun _ _ _ _ _ _ us hl => match us, hl with | [_], _ => rfl) (ok__law_due F19 h__law_number n_enumerate n_len n_max n_min)
  have h__law_spoilt : Kr.FnH P w K mg base CX0 4 "_law_spoilt" ["source", "text"] (sp__law_spoilt K) := Kr.FnH.of F20 (He.glo_ok X G (c.fact 44 (f := .glo "_law_spoilt") rfl)) (F20.bindsN fun _ _ _ _ _ _ us hl => match us, hl with | [_, _], _ => rfl) (ok__law_spoilt F20 h__law_draw h__law_pick n_len)
  have h__law_told : Kr.FnH P w K mg base CX0 7 "_law_told" ["text"] (sp__law_told K) := Kr.FnH.of F21 (He.glo_ok X G (c.fact 45 (f := .glo "_law_told") rfl)) (F21.bindsN fun _ _ _ _ _ _ us hl => match us, hl with | [_], _ => rfl) (ok__law_told F21 h_read_settings h_settings_text i_Settings k_InvalidText k_Settings n_isinstance x_em_InvalidText x_no_InvalidText x_xf_InvalidText)
  have h__law_right : Kr.FnH P w K mg base CX0 8 "_law_right" ["source"] (sp__law_right K) := Kr.FnH.of F22 (He.glo_ok X G (c.fact 46 (f := .glo "_law_right") rfl)) (F22.bindsN fun _ _ _ _ _ _ us hl => match us, hl with | [_], _ => rfl) (ok__law_right F22 h__law_draw h__law_due h__law_parts h__law_spoilt h__law_text h__law_told n_range)
  exact ok_law F23 h__law_right h__law_source n_len n_max n_min n_range
end Kw
section
open PyProof.Rows PySem PySem.Calls PySem.W
theorem PySem.Challenge.cw_keeprows_k04_whole_changed_texts_holds : PySem.Challenge.rw_keeprows_k04_whole_changed_texts.Holds := by
  w_on; o_law
  refine HandSHeadRun.head_any (r := Kw.R0) (q := view Kw.R0.prog [33]) (H := Kw.hk) (ob := Kw.ob) (M := 6000) (loose := Kw.loose) (d := HandSHeadRun.topDef Kw.R0.prog 33) (kwd := []) Kw.ob_eq
    (by kernel_rfl) (fun s => by kernel_rfl) Kw.runs (by kernel_rfl) (by kernel_rfl) (by kernel_rfl) (by rfl) (by first | assumption | decide +kernel) (by decide +kernel) ⟨rfl, rfl, rfl, rfl, rfl, by decide +kernel⟩ ?hw ?hc
  case hw =>
    w_witness2
  case hc =>
    refine L2.walk_ofE (l := PySem.Challenge.rw_keeprows_k04_whole_changed_texts) (n := 63) (k := 9) (x := "script") (CX := L2.CX0) rfl (by decide) (by kernel_rfl) ⟨rfl, by decide, by decide⟩ ?F (fun _ _ _ _ z => z)
    intro w mg fa h Y G hmg0
    obtain ⟨K, KX, c, e⟩ := Y
    have hmg : mg ("law" : PySem.Str) = some (.ref fa) := by
      have en : (HandSHeadRun.topDef Kw.R0.prog 33).name = ("law" : PySem.Str) := by kernel_rfl
      rw [← en]
      exact hmg0
    obtain ⟨fd, hb, hF⟩ := Kw.facts (P := (PySem.Challenge.rw_keeprows_k04_whole_changed_texts).prog) (w := w) KX G hmg c e
    exact ⟨K, fd, Kw.sp_law K, KX, hb, fun H a ns hl _ hS => ⟨a, ns, rfl, hS, hl, fun _ => rfl⟩, hF⟩
end

