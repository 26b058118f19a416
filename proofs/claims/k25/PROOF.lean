import PyProof.Rows.All
import Wide.All
import OpenK.AllK
import Wide.FinOn
import HandS.Base
import HandS.Call
import HandS.List
import HandS.Comp
import HandS.Dict
import HandS.Iter
import HandS.Ends
import HandS.Words
import HandS.WordsList
import HandS.WordsDict
import HandS.Wide
import HandS.IsInst
import HandS.Defaults
import HandS.MakeKw
import HandS.MakeKwOnly
import HandS.Head0
import HandS.Head1
import HandS.Head2
import HandS.HeadEnd
import HandS.HeadHook1
import HandS.HeadHook2
import HandS.Style
import HandS.Conv
import PyProof.Rows.SeqMore
import HandS.TryOnly
import KE.KDictList
import HandS.More
import PyProof.InstNe
import HandS.ExcInit
import HandS.TryMany
import HandS.ExcIs
import HandS.ExcField
import KE.KExcInit
import HandS.ExcOwn
import HandS.Lambda
import HandS.EndTab
import HandS.HeadHook4
import KE.KNestM
import HandS.HeadWalk
import HandS.SortInts
import HandS.WordsExc
import HandS.WordsExc
import HandS.Deep
import PySem.Challenge.RW_keeprows_k25_ways_of_pages
set_option Elab.async false
set_option linter.all false
set_option maxRecDepth 100000
set_option maxHeartbeats 8000000

namespace Kr
open L2 PySem PySem.Spec PyProof.Rows

/-! ### a def of the text, called by its name -/
section
variable (P : Program) (w : World) (K : PySem.W.Frag) (mg : Str → Option Value) (base : Heap) (CX : CXT) (k : Nat)
def FnH (x : Str) (ps : List Str) (sp : Sp) : Prop := ∃ (f : Addr) (fd : FuncData), mg x = some (.ref f) ∧ PySem.W.keepIn K (.ref f) = true ∧ Binds K fd ps [] ∧ FnOk P w K mg base CX k f fd ps sp
def MtH (C : Addr) (m : Str) (ps : List Str) (sp : Sp) : Prop := ∃ (f : Addr) (fd : FuncData), Meth K C m f ∧ Binds K fd ps [] ∧ FnOk P w K mg base CX k f fd ps sp
/-- the class of the module's name x is made by positional values -/
def MkH (x : Str) (C : Addr) (ps : List Str) (sp : Sp) : Prop := ∃ (f : Addr) (fd : FuncData), mg x = some (.ref C) ∧ Mk K C f ∧ Binds K fd ps [] ∧ FnOk P w K mg base CX k f fd ps sp
/-- the class is made by n positional values (self counted) and keywords ks -/
def MkK (x : Str) (C : Addr) (ps : List Str) (n : Nat) (ks : List Str) (sp : Sp) : Prop := ∃ (f : Addr) (fd : FuncData), mg x = some (.ref C) ∧ Mk K C f ∧ KBn K fd ps n ks (fun us ws => us ++ ws) (fun vs zs => vs ++ zs) ∧ FnOk P w K mg base CX k f fd ps sp
end
section
variable {X : Cx} {CX : CXT} {k n : Nat} {C : Addr} {ps ks : List Str} {sp : Sp} {E : XK} {x m : Str} {p pos apos : Pos} {e o : Expr} {es : List Expr} {kws : List Keyword} {t tk : TA} {ta : TE}
theorem pe_clE (h : FnH X.prog X.w X.K X.mg X.base CX k x ps sp) (hr : Room k X.A) (hx : Passes CX X E) (ha : PA X (e :: es) t) (hg : Gl X x := by rfl) (hdb : (x == ("__debug__" : Str)) = false := by decide)
    (he : starEach (e :: es) X.env = (false, eval e X.env) :: starEach es X.env := by rfl) (hpl : (backTo pos (starEach es X.env)).any (·.1) = false := by rfl) : PE X (.Call (.Name x p) (e :: es) [] pos) (tCall sp [] E t) := by
  obtain ⟨f, fd, hm, hk, hb, F⟩ := h
  exact pe_call F hr hg hm hk hb .nil hx ha hdb he hpl
theorem pe_cl (h : FnH X.prog X.w X.K X.mg X.base CX0 k x ps sp) (hr : Room k X.A) (ha : PA X (e :: es) t) (hg : Gl X x := by rfl) (hdb : (x == ("__debug__" : Str)) = false := by decide)
    (he : starEach (e :: es) X.env = (false, eval e X.env) :: starEach es X.env := by rfl) (hpl : (backTo pos (starEach es X.env)).any (·.1) = false := by rfl) : PE X (.Call (.Name x p) (e :: es) [] pos) (tCall sp [] E0 t) :=
  pe_clE h hr pass0 ha hg hdb he hpl
theorem pe_mt (h : MtH X.prog X.w X.K X.mg X.base CX0 k C m ps sp) (c : Cls X.K C) (hr : Room k X.A) (he : PE X o ta) (ha : PA X (e :: es) t) {pl : Sem Bool}
    (hst : starEach (e :: es) X.env = (false, eval e X.env) :: starEach es X.env := by rfl) (hpl : (backTo pos (starEach es X.env)).any (·.1) = false := by rfl)
    (ht : eval (.Call (.Attribute o m apos) (e :: es) [] pos) X.env = (do
      let ov ← eval o X.env
      standAt apos.atName
      let (f, first) ← holding [ov] (getMethod ov m pl)
      callWith pos f first (backTo pos (starEach (e :: es) X.env)) (backToKw pos (keywordEach [] X.env))) := by rfl) :
    PE X (.Call (.Attribute o m apos) (e :: es) [] pos) (tMeth C m sp [] E0 ta t) := by
  obtain ⟨f, fd, hm, hb, F⟩ := h
  exact pe_meth he c hm F hr hb .nil pass0 ha hst hpl ht
theorem pe_mt0 (h : MtH X.prog X.w X.K X.mg X.base CX0 k C m ps sp) (c : Cls X.K C) (hr : Room k X.A) (he : PE X o ta) {pl : Sem Bool}
    (ht : eval (.Call (.Attribute o m apos) [] [] pos) X.env = (do
      let ov ← eval o X.env
      standAt apos.atName
      let (f, first) ← holding [ov] (getMethod ov m pl)
      callWith pos f first (backTo pos (starEach [] X.env)) (backToKw pos (keywordEach [] X.env))) := by rfl) :
    PE X (.Call (.Attribute o m apos) [] [] pos) (tMeth C m sp [] E0 ta tNil) := by
  obtain ⟨f, fd, hm, hb, F⟩ := h
  exact pe_meth0 he c hm F hr hb .nil pass0 ht
theorem pe_mk (h : MkH X.prog X.w X.K X.mg X.base CX0 k x C ps sp) (hr : Room (k + 1) X.A) (ha : PA X (e :: es) t) (hg : Gl X x := by rfl) (hdb : (x == ("__debug__" : Str)) = false := by decide)
    (he : starEach (e :: es) X.env = (false, eval e X.env) :: starEach es X.env := by rfl) (hpl : (backTo pos (starEach es X.env)).any (·.1) = false := by rfl) : PE X (.Call (.Name x p) (e :: es) [] pos) (tMake C sp [] E0 t) := by
  obtain ⟨f, fd, hm, M, hb, F⟩ := h
  exact pe_make M F hr hg hm hb .nil pass0 ha hdb he hpl
theorem pe_mkE (h : MkK X.prog X.w X.K X.mg X.base CX k x C ps (n + 1) ks sp) (hr : Room (k + 1) X.A) (hx : Passes CX X E) (ha : PA X (e :: es) t) (hkw : PK X kws tk) (hg : Gl X x := by rfl)
    (hall : (backToKw pos (keywordEach kws X.env)).all (·.1.isSome) = true := by rfl) (hks : (backToKw pos (keywordEach kws X.env)).filterMap (·.1) = ks := by rfl) (hdb : (x == ("__debug__" : Str)) = false := by decide)
    (he : starEach (e :: es) X.env = (false, eval e X.env) :: starEach es X.env := by rfl) (hpl : ((backTo pos (starEach (e :: es) X.env)).any (·.1) || (backToKw pos (keywordEach kws X.env)).any (·.1.isNone)) = false := by rfl) :
    PE X (.Call (.Name x p) (e :: es) kws pos) (tMakeK C n ks.length sp (fun vs zs => vs ++ zs) E t tk) := by
  obtain ⟨f, fd, hm, M, hb, F⟩ := h
  exact pe_makeK M F hr hg hm hb hx ha hkw hall hks hdb he hpl
theorem pe_gint {i : Int} (h : ∃ t, X.mg x = some (.int i t)) (hg : Gl X x := by rfl) (hd : (x == ("__debug__" : Str)) = false := by decide) : PE X (.Name x pos) (tC (.int i)) := by
  obtain ⟨t, ht⟩ := h
  exact pe_glob hg ht ⟨t, rfl⟩ hd
theorem pe_gcls (h : X.mg x = some (.ref C)) (hg : Gl X x := by rfl) (hd : (x == ("__debug__" : Str)) = false := by decide) : PE X (.Name x pos) (tC (.ref C)) := pe_glob hg h rfl hd
theorem pe_bty {T : String} (hm : X.mg x = none) (hv : bootBuiltins x = some (.type T) := by decide +kernel) (hg : Gl X x := by rfl) (hn : x ≠ "__name__" := by decide) (hd : (x == ("__debug__" : Str)) = false := by decide) : PE X (.Name x pos) (tC (.ty T)) := pe_bltn hg hm hv rfl hn hd
end

/-! ### from the head's facts -/
section
variable {P : Program} {w : World} {K : PySem.W.Frag} {mg : Str → Option Value} {base : Heap} {CX : CXT} {k : Nat} {x : Str} {fd : FuncData} {params : Arguments} {body : List Stmt} {scope : Scope} {ps : List Str} {sp : Sp} {qual : Str}
theorem FnH.of (F : FunD K x qual params body scope [] [] (He.ga K x) fd) (g : mg x = some (.ref (He.ga K x))) (b : Binds K fd ps []) (ok : FnOk P w K mg base CX k (He.ga K x) fd ps sp) : FnH P w K mg base CX k x ps sp := ⟨_, _, g, F.kp, b, ok⟩
theorem MtH.of {C f : Addr} {m : Str} (M : Meth K C m f) (b : Binds K fd ps []) (ok : FnOk P w K mg base CX k f fd ps sp) : MtH P w K mg base CX k C m ps sp := ⟨_, _, M, b, ok⟩
theorem MkH.of {C f : Addr} (g : mg x = some (.ref C)) (M : Mk K C f) (b : Binds K fd ps []) (ok : FnOk P w K mg base CX k f fd ps sp) : MkH P w K mg base CX k x C ps sp := ⟨_, _, g, M, b, ok⟩
theorem MkK.of {C f : Addr} {n : Nat} {ks : List Str} (g : mg x = some (.ref C)) (M : Mk K C f) (b : KBn K fd ps n ks (fun us ws => us ++ ws) (fun vs zs => vs ++ zs)) (ok : FnOk P w K mg base CX k f fd ps sp) : MkK P w K mg base CX k x C ps n ks sp := ⟨_, _, g, M, b, ok⟩
/-- n positional values and keywords, every parameter given, in the parameters' order -/
theorem kbn_all {f : Addr} {m : Str} (F : FunD K m qual params body scope [] [] f fd) (n : Nat) (ks : List Str)
    (h : ∀ (kV doc pm : Value) (an : Option Addr) (cdv ct : Value) (us ws : List Value), us.length = n → ws.length = ks.length → bindArgs (PySem.W.fnOf m qual params body scope .none kV doc pm an cdv ct) ⟨us, ks.zip ws⟩ = pure (ps.zip (us ++ ws))) :
    KBn K fd ps n ks (fun us ws => us ++ ws) (fun vs zs => vs ++ zs) := by
  obtain ⟨oc, od, dV, kV, doc, pm, an, cdv, ct, osl, rfl, lk, hcd, hD, hK⟩ := F.ex
  rcases hD with ⟨_, rfl⟩ | ⟨e, _⟩
  · exact ⟨fun s us ws _ h1 h2 => .of_eq (h kV doc pm an cdv ct us ws h1 h2), fun a b => a.append b⟩
  · exact absurd rfl e
end

/-! ### the head with one more Bool -/
abbrev AlM : Type := He.AlD × Bool
def obsM (n : Nat) (fa : List He.Fa) (fn : List He.DefD) (ex : PySem.W.Frag → Bool) (g : Addr → Option Obj) : AlM := (He.obsDG n fa fn g, ex (He.frG g (He.asD g n)))
def hookM (n : Nat) (fa : List He.Fa) (fn : List He.DefD) (ex : PySem.W.Frag → Bool) : PySem.W.Hook where
  α := AlM
  obs := fun s => obsM n fa fn ex s.heap.get?
  val := fun _ => (He.valD fn, true)
  says := fun _ h => ∃ K : PySem.W.Frag, K.In h ∧ He.SaysD fa fn K ∧ ex K = true
  of := fun _ _ e => ⟨_, He.frG_in, congrArg (fun z : AlM => z.1) e, congrArg (fun z : AlM => z.2) e⟩
  keeps := fun _ _ _ ⟨K, hK, c, d⟩ k => ⟨K, PySem.W.Frag.In.keeps hK k, c, d⟩
theorem obsM_eq {n : Nat} {fa : List He.Fa} {fn : List He.DefD} {ex : PySem.W.Frag → Bool} {g : Addr → Option Obj} {s : Shared} (h : ∀ a, g a = s.heap.get? a) : obsM n fa fn ex g = (hookM n fa fn ex).obs s := by
  have e : g = s.heap.get? := funext h
  rw [e] <;> rfl
theorem ex_all {es : List (PySem.W.Frag → Bool)} {K : PySem.W.Frag} (h : (es.all fun e => e K) = true) (i : Nat) {e : PySem.W.Frag → Bool} (hi : es[i]? = some e := by rfl) : e K = true := List.all_eq_true.mp h e (List.mem_of_getElem? hi)

/-! ### heaps -/
theorem upd_free {H : Hp} {a p : Addr} {o u : HO} (h : H a = some u) (hp : H p = none) : upd H p o a = some u := by
  rw [upd_ne (ne_of_none h hp)]
  exact h
theorem same_new {H : Hp} {p : Addr} {o : HO} (h : H p = none) : Same H (upd H p o) := fun b x e => upd_free e h
/-- all but a stands as it was -/
def But (a : Addr) (H H' : Hp) : Prop := ∀ b o, b ≠ a → H b = some o → H' b = some o
theorem But.refl (a : Addr) (H : Hp) : But a H H := fun _ _ _ h => h
theorem But.trans {a : Addr} {H H1 H2 : Hp} (x : But a H H1) (y : But a H1 H2) : But a H H2 := fun b o n h => y b o n (x b o n h)
theorem But.of_same {a : Addr} {H H' : Hp} (x : Same H H') : But a H H' := fun b o _ h => x b o h
theorem But.upd {a : Addr} {H H' : Hp} {o : HO} (x : But a H H') : But a H (upd H' a o) := fun b u n h => by
  rw [upd_ne n]
  exact x b u n h
theorem But.new {a p : Addr} {H H' : Hp} {o : HO} (x : But a H H') (hp : H' p = none) : But a H (L2.upd H' p o) := fun b u n h => upd_free (x b u n h) hp
/-- where a list of three ints stands that draws change -/
def Src (H : Hp) (a : Addr) : Prop := ∃ c0 c1 c2 : Int, H a = some (.lst [.int c0, .int c1, .int c2])
/-- draws from a: all else stands -/
structure Dr (a : Addr) (H H' : Hp) : Prop where
  src : Src H' a
  old : But a H H'
theorem Src.set {H : Hp} {a : Addr} (c0 c1 c2 : Int) : Src (L2.upd H a (.lst [.int c0, .int c1, .int c2])) a := ⟨c0, c1, c2, upd_same⟩
theorem Src.new {H : Hp} {a p : Addr} {o : HO} (x : Src H a) (hp : H p = none) : Src (L2.upd H p o) a := by
  obtain ⟨c0, c1, c2, h⟩ := x
  exact ⟨c0, c1, c2, upd_free h hp⟩
theorem Src.ne {H : Hp} {a p : Addr} (x : Src H a) (hp : H p = none) : p ≠ a := by
  obtain ⟨c0, c1, c2, h⟩ := x
  intro e
  rw [e, h] at hp
  cases hp
theorem Dr.refl {a : Addr} {H : Hp} (x : Src H a) : Dr a H H := ⟨x, But.refl a H⟩
theorem Dr.trans {a : Addr} {H H1 H2 : Hp} (x : Dr a H H1) (y : Dr a H1 H2) : Dr a H H2 := ⟨y.src, x.old.trans y.old⟩
theorem Dr.new {a p : Addr} {H H' : Hp} {o : HO} (x : Dr a H H') (hp : H' p = none) : Dr a H (L2.upd H' p o) := ⟨x.src.new hp, x.old.new hp⟩
theorem Dr.free {a p : Addr} {H H' : Hp} (x : Dr a H H') (hp : H' p = none) : H p = none := by
  cases q : H p with
  | none => rfl
  | some o =>
    have ne := x.src.ne hp
    rw [x.old p o ne q] at hp
    cases hp
theorem But.seq {K : PySem.W.Frag} {H H' : Hp} {a b : Addr} {xs : List V} (e : But a H H') (n : b ≠ a) (h : SqL K H b xs) : SqL K H' b xs := by
  rcases h with (h | ⟨o, h⟩) | h
  · exact .inl (.inl (e _ _ n h))
  · exact .inl (.inr ⟨o, e _ _ n h⟩)
  · exact .inr h
theorem sz {n : Nat} (h : n ≤ 100000) : n ≤ sizeLine := Nat.le_trans h (by decide)
theorem szl {n : Nat} (h : n < 100000) : n < sizeLine := Nat.lt_of_lt_of_le h (by decide)

/-! ### list + list, where both are readable -/
def rCatS (K : PySem.W.Frag) : R2 := fun x y H Q => ∃ l b xs zs, x = .ref l ∧ y = .ref b ∧ SqL K H l xs ∧ SqL K H b zs ∧ xs.length + zs.length ≤ sizeLine ∧ ∀ p, H p = none → Q (.ref p) (upd H p (.lst (xs ++ zs)))
theorem op_catS {X : Cx} : OpR X (binaryOp .Add) (rCatS X.K) := by
  intro pins s σ H x y v u Q I rx ry h
  obtain ⟨l, b, xs, zs, rfl, rfl, hL, hB, hz, q⟩ := h
  cases rx
  cases ry
  obtain ⟨i1, r1, ⟨o1, n1, e1, c1, d1, t1⟩, z1⟩ := I.list hL
  obtain ⟨i2, r2, ⟨o2, n2, e2, c2, d2, t2⟩, z2⟩ := I.list hB
  obtain ⟨oc1, od1, dt1, sl1⟩ := o1
  obtain ⟨oc2, od2, dt2, sl2⟩ := o2
  simp only at c1 d1 t1 c2 d2 t2
  subst c1 d1 t1 c2 d2 t2
  have l1 := r1.length
  have l2 := r2.length
  refine concat_meets ⟨_, e1, rfl⟩ ⟨_, e2, rfl⟩ noFill_list_add seq_list_add PySem.F.slot_list_add
    PySem.F.entry_list_add (PySem.F.args_list_add_2 _ _)
    (list_addW l b i1.toArray i2.toArray n1 n2 none none sl1 sl2 (by rw [List.size_toArray, List.size_toArray]; omega)) ⟨e1, e2, ?_⟩
  have ea : i1.toArray ++ i2.toArray = (i1 ++ i2).toArray := by simp
  rw [ea]
  exact ⟨.ref _, _, I.lnew (t' := s.toks) (r1.append r2) (by rw [List.length_append]; omega), rfl, q _ I.fresh⟩

/-! ### readings by names, for rules whose reading is a lambda -/
section
variable {X : Cx}
def rInt1 : List V → Hp → VK → Prop := fun xs H Q => (∃ i, xs = [.int i] ∧ Q (.int i) H) ∨ ∃ k, xs = [.bl k] ∧ Q (.int (if k then 1 else 0)) H
theorem c_int1 : CallR X (.type "int") rInt1 := call_int1
def rMax2 : List V → Hp → VK → Prop := fun xs H Q => ∃ i j, xs = [.int i, .int j] ∧ Q (.int (if j > i then j else i)) H
def rMin2 : List V → Hp → VK → Prop := fun xs H Q => ∃ i j, xs = [.int i, .int j] ∧ Q (.int (if j < i then j else i)) H
theorem c_max2 (hc : X.calm = true) : CallR X (.builtin "max") rMax2 := call_max2 hc
theorem c_min2 (hc : X.calm = true) : CallR X (.builtin "min") rMin2 := call_min2 hc
def rLenL (K : PySem.W.Frag) : List V → Hp → VK → Prop := fun xs H Q => ∃ p ys, xs = [.ref p] ∧ (SqL K H p ys ∨ SqT K H p ys) ∧ Q (.int ys.length) H
theorem c_len : CallR X (.builtin "len") (rLenL X.K) := call_len_seq
def rTupOf (K : PySem.W.Frag) : List V → Hp → VK → Prop := fun xs H Q => ∃ p ys, xs = [.ref p] ∧ ((SqL K H p ys ∧ ∀ l, H l = none → Q (.ref l) (upd H l (.tup ys))) ∨ (SqT K H p ys ∧ Q (.ref p) H))
theorem c_tuple : CallR X (.type "tuple") (rTupOf X.K) := call_tuple_of
def rListOf (K : PySem.W.Frag) : List V → Hp → VK → Prop := fun xs H Q => ∃ p ys, xs = [.ref p] ∧ (SqL K H p ys ∨ SqT K H p ys) ∧ ∀ l, H l = none → Q (.ref l) (upd H l (.lst ys))
theorem c_list : CallR X (.type "list") (rListOf X.K) := call_list_of
def rAddS : R2 := fun x y H Q => ∃ i j, x = .str i ∧ y = .str j ∧ i.length + j.length ≤ sizeLine ∧ Q (.str (i ++ j)) H
theorem o_adds : OpR X (binaryOp .Add) rAddS := op_add_str
def rIsN : R2 := fun x y H Q => y = .non ∧ Q (.bl (decide (x = .non))) H
def rNotN : R2 := fun x y H Q => y = .non ∧ Q (.bl (!decide (x = .non))) H
theorem o_isN : OpR X (compareOp .Is) rIsN := op_isN
theorem o_notN : OpR X (compareOp .IsNot) rNotN := op_notN
def tTru (K : PySem.W.Frag) (ta : TE) : TT := fun σ H Q => ta σ H fun x H' => ∃ k, TruV K x H' k ∧ Q k H'
theorem p_truth {a : Expr} {ta : TE} (ha : PE X a ta) (he : ∀ whole, isTrue a X.env whole = (do let v ← whole; standAt a.pos; holding [v] (truthy v))) : PT X a (tTru X.K ta) := pt_truth ha he
end

/-! ### the readings, step by step -/
section
variable {K : PySem.W.Frag} {σ : L2.St} {H : Hp} {Q : VK} {QT : Bool → Hp → Prop} {QA : List V → Hp → Prop} {QG : L2.St → Hp → Prop} {D : Ends} {ta tb tc te : TE} {t u c : TT} {tr : TA} {ts us : TS} {g : TG} {gs : TGs} {v x y : V} {r r' : R2} {tl th : TO} {ti to : TE}
def rNew (o : HO) (H : Hp) (Q : VK) : Prop := ∀ p, H p = none → Q (.ref p) (upd H p o)
def rSz (n : Nat) (R : Prop) : Prop := n ≤ sizeLine ∧ R
theorem r_sz {n : Nat} {R : Prop} (h : n ≤ 100000) (q : R) : rSz n R := ⟨sz h, q⟩
theorem r_new {o : HO} (q : ∀ p, H p = none → Q (.ref p) (upd H p o)) : rNew o H Q := q
theorem r_tup (q : tr σ H fun xs H1 => rSz xs.length (rNew (.tup xs) H1 Q)) : tTup tr σ H Q := q
theorem r_lst (q : tr σ H fun xs H1 => rSz xs.length (rNew (.lst xs) H1 Q)) : tLst tr σ H Q := q
theorem r_catS {l b : Addr} {xs zs : List V} (h : SqL K H l xs) (h' : SqL K H b zs) (hz : xs.length + zs.length ≤ 100000) (q : rNew (.lst (xs ++ zs)) H Q) : rCatS K (.ref l) (.ref b) H Q := ⟨l, b, xs, zs, rfl, rfl, h, h', sz hz, q⟩
theorem r_tupOf {p : Addr} {ys : List V} (h : SqL K H p ys) (q : rNew (.tup ys) H Q) : rTupOf K [.ref p] H Q := ⟨p, ys, rfl, .inl ⟨h, q⟩⟩
theorem r_listOf {p : Addr} {ys : List V} (h : SqL K H p ys) (q : rNew (.lst ys) H Q) : rListOf K [.ref p] H Q := ⟨p, ys, rfl, .inl h, q⟩
theorem r_slL {a : Addr} {xs : List V} {lo hi : Option Int} (h : SqL K H a xs) (q : rNew (.lst (cutV xs lo hi)) H Q) : rSlL K (.ref a) lo hi H Q := ⟨a, xs, rfl, h, q⟩
def rOb (C : Addr) (m : Str) (x : V) (H : Hp) (R : Prop) : Prop := ∃ a dx fs, x = .ref a ∧ H a = some (.ins C dx fs) ∧ fs.lookup m = none ∧ R
theorem r_meth {C : Addr} {m : Str} {sp : Sp} {E : XK} (q : ta σ H fun x H1 => rOb C m x H1 (tr σ H1 fun vs H2 => sp (x :: vs) H2 Q E)) : tMeth C m sp [] E ta tr σ H Q := by
  have e : (fun (x : V) (H1 : Hp) => rOb C m x H1 (tr σ H1 fun vs H2 => sp (x :: vs) H2 Q E)) = fun x H1 => rOb C m x H1 (tr σ H1 fun vs H2 => sp (x :: (vs ++ [])) H2 Q E) := by
    simp only [List.append_nil]
  show ta σ H fun x H1 => rOb C m x H1 (tr σ H1 fun vs H2 => sp (x :: (vs ++ [])) H2 Q E)
  rw [← e]
  exact q
theorem r_obj {C a dx : Addr} {m : Str} {fs : List (Str × V)} {R : Prop} (h : H a = some (.ins C dx fs)) (l : fs.lookup m = none) (q : R) : rOb C m (.ref a) H R := ⟨a, dx, fs, rfl, h, l, q⟩
def rFd (K : PySem.W.Frag) (f : Str) (x : V) (H : Hp) (Q : VK) : Prop := ∃ a C dx fs v, x = .ref a ∧ H a = some (.ins C dx fs) ∧ Cls K C ∧ NoAttr K C f ∧ fs.lookup f = some v ∧ Q v H
theorem r_fld {f : Str} (q : ta σ H fun x H1 => rFd K f x H1 Q) : tFld K ta f σ H Q := q
theorem r_fd {a C dx : Addr} {f : Str} {fs : List (Str × V)} (h : H a = some (.ins C dx fs)) (c : Cls K C) (n : NoAttr K C f) (l : fs.lookup f = some v) (q : Q v H) : rFd K f (.ref a) H Q := ⟨a, C, dx, fs, v, rfl, h, c, n, l, q⟩
def rSt (K : PySem.W.Frag) (f : Str) (y x : V) (H : Hp) (Qn : Hp → Prop) : Prop := ∃ a C dx fs, x = .ref a ∧ H a = some (.ins C dx fs) ∧ Cls K C ∧ NoAttr K C f ∧ fs.length < 1000 ∧ Qn (upd H a (.ins C dx (putF f y fs)))
theorem r_sFld {f : Str} (q : tb σ H fun y H1 => ta σ H1 fun x H2 => rSt K f y x H2 fun H3 => D.nx σ H3) : sFld K ta tb f D σ H := q
theorem r_st {a C dx : Addr} {f : Str} {fs gs : List (Str × V)} {Qn : Hp → Prop} (h : H a = some (.ins C dx fs)) (c : Cls K C) (n : NoAttr K C f) (l : fs.length < 1000) (e : putF f y fs = gs) (q : Qn (upd H a (.ins C dx gs))) : rSt K f y (.ref a) H Qn := by
  subst e
  exact ⟨a, C, dx, fs, rfl, h, c, n, l, q⟩
def rPo (x : V) (R : Option Int → Prop) : Prop := ∃ i, x = .int i ∧ R (some i)
theorem r_part {QO : Option Int → Hp → Prop} (q : ta σ H fun x H1 => rPo x fun o => QO o H1) : tPart ta σ H QO := q
theorem r_po {i : Int} {R : Option Int → Prop} (q : R (some i)) : rPo (.int i) R := ⟨i, rfl, q⟩
def rTy (K : PySem.W.Frag) (T : String) (x : V) (H : Hp) (R : Prop) : Prop := tyV K T x H ∧ R
theorem r_BM {T : String} {rm : V → List V → Hp → VK → Prop} (q : to σ H fun x H1 => rTy K T x H1 (tr σ H1 fun xs H2 => rm x xs H2 Q)) : tBM K T rm to tr σ H Q := q
theorem r_tyL {p : Addr} {xs : List V} {R : Prop} (h : SqL K H p xs) (q : R) : rTy K "list" (.ref p) H R := ⟨.inl ⟨rfl, xs, h⟩, q⟩
def rBl (x : V) (R : Bool → Prop) : Prop := ∃ k, x = .bl k ∧ R k
theorem r_bl {k : Bool} {R : Bool → Prop} (q : R k) : rBl (.bl k) R := ⟨k, rfl, q⟩
theorem r_test (q : te σ H fun x H' => rBl x fun k => QT k H') : tTest te σ H QT := q
theorem r_tB (q : te σ H fun x H' => rBl x fun k => QT k H') : tB te σ H QT := q
theorem r_andV (q : ta σ H fun x H1 => rBl x fun c => if c = true then tb σ H1 Q else Q (.bl false) H1) : tAndV ta tb σ H Q := q
theorem r_orV (q : ta σ H fun x H1 => rBl x fun c => if c = true then Q (.bl true) H1 else tb σ H1 Q) : tOrV ta tb σ H Q := q
theorem r_notV (q : ta σ H fun x H1 => rBl x fun c => Q (.bl (!c)) H1) : tNotV ta σ H Q := q
theorem r_chain (q : ta σ H fun x H1 => tb σ H1 fun y H2 => r x y H2 fun z H3 => rBl z fun k => if k = true then tc σ H3 fun w' H4 => r' y w' H4 Q else Q (.bl false) H3) : tChain r r' ta tb tc σ H Q := q
def rTr (K : PySem.W.Frag) (x : V) (H : Hp) (R : Bool → Prop) : Prop := ∃ k, TruV K x H k ∧ R k
theorem r_tru (q : ta σ H fun x H' => rTr K x H' fun k => QT k H') : tTru K ta σ H QT := q
def rSq (K : PySem.W.Frag) (x : V) (H : Hp) (R : Addr → Prop) : Prop := ∃ a, x = .ref a ∧ (∃ xs, SqL K H a xs) ∧ R a
theorem r_list {R : It → Hp → Prop} (q : te σ H fun x H1 => rSq K x H1 fun a => R (Itl K a) H1) : iList K te σ H R := q
theorem r_sq {a : Addr} {xs : List V} {R : Addr → Prop} (h : SqL K H a xs) (q : R a) : rSq K (.ref a) H R := ⟨a, rfl, ⟨xs, h⟩, q⟩
def rSqT (K : PySem.W.Frag) (x : V) (H : Hp) (R : Addr → Prop) : Prop := ∃ a, x = .ref a ∧ (∃ xs, SqT K H a xs) ∧ R a
theorem r_tupI {R : It → Hp → Prop} (q : te σ H fun x H1 => rSqT K x H1 fun a => R (Itt K a) H1) : iTup K te σ H R := q
theorem r_sqT {a : Addr} {xs : List V} {R : Addr → Prop} (h : SqT K H a xs) (q : R a) : rSqT K (.ref a) H R := ⟨a, rfl, ⟨xs, h⟩, q⟩
def rRg1 (vs : List V) (R : Int → Prop) : Prop := ∃ j : Int, vs = [.int j] ∧ -(2 ^ 62) ≤ j ∧ j < 2 ^ 62 ∧ R j
def rRg2 (vs : List V) (R : Int → Int → Prop) : Prop := ∃ i j : Int, vs = [.int i, .int j] ∧ (-(2 ^ 62) ≤ i ∧ i < 2 ^ 62 ∧ -(2 ^ 62) ≤ j ∧ j < 2 ^ 62) ∧ R i j
theorem r_rng1 {R : It → Hp → Prop} (q : tr σ H fun vs H1 => rRg1 vs fun j => R (Itr 0 j.toNat) H1) : iRng1 tr σ H R := q
theorem r_rng2 {R : It → Hp → Prop} (q : tr σ H fun vs H1 => rRg2 vs fun i j => R (Itr i (j - i).toNat) H1) : iRng2 tr σ H R := q
theorem r_rg1 {j : Int} {R : Int → Prop} (h : -(2 ^ 62) ≤ j ∧ j < 2 ^ 62) (q : R j) : rRg1 [.int j] R := ⟨j, rfl, h.1, h.2, q⟩
theorem r_rg2 {i j : Int} {R : Int → Int → Prop} (h : -(2 ^ 62) ≤ i ∧ i < 2 ^ 62 ∧ -(2 ^ 62) ≤ j ∧ j < 2 ^ 62) (q : R i j) : rRg2 [.int i, .int j] R := ⟨i, j, rfl, h, q⟩
def rTwo (vs : List V) (R : V → V → Prop) : Prop := ∃ v w, vs = [v, w] ∧ R v w
theorem r_par {i j : Nat} (q : tr σ H fun vs H1 => rTwo vs fun v w => gName i v σ H1 fun σ' H' => gName j w σ' H' D.nx) : tPar i j tr D σ H := q
theorem r_two {v w : V} {R : V → V → Prop} (q : R v w) : rTwo [v, w] R := ⟨v, w, rfl, q⟩
def rMk (C : Addr) (sp : Sp) (E : XK) (f : V → List V) (H : Hp) (Q : VK) : Prop := ∀ x dx, H x = none → H dx = none → dx ≠ x → sp (f (.ref x)) (upd (upd H dx (.own x)) x (.ins C dx [])) (fun v H3 => v = .non ∧ Q (.ref x) H3) E
theorem r_mkK {C : Addr} {n m : Nat} {sp : Sp} {E : XK} {tk : TA} (q : tr σ H fun vs H1 => tk σ H1 fun zs H2 => vs.length = n ∧ zs.length = m ∧ rMk C sp E (fun s => s :: vs ++ zs) H2 Q) : tMakeK C n m sp (fun vs zs => vs ++ zs) E tr tk σ H Q := q
theorem r_mk {C : Addr} {sp : Sp} {E : XK} (q : tr σ H fun vs H1 => rMk C sp E (fun s => s :: vs) H1 Q) : tMake C sp [] E tr σ H Q := by
  have e : (fun (vs : List V) (H1 : Hp) => rMk C sp E (fun s => s :: vs) H1 Q) = fun vs H1 => rMk C sp E (fun s => s :: (vs ++ [])) H1 Q := by
    simp only [List.append_nil]
  show tr σ H fun vs H1 => rMk C sp E (fun s => s :: (vs ++ [])) H1 Q
  rw [← e]
  exact q
theorem r_tC (q : Q v H) : tC v σ H Q := q
theorem r_op (q : ta σ H fun x H1 => tb σ H1 fun y H2 => r x y H2 Q) : tOp r ta tb σ H Q := q
theorem r_un {r1 : V → Hp → VK → Prop} (q : ta σ H fun x H1 => r1 x H1 Q) : tUn r1 ta σ H Q := q
theorem r_I0 {f : Int → Int → V} {i j : Int} (q : Q (f i j) H) : rI0 f (.int i) (.int j) H Q := ⟨i, j, rfl, rfl, q⟩
theorem r_I {C : Int → Int → Prop} {f : Int → Int → V} {i j : Int} (c : C i j) (q : Q (f i j) H) : rI C f (.int i) (.int j) H Q := ⟨i, j, rfl, rfl, c, q⟩
theorem r_U {f : Int → V} {i : Int} (q : Q (f i) H) : rU f (.int i) H Q := ⟨i, rfl, q⟩
theorem r_eq (h : scal x y = true) (q : Q (.bl (decide (x = y))) H) : rEq x y H Q := ⟨h, q⟩
theorem r_ne (h : scal x y = true) (q : Q (.bl (!decide (x = y))) H) : rNe x y H Q := ⟨h, q⟩
theorem r_eqI {i j : Int} (q : Q (.bl (decide (i = j))) H) : rEq (.int i) (.int j) H Q := ⟨rfl, by simpa using q⟩
theorem r_neI {i j : Int} (q : Q (.bl (!decide (i = j))) H) : rNe (.int i) (.int j) H Q := ⟨rfl, by simpa using q⟩
theorem r_eqS {i j : Str} (q : Q (.bl (decide (i = j))) H) : rEq (.str i) (.str j) H Q := ⟨rfl, by simpa using q⟩
theorem r_neS {i j : Str} (q : Q (.bl (!decide (i = j))) H) : rNe (.str i) (.str j) H Q := ⟨rfl, by simpa using q⟩
theorem r_ixL {p : Addr} {xs : List V} {i : Int} (h : SqL K H p xs) (a : atI xs i = some v) (q : Q v H) : rIxL K (.ref p) (.int i) H Q := ⟨p, xs, i, v, rfl, rfl, h, a, q⟩
theorem r_ixT {p : Addr} {xs : List V} {i : Int} (h : SqT K H p xs) (a : atI xs i = some v) (q : Q v H) : rIxT K (.ref p) (.int i) H Q := ⟨p, xs, i, v, rfl, rfl, h, a, q⟩
theorem r_setL {p : Addr} {xs : List V} {k : Int} {j : Nat} {QH : Hp → Prop} (h : H p = some (.lst xs)) (e : ixN xs.length k = some j) (q : QH (upd H p (.lst (xs.set j v)))) : rSetL (.ref p) (.int k) v H QH := ⟨p, xs, k, j, rfl, rfl, h, e, q⟩
theorem r_CB {rc : List V → Hp → VK → Prop} (q : tr σ H fun vs H1 => rc vs H1 Q) : tCB rc tr σ H Q := q
theorem r_cons (q : ta σ H fun x H1 => tr σ H1 fun xs H2 => QA (x :: xs) H2) : tCons ta tr σ H QA := q
theorem r_nil (q : QA [] H) : tNil σ H QA := q
theorem r_int1 {i : Int} (q : Q (.int i) H) : rInt1 [.int i] H Q := .inl ⟨i, rfl, q⟩
theorem r_max2 {i j : Int} (q : Q (.int (if j > i then j else i)) H) : rMax2 [.int i, .int j] H Q := ⟨i, j, rfl, q⟩
theorem r_min2 {i j : Int} (q : Q (.int (if j < i then j else i)) H) : rMin2 [.int i, .int j] H Q := ⟨i, j, rfl, q⟩
theorem r_lenL {p : Addr} {ys : List V} (h : SqL K H p ys) (q : Q (.int ys.length) H) : rLenL K [.ref p] H Q := ⟨p, ys, rfl, .inl h, q⟩
theorem r_lenT {p : Addr} {ys : List V} (h : SqT K H p ys) (q : Q (.int ys.length) H) : rLenL K [.ref p] H Q := ⟨p, ys, rfl, .inr h, q⟩
theorem r_sum {a : Addr} {ns : List Int} (h : SqL K H a (ns.map V.int)) (q : Q (.int ns.sum) H) : rSum K [.ref a] H Q := ⟨a, ns, rfl, h, q⟩
theorem r_max {a : Addr} {ns : List Int} (h : SqL K H a (ns.map V.int)) (h0 : 0 < ns.length) (q : ∀ m, m ∈ ns → (∀ y, y ∈ ns → y ≤ m) → Q (.int m) H) : rMax K [.ref a] H Q := ⟨a, ns, rfl, h, h0, q⟩
theorem r_all {a : Addr} {bs : List Bool} (h : SqL K H a (bs.map V.bl)) (q : Q (.bl (bs.all id)) H) : rAll K [.ref a] H Q := ⟨a, bs, rfl, h, q⟩
theorem r_call {sp : Sp} {E : XK} (q : tr σ H fun vs H1 => sp vs H1 Q E) : tCall sp [] E tr σ H Q := by
  have e : (fun (vs : List V) (H1 : Hp) => sp vs H1 Q E) = fun vs H1 => sp (vs ++ []) H1 Q E := by
    funext vs H1
    rw [List.append_nil]
  show tr σ H fun vs H1 => sp (vs ++ []) H1 Q E
  rw [← e]
  exact q
theorem r_sl {rs : V → Option Int → Option Int → Hp → VK → Prop} (q : ta σ H fun x H1 => tl σ H1 fun l H2 => th σ H2 fun u H3 => rs x l u H3 Q) : L2.tSl rs ta tl th σ H Q := q
theorem r_nopart {QO : Option Int → Hp → Prop} (q : QO none H) : tNoPart σ H QO := q
theorem r_append {l : Addr} {xs : List V} (h : H l = some (.lst xs)) (hz : xs.length < 100000) (q : Q .non (upd H l (.lst (xs ++ [y])))) : rAppend (.ref l) [y] H Q := ⟨l, xs, y, rfl, rfl, h, szl hz, q⟩
-- tests
theorem r_and (q : t σ H fun c H1 => if c = true then u σ H1 QT else QT false H1) : tAnd t u σ H QT := q
theorem r_or (q : t σ H fun c H1 => if c = true then QT true H1 else u σ H1 QT) : tOr t u σ H QT := q
theorem r_not (q : t σ H fun c H1 => QT (!c) H1) : tNot t σ H QT := q
theorem r_if (q : t σ H fun c H1 => if c = true then ta σ H1 Q else tb σ H1 Q) : tIf t ta tb σ H Q := q
-- statements
theorem r_seq (q : ts { D with nx := us D } σ H) : tSeq ts us D σ H := q
theorem r_asg (q : te σ H fun x H1 => g x σ H1 D.nx) : tAsg te g D σ H := q
theorem r_ret (q : te σ H D.rt) : tRet te D σ H := q
theorem r_drop (q : te σ H fun _ H1 => D.nx σ H1) : tDrop te D σ H := q
theorem r_next (q : D.nx σ H) : tNext D σ H := q
theorem r_ifS (q : t σ H fun b H1 => if b = true then ts D σ H1 else us D σ H1) : tIfS t ts us D σ H := q
theorem r_gSub {ts : TSet} (q : to σ H fun o H1 => ti σ H1 fun i H2 => ts o i v H2 fun H3 => QG σ H3) : gSub to ti ts v σ H QG := q
theorem r_gTup {a : Addr} {xs : List V} {n : Nat} (h : SqT K H a xs) (e : xs.length = n) (q : gs xs σ H QG) : gTup K n gs (.ref a) σ H QG := ⟨a, xs, rfl, h, e, q⟩
theorem r_gCons {w : V} {ws : List V} (q : g w σ H fun σ' H' => gs ws σ' H' QG) : gCons g gs (w :: ws) σ H QG := ⟨w, ws, rfl, q⟩
theorem r_gNil (q : QG σ H) : gNil [] σ H QG := ⟨rfl, q⟩
theorem r_dec {p : Prop} [Decidable p] {A B : Prop} (h1 : p → A) (h2 : ¬ p → B) : if decide p = true then A else B := by
  by_cases h : p
  · rw [decide_eq_true h]
    exact h1 h
  · rw [decide_eq_false h]
    exact iteF (h2 h)
theorem r_decN {p : Prop} [Decidable p] {A B : Prop} (h1 : ¬ p → A) (h2 : p → B) : if (!decide p) = true then A else B := by
  by_cases h : p
  · rw [decide_eq_true h]
    exact iteF (h2 h)
  · rw [decide_eq_false h]
    exact h1 h
theorem r_isi {x c : V} {t u : Value} {b : Bool} (k : ClsV c u) (ty : TyX K H x t) (e : PySem.W.kitOne K t u = some b) (q : Q (.bl b) H) : rIsi K [x, c] H Q := ⟨x, c, t, u, b, rfl, k, ty, e, q⟩
theorem r_lc {wi : TI} {n : List Nat} (q : wi σ H fun J H1 => ∀ D, H1 D = none → ∃ W : Nat → Nat → Hp → Prop, (∃ m, W 0 m (upd H1 D (.lst []))) ∧ ∀ i m H, W i m H →
  (J.stop i H ∧ Q (.ref D) H) ∨ (J.go i H ∧ ∃ Nx : Hp → Prop, (∀ H', Nx H' → ∃ m', m' < m ∧ W (i + 1) m' H') ∧ ∀ x H', J.yld i H x H' → g x (wipe σ n) H' fun σ2 H2 => wipe σ2 n = wipe σ n ∧ t σ2 H2 fun b H3 =>
    if b = true then te σ2 H3 fun y H4 => ∃ acc, H4 D = some (.lst acc) ∧ acc.length < sizeLine ∧ Nx (upd H4 D (.lst (acc ++ [y]))) else Nx H3)) : tLc wi g t te n σ H Q := q
theorem r_yes (q : QT true H) : tYes σ H QT := q
theorem r_v0 {z : L2.St} (q : Q v H) : tVar 0 (some v :: z) H Q := ⟨v, rfl, q⟩
theorem r_v1 {a0 : Option V} {z : L2.St} (q : Q v H) : tVar 1 (a0 :: some v :: z) H Q := ⟨v, rfl, q⟩
theorem r_v2 {a0 a1 : Option V} {z : L2.St} (q : Q v H) : tVar 2 (a0 :: a1 :: some v :: z) H Q := ⟨v, rfl, q⟩
theorem r_v3 {a0 a1 a2 : Option V} {z : L2.St} (q : Q v H) : tVar 3 (a0 :: a1 :: a2 :: some v :: z) H Q := ⟨v, rfl, q⟩
theorem r_v4 {a0 a1 a2 a3 : Option V} {z : L2.St} (q : Q v H) : tVar 4 (a0 :: a1 :: a2 :: a3 :: some v :: z) H Q := ⟨v, rfl, q⟩
theorem r_v5 {a0 a1 a2 a3 a4 : Option V} {z : L2.St} (q : Q v H) : tVar 5 (a0 :: a1 :: a2 :: a3 :: a4 :: some v :: z) H Q := ⟨v, rfl, q⟩
theorem r_v6 {a0 a1 a2 a3 a4 a5 : Option V} {z : L2.St} (q : Q v H) : tVar 6 (a0 :: a1 :: a2 :: a3 :: a4 :: a5 :: some v :: z) H Q := ⟨v, rfl, q⟩
theorem r_v7 {a0 a1 a2 a3 a4 a5 a6 : Option V} {z : L2.St} (q : Q v H) : tVar 7 (a0 :: a1 :: a2 :: a3 :: a4 :: a5 :: a6 :: some v :: z) H Q := ⟨v, rfl, q⟩
theorem r_v8 {a0 a1 a2 a3 a4 a5 a6 a7 : Option V} {z : L2.St} (q : Q v H) : tVar 8 (a0 :: a1 :: a2 :: a3 :: a4 :: a5 :: a6 :: a7 :: some v :: z) H Q := ⟨v, rfl, q⟩
theorem r_v9 {a0 a1 a2 a3 a4 a5 a6 a7 a8 : Option V} {z : L2.St} (q : Q v H) : tVar 9 (a0 :: a1 :: a2 :: a3 :: a4 :: a5 :: a6 :: a7 :: a8 :: some v :: z) H Q := ⟨v, rfl, q⟩
theorem r_v10 {a0 a1 a2 a3 a4 a5 a6 a7 a8 a9 : Option V} {z : L2.St} (q : Q v H) : tVar 10 (a0 :: a1 :: a2 :: a3 :: a4 :: a5 :: a6 :: a7 :: a8 :: a9 :: some v :: z) H Q := ⟨v, rfl, q⟩
theorem r_v11 {a0 a1 a2 a3 a4 a5 a6 a7 a8 a9 a10 : Option V} {z : L2.St} (q : Q v H) : tVar 11 (a0 :: a1 :: a2 :: a3 :: a4 :: a5 :: a6 :: a7 :: a8 :: a9 :: a10 :: some v :: z) H Q := ⟨v, rfl, q⟩
theorem r_v12 {a0 a1 a2 a3 a4 a5 a6 a7 a8 a9 a10 a11 : Option V} {z : L2.St} (q : Q v H) : tVar 12 (a0 :: a1 :: a2 :: a3 :: a4 :: a5 :: a6 :: a7 :: a8 :: a9 :: a10 :: a11 :: some v :: z) H Q := ⟨v, rfl, q⟩
theorem r_v13 {a0 a1 a2 a3 a4 a5 a6 a7 a8 a9 a10 a11 a12 : Option V} {z : L2.St} (q : Q v H) : tVar 13 (a0 :: a1 :: a2 :: a3 :: a4 :: a5 :: a6 :: a7 :: a8 :: a9 :: a10 :: a11 :: a12 :: some v :: z) H Q := ⟨v, rfl, q⟩
theorem r_v14 {a0 a1 a2 a3 a4 a5 a6 a7 a8 a9 a10 a11 a12 a13 : Option V} {z : L2.St} (q : Q v H) : tVar 14 (a0 :: a1 :: a2 :: a3 :: a4 :: a5 :: a6 :: a7 :: a8 :: a9 :: a10 :: a11 :: a12 :: a13 :: some v :: z) H Q := ⟨v, rfl, q⟩
theorem r_v15 {a0 a1 a2 a3 a4 a5 a6 a7 a8 a9 a10 a11 a12 a13 a14 : Option V} {z : L2.St} (q : Q v H) : tVar 15 (a0 :: a1 :: a2 :: a3 :: a4 :: a5 :: a6 :: a7 :: a8 :: a9 :: a10 :: a11 :: a12 :: a13 :: a14 :: some v :: z) H Q := ⟨v, rfl, q⟩
theorem r_v16 {a0 a1 a2 a3 a4 a5 a6 a7 a8 a9 a10 a11 a12 a13 a14 a15 : Option V} {z : L2.St} (q : Q v H) : tVar 16 (a0 :: a1 :: a2 :: a3 :: a4 :: a5 :: a6 :: a7 :: a8 :: a9 :: a10 :: a11 :: a12 :: a13 :: a14 :: a15 :: some v :: z) H Q := ⟨v, rfl, q⟩
theorem r_v17 {a0 a1 a2 a3 a4 a5 a6 a7 a8 a9 a10 a11 a12 a13 a14 a15 a16 : Option V} {z : L2.St} (q : Q v H) : tVar 17 (a0 :: a1 :: a2 :: a3 :: a4 :: a5 :: a6 :: a7 :: a8 :: a9 :: a10 :: a11 :: a12 :: a13 :: a14 :: a15 :: a16 :: some v :: z) H Q := ⟨v, rfl, q⟩
theorem r_v18 {a0 a1 a2 a3 a4 a5 a6 a7 a8 a9 a10 a11 a12 a13 a14 a15 a16 a17 : Option V} {z : L2.St} (q : Q v H) : tVar 18 (a0 :: a1 :: a2 :: a3 :: a4 :: a5 :: a6 :: a7 :: a8 :: a9 :: a10 :: a11 :: a12 :: a13 :: a14 :: a15 :: a16 :: a17 :: some v :: z) H Q := ⟨v, rfl, q⟩
theorem r_v19 {a0 a1 a2 a3 a4 a5 a6 a7 a8 a9 a10 a11 a12 a13 a14 a15 a16 a17 a18 : Option V} {z : L2.St} (q : Q v H) : tVar 19 (a0 :: a1 :: a2 :: a3 :: a4 :: a5 :: a6 :: a7 :: a8 :: a9 :: a10 :: a11 :: a12 :: a13 :: a14 :: a15 :: a16 :: a17 :: a18 :: some v :: z) H Q := ⟨v, rfl, q⟩
theorem r_v20 {a0 a1 a2 a3 a4 a5 a6 a7 a8 a9 a10 a11 a12 a13 a14 a15 a16 a17 a18 a19 : Option V} {z : L2.St} (q : Q v H) : tVar 20 (a0 :: a1 :: a2 :: a3 :: a4 :: a5 :: a6 :: a7 :: a8 :: a9 :: a10 :: a11 :: a12 :: a13 :: a14 :: a15 :: a16 :: a17 :: a18 :: a19 :: some v :: z) H Q := ⟨v, rfl, q⟩
theorem r_v21 {a0 a1 a2 a3 a4 a5 a6 a7 a8 a9 a10 a11 a12 a13 a14 a15 a16 a17 a18 a19 a20 : Option V} {z : L2.St} (q : Q v H) : tVar 21 (a0 :: a1 :: a2 :: a3 :: a4 :: a5 :: a6 :: a7 :: a8 :: a9 :: a10 :: a11 :: a12 :: a13 :: a14 :: a15 :: a16 :: a17 :: a18 :: a19 :: a20 :: some v :: z) H Q := ⟨v, rfl, q⟩
theorem r_g0 {b : Option V} {z : L2.St} (q : QG (some v :: z) H) : gName 0 v (b :: z) H QG := q
theorem r_g1 {a0 b : Option V} {z : L2.St} (q : QG (a0 :: some v :: z) H) : gName 1 v (a0 :: b :: z) H QG := q
theorem r_g2 {a0 a1 b : Option V} {z : L2.St} (q : QG (a0 :: a1 :: some v :: z) H) : gName 2 v (a0 :: a1 :: b :: z) H QG := q
theorem r_g3 {a0 a1 a2 b : Option V} {z : L2.St} (q : QG (a0 :: a1 :: a2 :: some v :: z) H) : gName 3 v (a0 :: a1 :: a2 :: b :: z) H QG := q
theorem r_g4 {a0 a1 a2 a3 b : Option V} {z : L2.St} (q : QG (a0 :: a1 :: a2 :: a3 :: some v :: z) H) : gName 4 v (a0 :: a1 :: a2 :: a3 :: b :: z) H QG := q
theorem r_g5 {a0 a1 a2 a3 a4 b : Option V} {z : L2.St} (q : QG (a0 :: a1 :: a2 :: a3 :: a4 :: some v :: z) H) : gName 5 v (a0 :: a1 :: a2 :: a3 :: a4 :: b :: z) H QG := q
theorem r_g6 {a0 a1 a2 a3 a4 a5 b : Option V} {z : L2.St} (q : QG (a0 :: a1 :: a2 :: a3 :: a4 :: a5 :: some v :: z) H) : gName 6 v (a0 :: a1 :: a2 :: a3 :: a4 :: a5 :: b :: z) H QG := q
theorem r_g7 {a0 a1 a2 a3 a4 a5 a6 b : Option V} {z : L2.St} (q : QG (a0 :: a1 :: a2 :: a3 :: a4 :: a5 :: a6 :: some v :: z) H) : gName 7 v (a0 :: a1 :: a2 :: a3 :: a4 :: a5 :: a6 :: b :: z) H QG := q
theorem r_g8 {a0 a1 a2 a3 a4 a5 a6 a7 b : Option V} {z : L2.St} (q : QG (a0 :: a1 :: a2 :: a3 :: a4 :: a5 :: a6 :: a7 :: some v :: z) H) : gName 8 v (a0 :: a1 :: a2 :: a3 :: a4 :: a5 :: a6 :: a7 :: b :: z) H QG := q
theorem r_g9 {a0 a1 a2 a3 a4 a5 a6 a7 a8 b : Option V} {z : L2.St} (q : QG (a0 :: a1 :: a2 :: a3 :: a4 :: a5 :: a6 :: a7 :: a8 :: some v :: z) H) : gName 9 v (a0 :: a1 :: a2 :: a3 :: a4 :: a5 :: a6 :: a7 :: a8 :: b :: z) H QG := q
theorem r_g10 {a0 a1 a2 a3 a4 a5 a6 a7 a8 a9 b : Option V} {z : L2.St} (q : QG (a0 :: a1 :: a2 :: a3 :: a4 :: a5 :: a6 :: a7 :: a8 :: a9 :: some v :: z) H) : gName 10 v (a0 :: a1 :: a2 :: a3 :: a4 :: a5 :: a6 :: a7 :: a8 :: a9 :: b :: z) H QG := q
theorem r_g11 {a0 a1 a2 a3 a4 a5 a6 a7 a8 a9 a10 b : Option V} {z : L2.St} (q : QG (a0 :: a1 :: a2 :: a3 :: a4 :: a5 :: a6 :: a7 :: a8 :: a9 :: a10 :: some v :: z) H) : gName 11 v (a0 :: a1 :: a2 :: a3 :: a4 :: a5 :: a6 :: a7 :: a8 :: a9 :: a10 :: b :: z) H QG := q
theorem r_g12 {a0 a1 a2 a3 a4 a5 a6 a7 a8 a9 a10 a11 b : Option V} {z : L2.St} (q : QG (a0 :: a1 :: a2 :: a3 :: a4 :: a5 :: a6 :: a7 :: a8 :: a9 :: a10 :: a11 :: some v :: z) H) : gName 12 v (a0 :: a1 :: a2 :: a3 :: a4 :: a5 :: a6 :: a7 :: a8 :: a9 :: a10 :: a11 :: b :: z) H QG := q
theorem r_g13 {a0 a1 a2 a3 a4 a5 a6 a7 a8 a9 a10 a11 a12 b : Option V} {z : L2.St} (q : QG (a0 :: a1 :: a2 :: a3 :: a4 :: a5 :: a6 :: a7 :: a8 :: a9 :: a10 :: a11 :: a12 :: some v :: z) H) : gName 13 v (a0 :: a1 :: a2 :: a3 :: a4 :: a5 :: a6 :: a7 :: a8 :: a9 :: a10 :: a11 :: a12 :: b :: z) H QG := q
theorem r_g14 {a0 a1 a2 a3 a4 a5 a6 a7 a8 a9 a10 a11 a12 a13 b : Option V} {z : L2.St} (q : QG (a0 :: a1 :: a2 :: a3 :: a4 :: a5 :: a6 :: a7 :: a8 :: a9 :: a10 :: a11 :: a12 :: a13 :: some v :: z) H) : gName 14 v (a0 :: a1 :: a2 :: a3 :: a4 :: a5 :: a6 :: a7 :: a8 :: a9 :: a10 :: a11 :: a12 :: a13 :: b :: z) H QG := q
theorem r_g15 {a0 a1 a2 a3 a4 a5 a6 a7 a8 a9 a10 a11 a12 a13 a14 b : Option V} {z : L2.St} (q : QG (a0 :: a1 :: a2 :: a3 :: a4 :: a5 :: a6 :: a7 :: a8 :: a9 :: a10 :: a11 :: a12 :: a13 :: a14 :: some v :: z) H) : gName 15 v (a0 :: a1 :: a2 :: a3 :: a4 :: a5 :: a6 :: a7 :: a8 :: a9 :: a10 :: a11 :: a12 :: a13 :: a14 :: b :: z) H QG := q
theorem r_g16 {a0 a1 a2 a3 a4 a5 a6 a7 a8 a9 a10 a11 a12 a13 a14 a15 b : Option V} {z : L2.St} (q : QG (a0 :: a1 :: a2 :: a3 :: a4 :: a5 :: a6 :: a7 :: a8 :: a9 :: a10 :: a11 :: a12 :: a13 :: a14 :: a15 :: some v :: z) H) : gName 16 v (a0 :: a1 :: a2 :: a3 :: a4 :: a5 :: a6 :: a7 :: a8 :: a9 :: a10 :: a11 :: a12 :: a13 :: a14 :: a15 :: b :: z) H QG := q
theorem r_g17 {a0 a1 a2 a3 a4 a5 a6 a7 a8 a9 a10 a11 a12 a13 a14 a15 a16 b : Option V} {z : L2.St} (q : QG (a0 :: a1 :: a2 :: a3 :: a4 :: a5 :: a6 :: a7 :: a8 :: a9 :: a10 :: a11 :: a12 :: a13 :: a14 :: a15 :: a16 :: some v :: z) H) : gName 17 v (a0 :: a1 :: a2 :: a3 :: a4 :: a5 :: a6 :: a7 :: a8 :: a9 :: a10 :: a11 :: a12 :: a13 :: a14 :: a15 :: a16 :: b :: z) H QG := q
theorem r_g18 {a0 a1 a2 a3 a4 a5 a6 a7 a8 a9 a10 a11 a12 a13 a14 a15 a16 a17 b : Option V} {z : L2.St} (q : QG (a0 :: a1 :: a2 :: a3 :: a4 :: a5 :: a6 :: a7 :: a8 :: a9 :: a10 :: a11 :: a12 :: a13 :: a14 :: a15 :: a16 :: a17 :: some v :: z) H) : gName 18 v (a0 :: a1 :: a2 :: a3 :: a4 :: a5 :: a6 :: a7 :: a8 :: a9 :: a10 :: a11 :: a12 :: a13 :: a14 :: a15 :: a16 :: a17 :: b :: z) H QG := q
theorem r_g19 {a0 a1 a2 a3 a4 a5 a6 a7 a8 a9 a10 a11 a12 a13 a14 a15 a16 a17 a18 b : Option V} {z : L2.St} (q : QG (a0 :: a1 :: a2 :: a3 :: a4 :: a5 :: a6 :: a7 :: a8 :: a9 :: a10 :: a11 :: a12 :: a13 :: a14 :: a15 :: a16 :: a17 :: a18 :: some v :: z) H) : gName 19 v (a0 :: a1 :: a2 :: a3 :: a4 :: a5 :: a6 :: a7 :: a8 :: a9 :: a10 :: a11 :: a12 :: a13 :: a14 :: a15 :: a16 :: a17 :: a18 :: b :: z) H QG := q
theorem r_g20 {a0 a1 a2 a3 a4 a5 a6 a7 a8 a9 a10 a11 a12 a13 a14 a15 a16 a17 a18 a19 b : Option V} {z : L2.St} (q : QG (a0 :: a1 :: a2 :: a3 :: a4 :: a5 :: a6 :: a7 :: a8 :: a9 :: a10 :: a11 :: a12 :: a13 :: a14 :: a15 :: a16 :: a17 :: a18 :: a19 :: some v :: z) H) : gName 20 v (a0 :: a1 :: a2 :: a3 :: a4 :: a5 :: a6 :: a7 :: a8 :: a9 :: a10 :: a11 :: a12 :: a13 :: a14 :: a15 :: a16 :: a17 :: a18 :: a19 :: b :: z) H QG := q
theorem r_g21 {a0 a1 a2 a3 a4 a5 a6 a7 a8 a9 a10 a11 a12 a13 a14 a15 a16 a17 a18 a19 a20 b : Option V} {z : L2.St} (q : QG (a0 :: a1 :: a2 :: a3 :: a4 :: a5 :: a6 :: a7 :: a8 :: a9 :: a10 :: a11 :: a12 :: a13 :: a14 :: a15 :: a16 :: a17 :: a18 :: a19 :: a20 :: some v :: z) H) : gName 21 v (a0 :: a1 :: a2 :: a3 :: a4 :: a5 :: a6 :: a7 :: a8 :: a9 :: a10 :: a11 :: a12 :: a13 :: a14 :: a15 :: a16 :: a17 :: a18 :: a19 :: a20 :: b :: z) H QG := q
theorem r_aug0 {z : L2.St} {tp : TIp} (q : te (some v :: z) H fun y H1 => tp v y H1 fun w H2 => D.nx (some w :: z) H2) : tAug 0 te tp D (some v :: z) H := ⟨v, rfl, q⟩
theorem r_aug1 {a0 : Option V} {z : L2.St} {tp : TIp} (q : te (a0 :: some v :: z) H fun y H1 => tp v y H1 fun w H2 => D.nx (a0 :: some w :: z) H2) : tAug 1 te tp D (a0 :: some v :: z) H := ⟨v, rfl, q⟩
theorem r_aug2 {a0 a1 : Option V} {z : L2.St} {tp : TIp} (q : te (a0 :: a1 :: some v :: z) H fun y H1 => tp v y H1 fun w H2 => D.nx (a0 :: a1 :: some w :: z) H2) : tAug 2 te tp D (a0 :: a1 :: some v :: z) H := ⟨v, rfl, q⟩
theorem r_aug3 {a0 a1 a2 : Option V} {z : L2.St} {tp : TIp} (q : te (a0 :: a1 :: a2 :: some v :: z) H fun y H1 => tp v y H1 fun w H2 => D.nx (a0 :: a1 :: a2 :: some w :: z) H2) : tAug 3 te tp D (a0 :: a1 :: a2 :: some v :: z) H := ⟨v, rfl, q⟩
theorem r_aug4 {a0 a1 a2 a3 : Option V} {z : L2.St} {tp : TIp} (q : te (a0 :: a1 :: a2 :: a3 :: some v :: z) H fun y H1 => tp v y H1 fun w H2 => D.nx (a0 :: a1 :: a2 :: a3 :: some w :: z) H2) : tAug 4 te tp D (a0 :: a1 :: a2 :: a3 :: some v :: z) H := ⟨v, rfl, q⟩
theorem r_aug5 {a0 a1 a2 a3 a4 : Option V} {z : L2.St} {tp : TIp} (q : te (a0 :: a1 :: a2 :: a3 :: a4 :: some v :: z) H fun y H1 => tp v y H1 fun w H2 => D.nx (a0 :: a1 :: a2 :: a3 :: a4 :: some w :: z) H2) : tAug 5 te tp D (a0 :: a1 :: a2 :: a3 :: a4 :: some v :: z) H := ⟨v, rfl, q⟩
theorem r_aug6 {a0 a1 a2 a3 a4 a5 : Option V} {z : L2.St} {tp : TIp} (q : te (a0 :: a1 :: a2 :: a3 :: a4 :: a5 :: some v :: z) H fun y H1 => tp v y H1 fun w H2 => D.nx (a0 :: a1 :: a2 :: a3 :: a4 :: a5 :: some w :: z) H2) : tAug 6 te tp D (a0 :: a1 :: a2 :: a3 :: a4 :: a5 :: some v :: z) H := ⟨v, rfl, q⟩
theorem r_aug7 {a0 a1 a2 a3 a4 a5 a6 : Option V} {z : L2.St} {tp : TIp} (q : te (a0 :: a1 :: a2 :: a3 :: a4 :: a5 :: a6 :: some v :: z) H fun y H1 => tp v y H1 fun w H2 => D.nx (a0 :: a1 :: a2 :: a3 :: a4 :: a5 :: a6 :: some w :: z) H2) : tAug 7 te tp D (a0 :: a1 :: a2 :: a3 :: a4 :: a5 :: a6 :: some v :: z) H := ⟨v, rfl, q⟩
theorem r_aug8 {a0 a1 a2 a3 a4 a5 a6 a7 : Option V} {z : L2.St} {tp : TIp} (q : te (a0 :: a1 :: a2 :: a3 :: a4 :: a5 :: a6 :: a7 :: some v :: z) H fun y H1 => tp v y H1 fun w H2 => D.nx (a0 :: a1 :: a2 :: a3 :: a4 :: a5 :: a6 :: a7 :: some w :: z) H2) : tAug 8 te tp D (a0 :: a1 :: a2 :: a3 :: a4 :: a5 :: a6 :: a7 :: some v :: z) H := ⟨v, rfl, q⟩
theorem r_aug9 {a0 a1 a2 a3 a4 a5 a6 a7 a8 : Option V} {z : L2.St} {tp : TIp} (q : te (a0 :: a1 :: a2 :: a3 :: a4 :: a5 :: a6 :: a7 :: a8 :: some v :: z) H fun y H1 => tp v y H1 fun w H2 => D.nx (a0 :: a1 :: a2 :: a3 :: a4 :: a5 :: a6 :: a7 :: a8 :: some w :: z) H2) : tAug 9 te tp D (a0 :: a1 :: a2 :: a3 :: a4 :: a5 :: a6 :: a7 :: a8 :: some v :: z) H := ⟨v, rfl, q⟩
theorem r_aug10 {a0 a1 a2 a3 a4 a5 a6 a7 a8 a9 : Option V} {z : L2.St} {tp : TIp} (q : te (a0 :: a1 :: a2 :: a3 :: a4 :: a5 :: a6 :: a7 :: a8 :: a9 :: some v :: z) H fun y H1 => tp v y H1 fun w H2 => D.nx (a0 :: a1 :: a2 :: a3 :: a4 :: a5 :: a6 :: a7 :: a8 :: a9 :: some w :: z) H2) : tAug 10 te tp D (a0 :: a1 :: a2 :: a3 :: a4 :: a5 :: a6 :: a7 :: a8 :: a9 :: some v :: z) H := ⟨v, rfl, q⟩
theorem r_aug11 {a0 a1 a2 a3 a4 a5 a6 a7 a8 a9 a10 : Option V} {z : L2.St} {tp : TIp} (q : te (a0 :: a1 :: a2 :: a3 :: a4 :: a5 :: a6 :: a7 :: a8 :: a9 :: a10 :: some v :: z) H fun y H1 => tp v y H1 fun w H2 => D.nx (a0 :: a1 :: a2 :: a3 :: a4 :: a5 :: a6 :: a7 :: a8 :: a9 :: a10 :: some w :: z) H2) : tAug 11 te tp D (a0 :: a1 :: a2 :: a3 :: a4 :: a5 :: a6 :: a7 :: a8 :: a9 :: a10 :: some v :: z) H := ⟨v, rfl, q⟩
theorem r_aug12 {a0 a1 a2 a3 a4 a5 a6 a7 a8 a9 a10 a11 : Option V} {z : L2.St} {tp : TIp} (q : te (a0 :: a1 :: a2 :: a3 :: a4 :: a5 :: a6 :: a7 :: a8 :: a9 :: a10 :: a11 :: some v :: z) H fun y H1 => tp v y H1 fun w H2 => D.nx (a0 :: a1 :: a2 :: a3 :: a4 :: a5 :: a6 :: a7 :: a8 :: a9 :: a10 :: a11 :: some w :: z) H2) : tAug 12 te tp D (a0 :: a1 :: a2 :: a3 :: a4 :: a5 :: a6 :: a7 :: a8 :: a9 :: a10 :: a11 :: some v :: z) H := ⟨v, rfl, q⟩
theorem r_aug13 {a0 a1 a2 a3 a4 a5 a6 a7 a8 a9 a10 a11 a12 : Option V} {z : L2.St} {tp : TIp} (q : te (a0 :: a1 :: a2 :: a3 :: a4 :: a5 :: a6 :: a7 :: a8 :: a9 :: a10 :: a11 :: a12 :: some v :: z) H fun y H1 => tp v y H1 fun w H2 => D.nx (a0 :: a1 :: a2 :: a3 :: a4 :: a5 :: a6 :: a7 :: a8 :: a9 :: a10 :: a11 :: a12 :: some w :: z) H2) : tAug 13 te tp D (a0 :: a1 :: a2 :: a3 :: a4 :: a5 :: a6 :: a7 :: a8 :: a9 :: a10 :: a11 :: a12 :: some v :: z) H := ⟨v, rfl, q⟩
theorem r_aug14 {a0 a1 a2 a3 a4 a5 a6 a7 a8 a9 a10 a11 a12 a13 : Option V} {z : L2.St} {tp : TIp} (q : te (a0 :: a1 :: a2 :: a3 :: a4 :: a5 :: a6 :: a7 :: a8 :: a9 :: a10 :: a11 :: a12 :: a13 :: some v :: z) H fun y H1 => tp v y H1 fun w H2 => D.nx (a0 :: a1 :: a2 :: a3 :: a4 :: a5 :: a6 :: a7 :: a8 :: a9 :: a10 :: a11 :: a12 :: a13 :: some w :: z) H2) : tAug 14 te tp D (a0 :: a1 :: a2 :: a3 :: a4 :: a5 :: a6 :: a7 :: a8 :: a9 :: a10 :: a11 :: a12 :: a13 :: some v :: z) H := ⟨v, rfl, q⟩
theorem r_aug15 {a0 a1 a2 a3 a4 a5 a6 a7 a8 a9 a10 a11 a12 a13 a14 : Option V} {z : L2.St} {tp : TIp} (q : te (a0 :: a1 :: a2 :: a3 :: a4 :: a5 :: a6 :: a7 :: a8 :: a9 :: a10 :: a11 :: a12 :: a13 :: a14 :: some v :: z) H fun y H1 => tp v y H1 fun w H2 => D.nx (a0 :: a1 :: a2 :: a3 :: a4 :: a5 :: a6 :: a7 :: a8 :: a9 :: a10 :: a11 :: a12 :: a13 :: a14 :: some w :: z) H2) : tAug 15 te tp D (a0 :: a1 :: a2 :: a3 :: a4 :: a5 :: a6 :: a7 :: a8 :: a9 :: a10 :: a11 :: a12 :: a13 :: a14 :: some v :: z) H := ⟨v, rfl, q⟩
theorem r_aug16 {a0 a1 a2 a3 a4 a5 a6 a7 a8 a9 a10 a11 a12 a13 a14 a15 : Option V} {z : L2.St} {tp : TIp} (q : te (a0 :: a1 :: a2 :: a3 :: a4 :: a5 :: a6 :: a7 :: a8 :: a9 :: a10 :: a11 :: a12 :: a13 :: a14 :: a15 :: some v :: z) H fun y H1 => tp v y H1 fun w H2 => D.nx (a0 :: a1 :: a2 :: a3 :: a4 :: a5 :: a6 :: a7 :: a8 :: a9 :: a10 :: a11 :: a12 :: a13 :: a14 :: a15 :: some w :: z) H2) : tAug 16 te tp D (a0 :: a1 :: a2 :: a3 :: a4 :: a5 :: a6 :: a7 :: a8 :: a9 :: a10 :: a11 :: a12 :: a13 :: a14 :: a15 :: some v :: z) H := ⟨v, rfl, q⟩
theorem r_aug17 {a0 a1 a2 a3 a4 a5 a6 a7 a8 a9 a10 a11 a12 a13 a14 a15 a16 : Option V} {z : L2.St} {tp : TIp} (q : te (a0 :: a1 :: a2 :: a3 :: a4 :: a5 :: a6 :: a7 :: a8 :: a9 :: a10 :: a11 :: a12 :: a13 :: a14 :: a15 :: a16 :: some v :: z) H fun y H1 => tp v y H1 fun w H2 => D.nx (a0 :: a1 :: a2 :: a3 :: a4 :: a5 :: a6 :: a7 :: a8 :: a9 :: a10 :: a11 :: a12 :: a13 :: a14 :: a15 :: a16 :: some w :: z) H2) : tAug 17 te tp D (a0 :: a1 :: a2 :: a3 :: a4 :: a5 :: a6 :: a7 :: a8 :: a9 :: a10 :: a11 :: a12 :: a13 :: a14 :: a15 :: a16 :: some v :: z) H := ⟨v, rfl, q⟩
theorem r_aug18 {a0 a1 a2 a3 a4 a5 a6 a7 a8 a9 a10 a11 a12 a13 a14 a15 a16 a17 : Option V} {z : L2.St} {tp : TIp} (q : te (a0 :: a1 :: a2 :: a3 :: a4 :: a5 :: a6 :: a7 :: a8 :: a9 :: a10 :: a11 :: a12 :: a13 :: a14 :: a15 :: a16 :: a17 :: some v :: z) H fun y H1 => tp v y H1 fun w H2 => D.nx (a0 :: a1 :: a2 :: a3 :: a4 :: a5 :: a6 :: a7 :: a8 :: a9 :: a10 :: a11 :: a12 :: a13 :: a14 :: a15 :: a16 :: a17 :: some w :: z) H2) : tAug 18 te tp D (a0 :: a1 :: a2 :: a3 :: a4 :: a5 :: a6 :: a7 :: a8 :: a9 :: a10 :: a11 :: a12 :: a13 :: a14 :: a15 :: a16 :: a17 :: some v :: z) H := ⟨v, rfl, q⟩
theorem r_aug19 {a0 a1 a2 a3 a4 a5 a6 a7 a8 a9 a10 a11 a12 a13 a14 a15 a16 a17 a18 : Option V} {z : L2.St} {tp : TIp} (q : te (a0 :: a1 :: a2 :: a3 :: a4 :: a5 :: a6 :: a7 :: a8 :: a9 :: a10 :: a11 :: a12 :: a13 :: a14 :: a15 :: a16 :: a17 :: a18 :: some v :: z) H fun y H1 => tp v y H1 fun w H2 => D.nx (a0 :: a1 :: a2 :: a3 :: a4 :: a5 :: a6 :: a7 :: a8 :: a9 :: a10 :: a11 :: a12 :: a13 :: a14 :: a15 :: a16 :: a17 :: a18 :: some w :: z) H2) : tAug 19 te tp D (a0 :: a1 :: a2 :: a3 :: a4 :: a5 :: a6 :: a7 :: a8 :: a9 :: a10 :: a11 :: a12 :: a13 :: a14 :: a15 :: a16 :: a17 :: a18 :: some v :: z) H := ⟨v, rfl, q⟩
theorem r_aug20 {a0 a1 a2 a3 a4 a5 a6 a7 a8 a9 a10 a11 a12 a13 a14 a15 a16 a17 a18 a19 : Option V} {z : L2.St} {tp : TIp} (q : te (a0 :: a1 :: a2 :: a3 :: a4 :: a5 :: a6 :: a7 :: a8 :: a9 :: a10 :: a11 :: a12 :: a13 :: a14 :: a15 :: a16 :: a17 :: a18 :: a19 :: some v :: z) H fun y H1 => tp v y H1 fun w H2 => D.nx (a0 :: a1 :: a2 :: a3 :: a4 :: a5 :: a6 :: a7 :: a8 :: a9 :: a10 :: a11 :: a12 :: a13 :: a14 :: a15 :: a16 :: a17 :: a18 :: a19 :: some w :: z) H2) : tAug 20 te tp D (a0 :: a1 :: a2 :: a3 :: a4 :: a5 :: a6 :: a7 :: a8 :: a9 :: a10 :: a11 :: a12 :: a13 :: a14 :: a15 :: a16 :: a17 :: a18 :: a19 :: some v :: z) H := ⟨v, rfl, q⟩
theorem r_aug21 {a0 a1 a2 a3 a4 a5 a6 a7 a8 a9 a10 a11 a12 a13 a14 a15 a16 a17 a18 a19 a20 : Option V} {z : L2.St} {tp : TIp} (q : te (a0 :: a1 :: a2 :: a3 :: a4 :: a5 :: a6 :: a7 :: a8 :: a9 :: a10 :: a11 :: a12 :: a13 :: a14 :: a15 :: a16 :: a17 :: a18 :: a19 :: a20 :: some v :: z) H fun y H1 => tp v y H1 fun w H2 => D.nx (a0 :: a1 :: a2 :: a3 :: a4 :: a5 :: a6 :: a7 :: a8 :: a9 :: a10 :: a11 :: a12 :: a13 :: a14 :: a15 :: a16 :: a17 :: a18 :: a19 :: a20 :: some w :: z) H2) : tAug 21 te tp D (a0 :: a1 :: a2 :: a3 :: a4 :: a5 :: a6 :: a7 :: a8 :: a9 :: a10 :: a11 :: a12 :: a13 :: a14 :: a15 :: a16 :: a17 :: a18 :: a19 :: a20 :: some v :: z) H := ⟨v, rfl, q⟩
theorem r_ip {f : Int → Int → Int} {i j : Int} (q : Q (.int (f i j)) H) : ipI f (.int i) (.int j) H Q := ⟨i, j, rfl, rfl, q⟩
end

/-! ### instances in isinstance -/
structure InsI (K : PySem.W.Frag) (C : Addr) : Prop where
  cl : Cls K C
  ha : PySem.W.findIn K (.ref C) "__class__" = some (some (.builtin "object.__class__"))
  hn : PySem.W.specialIn K (.builtin "object.__class__") "__get__" = some (some (.builtin "getset_descriptor.__get__"))
  htk : PySem.W.takesIn K (.builtin "object.__class__") = some true
  hm : PySem.W.mroIn K C (.type "object") = some true
  own : PySem.W.kitOne K (.ref C) (.ref C) = some true
def insB (K : PySem.W.Frag) (C : Addr) : Bool := decide (PySem.W.findIn K (.ref C) "__class__" = some (some (.builtin "object.__class__"))) && (decide (PySem.W.specialIn K (.builtin "object.__class__") "__get__" = some (some (.builtin "getset_descriptor.__get__"))) &&
  (decide (PySem.W.takesIn K (.builtin "object.__class__") = some true) && (decide (PySem.W.mroIn K C (.type "object") = some true) && decide (PySem.W.kitOne K (.ref C) (.ref C) = some true))))
theorem insB_ok {K : PySem.W.Frag} {C : Addr} (cl : Cls K C) (h : insB K C = true) : InsI K C := by
  obtain ⟨h1, h⟩ := Bool.and_eq_true_iff.mp h
  obtain ⟨h2, h⟩ := Bool.and_eq_true_iff.mp h
  obtain ⟨h3, h⟩ := Bool.and_eq_true_iff.mp h
  obtain ⟨h4, h5⟩ := Bool.and_eq_true_iff.mp h
  exact ⟨cl, of_decide_eq_true h1, of_decide_eq_true h2, of_decide_eq_true h3, of_decide_eq_true h4, of_decide_eq_true h5⟩
theorem InsI.ty {K : PySem.W.Frag} {C a dx : Addr} {H : Hp} {fs : List (Str × V)} (I : InsI K C) (e : H a = some (.ins C dx fs)) : TyX K H (.ref a) (.ref C) := .base (.ins e I.cl I.ha I.hn I.htk I.hm)
/-! ### comprehensions and loops with the slots written out -/
section
variable {K : PySem.W.Frag} {g : TG} {tt : TT} {te : TE} {vs : List Nat} {σ : L2.St} {H1 : Hp} {D : Addr} {Qd : Hp → Prop}
theorem lc_rangeS {lo : Int} {n : Nat} (σ' : L2.St) (hσ : wipe σ vs = σ') (Pv : Nat → Hp → Prop) (h0 : Pv 0 (upd H1 D (.lst [])))
    (hs : ∀ i H, i < n → Pv i H → g (.int (lo + i)) σ' H fun σ2 H2 => wipe σ2 vs = σ' ∧ tt σ2 H2 fun b H3 =>
      if b = true then te σ2 H3 fun y H4 => ∃ acc, H4 D = some (.lst acc) ∧ acc.length < sizeLine ∧ Pv (i + 1) (upd H4 D (.lst (acc ++ [y]))) else Pv (i + 1) H3) (hd : ∀ H, Pv n H → Qd H) :
    ∃ W : Nat → Nat → Hp → Prop, (∃ m, W 0 m (upd H1 D (.lst []))) ∧ ∀ i m H, W i m H →
      ((Itr lo n).stop i H ∧ Qd H) ∨ ((Itr lo n).go i H ∧ ∃ Nx : Hp → Prop, (∀ H', Nx H' → ∃ m', m' < m ∧ W (i + 1) m' H') ∧ ∀ x H', (Itr lo n).yld i H x H' → g x (wipe σ vs) H' fun σ2 H2 => wipe σ2 vs = wipe σ vs ∧ tt σ2 H2 fun b H3 =>
        if b = true then te σ2 H3 fun y H4 => ∃ acc, H4 D = some (.lst acc) ∧ acc.length < sizeLine ∧ Nx (upd H4 D (.lst (acc ++ [y]))) else Nx H3) := by
  subst hσ
  exact lc_range Pv h0 hs hd
theorem lc_listS {a : Addr} {xs : List V} (σ' : L2.St) (hσ : wipe σ vs = σ') (Pv : Nat → Hp → Prop) (h0 : Pv 0 (upd H1 D (.lst []))) (hl : ∀ i H, i ≤ xs.length → Pv i H → SqL K H a xs)
    (hs : ∀ i x H, xs[i]? = some x → Pv i H → g x σ' H fun σ2 H2 => wipe σ2 vs = σ' ∧ tt σ2 H2 fun b H3 =>
      if b = true then te σ2 H3 fun y H4 => ∃ acc, H4 D = some (.lst acc) ∧ acc.length < sizeLine ∧ Pv (i + 1) (upd H4 D (.lst (acc ++ [y]))) else Pv (i + 1) H3) (hd : ∀ H, Pv xs.length H → Qd H) :
    ∃ W : Nat → Nat → Hp → Prop, (∃ m, W 0 m (upd H1 D (.lst []))) ∧ ∀ i m H, W i m H →
      ((Itl K a).stop i H ∧ Qd H) ∨ ((Itl K a).go i H ∧ ∃ Nx : Hp → Prop, (∀ H', Nx H' → ∃ m', m' < m ∧ W (i + 1) m' H') ∧ ∀ x H', (Itl K a).yld i H x H' → g x (wipe σ vs) H' fun σ2 H2 => wipe σ2 vs = wipe σ vs ∧ tt σ2 H2 fun b H3 =>
        if b = true then te σ2 H3 fun y H4 => ∃ acc, H4 D = some (.lst acc) ∧ acc.length < sizeLine ∧ Nx (upd H4 D (.lst (acc ++ [y]))) else Nx H3) := by
  subst hσ
  exact lc_list Pv h0 hl hs hd
end
/-- the reading of a for loop, its iterator told by its end -/
def rFor (g : TG) (tb : TS) (D : Ends) (σ : L2.St) (J : It) (H1 : Hp) : Prop := ∃ W : Nat → Nat → L2.St → Hp → Prop, (∃ m, W 0 m σ H1) ∧ ∀ i m σ H, W i m σ H →
  (J.stop i H ∧ D.nx σ H) ∨ (J.go i H ∧ ∃ N : L2.St → Hp → Prop, (∀ σ' H', N σ' H' → ∃ m', m' < m ∧ W (i + 1) m' σ' H') ∧ ∀ x H', J.yld i H x H' → g x σ H' fun σ2 H2 => tb { D with nx := N, ct := N, bk := D.nx } σ2 H2)
theorem r_for {wi : TI} {g : TG} {tb : TS} {D : Ends} {σ : L2.St} {H : Hp} (q : wi σ H fun J H1 => rFor g tb D σ J H1) : tFor wi g tb D σ H := q
theorem r_forR {lo : Int} {n : Nat} {g : TG} {tb : TS} {D : Ends} {σ : L2.St} {H : Hp} (Pv : Nat → L2.St → Hp → Prop) (h0 : Pv 0 σ H)
    (hs : ∀ i σ H, i < n → Pv i σ H → g (.int (lo + i)) σ H fun σ2 H2 => tb { D with nx := Pv (i + 1), ct := Pv (i + 1), bk := D.nx } σ2 H2) (hd : ∀ σ H, Pv n σ H → D.nx σ H) : rFor g tb D σ (Itr lo n) H := for_range Pv h0 hs hd
theorem r_forL {K : PySem.W.Frag} {a : Addr} {xs : List V} {g : TG} {tb : TS} {D : Ends} {σ : L2.St} {H : Hp} (Pv : Nat → L2.St → Hp → Prop) (h0 : Pv 0 σ H) (hl : ∀ i σ H, i ≤ xs.length → Pv i σ H → SqL K H a xs)
    (hs : ∀ i x σ H, xs[i]? = some x → Pv i σ H → g x σ H fun σ2 H2 => tb { D with nx := Pv (i + 1), ct := Pv (i + 1), bk := D.nx } σ2 H2) (hd : ∀ σ H, Pv xs.length σ H → D.nx σ H) : rFor g tb D σ (Itl K a) H := for_list Pv h0 hl hs hd
theorem Dr.mut {a p : Addr} {H H' : Hp} {o : HO} (x : Dr a H H') (hp : H p = none) (n : p ≠ a) : Dr a H (L2.upd H' p o) := by
  obtain ⟨c0, c1, c2, h⟩ := x.src
  refine ⟨⟨c0, c1, c2, by rw [upd_ne (Ne.symm n)]; exact h⟩, fun b u nb e => ?_⟩
  rw [upd_ne (ne_of_none e hp)]
  exact x.old b u nb e
/-- all that stands of a list stands, a draw's source apart -/
theorem Dr.keep {a b : Addr} {H H' : Hp} {o : HO} (x : Dr a H H') (n : b ≠ a) (h : H b = some o) : H' b = some o := x.old b o n h
theorem Src.ne_ins {H : Hp} {a b C dx : Addr} {fs : List (Str × V)} (x : Src H a) (h : H b = some (.ins C dx fs)) : b ≠ a := by
  obtain ⟨c0, c1, c2, e⟩ := x
  exact ne_of h e (by intro z; cases z)
theorem Src.ne_tup {H : Hp} {a b : Addr} {xs : List V} (x : Src H a) (h : H b = some (.tup xs)) : b ≠ a := by
  obtain ⟨c0, c1, c2, e⟩ := x
  exact ne_of h e (by intro z; cases z)
theorem Src.ne_lst4 {H : Hp} {a b : Addr} {xs : List V} (x : Src H a) (h : H b = some (.lst xs)) (n : xs.length ≠ 3 := by simp) : b ≠ a := by
  obtain ⟨c0, c1, c2, e⟩ := x
  refine ne_of h e fun z => n ?_
  cases z
  rfl
theorem r_isiT {K : PySem.W.Frag} {H : Hp} {Q : VK} {x : V} {T T' : String} {b : Bool} (ty : TyX K H x (.type T)) (e : kitB T T' = some b) (q : Q (.bl b) H) : rIsi K [x, .ty T'] H Q := r_isi (.ty T') ty (kit_ty e) q
theorem r_isiC {K : PySem.W.Frag} {H : Hp} {Q : VK} {a C dx : Addr} {fs : List (Str × V)} (I : InsI K C) (e : H a = some (.ins C dx fs)) (q : Q (.bl true) H) : rIsi K [.ref a, .ref C] H Q := r_isi (.own C) (I.ty e) I.own q
theorem max_le {ns : List Int} {m b : Int} (hm : m ∈ ns) (h : ∀ n ∈ ns, n ≤ b) : m ≤ b := h m hm
theorem take_map_bl {bs : List Bool} (h : ∀ b ∈ bs, b = true) : bs.all id = true := by
  rw [List.all_eq_true]
  intro b hb
  rw [h b hb]
  rfl
theorem iteNt {A B : Prop} (h : B) : if (!true) = true then A else B := iteF h
theorem iteNf {A B : Prop} (h : A) : if (!false) = true then A else B := iteT h
theorem r_newS {o : HO} {H : Hp} {Q : VK} (q : ∀ (p : Addr) (H' : Hp), H p = none → Same H H' → H' p = some o → Q (.ref p) H') : rNew o H Q := fun p hp => q p _ hp (same_new hp) upd_same
theorem Src.same {H H' : Hp} {a : Addr} (x : Src H a) (s : Same H H') : Src H' a := by
  obtain ⟨c0, c1, c2, h⟩ := x
  exact ⟨c0, c1, c2, s _ _ h⟩
theorem Dr.same {a : Addr} {H H1 H2 : Hp} (x : Dr a H H1) (s : Same H1 H2) : Dr a H H2 := ⟨x.src.same s, fun b o n h => s b o (x.old b o n h)⟩
theorem Dr.ofSame {a : Addr} {H H1 : Hp} (x : Src H a) (s : Same H H1) : Dr a H H1 := ⟨x.same s, fun b o _ h => s b o h⟩
/-! ### sum of a tuple of ints -/
def rSumT (K : PySem.W.Frag) : List V → Hp → VK → Prop := fun vs H Q => ∃ (a : Addr) (ns : List Int), vs = [V.ref a] ∧ SqT K H a (ns.map V.int) ∧ Q (.int ns.sum) H
theorem preSum_list (ns : List Int) : ∀ j, PySem.preSum (fun i => ns.getD i 0) j = (ns.take j).sum
  | 0 => rfl
  | j + 1 => by
    show PySem.preSum (fun i => ns.getD i 0) j + ns.getD j 0 = _
    rw [preSum_list ns j, List.getD_eq_getElem?_getD, List.take_add_one, List.sum_append]
    cases ns[j]? with
    | none => rfl
    | some z =>
      show (ns.take j).sum + z = (ns.take j).sum + ([z] : List Int).sum
      rw [List.sum_cons]
      show _ = _ + (z + 0)
      rw [Int.add_zero]
theorem c_sumT {X : Cx} (hc : X.calm = true) : CallR X (.builtin "sum") (rSumT X.K) := by
  intro pins s σ H vs us Q I r h
  obtain ⟨a, ns, rfl, hs, q⟩ := h
  obtain ⟨its, rv, hl, _⟩ := I.tuple hs
  rw [Vals.ref1 r]
  have hh : X.A.in1.handled = none := by
    have := I.ok.hd hc
    simpa using this
  obtain ⟨o, ho, hrest⟩ := id hl
  have hlt : a < s.heap.objs.size := Heap.lt_size ho
  have hlen : its.length = ns.length := by rw [← rv.length, List.length_map]
  refine PySem.call_sum_walkG (wpAny_pyIter_tuple (show s.heap.IsTuple a its.toArray from hl) ?_)
  refine ⟨s.heap.objs.size, _, [s.heap.objs.size], _, _, _, fun i => ns.getD i 0, rfl, Walks.tuple (A := X.A.in1) hh s.heap.objs.size a (Nat.ne_of_lt hlt) its.toArray, ⟨⟨_, Heap.get?_push_size _ rfl, rfl, rfl⟩, IsTup.push hl _⟩, fun b hb => ?_, fun i v hv => ?_, fun h' tk t' hk => ?_⟩
  · rw [Heap.size_push]
    simp only [List.mem_cons, List.not_mem_nil, or_false] at hb
    rcases hb with rfl | rfl
    · exact Nat.lt_succ_self _
    · exact Nat.lt_succ_of_lt hlt
  · have hv2 : its[i]? = some v := by simpa using hv
    have hi : i < its.length := (List.getElem?_eq_some_iff.mp hv2).1
    obtain ⟨u, hu, ru⟩ := rv.get (i := i) (x := V.int (ns.getD i 0)) (by
      rw [List.getElem?_map, List.getD_eq_getElem?_getD, List.getElem?_eq_getElem (by omega : i < ns.length)]
      rfl)
    rw [hv2] at hu
    obtain ⟨t, e⟩ := ru
    exact ⟨t, by rw [Option.some.inj hu, e]⟩
  · have e : PySem.preSum (fun i => ns.getD i 0) its.toArray.size = ns.sum := by
      rw [preSum_list, List.size_toArray, List.take_of_length_le (by omega)]
    rw [e]
    exact ⟨.int ns.sum, H, I.kept (t' := tk) (fun b o e => hk b o (fun z => by
      rw [List.mem_singleton] at z
      rw [z] at e
      exact absurd (Heap.lt_size e) (Nat.lt_irrefl _)) (Heap.get?_push_of_some _ e)), ⟨_, rfl⟩, q⟩
theorem r_sumT {K : PySem.W.Frag} {H : Hp} {Q : VK} {a : Addr} {ns : List Int} (h : SqT K H a (ns.map V.int)) (q : Q (.int ns.sum) H) : rSumT K [.ref a] H Q := ⟨a, ns, rfl, h, q⟩
/-! ### while -/
def rWh (tb : TS) (D : Ends) (Pv : Nat → L2.St → Hp → Prop) (m : Nat) (σ : L2.St) (b : Bool) (H1 : Hp) : Prop :=
  if b = true then ∃ N : L2.St → Hp → Prop, (∀ σ' H', N σ' H' → ∃ m', m' < m ∧ Pv m' σ' H') ∧ tb { D with nx := N, ct := N, bk := D.nx } σ H1 else D.nx σ H1
theorem r_while {c : TT} {tb : TS} {D : Ends} {σ : L2.St} {H : Hp} (Pv : Nat → L2.St → Hp → Prop) (m0 : Nat) (h0 : Pv m0 σ H) (hs : ∀ m σ H, Pv m σ H → c σ H fun b H1 => rWh tb D Pv m σ b H1) : tWhile c tb D σ H := ⟨Pv, ⟨m0, h0⟩, hs⟩
theorem r_whT {tb : TS} {D : Ends} {Pv : Nat → L2.St → Hp → Prop} {m : Nat} {σ : L2.St} {H1 : Hp} (q : tb { D with nx := fun σ' H' => ∃ m', m' < m ∧ Pv m' σ' H', ct := fun σ' H' => ∃ m', m' < m ∧ Pv m' σ' H', bk := D.nx } σ H1) : rWh tb D Pv m σ true H1 := by
  unfold rWh
  rw [if_pos rfl]
  exact ⟨_, fun _ _ h => h, q⟩
theorem r_whF {tb : TS} {D : Ends} {Pv : Nat → L2.St → Hp → Prop} {m : Nat} {σ : L2.St} {H1 : Hp} (q : D.nx σ H1) : rWh tb D Pv m σ false H1 := by
  unfold rWh
  rw [if_neg Bool.false_ne_true]
  exact q
theorem r_whD {tb : TS} {D : Ends} {Pv : Nat → L2.St → Hp → Prop} {m : Nat} {σ : L2.St} {H1 : Hp} {p : Prop} [Decidable p] (h1 : p → tb { D with nx := fun σ' H' => ∃ m', m' < m ∧ Pv m' σ' H', ct := fun σ' H' => ∃ m', m' < m ∧ Pv m' σ' H', bk := D.nx } σ H1) (h2 : ¬ p → D.nx σ H1) : rWh tb D Pv m σ (decide p) H1 := by
  by_cases h : p
  · rw [decide_eq_true h]
    exact r_whT (h1 h)
  · rw [decide_eq_false h]
    exact r_whF (h2 h)
theorem ix_mod {xs : List V} {z : Int} {r n : Nat} {v : V} (e : z = ((r % n : Nat) : Int)) (h : xs[r % n]? = some v) : atI xs z = some v := at_of e h
/-! ### dicts with int keys -/
section
variable {σ : L2.St} {H : Hp} {Q : VK} {D : Ends} {ty td tv : TE} {v : V}
def rDk (x y : V) (H : Hp) (R : Option V → Prop) : Prop := ∃ a o, x = .ref a ∧ DGet H a y o ∧ R o
theorem r_dnotin (q : ty σ H fun y H1 => td σ H1 fun x H2 => rDk x y H2 fun o => Q (.bl (!o.isSome)) H2) : tDNotIn ty td σ H Q := q
theorem r_din (q : ty σ H fun y H1 => td σ H1 fun x H2 => rDk x y H2 fun o => Q (.bl o.isSome) H2) : tDIn ty td σ H Q := q
theorem r_dk {a : Addr} {kvs : List (Key × V)} {k : Int} {R : Option V → Prop} (h : H a = some (.dK kvs)) (q : R (valV kvs (Sum.inl k))) : rDk (.ref a) (.int k) H R := ⟨a, _, rfl, DGet.k (k := Sum.inl k) h, q⟩
def rDg (x y : V) (H : Hp) (Q : VK) : Prop := ∃ a v, x = .ref a ∧ DGet H a y (some v) ∧ Q v H
theorem r_dget (q : td σ H fun x H1 => ty σ H1 fun y H2 => rDg x y H2 Q) : tDGet td ty σ H Q := q
theorem r_dg {a : Addr} {kvs : List (Key × V)} {k : Int} (h : H a = some (.dK kvs)) (e : valV kvs (Sum.inl k) = some v) (q : Q v H) : rDg (.ref a) (.int k) H Q := ⟨a, v, rfl, by rw [← e]; exact DGet.k (k := Sum.inl k) h, q⟩
def rDp (x y v : V) (H : Hp) (Qn : Hp → Prop) : Prop := ∃ a H4, x = .ref a ∧ DPut H a y v H4 ∧ Qn H4
theorem r_dput (q : tv σ H fun v H1 => td σ H1 fun x H2 => ty σ H2 fun y H3 => rDp x y v H3 fun H4 => D.nx σ H4) : sDPut td ty tv D σ H := q
theorem r_dp {a : Addr} {kvs : List (Key × V)} {k : Int} {Qn : Hp → Prop} (h : H a = some (.dK kvs)) (hl : kvs.length < 100000) (q : Qn (upd H a (.dK (putK kvs (Sum.inl k) v)))) : rDp (.ref a) (.int k) v H Qn := ⟨a, _, rfl, DPut.k (k := Sum.inl k) h (szl hl), q⟩
theorem r_dnew (q : rNew (.dK []) H Q) : tDNewK σ H Q := q
end
/-- the list of f 0 .. f (n - 1) -/
def tabL (f : Nat → V) (n : Nat) : List V := (List.range n).map f
theorem tabL_len (f : Nat → V) (n : Nat) : (tabL f n).length = n := by simp [tabL]
theorem tabL_get (f : Nat → V) {n i : Nat} (h : i < n) : (tabL f n)[i]? = some (f i) := by
  unfold tabL
  rw [List.getElem?_map, List.getElem?_range h]
  rfl
theorem tabL_succ (f : Nat → V) (n : Nat) : tabL f (n + 1) = tabL f n ++ [f n] := by
  unfold tabL
  rw [List.range_succ, List.map_append]
  rfl
theorem tabL_last (f : Nat → V) (n : Nat) : atI (tabL f (n + 1)) (-1) = some (f n) := by
  rw [tabL_succ]
  exact atI_last _ _
theorem tabL_at (f : Nat → V) {n i : Nat} {z : Int} (e : z = (i : Int)) (h : i < n) : atI (tabL f n) z = some (f i) := at_of e (tabL_get f h)
/-! == and != of rows of ints -/
theorem dpInts {K : PySem.W.Frag} {H : Hp} : ∀ is : List Int, DpAll K H (is.map V.int) (is.map PyData.int)
  | [] => .nil
  | i :: is => .cons (.int i) (dpInts is)
theorem eqvInts : ∀ is js : List Int, PyData.eqvAll (is.map PyData.int) (js.map PyData.int) = decide (is = js)
  | [], [] => by simp [PyData.eqvAll]
  | [], _ :: _ => by simp [PyData.eqvAll]
  | _ :: _, [] => by simp [PyData.eqvAll]
  | a :: is, b :: js => by
    show (PyData.eqv (.int a) (.int b) && PyData.eqvAll (is.map PyData.int) (js.map PyData.int)) = _
    rw [eqvInts is js]
    show ((a == b) && decide (is = js)) = decide (a :: is = b :: js)
    by_cases h : a = b <;> by_cases h2 : is = js <;> simp [h, h2]
theorem layInts : ∀ is : List Int, PyData.canLayAll0 (is.map PyData.int) = true ∧ PyData.depthAll (is.map PyData.int) = 0
  | [] => ⟨rfl, rfl⟩
  | _ :: is => by simp [PyData.canLayAll0, PyData.canLay0, PyData.depthAll, PyData.depth, layInts is]
theorem shL (is : List Int) : SeqAt.shaped (.list (is.map PyData.int)) = true := by simp [SeqAt.shaped, PyData.canLay0, PyData.depth, layInts is]
theorem shT (is : List Int) : SeqAt.shaped (.tuple (is.map PyData.int)) = true := by simp [SeqAt.shaped, PyData.canLay0, PyData.depth, layInts is]
section
variable {K : PySem.W.Frag} {H : Hp} {Q : VK} {a b : Addr} {is js : List Int}
theorem r_eqTT (h : SqT K H a (is.map V.int)) (g : SqT K H b (js.map V.int)) (q : Q (.bl (decide (is = js))) H) : rEqD K (.ref a) (.ref b) H Q :=
  ⟨_, _, .tup h (dpInts is), .tup g (dpInts js), shT is, shT js, by rw [show PyData.eqv (.tuple (is.map PyData.int)) (.tuple (js.map PyData.int)) = decide (is = js) from eqvInts is js]; exact q⟩
theorem r_neTT (h : SqT K H a (is.map V.int)) (g : SqT K H b (js.map V.int)) (q : Q (.bl (!decide (is = js))) H) : rNeD K (.ref a) (.ref b) H Q :=
  ⟨_, _, .tup h (dpInts is), .tup g (dpInts js), shT is, shT js, by rw [show PyData.eqv (.tuple (is.map PyData.int)) (.tuple (js.map PyData.int)) = decide (is = js) from eqvInts is js]; exact q⟩
theorem r_eqLL (h : SqL K H a (is.map V.int)) (g : SqL K H b (js.map V.int)) (q : Q (.bl (decide (is = js))) H) : rEqD K (.ref a) (.ref b) H Q :=
  ⟨_, _, .lst h (dpInts is), .lst g (dpInts js), shL is, shL js, by rw [show PyData.eqv (.list (is.map PyData.int)) (.list (js.map PyData.int)) = decide (is = js) from eqvInts is js]; exact q⟩
theorem r_neLL (h : SqL K H a (is.map V.int)) (g : SqL K H b (js.map V.int)) (q : Q (.bl (!decide (is = js))) H) : rNeD K (.ref a) (.ref b) H Q :=
  ⟨_, _, .lst h (dpInts is), .lst g (dpInts js), shL is, shL js, by rw [show PyData.eqv (.list (is.map PyData.int)) (.list (js.map PyData.int)) = decide (is = js) from eqvInts is js]; exact q⟩
end
/-- another cell than one that was free -/
theorem Same.ne_free {H H' : Hp} {a b : Addr} {o : HO} (h : H a = some o) (f : H b = none) : a ≠ b := ne_of_none h f
def rTri (vs : List V) (R : V → V → V → Prop) : Prop := ∃ u v w, vs = [u, v, w] ∧ R u v w
theorem r_par3 {tr : TA} {D : Ends} {σ : L2.St} {H : Hp} {i j l : Nat} (q : tr σ H fun vs H1 => rTri vs fun u v w => gName i u σ H1 fun σ' H' => gName j v σ' H' fun σ2 H2 => gName l w σ2 H2 D.nx) : tPar3 i j l tr D σ H := q
theorem r_tri {u v w : V} {R : V → V → V → Prop} (q : R u v w) : rTri [u, v, w] R := ⟨u, v, w, rfl, q⟩
theorem ix_listK {X : Cx} {K : PySem.W.Frag} (h : X.K = K) : IxR X (rIxL K) := h ▸ ix_list
theorem ix_tupK {X : Cx} {K : PySem.W.Frag} (h : X.K = K) : IxR X (rIxT K) := h ▸ ix_tup
theorem c_lenK {X : Cx} {K : PySem.W.Frag} (h : X.K = K) : CallR X (.builtin "len") (rLenL K) := h ▸ c_len
theorem r_slT {K : PySem.W.Frag} {H : Hp} {Q : VK} {a : Addr} {xs : List V} {k : Nat} (h : SqT K H a xs) (hk : k < xs.length) (q : rNew (.tup (xs.take k)) H Q) : rSlT K (.ref a) none (some (k : Int)) H Q := by
  have e : HT.sIx xs.length xs.length (some (k : Int)) = k := by
    rw [HT.sIx_nat]
    exact Nat.min_eq_left (Nat.le_of_lt hk)
  have e0 : cutV xs none (some (k : Int)) = xs.take k := by
    show (xs.drop 0).take (HT.sIx xs.length xs.length (some (k : Int)) - 0) = _
    rw [e]
    rfl
  refine ⟨a, xs, rfl, h, fun z => ?_, ?_⟩
  · have := z.2
    rw [e] at this
    omega
  · rw [e0]
    exact q
theorem But.mut {a p : Addr} {H H' : Hp} {o : HO} (x : But a H H') (hp : H p = none) : But a H (L2.upd H' p o) := fun b u n e => by
  rw [upd_ne (ne_of_none e hp)]
  exact x b u n e
theorem But.same {a : Addr} {H H1 H2 : Hp} (x : But a H H1) (s : Same H1 H2) : But a H H2 := fun b o n h => s b o (x b o n h)
theorem Src.upd_ne {H : Hp} {a p : Addr} {o : HO} (x : Src H a) (n : p ≠ a) : Src (L2.upd H p o) a := by
  obtain ⟨c0, c1, c2, h⟩ := x
  exact ⟨c0, c1, c2, by rw [L2.upd_ne (Ne.symm n)]; exact h⟩
theorem tabL_atA (f : Nat → V) {n i : Nat} {z : Int} {zs : List V} (e : z = (i : Int)) (h : i < n) : atI (tabL f n ++ zs) z = some (f i) := by
  refine at_of e ?_
  rw [List.getElem?_append_left (by rw [tabL_len]; exact h)]
  exact tabL_get f h
/-! for i, x in enumerate(xs) -/
def rEn (K : PySem.W.Frag) (vs : List V) (H : Hp) (R : Addr → Prop) : Prop := ∃ a xs, vs = [V.ref a] ∧ SqL K H a xs ∧ R a
theorem r_enum {K : PySem.W.Frag} {tr : TA} {σ : L2.St} {H : Hp} {R : It → Hp → Prop} (q : tr σ H fun vs H1 => rEn K vs H1 fun a => R (Ite K a) H1) : iEnum K tr σ H R := q
theorem r_en {K : PySem.W.Frag} {H : Hp} {a : Addr} {xs : List V} {R : Addr → Prop} (h : SqL K H a xs) (q : R a) : rEn K [.ref a] H R := ⟨a, xs, rfl, h, q⟩
theorem r_forE {K : PySem.W.Frag} {a : Addr} {xs : List V} {g : TG} {tb : TS} {D : Ends} {σ : L2.St} {H : Hp} (Pv : Nat → L2.St → Hp → Prop) (h0 : Pv 0 σ H) (hl : ∀ i σ H, i ≤ xs.length → Pv i σ H → SqL K H a xs)
    (hs : ∀ i x σ H T H', xs[i]? = some x → Pv i σ H → H T = none → Same H H' → H' T = some (.tup [.int (i : Nat), x]) → g (.ref T) σ H' fun σ2 H2 => tb { D with nx := Pv (i + 1), ct := Pv (i + 1), bk := D.nx } σ2 H2) (hd : ∀ σ H, Pv xs.length σ H → D.nx σ H) : rFor g tb D σ (Ite K a) H := by
  refine ⟨fun i m σ H => m = xs.length - i ∧ i ≤ xs.length ∧ Pv i σ H, ⟨_, rfl, Nat.zero_le _, h0⟩, ?_⟩
  rintro i m σ H ⟨rfl, hi, h⟩
  rcases Nat.lt_or_ge i xs.length with z | z
  · refine .inr ⟨⟨xs, xs[i], hl i σ H hi h, List.getElem?_eq_getElem z⟩, Pv (i + 1), fun σ' H' p => ⟨_, ?_, rfl, z, p⟩, ?_⟩
    · omega
    · rintro v H' ⟨T, x, rfl, hT, rfl, hx⟩
      exact hs i x σ H T _ (hx xs (hl i σ H hi h)) h hT (same_new hT) upd_same
  · have e : i = xs.length := by omega
    subst e
    exact .inl ⟨⟨xs, hl _ σ H hi h, Nat.le_refl _⟩, hd σ H h⟩
/-- the way past a test that may be left out: first what follows, then the test's own way to it -/
theorem r_decK {p : Prop} [Decidable p] {A B : Prop} (q : B) (h1 : B → p → A) : if decide p = true then A else B := by
  by_cases h : p
  · rw [decide_eq_true h]
    exact h1 q h
  · rw [decide_eq_false h]
    exact q
theorem r_neB {i j : Bool} {H : Hp} {Q : VK} (q : Q (.bl (!decide (i = j))) H) : rNe (.bl i) (.bl j) H Q := ⟨rfl, by simpa using q⟩
theorem r_eqB {i j : Bool} {H : Hp} {Q : VK} (q : Q (.bl (decide (i = j))) H) : rEq (.bl i) (.bl j) H Q := ⟨rfl, by simpa using q⟩
theorem r_BM0 {K : PySem.W.Frag} {to : TE} {σ : L2.St} {H : Hp} {Q : VK} {T : String} {rm : V → List V → Hp → VK → Prop} (q : to σ H fun x H1 => rTy K T x H1 (rm x [] H1 Q)) : tBM0 K T rm to σ H Q := q
theorem r_reverse {l : Addr} {xs : List V} {H : Hp} {Q : VK} (h : H l = some (.lst xs)) (q : Q .non (upd H l (.lst xs.reverse))) : rReverse (.ref l) [] H Q := ⟨l, xs, rfl, rfl, h, q⟩
def rRgA (x : V) (R : Int → Int → Prop) : Prop := ∃ n, x = .int n ∧ R 0 n
def rRgL (a b : Int) (H : Hp) (Q : VK) : Prop := RgOk a b ∧ ∀ q, H q = none → Q (.ref q) (upd H q (.lst (rgV a b)))
theorem r_lstRg {ta : TE} {σ : L2.St} {H : Hp} {Q : VK} (q : ta σ H fun x H1 => rRgA x fun a b => rRgL a b H1 Q) : tLstRg (tRg1 ta) σ H Q := q
theorem r_rgA {n : Int} {R : Int → Int → Prop} (q : R 0 n) : rRgA (.int n) R := ⟨n, rfl, q⟩
theorem r_rgL {b : Int} {H : Hp} {Q : VK} (h0 : 0 ≤ b) (h1 : b ≤ 16777216) (q : rNew (.lst (rgV 0 b)) H Q) : rRgL 0 b H Q := ⟨RgOk.of_le (Int.le_refl 0) h1 (by decide) h0, q⟩
/-! == of a list of a row of ints and ints -/
theorem eqvHT (A B I J : List Int) : PyData.eqv (.list (.tuple (A.map PyData.int) :: I.map PyData.int)) (.list (.tuple (B.map PyData.int) :: J.map PyData.int)) = (decide (A = B) && decide (I = J)) := by
  show (PyData.eqvAll (A.map PyData.int) (B.map PyData.int) && PyData.eqvAll (I.map PyData.int) (J.map PyData.int)) = _
  rw [eqvInts, eqvInts]
theorem eqvHL (A B I J : List Int) : PyData.eqv (.list (.list (A.map PyData.int) :: I.map PyData.int)) (.list (.list (B.map PyData.int) :: J.map PyData.int)) = (decide (A = B) && decide (I = J)) := by
  show (PyData.eqvAll (A.map PyData.int) (B.map PyData.int) && PyData.eqvAll (I.map PyData.int) (J.map PyData.int)) = _
  rw [eqvInts, eqvInts]
theorem shHT (A I : List Int) : SeqAt.shaped (.list (.tuple (A.map PyData.int) :: I.map PyData.int)) = true := by simp [SeqAt.shaped, PyData.canLay0, PyData.depth, PyData.canLayAll0, PyData.depthAll, layInts]
theorem shHL (A I : List Int) : SeqAt.shaped (.list (.list (A.map PyData.int) :: I.map PyData.int)) = true := by simp [SeqAt.shaped, PyData.canLay0, PyData.depth, PyData.canLayAll0, PyData.depthAll, layInts]
theorem r_neHT {K : PySem.W.Frag} {H : Hp} {Q : VK} {a b t u : Addr} {A B I J : List Int} (h : SqL K H a (.ref t :: I.map V.int)) (ht : SqT K H t (A.map V.int)) (g : SqL K H b (.ref u :: J.map V.int)) (gu : SqT K H u (B.map V.int))
    (q : Q (.bl (!(decide (A = B) && decide (I = J)))) H) : rNeD K (.ref a) (.ref b) H Q :=
  ⟨_, _, .lst h (.cons (.tup ht (dpInts A)) (dpInts I)), .lst g (.cons (.tup gu (dpInts B)) (dpInts J)), shHT A I, shHT B J, by rw [eqvHT]; exact q⟩
theorem r_eqHL {K : PySem.W.Frag} {H : Hp} {Q : VK} {a b t u : Addr} {A B I J : List Int} (h : SqL K H a (.ref t :: I.map V.int)) (ht : SqL K H t (A.map V.int)) (g : SqL K H b (.ref u :: J.map V.int)) (gu : SqL K H u (B.map V.int))
    (q : Q (.bl (decide (A = B) && decide (I = J))) H) : rEqD K (.ref a) (.ref b) H Q :=
  ⟨_, _, .lst h (.cons (.lst ht (dpInts A)) (dpInts I)), .lst g (.cons (.lst gu (dpInts B)) (dpInts J)), shHL A I, shHL B J, by rw [eqvHL]; exact q⟩
theorem mem_rgV {a b : Int} {v : V} (h : v ∈ rgV a b) : ∃ i : Int, v = .int i ∧ a ≤ i ∧ i < b := by
  unfold rgV at h
  obtain ⟨n, hn, rfl⟩ := List.mem_map.mp h
  have := List.mem_range.mp hn
  exact ⟨_, rfl, by omega, by omega⟩
end Kr

/-! Packing rows into heap pages: the plain mathematics (no Python here). -/
namespace Pk
/-- the length of a row -/
def lenAt (ls : List Int) (r : Nat) : Int := ls.getD (r % ls.length) 0
/-- how many units k rows from row r on have -/
def pre (ls : List Int) (r : Nat) : Nat → Int
  | 0 => 0
  | k + 1 => pre ls r k + lenAt ls (r + k)
/-- lengths that may be packed -/
structure Ok (ls : List Int) (sz : Int) : Prop where
  l1 : 1 ≤ ls.length
  l6 : ls.length ≤ 12
  all : ∀ l ∈ ls, 1 ≤ l ∧ l ≤ sz
  s64 : sz ≤ 1000
section
variable {ls : List Int} {sz : Int}
theorem len_pos (o : Ok ls sz) (r : Nat) : 1 ≤ lenAt ls r ∧ lenAt ls r ≤ sz := by
  have h : r % ls.length < ls.length := Nat.mod_lt _ o.l1
  unfold lenAt
  rw [List.getD_eq_getElem?_getD, List.getElem?_eq_getElem h]
  exact o.all _ (List.getElem_mem h)
theorem len_at (o : Ok ls sz) (r : Nat) : ls[r % ls.length]? = some (lenAt ls r) := by
  have h : r % ls.length < ls.length := Nat.mod_lt _ o.l1
  unfold lenAt
  rw [List.getD_eq_getElem?_getD, List.getElem?_eq_getElem h]
  rfl
theorem len_mod {r s : Nat} (h : r % ls.length = s % ls.length) : lenAt ls r = lenAt ls s := by
  unfold lenAt
  rw [h]
theorem add_mod_eq {n r s k : Nat} (h : r % n = s % n) : (r + k) % n = (s + k) % n := by
  rw [Nat.add_mod, h, ← Nat.add_mod]
theorem pre_mod {r s : Nat} (h : r % ls.length = s % ls.length) : ∀ k, pre ls r k = pre ls s k
  | 0 => rfl
  | k + 1 => by
    show pre ls r k + lenAt ls (r + k) = pre ls s k + lenAt ls (s + k)
    rw [pre_mod h k, len_mod (add_mod_eq h)]
theorem pre_add (r : Nat) (a : Nat) : ∀ b, pre ls r (a + b) = pre ls r a + pre ls (r + a) b
  | 0 => by
    show pre ls r a = pre ls r a + 0
    omega
  | b + 1 => by
    show pre ls r (a + b) + lenAt ls (r + (a + b)) = pre ls r a + (pre ls (r + a) b + lenAt ls (r + a + b))
    rw [pre_add r a b, Nat.add_assoc r a b]
    omega
theorem pre_mono (o : Ok ls sz) (r : Nat) {a b : Nat} (h : a ≤ b) : pre ls r a + ((b : Int) - a) ≤ pre ls r b := by
  induction b with
  | zero =>
    have : a = 0 := by omega
    subst this
    simp
  | succ b ih =>
    have l := (len_pos o (r + b)).1
    by_cases e : a = b + 1
    · subst e
      omega
    · have := ih (by omega)
      show pre ls r a + (((b + 1 : Nat) : Int) - a) ≤ pre ls r b + lenAt ls (r + b)
      omega
theorem pre_ge (o : Ok ls sz) (r k : Nat) : (k : Int) ≤ pre ls r k := by
  have := pre_mono o r (Nat.zero_le k)
  have e : pre ls r 0 = 0 := rfl
  omega
/-- k rows from r on fit, one more does not -/
def Fill (ls : List Int) (sz : Int) (r k : Nat) : Prop := pre ls r k ≤ sz ∧ sz < pre ls r (k + 1)
theorem Fill.inj (o : Ok ls sz) {r k j : Nat} (h : Fill ls sz r k) (g : Fill ls sz r j) : k = j := by
  rcases Nat.lt_trichotomy k j with z | z | z
  · have := pre_mono o r (show k + 1 ≤ j from z)
    have h2 := h.2
    have g1 := g.1
    omega
  · exact z
  · have := pre_mono o r (show j + 1 ≤ k from z)
    have h1 := h.1
    have g2 := g.2
    omega
theorem Fill.le (o : Ok ls sz) {r k : Nat} (h : Fill ls sz r k) : (k : Int) ≤ sz := by
  have := pre_ge o r k
  have := h.1
  omega
theorem Fill.pos (o : Ok ls sz) {r k : Nat} (h : Fill ls sz r k) : 1 ≤ k := by
  rcases k with _ | k
  · have h2 : sz < pre ls r 1 := h.2
    have e : pre ls r 1 = 0 + lenAt ls (r + 0) := rfl
    have := (len_pos o (r + 0)).2
    omega
  · omega
theorem Fill.mod {r s k : Nat} (h : r % ls.length = s % ls.length) (f : Fill ls sz r k) : Fill ls sz s k := by
  unfold Fill
  rw [← pre_mod h, ← pre_mod h]
  exact f
/-- the greedy count, with fuel -/
def cntF (ls : List Int) (r : Nat) (left : Int) : Nat → Nat
  | 0 => 0
  | f + 1 => if lenAt ls r ≤ left then cntF ls (r + 1) (left - lenAt ls r) f + 1 else 0
theorem pre_one (r : Nat) (k : Nat) : pre ls r (k + 1) = lenAt ls r + pre ls (r + 1) k := by
  have e := pre_add (ls := ls) r 1 k
  rw [Nat.add_comm k 1, e]
  show (0 + lenAt ls (r + 0)) + pre ls (r + 1) k = lenAt ls r + pre ls (r + 1) k
  rw [Nat.add_zero]
  omega
theorem cntF_fill (o : Ok ls sz) : ∀ (f r : Nat) (left : Int), 0 ≤ left → left < f → pre ls r (cntF ls r left f) ≤ left ∧ left < pre ls r (cntF ls r left f + 1)
  | 0, r, left, h0, h1 => by omega
  | f + 1, r, left, h0, h1 => by
    have lp := (len_pos o r).1
    unfold cntF
    split
    · rename_i h
      have ih := cntF_fill o f (r + 1) (left - lenAt ls r) (by omega) (by omega)
      rw [pre_one, pre_one]
      omega
    · rename_i h
      have e : pre ls r 1 = lenAt ls r := by
        rw [pre_one]
        show lenAt ls r + 0 = _
        omega
      exact ⟨h0, by rw [e]; omega⟩
def cnt (ls : List Int) (sz : Int) (r : Nat) : Nat := cntF ls r sz (sz.toNat + 1)
theorem cnt_fill (o : Ok ls sz) (r : Nat) : Fill ls sz r (cnt ls sz r) := by
  have := (len_pos o r).1
  have := (len_pos o r).2
  exact cntF_fill o _ r sz (by omega) (by omega)
theorem cnt_is (o : Ok ls sz) {r k : Nat} (h : Fill ls sz r k) : cnt ls sz r = k := (cnt_fill o r).inj o h
theorem cnt_mod (o : Ok ls sz) {r s : Nat} (h : r % ls.length = s % ls.length) : cnt ls sz r = cnt ls sz s := cnt_is o ((cnt_fill o s).mod h.symm)
theorem cnt_pos (o : Ok ls sz) (r : Nat) : 1 ≤ cnt ls sz r := (cnt_fill o r).pos o
theorem cnt_le (o : Ok ls sz) (r : Nat) : (cnt ls sz r : Int) ≤ sz := (cnt_fill o r).le o
/-- the first row of each heap page -/
def st (ls : List Int) (sz : Int) : Nat → Nat
  | 0 => 0
  | m + 1 => st ls sz m + cnt ls sz (st ls sz m)
theorem st_succ (m : Nat) : st ls sz (m + 1) = st ls sz m + cnt ls sz (st ls sz m) := rfl
theorem st_lt (o : Ok ls sz) (m : Nat) : st ls sz m < st ls sz (m + 1) := by
  have := cnt_pos o (st ls sz m)
  rw [st_succ]
  omega
theorem st_mono (o : Ok ls sz) {a b : Nat} (h : a < b) : st ls sz a < st ls sz b := by
  induction b with
  | zero => omega
  | succ b ih =>
    have l := st_lt o b
    rcases Nat.lt_or_ge a b with z | z
    · have := ih z
      omega
    · have : a = b := by omega
      subst this
      exact l
theorem st_le (o : Ok ls sz) {a b : Nat} (h : a ≤ b) : st ls sz a ≤ st ls sz b := by
  rcases Nat.lt_or_ge a b with z | z
  · exact Nat.le_of_lt (st_mono o z)
  · have : a = b := by omega
    subst this
    exact Nat.le_refl _
theorem st_ge (o : Ok ls sz) (m : Nat) : m ≤ st ls sz m := by
  induction m with
  | zero => exact Nat.zero_le _
  | succ m ih =>
    have := st_lt o m
    omega
theorem st_up (o : Ok ls sz) (m : Nat) : (st ls sz m : Int) ≤ m * sz := by
  induction m with
  | zero => simp [st]
  | succ m ih =>
    have := cnt_le o (st ls sz m)
    have e : ((m + 1 : Nat) : Int) * sz = m * sz + sz := by
      rw [Int.natCast_add, Int.add_mul]
      simp
    rw [st_succ, e, Int.natCast_add]
    omega
/-- places that are equal lead on alike -/
theorem st_alike (o : Ok ls sz) {a b : Nat} (h : st ls sz a % ls.length = st ls sz b % ls.length) : ∀ t, st ls sz (a + t) % ls.length = st ls sz (b + t) % ls.length ∧ st ls sz (a + t) - st ls sz a = st ls sz (b + t) - st ls sz b
  | 0 => ⟨h, by simp⟩
  | t + 1 => by
    obtain ⟨h1, h2⟩ := st_alike o h t
    have e := cnt_mod (sz := sz) o h1
    have g1 : st ls sz (a + (t + 1)) = st ls sz (a + t) + cnt ls sz (st ls sz (a + t)) := rfl
    have g2 : st ls sz (b + (t + 1)) = st ls sz (b + t) + cnt ls sz (st ls sz (b + t)) := rfl
    have k1 := st_le o (show a ≤ a + t by omega)
    have k2 := st_le o (show b ≤ b + t by omega)
    rw [g1, g2, e]
    exact ⟨add_mod_eq h1, by omega⟩
/-- a cycle: from page j on all comes again k - j pages and so many rows later -/
structure Cyc (ls : List Int) (sz : Int) (j k : Nat) : Prop where
  lt : j < k
  eq : st ls sz j % ls.length = st ls sz k % ls.length
  dis : ∀ a b, a < b → b < k → st ls sz a % ls.length ≠ st ls sz b % ls.length
/-- how many rows a cycle has -/
def rws (ls : List Int) (sz : Int) (j k : Nat) : Nat := st ls sz k - st ls sz j
theorem Cyc.rows (c : Cyc ls sz j k) (o : Ok ls sz) : 1 ≤ rws ls sz j k := by
  have := st_mono o c.lt
  unfold rws
  omega
theorem Cyc.step (c : Cyc ls sz j k) (o : Ok ls sz) {m : Nat} (h : j ≤ m) : st ls sz (m + (k - j)) = st ls sz m + rws ls sz j k := by
  obtain ⟨t, rfl⟩ := Nat.exists_eq_add_of_le h
  have := (st_alike o c.eq t).2
  have k1 := st_le o (show j ≤ j + t by omega)
  have k2 := st_le o (show k ≤ k + t by omega)
  have k3 := st_mono o c.lt
  have lt := c.lt
  have e : j + t + (k - j) = k + t := by omega
  rw [e]
  unfold rws
  omega
theorem Cyc.steps (c : Cyc ls sz j k) (o : Ok ls sz) {m : Nat} (h : j ≤ m) : ∀ t, st ls sz (m + t * (k - j)) = st ls sz m + t * rws ls sz j k
  | 0 => by simp
  | t + 1 => by
    have ih := Cyc.steps c o h t
    have e : m + (t + 1) * (k - j) = (m + t * (k - j)) + (k - j) := by
      rw [Nat.succ_mul]
      omega
    rw [e, c.step o (show j ≤ m + t * (k - j) by omega), ih, Nat.succ_mul]
    omega
theorem Cyc.place (c : Cyc ls sz j k) (o : Ok ls sz) {m : Nat} (h : j ≤ m) (t : Nat) : st ls sz (m + t * (k - j)) % ls.length = st ls sz m % ls.length := by
  induction t with
  | zero => simp
  | succ t ih =>
    have lt := c.lt
    have h1 : j ≤ m + t * (k - j) := by omega
    obtain ⟨u, hu⟩ := Nat.exists_eq_add_of_le h1
    have al := (st_alike o c.eq u).1
    have e : m + (t + 1) * (k - j) = k + u := by
      rw [Nat.succ_mul]
      omega
    rw [e, ← al, ← hu, ih]
/-- different places are no more than the lengths -/
theorem dis_le (o : Ok ls sz) {k : Nat} (dis : ∀ a b, a < b → b < k → st ls sz a % ls.length ≠ st ls sz b % ls.length) : k ≤ ls.length := by
  have key : ∀ (n k : Nat) (f : Nat → Nat), (∀ a, a < k → f a < n) → (∀ a b, a < b → b < k → f a ≠ f b) → k ≤ n := by
    intro n
    induction n with
    | zero =>
      intro k f h _
      rcases k with _ | k
      · exact Nat.le_refl _
      · exact absurd (h 0 (by omega)) (by omega)
    | succ n ih =>
      intro k f h d
      rcases k with _ | k
      · omega
      · -- move the value n out of the way
        have := ih k (fun a => if f a = n then f k else f a) (fun a ha => by
          show (if f a = n then f k else f a) < n
          have h1 := h a (by omega)
          have h2 := h k (by omega)
          have h3 := d a k ha (by omega)
          split <;> omega) (fun a b hab hb => by
          show (if f a = n then f k else f a) ≠ (if f b = n then f k else f b)
          have h3 := d a k (by omega) (by omega)
          have h4 := d b k hb (by omega)
          have h5 := d a b hab (by omega)
          split <;> split <;> omega)
        omega
  exact key ls.length k (fun a => st ls sz a % ls.length) (fun a _ => Nat.mod_lt _ o.l1) dis
theorem Cyc.le (c : Cyc ls sz j k) (o : Ok ls sz) : k ≤ ls.length := dis_le o c.dis
/-- how many whole cycles off a row is -/
theorem Cyc.turns (c : Cyc ls sz j k) (o : Ok ls sz) (r : Nat) : ∃ t : Nat, (if ((r : Int) - (st ls sz j : Nat)) / (rws ls sz j k : Nat) > 0 then ((r : Int) - (st ls sz j : Nat)) / (rws ls sz j k : Nat) else 0) = (t : Int) ∧
    t * rws ls sz j k ≤ r ∧ (t = 0 ∨ st ls sz j + t * rws ls sz j k ≤ r) ∧ r - t * rws ls sz j k < st ls sz k ∧ t ≤ r := by
  have hR := c.rows o
  have hk := st_mono o c.lt
  have hRd : st ls sz j + rws ls sz j k = st ls sz k := by unfold rws; omega
  generalize rws ls sz j k = R at *
  generalize hsj : st ls sz j = S at *
  have hdm := Int.emod_add_mul_ediv ((r : Int) - (S : Nat)) (R : Nat)
  have hm0 := Int.emod_nonneg ((r : Int) - (S : Nat)) (show ((R : Nat) : Int) ≠ 0 by omega)
  have hm1 := Int.emod_lt_of_pos ((r : Int) - (S : Nat)) (show (0 : Int) < ((R : Nat) : Int) by omega)
  generalize ((r : Int) - (S : Nat)) / ((R : Nat) : Int) = D at *
  generalize ((r : Int) - (S : Nat)) % ((R : Nat) : Int) = M at *
  by_cases h : D > 0
  · rw [if_pos h]
    obtain ⟨t, rfl⟩ := Int.eq_ofNat_of_zero_le (show 0 ≤ D by omega)
    have e : ((t * R : Nat) : Int) = (R : Int) * t := by rw [Int.natCast_mul, Int.mul_comm]
    have hle : t ≤ t * R := Nat.le_mul_of_pos_right t hR
    refine ⟨t, rfl, ?_, .inr ?_, ?_, ?_⟩ <;> omega
  · rw [if_neg h]
    refine ⟨0, rfl, by simp, .inl rfl, ?_, by omega⟩
    have : (R : Int) * D ≤ 0 := Int.mul_nonpos_of_nonneg_of_nonpos (by omega) (by omega)
    simp
    omega
/-- the page of a row, by the cycle: t whole cycles off -/
theorem Cyc.on (c : Cyc ls sz j k) (o : Ok ls sz) {r t m : Nat} (h1 : t * rws ls sz j k ≤ r) (h2 : t = 0 ∨ st ls sz j + t * rws ls sz j k ≤ r) (hm : st ls sz m ≤ r - t * rws ls sz j k ∧ r - t * rws ls sz j k < st ls sz (m + 1)) :
    st ls sz (m + t * (k - j)) ≤ r ∧ r < st ls sz (m + t * (k - j) + 1) := by
  rcases h2 with rfl | h2
  · simpa using hm
  · have hj : j ≤ m := by
      rcases Nat.lt_or_ge m j with z | z
      · have := st_le o (show m + 1 ≤ j from z)
        omega
      · exact z
    have e1 := c.steps o hj t
    have e2 := c.steps o (show j ≤ m + 1 by omega) t
    have e3 : m + 1 + t * (k - j) = m + t * (k - j) + 1 := by omega
    rw [e3] at e2
    omega
/-- the page of a row -/
def On (ls : List Int) (sz : Int) (m r : Nat) : Prop := st ls sz m ≤ r ∧ r < st ls sz (m + 1)
theorem On.inj (o : Ok ls sz) {m n r : Nat} (h : On ls sz m r) (g : On ls sz n r) : m = n := by
  rcases Nat.lt_trichotomy m n with z | z | z
  · have := st_le o (show m + 1 ≤ n from z)
    have h2 := h.2
    have g1 := g.1
    omega
  · exact z
  · have := st_le o (show n + 1 ≤ m from z)
    have h1 := h.1
    have g2 := g.2
    omega
theorem on_ex (o : Ok ls sz) (r : Nat) : ∃ m, On ls sz m r := by
  induction r with
  | zero =>
    exact ⟨0, Nat.le_refl _, by have := st_lt o 0; have e : st ls sz 0 = 0 := rfl; omega⟩
  | succ r ih =>
    obtain ⟨m, h1, h2⟩ := ih
    by_cases z : r + 1 < st ls sz (m + 1)
    · exact ⟨m, by omega, z⟩
    · exact ⟨m + 1, by omega, by have := st_lt o (m + 1); omega⟩
theorem On.mono (o : Ok ls sz) {m n r s : Nat} (h : On ls sz m r) (g : On ls sz n s) (l : r ≤ s) : m ≤ n := by
  rcases Nat.lt_or_ge n m with z | z
  · have := st_le o (show n + 1 ≤ m from z)
    have := h.1
    have := g.2
    omega
  · exact z
theorem fit_le (o : Ok ls sz) {r e : Nat} (h : pre ls r e ≤ sz) : e ≤ cnt ls sz r := by
  rcases Nat.lt_or_ge (cnt ls sz r) e with z | z
  · have := pre_mono o r (show cnt ls sz r + 1 ≤ e from z)
    have h2 := (cnt_fill o r).2
    omega
  · exact z
/-- places of a cycle come again -/
theorem Cyc.again (c : Cyc ls sz j k) (o : Ok ls sz) {m : Nat} (h : j ≤ m) : st ls sz (m + (k - j)) % ls.length = st ls sz m % ls.length := by
  have := c.place o h 1
  rwa [Nat.one_mul] at this
/-- every page's place is that of one of the first pages -/
theorem Cyc.near (c : Cyc ls sz j k) (o : Ok ls sz) : ∀ m, j ≤ m → ∃ i, j ≤ i ∧ i < k ∧ st ls sz m % ls.length = st ls sz i % ls.length := by
  intro m
  induction m using Nat.strongRecOn with
  | _ m ih =>
    intro h
    rcases Nat.lt_or_ge m k with z | z
    · exact ⟨m, h, z, rfl⟩
    · have lt := c.lt
      obtain ⟨i, h1, h2, h3⟩ := ih (m - (k - j)) (by omega) (by omega)
      refine ⟨i, h1, h2, ?_⟩
      rw [← h3]
      have := c.again o (show j ≤ m - (k - j) by omega)
      rwa [show m - (k - j) + (k - j) = m by omega] at this
/-- a search by first page, then by pages, ends at the cycle -/
theorem Cyc.only (c : Cyc ls sz j k) (o : Ok ls sz) {f p : Nat} (hf : f ≤ j) (hp : 1 ≤ p) (hs : f = j → p ≤ k - j) (e : st ls sz f % ls.length = st ls sz (f + p) % ls.length) : f = j ∧ p = k - j := by
  have lt := c.lt
  rcases Nat.lt_or_ge f j with z | z
  · exfalso
    rcases Nat.lt_or_ge (f + p) k with y | y
    · exact c.dis f (f + p) (by omega) y e
    · obtain ⟨i, h1, h2, h3⟩ := c.near o (f + p) (by omega)
      exact c.dis f i (by omega) h2 (e.trans h3)
  · have hj : f = j := by omega
    have := hs hj
    refine ⟨hj, ?_⟩
    rcases Nat.lt_or_ge (f + p) k with y | y
    · exact absurd e (c.dis f (f + p) (by omega) y)
    · omega
/-- how many whole cycles off a page is -/
theorem Cyc.pturns (c : Cyc ls sz j k) (m : Nat) : ∃ t : Nat, (if ((m : Int) - (j : Nat)) / ((k - j : Nat) : Int) > 0 then ((m : Int) - (j : Nat)) / ((k - j : Nat) : Int) else 0) = (t : Int) ∧
    t * (k - j) ≤ m ∧ (t = 0 ∨ j ≤ m - t * (k - j)) ∧ m - t * (k - j) < k ∧ t ≤ m := by
  have lt := c.lt
  have hR : 0 < k - j := by omega
  have hjk : j + (k - j) = k := by omega
  generalize k - j = R at *
  have hdm := Int.emod_add_mul_ediv ((m : Int) - (j : Nat)) (R : Nat)
  have hm0 := Int.emod_nonneg ((m : Int) - (j : Nat)) (show ((R : Nat) : Int) ≠ 0 by omega)
  have hm1 := Int.emod_lt_of_pos ((m : Int) - (j : Nat)) (show (0 : Int) < ((R : Nat) : Int) by omega)
  generalize ((m : Int) - (j : Nat)) / ((R : Nat) : Int) = D at *
  generalize ((m : Int) - (j : Nat)) % ((R : Nat) : Int) = M at *
  by_cases h : D > 0
  · rw [if_pos h]
    obtain ⟨t, rfl⟩ := Int.eq_ofNat_of_zero_le (show 0 ≤ D by omega)
    have e : ((t * R : Nat) : Int) = (R : Int) * t := by rw [Int.natCast_mul, Int.mul_comm]
    have hle : t ≤ t * R := Nat.le_mul_of_pos_right t hR
    refine ⟨t, rfl, ?_, .inr ?_, ?_, ?_⟩ <;> omega
  · rw [if_neg h]
    refine ⟨0, rfl, by simp, .inl rfl, ?_, by omega⟩
    have : (R : Int) * D ≤ 0 := Int.mul_nonpos_of_nonneg_of_nonpos (by omega) (by omega)
    simp
    omega
/-- the first row of a page, by the cycle: t whole cycles off -/
theorem Cyc.start (c : Cyc ls sz j k) (o : Ok ls sz) {m t : Nat} (h1 : t * (k - j) ≤ m) (h2 : t = 0 ∨ j ≤ m - t * (k - j)) : st ls sz m = st ls sz (m - t * (k - j)) + t * rws ls sz j k := by
  rcases h2 with rfl | h2
  · simp
  · have := c.steps o h2 t
    rwa [Nat.sub_add_cancel h1] at this
/-! settings that pack alike -/
theorem lenAt_scale (ls : List Int) (t : Int) (r : Nat) : lenAt (ls.map fun l => l * t) r = lenAt ls r * t := by
  unfold lenAt
  rw [List.length_map, List.getD_eq_getElem?_getD, List.getD_eq_getElem?_getD, List.getElem?_map]
  cases ls[r % ls.length]? with
  | none => simp
  | some v => rfl
theorem pre_scale (ls : List Int) (t : Int) (r : Nat) : ∀ k, pre (ls.map fun l => l * t) r k = pre ls r k * t
  | 0 => by simp [pre]
  | k + 1 => by
    show pre (ls.map fun l => l * t) r k + lenAt (ls.map fun l => l * t) (r + k) = (pre ls r k + lenAt ls (r + k)) * t
    rw [pre_scale ls t r k, lenAt_scale, Int.add_mul]
theorem cnt_scale {ls2 : List Int} {sz2 t d : Int} (o : Ok ls sz) (o2 : Ok ls2 sz2) (hp : ∀ r k, pre ls2 r k = pre ls r k * t) (hs : sz2 = sz * t + d) (d0 : 0 ≤ d) (d1 : d < t) (r : Nat) : cnt ls2 sz2 r = cnt ls sz r := by
  have f := cnt_fill o r
  have h1 : pre ls r (cnt ls sz r) * t ≤ sz * t := Int.mul_le_mul_of_nonneg_right f.1 (by omega)
  have h2 : (sz + 1) * t ≤ pre ls r (cnt ls sz r + 1) * t := Int.mul_le_mul_of_nonneg_right (by have := f.2; omega) (by omega)
  rw [Int.add_mul, Int.one_mul] at h2
  refine cnt_is o2 ⟨?_, ?_⟩
  · rw [hp]
    omega
  · rw [hp]
    omega
theorem st_like {ls2 : List Int} {sz2 : Int} (h : ∀ r, cnt ls2 sz2 r = cnt ls sz r) : ∀ m, st ls2 sz2 m = st ls sz m
  | 0 => rfl
  | m + 1 => by rw [st_succ, st_succ, st_like h m, h]
theorem lenAt_twice (ls : List Int) (r : Nat) : lenAt (ls ++ ls) r = lenAt ls r := by
  unfold lenAt
  rcases Nat.eq_zero_or_pos ls.length with z | z
  · have e : ls = [] := List.eq_nil_of_length_eq_zero z
    subst e
    rfl
  · have hm : r % (ls.length + ls.length) % ls.length = r % ls.length := Nat.mod_mod_of_dvd r ⟨2, by omega⟩
    have hlt : r % (ls.length + ls.length) < ls.length + ls.length := Nat.mod_lt _ (by omega)
    rw [List.length_append, List.getD_eq_getElem?_getD, List.getD_eq_getElem?_getD, ← hm]
    generalize r % (ls.length + ls.length) = i at hlt
    rcases Nat.lt_or_ge i ls.length with y | y
    · rw [List.getElem?_append_left y, Nat.mod_eq_of_lt y]
    · have e : i % ls.length = i - ls.length := by
        rw [Nat.mod_eq_sub_mod y, Nat.mod_eq_of_lt (by omega)]
      rw [List.getElem?_append_right y, e]
theorem pre_twice (ls : List Int) (r : Nat) : ∀ k, pre (ls ++ ls) r k = pre ls r k
  | 0 => rfl
  | k + 1 => by
    show pre (ls ++ ls) r k + lenAt (ls ++ ls) (r + k) = pre ls r k + lenAt ls (r + k)
    rw [pre_twice ls r k, lenAt_twice]
theorem cnt_same {ls2 : List Int} (o : Ok ls sz) (o2 : Ok ls2 sz) (hp : ∀ r k, pre ls2 r k = pre ls r k) (r : Nat) : cnt ls2 sz r = cnt ls sz r := by
  have f := cnt_fill o r
  refine cnt_is o2 ⟨?_, ?_⟩
  · rw [hp]
    exact f.1
  · rw [hp]
    exact f.2
theorem Cyc.uniq {ls2 : List Int} {sz2 : Int} {j2 k2 : Nat} (c : Cyc ls sz j k) (c2 : Cyc ls2 sz2 j2 k2) (hl : ls2.length = ls.length) (hs : ∀ m, st ls2 sz2 m = st ls sz m) : j2 = j ∧ k2 = k := by
  have e1 := c.eq
  have e2 := c2.eq
  have d2 := c2.dis
  rw [hl, hs, hs] at e2
  simp only [hl, hs] at d2
  have l1 := c.lt
  have l2 := c2.lt
  have hk : k2 = k := by
    rcases Nat.lt_trichotomy k2 k with z | z | z
    · exact absurd e2 (c.dis j2 k2 l2 z)
    · exact z
    · exact absurd e1 (d2 j k l1 z)
  subst hk
  refine ⟨?_, rfl⟩
  rcases Nat.lt_trichotomy j2 j with z | z | z
  · exact absurd (e2.trans e1.symm) (c.dis j2 j z l1)
  · exact z
  · exact absurd (e1.trans e2.symm) (c.dis j j2 z l2)
theorem Cyc.twice {ls2 : List Int} {sz2 : Int} {j2 k2 : Nat} (o : Ok ls sz) (o2 : Ok ls2 sz2) (c : Cyc ls sz j k) (c2 : Cyc ls2 sz2 j2 k2) (hl : ls2.length = ls.length + ls.length) (hs : ∀ m, st ls2 sz2 m = st ls sz m) :
    j2 = j ∧ ∃ u, k2 - j2 = u * (k - j) ∧ rws ls2 sz2 j2 k2 = u * rws ls sz j k := by
  have l1 := c.lt
  have l2 := c2.lt
  have down : ∀ {a b : Nat}, a % (ls.length + ls.length) = b % (ls.length + ls.length) → a % ls.length = b % ls.length := fun {a b} h => by
    have h1 : a % (ls.length + ls.length) % ls.length = a % ls.length := Nat.mod_mod_of_dvd a ⟨2, by omega⟩
    have h2 : b % (ls.length + ls.length) % ls.length = b % ls.length := Nat.mod_mod_of_dvd b ⟨2, by omega⟩
    rw [← h1, ← h2, h]
  have e2 := c2.eq
  rw [hl, hs, hs] at e2
  have q2 := down e2
  have d2 := c2.dis
  simp only [hl, hs] at d2
  have mono := st_mono o l1
  -- the rows of a cycle are a multiple of the lengths
  have hR : ls.length ∣ rws ls sz j k := by
    have e := c.eq
    have er : st ls sz k = st ls sz j + rws ls sz j k := by unfold rws; omega
    rw [er] at e
    have a1 := Nat.div_add_mod (st ls sz j) ls.length
    have a2 := Nat.div_add_mod (st ls sz j + rws ls sz j k) ls.length
    rw [← e] at a2
    refine ⟨(st ls sz j + rws ls sz j k) / ls.length - st ls sz j / ls.length, ?_⟩
    rw [Nat.mul_sub]
    omega
  have hj1 : j ≤ j2 := by
    rcases Nat.lt_or_ge j2 j with z | z
    · exfalso
      rcases Nat.lt_or_ge k2 k with y | y
      · exact c.dis j2 k2 l2 y q2
      · obtain ⟨i, h1, h2, h3⟩ := c.near o k2 (by omega)
        exact c.dis j2 i (by omega) h2 (q2.trans h3)
    · exact z
  have hj2 : j2 ≤ j := by
    rcases Nat.lt_or_ge j j2 with z | z
    · exfalso
      have hm : j2 ≤ j + (2 * j2) * (k - j) := by
        have : 2 * j2 * 1 ≤ 2 * j2 * (k - j) := Nat.mul_le_mul_left _ (by omega)
        omega
      obtain ⟨i, h1, h2, h3⟩ := c2.near o2 (j + (2 * j2) * (k - j)) hm
      rw [hl, hs, hs, c.steps o (Nat.le_refl j)] at h3
      obtain ⟨g, hg⟩ := hR
      have e4 : 2 * j2 * rws ls sz j k = (ls.length + ls.length) * (j2 * g) := by
        rw [hg]
        have a1 : (ls.length + ls.length) = 2 * ls.length := by omega
        rw [a1, Nat.mul_assoc, Nat.mul_assoc, Nat.mul_left_comm j2 ls.length g]
      rw [e4, Nat.add_mul_mod_self_left] at h3
      exact d2 j i (by omega) h2 h3
    · exact z
  have ej : j2 = j := by omega
  subst ej
  refine ⟨rfl, (k2 - j2) / (k - j2), ?_⟩
  have hdm := Nat.div_add_mod (k2 - j2) (k - j2)
  have hv : (k2 - j2) % (k - j2) < k - j2 := Nat.mod_lt _ (by omega)
  generalize (k2 - j2) / (k - j2) = u at *
  generalize (k2 - j2) % (k - j2) = v at *
  have v0 : v = 0 := by
    rcases Nat.eq_zero_or_pos v with z | z
    · exact z
    · exfalso
      have ek : k2 = (j2 + v) + u * (k - j2) := by
        rw [Nat.mul_comm u]
        omega
      rw [ek, c.place o (by omega) u] at q2
      exact c.dis j2 (j2 + v) (by omega) (by omega) q2
  subst v0
  have ed : k2 - j2 = u * (k - j2) := by
    rw [Nat.mul_comm u]
    omega
  refine ⟨ed, ?_⟩
  have ek : k2 = j2 + u * (k - j2) := by omega
  have es := c.steps o (Nat.le_refl j2) u
  rw [← ek] at es
  unfold rws at es ⊢
  rw [hs, hs, es]
  omega
end
end Pk

namespace Kr
open L2 PySem PySem.Spec PyProof.Rows
/-! ### x *= y -/
def ipM : TIp := fun x y H Q => ∃ i j : Int, x = .int i ∧ y = .int j ∧ CMulW i j ∧ Q (.int (i * j)) H
theorem ip_mul {X : Cx} : PIp X .Mult ipM := by
  intro pins s0 st0 H x y v u Q I r1 r2 h
  obtain ⟨i, j, rfl, rfl, hm, q⟩ := h
  obtain ⟨t, rfl⟩ := r1
  obtain ⟨t', rfl⟩ := r2
  exact imul_int ⟨.int _, H, I.tok _, ⟨_, rfl⟩, q⟩ hm.ok
theorem r_ipM {i j : Int} {H : Hp} {Q : VK} (h : CMulW i j) (q : Q (.int (i * j)) H) : ipM (.int i) (.int j) H Q := ⟨i, j, rfl, rfl, h, q⟩
/-! ### a, b = xs for a list -/
theorem r_gLst {K : PySem.W.Frag} {n : Nat} {gs : TGs} {a : Addr} {xs : List V} {st0 : L2.St} {H : Hp} {QG : L2.St → Hp → Prop} (h : SqL K H a xs) (e : xs.length = n) (q : gs xs st0 H QG) : gLst K n gs (.ref a) st0 H QG := ⟨a, xs, rfl, h, e, q⟩
theorem pg_tupK {X : Cx} {K : PySem.W.Frag} {pos : Pos} {es : List Expr} {k : Nat} {t : TGs} {n : Nat} (hK : X.K = K) (hc : X.calm = true) (h : PGs X es t)
    (hn : (assignEach es X.env).length = n := by rfl) (hst : (assignEach es X.env).findIdx? (·.1) = none := by rfl) : PG X (.Tuple es k pos) (gTup K n t) := hK ▸ pg_tup hc h hn hst
/-! ### dicts with texts as keys -/
section
variable {H : Hp} {Q : VK} {v : V} {st0 : L2.St}
theorem r_dgS {a : Addr} {kvs : List (Key × V)} {k : Str} (h : H a = some (.dK kvs)) (e : valV kvs (Sum.inr k) = some v) (q : Q v H) : rDg (.ref a) (.str k) H Q := ⟨a, v, rfl, by rw [← e]; exact DGet.k (k := Sum.inr k) h, q⟩
theorem r_dpS {a : Addr} {kvs : List (Key × V)} {k : Str} {Qn : Hp → Prop} (h : H a = some (.dK kvs)) (hl : kvs.length < 100000) (q : Qn (upd H a (.dK (putK kvs (Sum.inr k) v)))) : rDp (.ref a) (.str k) v H Qn := ⟨a, _, rfl, DPut.k (k := Sum.inr k) h (szl hl), q⟩
def rDispE (p : Addr) (ps : List (V × V)) (H2 : Hp) (Q : VK) : Prop := H2 p = some (.dK []) ∧ ∃ kvs : List (Key × V), ps = kvs.map (fun kv => (kV kv.1, kv.2)) ∧ kvs.length ≤ 15 ∧ Q (.ref p) (upd H2 p (.dK (mergeK [] kvs)))
theorem r_disp {trs : List (TE × TE)} (q : ∀ p, H p = none → tPairs trs st0 (upd H p (.dK [])) fun ps H2 => rDispE p ps H2 Q) : tDisp trs st0 H Q := q
theorem r_pairs {tk tv : TE} {r : List (TE × TE)} {QP : List (V × V) → Hp → Prop} (q : tk st0 H fun x H1 => tv st0 H1 fun y H2 => tPairs r st0 H2 fun ps H3 => QP ((x, y) :: ps) H3) : tPairs ((tk, tv) :: r) st0 H QP := q
theorem r_pairs0 {QP : List (V × V) → Hp → Prop} (q : QP [] H) : tPairs [] st0 H QP := q
theorem r_dispE {p : Addr} {ps : List (V × V)} (kvs : List (Key × V)) (h : H p = some (.dK [])) (e : ps = kvs.map (fun kv => (kV kv.1, kv.2))) (hl : kvs.length ≤ 15) (q : Q (.ref p) (upd H p (.dK (mergeK [] kvs)))) : rDispE p ps H Q := ⟨h, kvs, e, hl, q⟩
end
/-! ### list(range(a, b)), whatever its ends -/
section
variable {prog : Program} {w : World} {A : Around} {E : Value → Shared → Prop} {s : Shared}
/-- what a walk over an iterator at the heap's end makes of an empty list at S -/
theorem long_loop {R : Result → Shared → Prop} {n : Nat} {lo : Int} (hh : A.handled = none) (hz : n ≤ sizeLine) (it S : Addr) (ne : S ≠ it) (out : Value) (c0 : Nat) (s1 : Shared)
    (hit : IsLongIter s1.heap it (lo + ((0 : Nat) : Int) * 1) ((n : Int) - ((0 : Nat) : Int)) 1) (hS : s1.heap.get? S = some { cls := .type "list", data := .seq #[] c0 })
    (hR : ∀ h2 tk2 items c2, (∀ b o, b ≠ S → b ≠ it → s1.heap.get? b = some o → h2.get? b = some o) → h2.get? S = some { cls := .type "list", dict := none, data := .seq items c2, slots := #[] } →
      ItemsOf (fun i v => ∃ t, v = .int (lo + i * 1) t) items n → R (.ok (.ret out)) { s1 with heap := h2, toks := tk2 }) :
    codeAny (model prog w) A (.builtin "list.extend.loop" ⟨[.ref S, .ref it, out], []⟩) R s1 := by
  have ws := (Walks.longrange (prog := prog) (w := w) (A := A.in1) hh it lo 1 n).toS
  refine codeAny_extend_loopS ws hz S (fun m => ne (List.mem_singleton.mp m)) out n 0 s1 #[] c0 rfl (Nat.zero_le n) hit hS (ItemsOf.nil _) ?_
  intro s2 items c2 mv hS2 got
  rw [Moved.eq_with mv]
  refine hR s2.heap s2.toks items c2 (fun b o n1 n2 e => mv.heap b o (fun m => ?_) e) hS2 got
  rcases List.mem_cons.mp m with z | z
  · exact n1 z
  · exact n2 (List.mem_singleton.mp z)
theorem long_extend {R : Result → Shared → Prop} {r : Addr} {a b : Int} {t u v : Tok} {n : Nat} (hh : A.handled = none) (hr : IsRange s.heap r a b 1 t u v) (big : Builtin.Range.small a b 1 = false)
    (hn : Builtin.Range.rangeSize a b 1 = n) (hz : n ≤ 2 ^ 24) (S : Addr) (out : Value) (c0 : Nat) (hS : s.heap.get? S = some { cls := .type "list", data := .seq #[] c0 })
    (hR : ∀ h2 tk2 items c2, (∀ b o, b ≠ S → s.heap.get? b = some o → h2.get? b = some o) → h2.get? S = some { cls := .type "list", dict := none, data := .seq items c2, slots := #[] } →
      ItemsOf (fun i v => ∃ t, v = .int (a + i * 1) t) items n → R (.ok (.ret out)) { s with heap := h2, toks := tk2 }) :
    wpAny (model prog w) A.in1 (Builtin.List.listExtendWith (.ref S) (.ref r) out)
      (fun z s2 => match z with | .done f => R (.ok f) s2 | .again c2 => c2.quiet = true ∧ codeAny (model prog w) A c2 R s2) (fun x s2 => R (.error x) s2) s := by
  have nr : S ≠ r := fun z => by
    rw [z, hr] at hS
    simp at hS
  have lt : S < s.heap.objs.size := Heap.lt_size hS
  have nI : S ≠ s.heap.objs.size := Nat.ne_of_lt lt
  have loop : ∀ (h1 : Heap) (c1 tk1 : Nat), IsLongIter h1 s.heap.objs.size (a + ((0 : Nat) : Int) * 1) ((n : Int) - ((0 : Nat) : Int)) 1 → (∀ b o, b ≠ S → s.heap.get? b = some o → h1.get? b = some o) → h1.get? S = some { cls := .type "list", data := .seq #[] c1 } →
      codeAny (model prog w) A (.builtin "list.extend.loop" ⟨[.ref S, .ref s.heap.objs.size, out], []⟩) R { s with heap := h1, toks := tk1 } := fun h1 c1 tk1 x1 x2 x3 =>
    long_loop hh (by rw [sizeLine_eq]; omega) _ S nI out c1 _ x1 x3 fun h2 tk2 items c2 y1 y2 y3 => hR h2 tk2 items c2 (fun b o nb e => y1 b o nb (Nat.ne_of_lt (Heap.lt_size e)) (x2 b o nb e)) y2 y3
  unfold Builtin.List.listExtendWith
  refine wpAny_bind (wpAny_typeOf (T := "range") ⟨_, hr, rfl⟩ ?_)
  have k1 : Builtin.List.listSameRef (.ref S) (.ref r) = false := by simp [Builtin.List.listSameRef, nr]
  have k2 : (Value.type "range" == Value.type "tuple") = false := by decide
  have k3 : (Value.type "range" == Value.type "list") = false := by decide
  simp only [k1, k3, k2, Bool.or_false, Bool.false_eq_true, if_false]
  refine wpAny_bind (wpAny_pyIter_longrange hr big ?_)
  refine wpAny_bind (wpAny_holding (wpAny_hint_range (n := n) (Heap.get?_push_of_some _ hr) hn hz ?_))
  have i1 : IsLongIter (s.heap.push { cls := .type "longrange_iterator", data := .fields #[rawInt a, rawInt (Builtin.Range.rangeSize a b 1), rawInt 1] }) s.heap.objs.size (a + ((0 : Nat) : Int) * 1) ((n : Int) - ((0 : Nat) : Int)) 1 := by
    show IsLongIter _ _ _ _ _
    rw [hn]
    simpa using Heap.get?_push_size _ rfl
  have g1 := Heap.get?_push_of_some { cls := .type "longrange_iterator", data := .fields #[rawInt a, rawInt (Builtin.Range.rangeSize a b 1), rawInt 1] } hS
  refine wpAny_ite_split (fun _ => ?_) fun _ => wpAny_pure ⟨plainId_quiet F.plain_extend_loop _, loop _ c0 _ i1 (fun b o _ e => Heap.get?_push_of_some _ e) g1⟩
  refine wpAny_bind (wpAny_rule (wpAny_bind ?_))
  show wpAny _ _ (updateSeq S (·.push .none) >>= fun _ => updateSeq S (·.pop)) _ _ _
  refine wpAny_bind (wpAny_updateSeq g1 rfl ?_)
  have g2 := Heap.get?_update_self (Obj.mapSeq (·.push Value.none)) g1 rfl
  refine wpAny_updateSeq (hz := by seq_fits) g2 rfl ?_
  have g3 := Heap.get?_update_self (Obj.mapSeq (·.pop)) g2 rfl
  refine wpAny_pure ⟨plainId_quiet F.plain_extend_loop _, loop _ _ _ ?_ (fun b o nb e => ?_) g3⟩
  · exact (Heap.get?_update_other _ _ nI).trans ((Heap.get?_update_other _ _ nI).trans i1)
  · exact (Heap.get?_update_other _ _ (Ne.symm nb)).trans ((Heap.get?_update_other _ _ (Ne.symm nb)).trans (Heap.get?_push_of_some _ e))
theorem long_init {R : Result → Shared → Prop} {r : Addr} {a b : Int} {t u v : Tok} {n : Nat} (hh : A.handled = none) (hr : IsRange s.heap r a b 1 t u v) (big : Builtin.Range.small a b 1 = false)
    (hn : Builtin.Range.rangeSize a b 1 = n) (hz : n ≤ 2 ^ 24) (S : Addr) (hS : s.heap.get? S = some { cls := .type "list", data := .seq #[] })
    (hR : ∀ h2 tk2 items c2, (∀ b o, b ≠ S → s.heap.get? b = some o → h2.get? b = some o) → h2.get? S = some { cls := .type "list", dict := none, data := .seq items c2, slots := #[] } →
      ItemsOf (fun i v => ∃ t, v = .int (a + i * 1) t) items n → R (.ok (.ret .none)) { s with heap := h2, toks := tk2 }) :
    wpAny (model prog w) A.in1 (Builtin.«list.__init__» ⟨[.ref S, .ref r], []⟩)
      (fun z s2 => match z with | .done f => R (.ok f) s2 | .again c2 => c2.quiet = true ∧ codeAny (model prog w) A c2 R s2) (fun x s2 => R (.error x) s2) s := by
  have nr : S ≠ r := fun z => by
    rw [z, hr] at hS
    simp at hS
  show wpAny _ _ (do
    let old ← Builtin.List.listItems (.ref S)
    Builtin.List.listUpdate (.ref S) (fun _ => #[])
    letGo old.toList.reverse
    Builtin.List.listExtendWith (.ref S) (.ref r) .none) _ _ s
  refine wpAny_bind ?_
  unfold Builtin.List.listItems
  refine wpAny_bind (wpAny_seqItems hS rfl (wpAny_pure ?_))
  show wpAny _ _ (updateSeq S (fun _ => #[]) >>= fun _ => letGo (#[] : Array Value).toList.reverse >>= fun _ =>
    Builtin.List.listExtendWith (.ref S) (.ref r) .none) _ _ s
  refine wpAny_bind (wpAny_updateSeq hS rfl ?_)
  have g2 := Heap.get?_update_self (Obj.mapSeq (fun _ => (#[] : Array Value))) hS rfl
  have els : ∀ b o, b ≠ S → s.heap.get? b = some o → (s.heap.update S (Obj.mapSeq (fun _ => (#[] : Array Value)))).get? b = some o :=
    fun b o nb e => (Heap.get?_update_other _ _ (Ne.symm nb)).trans e
  refine wpAny_bind (wpAny_letGo ?_)
  exact long_extend hh (els r _ (Ne.symm nr) hr) big hn hz S .none _ g2 fun h2 tk2 items c2 x1 x2 x3 => hR h2 tk2 items c2 (fun b o nb e => x1 b o nb (els b o nb e)) x2 x3
theorem long_list {Q : Value → Shared → Prop} {r : Addr} {a b : Int} {t u v : Tok} {n : Nat} (hh : A.handled = none) (hr : IsRange s.heap r a b 1 t u v) (big : Builtin.Range.small a b 1 = false)
    (hn : Builtin.Range.rangeSize a b 1 = n) (hz : n ≤ 2 ^ 24)
    (hQ : ∀ h2 tk2 items c2, (∀ b o, s.heap.get? b = some o → h2.get? b = some o) → h2.get? s.heap.objs.size = some { cls := .type "list", dict := none, data := .seq items c2, slots := #[] } →
      ItemsOf (fun i v => ∃ t, v = .int (a + i * 1) t) items n → Q (.ref s.heap.objs.size) { s with heap := h2, toks := tk2 }) :
    wpAny (model prog w) A (call (.type "list") [.ref r]) Q E s := by
  refine callType_codes (Q₁ := fun x s1 => x = .ref s.heap.objs.size ∧ s1 = { s with heap := s.heap.push { cls := .type "list", data := .seq #[] } }) F.called_list (F.typeCall_list_1 _) F.entry_list_init (code_list_new _ ⟨rfl, rfl⟩) ?_
  rintro _ _ ⟨rfl, rfl⟩
  have g : (s.heap.push { cls := .type "list", data := .seq #[] }).get? s.heap.objs.size = some { cls := .type "list", data := .seq #[] } := Heap.get?_push_size _ rfl
  refine ⟨⟨_, g, rfl⟩, F.args_list_init_2 _ _, ?_⟩
  refine long_init (A := A.in1) hh (Heap.get?_push_of_some _ hr) big hn hz _ g fun h2 tk2 items c2 x1 x2 x3 => ⟨rfl, ?_⟩
  exact hQ h2 tk2 items c2 (fun b o e => x1 b o (Nat.ne_of_lt (Heap.lt_size e)) (Heap.get?_push_of_some _ e)) x2 x3
end
section
variable {X : Cx} {e : Expr} {te : L2.St → Hp → (Int → Int → Hp → Prop) → Prop}
def rRgW2 (a b : Int) (H : Hp) (Q : VK) : Prop := (b - a).toNat ≤ 2 ^ 24 ∧ ∀ q, H q = none → Q (.ref q) (upd H q (.lst (rgV a b)))
def tLstRgW (te : L2.St → Hp → (Int → Int → Hp → Prop) → Prop) : TE := fun st0 H Q => te st0 H fun a b H1 => rRgW2 a b H1 Q
theorem pe_listRgW {p pos : Pos} (hc : X.calm = true) (hg : Gl X "list") (hm : X.mg "list" = none) (he : PRg X e te) (na : starEach [e] X.env = (false, eval e X.env) :: starEach [] X.env := by rfl) : PE X (.Call (.Name "list" p) [e] [] pos) (tLstRgW te) := by
  refine ⟨fun pins s0 st0 H Q I h => ?_⟩
  refine Call_ (ld_blt I hg hm boot_list (PyProof.Rows.callWith_type1 (args_cons (thn (he pins s0 st0 H _ I h) fun x s1 ⟨r, a, b, t, u, v, H1, ex, hr, I1, hz, q⟩ => args_nil ?_) na) na))
  subst ex
  have fin : ∀ h2 tk2 items c2, (∀ b o, s1.heap.get? b = some o → h2.get? b = some o) → h2.get? s1.heap.objs.size = some { cls := .type "list", dict := none, data := .seq items c2, slots := #[] } →
      ItemsOf (fun i v => ∃ t, v = .int (a + i * 1) t) items (b - a).toNat → EP X pins st0 Q (.ref s1.heap.objs.size) { s1 with heap := h2, toks := tk2 } := fun h2 tk2 items c2 keep at2 got => by
    refine ⟨.ref s1.heap.objs.size, upd H1 s1.heap.objs.size (.lst (rgV a b)), I1.laid keep (Nat.le_refl _) (show ObjOk X.prog X.w _ _ _ (.lst (rgV a b)) from ⟨?_, items.toList, c2, vals_rg got, ?_⟩), rfl, q _ (I1.hok.fresh (Nat.le_refl _))⟩
    · rw [rgV_length, sizeLine_eq]
      omega
    · rw [Array.toArray_toList]
      exact at2
  cases hsm : Builtin.Range.small a b 1 with
  | true => exact call_list_range (n := (b - a).toNat) (I1.ok.hd hc) hr hsm (rangeSize_nat a b) hz fin
  | false => exact long_list (n := (b - a).toNat) (I1.ok.hd hc) hr hsm (rangeSize_nat a b) hz fin
end
section
variable {st0 : L2.St} {H : Hp} {Q : VK}
theorem r_lstRgW {te : L2.St → Hp → (Int → Int → Hp → Prop) → Prop} (q : te st0 H fun a b H1 => rRgW2 a b H1 Q) : tLstRgW te st0 H Q := q
def rRg2P (x y : V) (R : Int → Int → Prop) : Prop := ∃ i j, x = .int i ∧ y = .int j ∧ R i j
theorem r_tRg2 {ta tb : TE} {R : Int → Int → Hp → Prop} (q : ta st0 H fun x H1 => tb st0 H1 fun y H2 => rRg2P x y fun i j => R i j H2) : tRg2 ta tb st0 H R := q
theorem r_rg2P {i j : Int} {R : Int → Int → Prop} (q : R i j) : rRg2P (.int i) (.int j) R := ⟨i, j, rfl, rfl, q⟩
theorem r_rgW2 {a b : Int} (h : (b - a).toNat ≤ 2 ^ 24) (q : rNew (.lst (rgV a b)) H Q) : rRgW2 a b H Q := ⟨h, q⟩
end
/-! ### == of a row of ints, or None -/
section
variable {K : PySem.W.Frag} {H : Hp} {Q : VK} {a b : Addr} {is js : List Int}
theorem r_eqNN (q : Q (.bl true) H) : rEqD K .non .non H Q := ⟨_, _, .non, .non, rfl, rfl, q⟩
theorem r_neNN (q : Q (.bl false) H) : rNeD K .non .non H Q := ⟨_, _, .non, .non, rfl, rfl, q⟩
end
theorem rgV_get {a b : Int} {i : Nat} (h : i < (b - a).toNat) : (rgV a b)[i]? = some (.int (a + (i : Nat))) := by
  unfold rgV
  rw [List.getElem?_map, List.getElem?_range h]
  rfl
end Kr

/-! Turns: the plain mathematics (no Python here). -/
namespace Tm
/-- a place -/
inductive Pl where
  | use (k : Nat)
  | lst (k : Nat)
  deriving DecidableEq
def Pl.n : Pl → Nat
  | .use k => k
  | .lst k => k
/-- all places ahead that used and front have -/
def base (a n : Nat) : List Pl := (List.range a).map .use ++ (List.range n).map .lst
theorem mem_use {a n k : Nat} : Pl.use k ∈ base a n ↔ k < a := by
  unfold base
  simp
theorem mem_lst {a n k : Nat} : Pl.lst k ∈ base a n ↔ k < n := by
  unfold base
  simp
theorem base_len (a n : Nat) : (base a n).length = a + n := by simp [base]
theorem base_nodup (a n : Nat) : (base a n).Nodup := by
  unfold base
  rw [List.nodup_append]
  refine ⟨?_, ?_, ?_⟩
  · exact List.nodup_iff_pairwise_ne.mpr (List.pairwise_map.mpr ((List.pairwise_lt_range (n := a)).imp fun h e => by have := Pl.use.inj e; omega))
  · exact List.nodup_iff_pairwise_ne.mpr (List.pairwise_map.mpr ((List.pairwise_lt_range (n := n)).imp fun h e => by have := Pl.lst.inj e; omega))
  · intro x hx y hy e
    simp only [List.mem_map] at hx hy
    obtain ⟨i, _, rfl⟩ := hx
    obtain ⟨j, _, rfl⟩ := hy
    cases e
theorem permOf : ∀ {L S : List Pl}, L.Nodup → (∀ x ∈ L, x ∈ S) → S.length ≤ L.length → L.Perm S
  | [], S, _, _, h => by
    have : S = [] := List.eq_nil_of_length_eq_zero (by simpa using h)
    rw [this]
  | x :: r, S, nd, sub, h => by
    have hx := sub x (by simp)
    have nd' := List.nodup_cons.mp nd
    have ih := permOf (L := r) (S := S.erase x) nd'.2 (fun y hy => by
      have ne : y ≠ x := fun e => nd'.1 (e ▸ hy)
      exact (List.mem_erase_of_ne ne).mpr (sub y (by simp [hy]))) (by
      rw [List.length_erase_of_mem hx]
      simp at h
      omega)
    exact (ih.cons x).trans (List.perm_cons_erase hx).symm
/-- a Turn: used, front, fresh, and how many are in use ahead -/
structure Tn where
  u : List Pl
  f : List Pl
  n : Nat
  a : Nat
structure Tn.Pm (T : Tn) : Prop where
  perm : (T.u ++ T.f).Perm (base T.a T.n)
structure Tn.Ok (T : Tn) : Prop extends T.Pm where
  can : ∀ g, T.f = g ++ [.lst (T.n - 1)] → T.n = 0
/-- the origin of a place behind -/
def Tn.or (T : Tn) : Pl → Pl
  | .use k => T.u.getD k (.use 0)
  | .lst k => if k < T.f.length then T.f.getD k (.use 0) else .lst (k - T.f.length + T.n)
/-- a place where so many are in use -/
def Vd (b : Nat) : Pl → Prop
  | .use k => k < b
  | .lst _ => True
theorem getD_at {l : List Pl} {k : Nat} (h : k < l.length) : l.getD k (.use 0) = l[k] := by
  rw [List.getD_eq_getElem?_getD, List.getElem?_eq_getElem h]
  rfl
theorem Tn.Pm.len {T : Tn} (o : T.Pm) : T.u.length + T.f.length = T.a + T.n := by
  have := o.perm.length_eq
  rw [List.length_append, base_len] at this
  exact this
theorem Tn.Pm.nd {T : Tn} (o : T.Pm) : (T.u ++ T.f).Nodup := o.perm.nodup_iff.mpr (base_nodup _ _)
theorem Tn.Pm.bd {T : Tn} (o : T.Pm) {p : Pl} (h : p ∈ T.u ++ T.f) : p ∈ base T.a T.n := o.perm.mem_iff.mp h
theorem Tn.or_use {T : Tn} {k : Nat} (h : k < T.u.length) : T.or (.use k) = T.u[k] := getD_at h
theorem Tn.or_frn {T : Tn} {k : Nat} (h : k < T.f.length) : T.or (.lst k) = T.f[k] := by
  show (if k < T.f.length then _ else _) = _
  rw [if_pos h]
  exact getD_at h
theorem Tn.or_bck {T : Tn} {k : Nat} (h : T.f.length ≤ k) : T.or (.lst k) = .lst (k - T.f.length + T.n) := if_neg (by omega)
theorem Tn.Pm.or_vd {T : Tn} (o : T.Pm) {p : Pl} (h : Vd T.u.length p) : Vd T.a (T.or p) := by
  have mem : ∀ {q : Pl}, q ∈ T.u ++ T.f → Vd T.a q := fun {q} hq => by
    have := o.bd hq
    cases q with
    | use k => exact mem_use.mp this
    | lst k => exact trivial
  cases p with
  | use k =>
    rw [Tn.or_use h]
    exact mem (List.mem_append.mpr (.inl (List.getElem_mem _)))
  | lst k =>
    rcases Nat.lt_or_ge k T.f.length with z | z
    · rw [Tn.or_frn z]
      exact mem (List.mem_append.mpr (.inr (List.getElem_mem _)))
    · rw [Tn.or_bck z]
      exact trivial
/-- where a place of used and front stands -/
theorem nd_get {l : List Pl} (nd : l.Nodup) {i j : Nat} (hi : i < l.length) (hj : j < l.length) (e : l[i] = l[j]) : i = j := by
  have p := List.nodup_iff_pairwise_ne.mp nd
  rw [List.pairwise_iff_getElem] at p
  rcases Nat.lt_trichotomy i j with z | z | z
  · exact absurd e (p i j hi hj z)
  · exact z
  · exact absurd e.symm (p j i hj hi z)
theorem Tn.Pm.or_inj {T : Tn} (o : T.Pm) {p q : Pl} (hp : Vd T.u.length p) (hq : Vd T.u.length q) (e : T.or p = T.or q) : p = q := by
  -- each place behind as an index of used ++ front, or a place behind it
  have key : ∀ {p : Pl}, Vd T.u.length p → (∃ i, ∃ hi : i < (T.u ++ T.f).length, T.or p = (T.u ++ T.f)[i] ∧ ((p = .use i ∧ i < T.u.length) ∨ (∃ j, p = .lst j ∧ i = T.u.length + j ∧ j < T.f.length))) ∨ ∃ j, p = .lst j ∧ T.f.length ≤ j ∧ T.or p = .lst (j - T.f.length + T.n) := fun {p} h => by
    cases p with
    | use k =>
      refine .inl ⟨k, by rw [List.length_append]; exact Nat.lt_of_lt_of_le h (Nat.le_add_right _ _), ?_, .inl ⟨rfl, h⟩⟩
      rw [Tn.or_use h, List.getElem_append_left h]
    | lst k =>
      rcases Nat.lt_or_ge k T.f.length with z | z
      · refine .inl ⟨T.u.length + k, by rw [List.length_append]; omega, ?_, .inr ⟨k, rfl, rfl, z⟩⟩
        rw [Tn.or_frn z, List.getElem_append_right (by omega)]
        congr 1
        omega
      · exact .inr ⟨k, rfl, z, Tn.or_bck z⟩
  have far : ∀ {i j : Nat} (hi : i < (T.u ++ T.f).length), (T.u ++ T.f)[i] ≠ .lst (j + T.n) := fun {i j} hi z => by
    have := o.bd (List.getElem_mem hi)
    rw [z] at this
    have := mem_lst.mp this
    omega
  rcases key hp with ⟨i, hi, e1, c1⟩ | ⟨i, rfl, hi, e1⟩ <;> rcases key hq with ⟨j, hj, e2, c2⟩ | ⟨j, rfl, hj, e2⟩
  · have ij := nd_get o.nd hi hj (by rw [← e1, ← e2, e])
    subst ij
    rcases c1 with ⟨rfl, h1⟩ | ⟨x, rfl, h1, h2⟩ <;> rcases c2 with ⟨rfl, h3⟩ | ⟨y, rfl, h3, h4⟩
    · rfl
    · omega
    · omega
    · congr 1
      omega
  · exact absurd (by rw [← e1, e, e2]) (far hi)
  · exact absurd (by rw [← e2, ← e, e1]) (far hj)
  · rw [e1, e2] at e
    have := Pl.lst.inj e
    congr 1
    omega
/-- each place ahead is an origin: in used, in front, or behind -/
theorem Tn.Pm.cases {T : Tn} (o : T.Pm) {q : Pl} (h : Vd T.a q) : (∃ k, k < T.u.length ∧ T.u[k]? = some q) ∨ (∃ k, k < T.f.length ∧ T.f[k]? = some q) ∨ ∃ k, q = .lst k ∧ T.n ≤ k := by
  have mem : q ∈ base T.a T.n → (∃ k, k < T.u.length ∧ T.u[k]? = some q) ∨ (∃ k, k < T.f.length ∧ T.f[k]? = some q) := fun hq => by
    rcases List.mem_append.mp (o.perm.mem_iff.mpr hq) with h | h
    · obtain ⟨i, hi, e⟩ := List.mem_iff_getElem.mp h
      exact .inl ⟨i, hi, by rw [List.getElem?_eq_getElem hi, e]⟩
    · obtain ⟨i, hi, e⟩ := List.mem_iff_getElem.mp h
      exact .inr ⟨i, hi, by rw [List.getElem?_eq_getElem hi, e]⟩
  cases q with
  | use k =>
    rcases mem (mem_use.mpr h) with h | h
    · exact .inl h
    · exact .inr (.inl h)
  | lst k =>
    rcases Nat.lt_or_ge k T.n with z | z
    · rcases mem (mem_lst.mpr z) with h | h
      · exact .inl h
      · exact .inr (.inl h)
    · exact .inr (.inr ⟨k, rfl, z⟩)
theorem Tn.Pm.or_sur {T : Tn} (o : T.Pm) {q : Pl} (h : Vd T.a q) : ∃ p, Vd T.u.length p ∧ T.or p = q := by
  rcases o.cases h with ⟨k, hk, e⟩ | ⟨k, hk, e⟩ | ⟨k, rfl, hk⟩
  · refine ⟨.use k, hk, ?_⟩
    rw [Tn.or_use hk]
    rw [List.getElem?_eq_getElem hk] at e
    exact Option.some.inj e
  · refine ⟨.lst k, trivial, ?_⟩
    rw [Tn.or_frn hk]
    rw [List.getElem?_eq_getElem hk] at e
    exact Option.some.inj e
  · refine ⟨.lst (k - T.n + T.f.length), trivial, ?_⟩
    rw [Tn.or_bck (by omega)]
    congr 1
    omega
/-- what tells the same origins is the same -/
theorem Tn.Ok.ext {T S : Tn} (o : T.Ok) (q : S.Ok) (hu : T.u.length = S.u.length) (he : ∀ p, Vd T.u.length p → T.or p = S.or p) : T = S := by
  have half : ∀ {T S : Tn}, T.Ok → S.Ok → (∀ k, T.or (.lst k) = S.or (.lst k)) → T.f.length ≤ S.f.length := fun {T S} o q he => by
    rcases Nat.lt_or_ge S.f.length T.f.length with z | z
    · exfalso
      -- far behind both fronts
      have e1 := he T.f.length
      rw [Tn.or_bck (Nat.le_refl _), Tn.or_bck (by omega)] at e1
      have e2 := Pl.lst.inj e1
      have e3 := he (T.f.length - 1)
      rw [Tn.or_frn (by omega), Tn.or_bck (by omega)] at e3
      have hn : T.n = 0 := o.can (T.f.take (T.f.length - 1)) (by
        have hne : T.f ≠ [] := by
          intro h
          rw [h] at z
          simp at z
        have := List.dropLast_concat_getLast hne
        rw [List.dropLast_eq_take] at this
        rw [List.getLast_eq_getElem, e3] at this
        rw [show T.f.length - 1 - S.f.length + S.n = T.n - 1 by omega] at this
        exact this.symm)
      omega
    · exact z
  have hl : ∀ k, T.or (.lst k) = S.or (.lst k) := fun k => he _ trivial
  have f1 := half o q hl
  have f2 := half q o (fun k => (hl k).symm)
  have fl : T.f.length = S.f.length := by omega
  have ef : T.f = S.f := by
    refine List.ext_getElem fl fun i h1 h2 => ?_
    have := hl i
    rw [Tn.or_frn h1, Tn.or_frn h2] at this
    exact this
  have eu : T.u = S.u := by
    refine List.ext_getElem hu fun i h1 h2 => ?_
    have := he (.use i) h1
    rw [Tn.or_use h1, Tn.or_use h2] at this
    exact this
  have en : T.n = S.n := by
    have := hl T.f.length
    rw [Tn.or_bck (Nat.le_refl _), Tn.or_bck (by omega)] at this
    have := Pl.lst.inj this
    omega
  have l1 := o.toPm.len
  have l2 := q.toPm.len
  cases T
  cases S
  simp only at *
  subst ef eu en
  congr 1
  omega
/-- a front that ends as it goes on behind it may be shorter -/
theorem Tn.Pm.shorter {u g : List Pl} {n a : Nat} (o : (⟨u, g ++ [.lst (n - 1)], n, a⟩ : Tn).Pm) (h : 0 < n) : (⟨u, g, n - 1, a⟩ : Tn).Pm ∧ ∀ p, (⟨u, g, n - 1, a⟩ : Tn).or p = (⟨u, g ++ [.lst (n - 1)], n, a⟩ : Tn).or p := by
  refine ⟨⟨?_⟩, fun p => ?_⟩
  · have e : base a n = base a (n - 1) ++ [Pl.lst (n - 1)] := by
      obtain ⟨m, rfl⟩ : ∃ m, n = m + 1 := ⟨n - 1, by omega⟩
      unfold base
      rw [Nat.add_sub_cancel, List.range_succ, List.map_append, List.append_assoc]
      rfl
    have p := o.perm
    show (u ++ g).Perm (base a (n - 1))
    have p2 : ((u ++ g) ++ [Pl.lst (n - 1)]).Perm (base a (n - 1) ++ [Pl.lst (n - 1)]) := by
      rw [← e, List.append_assoc]
      exact p
    exact (List.perm_append_right_iff _).mp p2
  · cases p with
    | use k => rfl
    | lst k =>
      show (if k < g.length then _ else _) = (if k < (g ++ [Pl.lst (n - 1)]).length then _ else _)
      simp only [List.length_append, List.length_singleton]
      by_cases h1 : k < g.length
      · rw [if_pos h1, if_pos (by omega), List.getD_eq_getElem?_getD, List.getD_eq_getElem?_getD, List.getElem?_append_left h1]
      · rw [if_neg h1]
        by_cases h2 : k < g.length + 1
        · have hk : k = g.length := by omega
          rw [if_pos h2, hk, List.getD_eq_getElem?_getD, List.getElem?_append_right (Nat.le_refl _)]
          simp
        · rw [if_neg h2]
          show Pl.lst (k - g.length + (n - 1)) = Pl.lst (k - (g.length + 1) + n)
          congr 1
          omega
/-! joined -/
/-- the parts of first.then(later), with m = max of the first's front and the later's fresh -/
def joinU (S T : Tn) : List Pl := T.u.map S.or
def joinF (S T : Tn) (m : Nat) : List Pl := (List.range (T.f.length + m - T.n)).map fun k => S.or (T.or (.lst k))
theorem join_ok {S T : Tn} (o : S.Pm) (q : T.Pm) (hm : T.a = S.u.length) {m : Nat} (h1 : S.f.length ≤ m) (h2 : T.n ≤ m) :
    (⟨joinU S T, joinF S T m, m - S.f.length + S.n, S.a⟩ : Tn).Pm ∧ ∀ p, Vd T.u.length p → (⟨joinU S T, joinF S T m, m - S.f.length + S.n, S.a⟩ : Tn).or p = S.or (T.or p) := by
  have vT : ∀ {p : Pl}, Vd T.u.length p → Vd S.u.length (T.or p) := fun h => hm ▸ q.or_vd h
  have hor : ∀ p, Vd T.u.length p → (⟨joinU S T, joinF S T m, m - S.f.length + S.n, S.a⟩ : Tn).or p = S.or (T.or p) := fun p hp => by
    cases p with
    | use k =>
      have hk : k < T.u.length := hp
      show (joinU S T).getD k (.use 0) = S.or (T.or (.use k))
      rw [Tn.or_use hk, List.getD_eq_getElem?_getD]
      unfold joinU
      rw [List.getElem?_map, List.getElem?_eq_getElem hk]
      rfl
    | lst k =>
      show (if k < (joinF S T m).length then _ else _) = _
      have hl : (joinF S T m).length = T.f.length + m - T.n := by simp [joinF]
      rw [hl]
      by_cases h : k < T.f.length + m - T.n
      · rw [if_pos h, List.getD_eq_getElem?_getD]
        unfold joinF
        rw [List.getElem?_map, List.getElem?_range h]
        rfl
      · rw [if_neg h, Tn.or_bck (by omega), Tn.or_bck (by omega)]
        show Pl.lst (k - (T.f.length + m - T.n) + (m - S.f.length + S.n)) = Pl.lst (k - T.f.length + T.n - S.f.length + S.n)
        congr 1
        omega
  refine ⟨⟨?_⟩, hor⟩
  -- the places behind whose origins these are
  have hl : (joinU S T ++ joinF S T m).length = T.u.length + (T.f.length + m - T.n) := by simp [joinU, joinF]
  have lS := o.len
  have lT := q.len
  have at_ : ∀ i (hi : i < (joinU S T ++ joinF S T m).length), ∃ p, Vd T.u.length p ∧ (joinU S T ++ joinF S T m)[i] = S.or (T.or p) ∧ (p = .use i ∧ i < T.u.length ∨ ∃ j, p = .lst j ∧ i = T.u.length + j ∧ j < T.f.length + m - T.n) := fun i hi => by
    have ul : (joinU S T).length = T.u.length := by simp [joinU]
    rcases Nat.lt_or_ge i T.u.length with z | z
    · refine ⟨.use i, z, ?_, .inl ⟨rfl, z⟩⟩
      rw [List.getElem_append_left (by omega), Tn.or_use z]
      simp [joinU]
    · refine ⟨.lst (i - T.u.length), trivial, ?_, .inr ⟨_, rfl, by omega, by omega⟩⟩
      rw [List.getElem_append_right (by omega)]
      simp only [joinF, List.getElem_map, List.getElem_range]
      rw [ul]
  show (joinU S T ++ joinF S T m).Perm (base S.a (m - S.f.length + S.n))
  refine permOf (List.nodup_iff_pairwise_ne.mpr ?_) (fun x hx => ?_) ?_
  · rw [List.pairwise_iff_getElem]
    intro i j hi hj hij e
    obtain ⟨p, vp, ep, cp⟩ := at_ i hi
    obtain ⟨r, vr, er, cr⟩ := at_ j hj
    rw [ep, er] at e
    have := q.or_inj vp vr (o.or_inj (vT vp) (vT vr) e)
    subst this
    rcases cp with ⟨rfl, h⟩ | ⟨x, rfl, h, _⟩
    · rcases cr with ⟨h3, h4⟩ | ⟨y, h3, _⟩
      · have := Pl.use.inj h3
        omega
      · cases h3
    · rcases cr with ⟨h3, h4⟩ | ⟨y, h3, h4, _⟩
      · cases h3
      · have := Pl.lst.inj h3
        omega
  · obtain ⟨i, hi, rfl⟩ := List.mem_iff_getElem.mp hx
    obtain ⟨p, vp, ep, cp⟩ := at_ i hi
    rw [ep]
    have v := o.or_vd (vT vp)
    -- the place in between lies in the first m of the list, or is in use
    have mid : ∀ k, T.or p = .lst k → k < m := fun k e => by
      rcases cp with ⟨rfl, h⟩ | ⟨x, rfl, _, h⟩
      · have := q.bd (List.mem_append.mpr (.inl (List.getElem_mem h)))
        rw [← Tn.or_use h, e] at this
        have := mem_lst.mp this
        omega
      · rcases Nat.lt_or_ge x T.f.length with z | z
        · have := q.bd (List.mem_append.mpr (.inr (List.getElem_mem z)))
          rw [← Tn.or_frn z, e] at this
          have := mem_lst.mp this
          omega
        · rw [Tn.or_bck z] at e
          have := Pl.lst.inj e
          omega
    have inb : ∀ {y : Pl}, y ∈ S.u ++ S.f → y ∈ base S.a (m - S.f.length + S.n) := fun {y} hy => by
      have := o.bd hy
      cases y with
      | use k => exact mem_use.mpr (mem_use.mp this)
      | lst k => exact mem_lst.mpr (by have := mem_lst.mp this; omega)
    cases e : T.or p with
    | use k =>
      have hk : k < S.u.length := by
        have := vT vp
        rw [e] at this
        exact this
      rw [Tn.or_use hk]
      exact inb (List.mem_append.mpr (.inl (List.getElem_mem _)))
    | lst k =>
      have hk := mid k e
      rcases Nat.lt_or_ge k S.f.length with z | z
      · rw [Tn.or_frn z]
        exact inb (List.mem_append.mpr (.inr (List.getElem_mem _)))
      · rw [Tn.or_bck z]
        exact mem_lst.mpr (by omega)
  · rw [hl, base_len]
    omega
/-! numbers of places, sorted -/
def Pl.uN : Pl → Option Nat
  | .use k => some k
  | .lst _ => none
def Pl.lN : Pl → Option Nat
  | .use _ => none
  | .lst k => some k
theorem base_uN (a n : Nat) : (base a n).filterMap Pl.uN = List.range a := by
  unfold base
  rw [List.filterMap_append, List.filterMap_map, List.filterMap_map]
  have h1 : (List.range a).filterMap (Pl.uN ∘ Pl.use) = List.range a := by
    show (List.range a).filterMap some = _
    simp
  have h2 : (List.range n).filterMap (Pl.uN ∘ Pl.lst) = [] := by
    show (List.range n).filterMap (fun _ => none) = _
    simp
  rw [h1, h2, List.append_nil]
theorem base_lN (a n : Nat) : (base a n).filterMap Pl.lN = List.range n := by
  unfold base
  rw [List.filterMap_append, List.filterMap_map, List.filterMap_map]
  have h1 : (List.range a).filterMap (Pl.lN ∘ Pl.use) = [] := by
    show (List.range a).filterMap (fun _ => none) = _
    simp
  have h2 : (List.range n).filterMap (Pl.lN ∘ Pl.lst) = List.range n := by
    show (List.range n).filterMap some = _
    simp
  rw [h1, h2, List.nil_append]
/-- rising, and the numbers below n in some order: these numbers -/
theorem sorted_range {xs : List Int} {n : Nat} (p : xs.Perm ((List.range n).map fun k : Nat => (k : Int))) (s : xs.Pairwise (· ≤ ·)) : xs = (List.range n).map fun k : Nat => (k : Int) := by
  have hl : xs.length = n := by simpa using p.length_eq
  have nd : xs.Nodup := p.nodup_iff.mpr (List.nodup_iff_pairwise_ne.mpr (List.pairwise_map.mpr ((List.pairwise_lt_range (n := n)).imp fun h e => by omega)))
  have up : ∀ i j (hi : i < xs.length) (hj : j < xs.length), i < j → xs[i] + 1 ≤ xs[j] := fun i j hi hj h => by
    have h1 := List.pairwise_iff_getElem.mp s i j hi hj h
    have h2 := List.pairwise_iff_getElem.mp (List.nodup_iff_pairwise_ne.mp nd) i j hi hj h
    omega
  have bd : ∀ x ∈ xs, 0 ≤ x ∧ x < n := fun x hx => by
    have := p.mem_iff.mp hx
    simp only [List.mem_map, List.mem_range] at this
    obtain ⟨k, hk, rfl⟩ := this
    omega
  have lo : ∀ i (hi : i < xs.length), (i : Int) ≤ xs[i] := by
    intro i
    induction i with
    | zero => exact fun hi => (bd _ (List.getElem_mem hi)).1
    | succ i ih =>
      intro hi
      have h1 := ih (by omega)
      have h2 := up i (i + 1) (by omega) hi (by omega)
      omega
  have hi : ∀ d i (hi : i < xs.length), xs.length = i + d + 1 → xs[i] ≤ i := by
    intro d
    induction d with
    | zero =>
      intro i hi e
      have := (bd _ (List.getElem_mem hi)).2
      omega
    | succ d ih =>
      intro i hi e
      have h1 := ih (i + 1) (by omega) (by omega)
      have h2 := up i (i + 1) hi (by omega) (by omega)
      omega
  refine List.ext_getElem (by simp [hl]) fun i h1 h2 => ?_
  have a1 := lo i h1
  have a2 := hi (xs.length - i - 1) i h1 (by omega)
  simp only [List.getElem_map, List.getElem_range]
  omega
end Tm

namespace Kr
open L2 PySem PySem.Spec PyProof.Rows
/-- what == and != ask of a class with a def of its own for == -/
structure OwnE (K : PySem.W.Frag) (C f : Addr) : Prop where
  eq : PySem.W.findIn K (.ref C) "__eq__" = some (some (.ref f))
  fn : PySem.W.isFn K (.ref f) = true
  ne : PySem.W.findIn K (.ref C) "__ne__" = some (some (.builtin "object.__ne__"))
  mo : PySem.W.mroIn K C (.type "object") = some true
/-- what may stand right of it -/
inductive Rgt (C : Addr) (H : Hp) : V → Value → Prop
  | ins {b dy : Addr} {gs : List (Str × V)} (e : H b = some (.ins C dy gs)) : Rgt C H (.ref b) (.ref C)
  | lst {b : Addr} {xs : List V} (e : H b = some (.lst xs)) : Rgt C H (.ref b) (.type "list")
  | tup {b : Addr} {xs : List V} (e : H b = some (.tup xs)) : Rgt C H (.ref b) (.type "tuple")
  | int (i : Int) : Rgt C H (.int i) (.type "int")
  | non : Rgt C H .non (.type "NoneType")
theorem Rgt.first {K : PySem.W.Frag} {C : Addr} {H : Hp} {y : V} {t : Value} (r : Rgt C H y t) : PySem.W.notFirst K C t = true := by
  have key : ∀ T, fastBuiltinMro T = some [.type T, .type "object"] → PySem.W.notFirst K C (.type T) = true := fun T e => by
    have z : PySem.W.subIn K (.type T) (.ref C) = some false := by
      show (fastBuiltinMro T).map (·.contains (.ref C)) = some false
      rw [e]
      simp
    unfold PySem.W.notFirst
    rw [z]
    simp
  cases r with
  | ins _ => simp [PySem.W.notFirst]
  | lst _ => exact key "list" (by decide +kernel)
  | tup _ => exact key "tuple" (by decide +kernel)
  | int _ => exact key "int" (by decide +kernel)
  | non => exact key "NoneType" (by decide +kernel)
theorem Rgt.looks {X : Cx} {pins : List (Addr × Obj)} {σ : L2.St} {H : Hp} {s : Shared} {C : Addr} {y : V} {t v : Value} {M : Model} (r : Rgt C H y t) (I : Inv X pins σ H s) (rv : RelV y v) : PySem.W.Looks M s.heap (typeOf v) t := by
  cases r with
  | ins e =>
    cases rv
    obtain ⟨m, J, _⟩ := ins_get I.hok e
    obtain ⟨od, J, _⟩ := J.look
    exact J.type
  | lst e =>
    cases rv
    obtain ⟨z, its, k, r, e⟩ := I.hok _ _ e
    exact (PySem.W.Looks.ld e).andThen .now
  | tup e =>
    cases rv
    obtain ⟨its, r, ⟨o, e, c, z⟩, _⟩ := I.tuple (SqT.of e)
    exact c ▸ (PySem.W.Looks.ld e).andThen .now
  | int i =>
    obtain ⟨k, rfl⟩ := rv
    exact PySem.W.Looks.of_pure rfl
  | non =>
    obtain rfl : v = Value.none := rv
    exact PySem.W.Looks.of_pure rfl
section
variable {prog : Program} {w : World} {A : Around} {E : Value → Shared → Prop} {s : Shared} {K : PySem.W.Frag} {x C f : Addr} {ox : Obj} {od : Option Obj} {b tb : Value}
theorem OwnE.entry (O : OwnE K C f) (X : K.In s.heap) (I : PySem.W.InstAt s.heap x ox C od) (hu : A.units < cLine) {Q : Fin → Shared → Prop}
    (h : wpAny (model prog w) A (call (.ref f) [.ref x, b]) (fun v s' => ∃ r, v = .bool r ∧ Q (.done (.ret (.bool (!r)))) s') E s) : wpAny (model prog w) A (Builtin.«object.__ne__» ⟨[.ref x, b], []⟩) Q E s := by
  have one : wpAny (model prog w) A (callSpecialIfBound? (.ref x) "__eq__" [b]) (fun r s' => ∃ k, r = some (.bool k) ∧ Q (.done (.ret (.bool (!k)))) s') E s :=
    PySem.W.ifBound_K X I O.eq O.fn (wpAny_mono h (fun v s' hv => by obtain ⟨r, rfl, q⟩ := hv; exact ⟨r, rfl, q⟩) fun _ _ e => e)
  unfold Builtin.«object.__ne__»
  repeat (first
    | with_reducible refine wpAny_cRoomFor hu ?_
    | (refine wpAny_bind (m := callSpecialIfBound? (.ref x) _ [b]) (wpAny_mono one (fun r s' hr => ?_) fun _ _ e => e); obtain ⟨k, rfl, q⟩ := hr; first | exact wpAny_bind (wpAny_truthy_bool (wpAny_pure q)))
    | wp_step)
theorem OwnE.cmpNe (O : OwnE K C f) (X : K.In s.heap) (I : PySem.W.InstAt s.heap x ox C od) (hu : A.units + 1 < cLine) {Q : Option Value → Shared → Prop}
    (h : wpAny (model prog w) A.in1 (call (.ref f) [.ref x, b]) (fun v s' => ∃ r, v = .bool r ∧ Q (some (.bool (!r))) s') E s) : wpAny (model prog w) A (tryCompare (.ref x) "__ne__" b) Q E s := by
  have one : wpAny (model prog w) A (call (.builtin "object.__ne__") [.ref x, b]) (fun v s' => ∃ r, v = .bool (!r) ∧ Q (some (.bool (!r))) s') E s :=
    wpAny_call (codeAny_call_builtin F.cmp_object.ne.plain F.cmpEntry_ne (PySem.W.check_slot F.cmpKind_ne F.cmpSplit_ne (I.type.andThen (PySem.W.looks_mroIn X O.mo)) (F.cmpArgs_ne _ _)
      (O.entry (A := A.in1) X I hu (wpAny_mono h (fun v s' hv => by obtain ⟨r, rfl, q⟩ := hv; exact ⟨r, rfl, r, rfl, q⟩) fun _ _ e => e))))
  unfold tryCompare
  have two : wpAny (model prog w) A (callSpecialIfBound? (.ref x) "__ne__" [b]) (fun r s' => ∃ k, r = some (.bool (!k)) ∧ Q (some (.bool (!k))) s') E s := by
    simp only [callSpecialIfBound?, bindSpecialIfBound?]
    refine wpAny_holding (wpAny_bind (wpAny_bind (wpAny_bind (I.type.here ((PySem.W.looks_findIn X O.ne).here ?_)))))
    refine wpAny_bind (wpAny_askSetting (wpAny_ite ?_))
    have fin : wpAny (model prog w) A (call (.builtin "object.__ne__") ([.ref x] ++ [b]) >>= fun v => pure (some v)) (fun r s' => ∃ k, r = some (.bool (!k)) ∧ Q (some (.bool (!k))) s') E s :=
      wpAny_bind (wpAny_mono one (fun v s' hv => by obtain ⟨r, rfl, q⟩ := hv; exact wpAny_pure ⟨r, rfl, q⟩) fun _ _ e => e)
    split
    · exact wpAny_bind (wpAny_of_eq (F.cmp_object.ne.bind _) (wpAny_pure (by exact fin)))
    · exact wpAny_tryCatch (wpAny_bind (wpAny_of_eq (F.cmp_object.ne.bind _) (wpAny_pure (by exact fin))))
  refine wpAny_bind (wpAny_mono two (fun r s' hr => ?_) fun _ _ e => e)
  obtain ⟨k, rfl, q⟩ := hr
  exact wpAny_pure q
theorem OwnE.rcNe (O : OwnE K C f) (X : K.In s.heap) (I : PySem.W.InstAt s.heap x ox C od) (hb : PySem.W.Looks (model prog w) s.heap (typeOf b) tb) (hn : PySem.W.notFirst K C tb = true) (hu : A.units + 1 < cLine) {Q : Value → Shared → Prop}
    (h : wpAny (model prog w) A.in1 (call (.ref f) [.ref x, b]) (fun v s' => ∃ r, v = .bool r ∧ Q (.bool (!r)) s') E s) : wpAny (model prog w) A (richCompare .NotEq (.ref x) b) Q E s := by
  have one : wpAny (model prog w) A (tryCompare (.ref x) "__ne__" b) (fun r s' => ∃ v, r = some v ∧ Q v s') E s :=
    O.cmpNe X I hu (wpAny_mono h (fun v s' hv => by obtain ⟨r, rfl, q⟩ := hv; exact ⟨r, rfl, _, rfl, q⟩) fun _ _ e => e)
  unfold richCompare
  simp only [oneThing_ref]
  rw [cmpInfo_NotEq]
  refine wpAny_holding (wpAny_bind (wpAny_cRoomFor (Nat.lt_of_succ_lt hu) ?_))
  refine wpAny_bind (I.type.here (wpAny_bind (hb.here ?_)))
  split
  · rename_i q
    have e : PySem.W.subIn K tb (.ref C) = some false := by
      rcases Bool.or_eq_true_iff.mp hn with e | e
      · rw [beq_iff_eq.mp e] at q
        simp at q
      · exact beq_iff_eq.mp e
    refine wpAny_bind ((PySem.W.looks_subIn X e).here ?_)
    simp only [Bool.false_eq_true, if_false]
    refine wpAny_bind (wpAny_mono one (fun r s' z => ?_) fun _ _ e => e)
    obtain ⟨v, rfl, hq⟩ := z
    exact wpAny_pure hq
  · refine wpAny_bind (wpAny_pure ?_)
    simp only [Bool.false_eq_true, if_false]
    refine wpAny_bind (wpAny_mono one (fun r s' z => ?_) fun _ _ e => e)
    obtain ⟨v, rfl, hq⟩ := z
    exact wpAny_pure hq
end
section
variable {X : Cx} {C f : Addr} {fd : FuncData} {ps : List Str} {sp : Sp} {n : Nat}
def rOwnC (C : Addr) (sp : Sp) (neg : Bool) : R2 := fun x y H Q => ∃ a dx fs t, x = .ref a ∧ H a = some (.ins C dx fs) ∧ Rgt C H y t ∧ sp [x, y] H (fun v H' => ∃ k, v = .bl k ∧ Q (.bl (if neg then !k else k)) H') E0
theorem own_call (F : FnOk X.prog X.w X.K X.mg X.base CX0 n f fd ps sp) (hb : Binds X.K fd ps []) {A : Around} (hr : Room n A) {pins : List (Addr × Obj)} {s : Shared} {σ : L2.St} {H : Hp} (e0 : Env0 X.prog X.w X.K X.mg X.base A X.stack s H) (I : Inv X pins σ H s)
    {x y : V} {v u : Value} (rx : RelV x v) (ry : RelV y u) {Q : VK} (q : sp [x, y] H Q E0) : wpAny (model X.prog X.w) A (call (.ref f) [v, u]) (EP X pins σ Q) X.xe s := by
  have hl := F.len _ _ _ _ q
  have r2 : Vals [x, y] [v, u] := .cons rx (.cons ry .nil)
  refine wpAny_call (codeAny_mono (F.run A X.stack s H ⟨[v, u], []⟩ [v, u] [x, y] _ E0 hr e0 (by
    have := hb s [v, u] I.kIn (by simpa using hl)
    simpa using this) r2 q) fun r s' hq => ?_)
  cases r with
  | error e => exact pass0 pins σ H s e s' I hq
  | ok fl =>
    cases fl with
    | ret w => exact I.after hq
    | next => exact False.elim hq
    | brk => exact False.elim hq
    | cont => exact False.elim hq
theorem op_eqOwn (O : OwnE X.K C f) (F : FnOk X.prog X.w X.K X.mg X.base CX0 n f fd ps sp) (hb : Binds X.K fd ps []) (hr : Room n X.A) : OpR X (compareOp .Eq) (rOwnC C sp false) := by
  intro pins s σ H x y v u Q I rx ry h
  obtain ⟨a, dx, fs, t, rfl, ha, rg, q⟩ := h
  obtain rfl : v = Value.ref a := rx
  obtain ⟨mA, J, _⟩ := ins_get I.hok ha
  obtain ⟨od, J, _⟩ := J.look
  obtain ⟨m, hF⟩ := I.fr
  refine PySem.W.cmp_K (op := .Eq) (tb := t) hr.units0 hF I.ok.mod.kin J (rg.looks I ry) rg.first O.eq O.fn ?_
  refine wpAny_mono (own_call F hb hr I.env0 I (x := .ref a) (v := .ref a) rfl ry q) (fun w s' z => ?_) fun _ _ x => x
  obtain ⟨z', H', I', rz, k, rfl, qz⟩ := z
  obtain rfl : w = Value.bool k := rz
  exact ⟨.bl k, H', I', rfl, qz⟩
theorem op_neOwn (O : OwnE X.K C f) (F : FnOk X.prog X.w X.K X.mg X.base CX0 n f fd ps sp) (hb : Binds X.K fd ps []) (hr : Room (n + 1) X.A) : OpR X (compareOp .NotEq) (rOwnC C sp true) := by
  intro pins s σ H x y v u Q I rx ry h
  obtain ⟨a, dx, fs, t, rfl, ha, rg, q⟩ := h
  obtain rfl : v = Value.ref a := rx
  obtain ⟨mA, J, _⟩ := ins_get I.hok ha
  obtain ⟨od, J, _⟩ := J.look
  refine O.rcNe I.kIn J (rg.looks I ry) rg.first (by have := hr.units; omega) ?_
  refine wpAny_mono (own_call F hb hr.in1 I.env0.in1 I (x := .ref a) (v := .ref a) rfl ry q) (fun w s' z => ?_) fun _ _ x => x
  obtain ⟨z', H', I', rz, k, rfl, qz⟩ := z
  obtain rfl : w = Value.bool k := rz
  exact ⟨k, rfl, .bl (!k), H', I', rfl, qz⟩
end
/-- what the class keeps besides: no != of its own; what is no Settings -/
structure NeI (K : PySem.W.Frag) (C : Addr) : Prop where
  ne : PySem.W.findIn K (.ref C) "__ne__" = some (some (.builtin "object.__ne__"))
  mo : PySem.W.mroIn K C (.type "object") = some true
  kt : PySem.W.kitOne K (.type "tuple") (.ref C) = some false
  kl : PySem.W.kitOne K (.type "list") (.ref C) = some false
  ki : PySem.W.kitOne K (.type "int") (.ref C) = some false
def neB (K : PySem.W.Frag) (C : Addr) : Bool := decide (PySem.W.findIn K (.ref C) "__ne__" = some (some (.builtin "object.__ne__"))) && (decide (PySem.W.mroIn K C (.type "object") = some true) && (decide (PySem.W.kitOne K (.type "tuple") (.ref C) = some false) && (decide (PySem.W.kitOne K (.type "list") (.ref C) = some false) && decide (PySem.W.kitOne K (.type "int") (.ref C) = some false))))
theorem neB_ok {K : PySem.W.Frag} {C : Addr} (h : neB K C = true) : NeI K C := by
  unfold neB at h
  simp only [Bool.and_eq_true, decide_eq_true_eq] at h
  exact ⟨h.1, h.2.1, h.2.2.1, h.2.2.2.1, h.2.2.2.2⟩
theorem op_eqM {X : Cx} {C : Addr} {k : Nat} {ps : List Str} {sp : Sp} (h : MtH X.prog X.w X.K X.mg X.base CX0 k C "__eq__" ps sp) (e : NeI X.K C) (hr : Room k X.A) : OpR X (compareOp .Eq) (rOwnC C sp false) := by
  obtain ⟨f, fd, M, hb, F⟩ := h
  exact op_eqOwn ⟨M.at_, M.fn, e.ne, e.mo⟩ F hb hr
theorem op_neM {X : Cx} {C : Addr} {k : Nat} {ps : List Str} {sp : Sp} (h : MtH X.prog X.w X.K X.mg X.base CX0 k C "__eq__" ps sp) (e : NeI X.K C) (hr : Room (k + 1) X.A) : OpR X (compareOp .NotEq) (rOwnC C sp true) := by
  obtain ⟨f, fd, M, hb, F⟩ := h
  exact op_neOwn ⟨M.at_, M.fn, e.ne, e.mo⟩ F hb hr
theorem c_isiK {X : Cx} {K : PySem.W.Frag} (h : X.K = K) : CallR X (.builtin "isinstance") (rIsi K) := h ▸ call_isi
end Kr

namespace KrE
open Kr L2 PySem PySem.Spec PyProof.Rows
open PySem.HandSPX PySem.W Builtin Builtin.ObjectAttr
section
variable {prog : Program} {w : World} {A : Around} {E : Value → Shared → Prop} {R : Result → Shared → Prop} {hp : Heap} {g : Array GenState} {d : Drawn} {t : Nat} {os : OsState} {B : String} {bmB : List Value}
/-- the first field of an exception in the making, whatever built-in class it rests on -/
theorem first_field {K : W.Frag} {name : Str} {tk : Tok} {v : Value} {x C : Addr} {fv : Array Value} {cd : ClassData} (SF : StoreFacts B bmB "object.__setattr__" "object")
    (X : K.In hp) (hx : hp.get? x = some { cls := .ref C, data := .fields fv }) (hcd : W.clsIn K C = some cd) (ho : excOver K C bmB = true) (hh : cd.hasDict = true) (ht : takerIn K C name = some none)
    (hq : ∀ h' tk' dx, (∀ b o, b ≠ x → hp.get? b = some o → h'.get? b = some o) → hp.objs.size ≤ dx → dx ≠ x → h'.get? x = some { cls := .ref C, dict := some dx, data := .fields fv } →
      h'.Ns1 dx (fun y => if y = name then some v else none) → R (.ok (.ret .none)) ⟨h', g, d, tk', os⟩) :
    codeAny (model prog w) A (.call (.builtin "object.__setattr__") ⟨[.ref x, .str name tk, v], []⟩) R ⟨hp, g, d, t, os⟩ := by
  refine osa_openX (C := C) (od := none) (r := none) SF X (show InstAt hp x _ C none from ⟨hx, rfl, rfl, trivial⟩) ho ht fun b => ?_
  have hcls : W.Looks (model prog w) hp (classData C) cd := W.looks_clsIn X hcd
  have hxs : x ≠ hp.objs.size := Nat.ne_of_lt (Heap.lt_size hx)
  show wpAny _ _ (storeInOwnDict (.ref x) (.ref C) (.str name tk) name v b) _ _ _
  obtain ⟨nm, bs, mro, ns, qn, hd, sn, sb, ab, col, del⟩ := cd
  dsimp only at hh
  subst hh
  unfold storeInOwnDict ownDictForStores
  repeat (first | with_reducible refine store_in_new ?_ ?_ | with_reducible refine wpAny_loadPart_at hx ?_ | with_reducible refine hcls.at ?_ | wp_step)
  · exact ⟨_, #[], _, (Heap.get?_update_ne _ _ _ _ hxs.symm).trans (Heap.get?_push_at rfl rfl), rfl, fun e he => absurd he (by simp), fun _ => rfl⟩
  · intro h' tk' hn' hs
    have hx1 : (hp.push { cls := .type "dict", data := .dict #[] }).get? x = some { cls := .ref C, data := .fields fv } := Heap.get?_push_of_some _ hx
    refine hq h' tk' hp.objs.size (fun b o hb e => ?_) (Nat.le_refl _) hxs.symm ?_ hn'
    · exact (hs.2 b (Nat.ne_of_lt (Heap.lt_size e))).trans ((Heap.get?_update_ne _ _ _ _ hb).trans (Heap.get?_push_of_some _ e))
    · exact (hs.2 x hxs).trans (Heap.get?_update_self _ hx1 rfl)
end
/-- the built-in classes above -/
def lkTail : List Value := [.type "LookupError", .type "Exception", .type "BaseException", .type "object"]
/-- an own class over LookupError: what the written part says of it -/
structure ErrC (K : PySem.W.Frag) (C : Addr) : Prop where
  ini : PySem.W.excInitIn K C lkTail "LookupError.__new__" = true
  ov : PySem.W.excOver K C lkTail = true
  dc : PySem.W.hasDictIn K C = true
  sa : PySem.W.findIn K (.ref C) "__setattr__" = some (some (.builtin "object.__setattr__"))
  exC : PySem.W.subIn K (.ref C) (.type "BaseException") = some true
  tyC : PySem.W.typeIn K (.ref C) = some (.type "type")
  kC : PySem.W.keepIn K (.ref C) = true
section
variable {X : Cx} {pins : List (Addr × Obj)} {σ : L2.St} {H : Hp} {s : Shared} {a C : Addr} {f : Str} {y : V} {u : Value} {Q : Unit → Shared → Prop} {E : Value → Shared → Prop} {A : Around}
theorem put_first (T : ErrC X.K C) (I : Inv X pins σ H s) (e : H a = some (exo a C none)) (ht : PySem.W.takerIn X.K C f = some none) (ry : RelV y u)
    (h : ∀ dx s', H dx = none → dx ≠ a → Inv X pins σ (upd (upd H dx (exd dx [(f, y)])) a (exo a C (some dx))) s' → Q () s') : wpAny (model X.prog X.w) A (setAttr (.ref a) f u) Q E s := by
  obtain ⟨cd, hcl, hdc⟩ := any_some T.dc
  obtain ⟨t1, ho⟩ := exo_at I.hok e
  obtain ⟨hp, g, d, t, os⟩ := s
  refine PySem.W.set_plain I.kIn (od := none) (show PySem.W.InstAt hp a _ C none from ⟨ho, rfl, rfl, trivial⟩) T.sa ?_
  refine first_field PySem.F.store_LookupError I.kIn ho hcl T.ov hdc ht fun h' tk' dx k dn dne hx hn => ?_
  have free : H dx = none := I.hok.fresh dn
  have old : ∀ {b : Addr} {o : Obj}, hp.get? b = some o → b ≠ dx := fun q z => absurd (Heap.lt_size q) (by rw [z]; exact Nat.not_lt.mpr dn)
  have off : ∀ {b : Addr}, H b = none → b ≠ a := fun n z => by rw [z, e] at n; cases n
  have fix : ∀ {b : Addr} {o : HO}, H b = some o → o ≠ exo a C none → upd (upd H dx (exd dx [(f, y)])) a (exo a C (some dx)) b = some o := fun {b o} q z => by
    have n1 : b ≠ a := fun w => z (by rw [w, e] at q; exact (Option.some.inj q).symm)
    rw [upd_ne n1, upd_ne (ne_of_none q free)]
    exact q
  have un : Un X.fs [] H (upd (upd H dx (exd dx [(f, y)])) a (exo a C (some dx))) hp h' := by
    refine ⟨fun b o q n _ _ => k b o (off n) q, fun b o q n _ _ => ⟨o.slots, k b o (off n) q⟩, fun b o q n _ => by rw [upd_ne (off n), upd_ne (old q)]; exact n, fun b o q _ => ?_, fun b xs q => fix q (Ne.symm exo_tup), fun b o v q => fix q (Ne.symm exo_frz), fun b ps q => ⟨#[], by rw [fix q (Ne.symm exo_tbl)]; simp⟩⟩
    by_cases hb : b = a
    · exact ⟨_, by rw [hb]; exact hx⟩
    · exact ⟨o, k b o hb q⟩
  refine h dx _ free dne (I.un (t' := tk') un fun b o q => ?_)
  by_cases hb : b = a
  · subst hb
    rw [upd_same] at q
    obtain rfl := Option.some.inj q
    exact exo_ok hx
  rw [upd_ne hb] at q
  by_cases hd : b = dx
  · subst hd
    rw [upd_same] at q
    obtain rfl := Option.some.inj q
    exact exd_ok hn (relO_put (fs := []) ry fun _ => True.intro)
  rw [upd_ne hd] at q
  refine (I.hok b o q).stay (fun c v hc z => k c v ?_ z) (fun c hc => fix hc (Ne.symm exo_own)) fun c xs hc => fix hc (Ne.symm exo_tup)
  rcases hc with rfl | hc
  · exact hb
  · intro w
    rw [w, e] at hc
    exact exo_own (Option.some.inj hc)
end
/-- self.f = y, the first field of an exception in the making -/
def tErs (K : PySem.W.Frag) (f : Str) (to te : TE) : TS := fun D σ H => te σ H fun y H1 => to σ H1 fun x H2 => ∃ a C : Addr, x = .ref a ∧ ErrC K C ∧ PySem.W.takerIn K C f = some none ∧ H2 a = some (exo a C none) ∧
  ∀ dx, H2 dx = none → dx ≠ a → D.nx σ (upd (upd H2 dx (exd dx [(f, y)])) a (exo a C (some dx)))
section
variable {X : Cx} {o e : Expr} {es : List Expr} {to te : TE} {ta : TA} {f : Str} {p p' pos : Pos}
theorem ps_ers (ho : PE X o to) (he : PE X e te) (hs : swapsWith e (some (.Attribute o f p')) pos.line X.env = pure false := by rfl) : PS X (.Assign [.Attribute o f p'] e pos) (tErs X.K f to te) := by
  refine ⟨fun pins s0 st0 H D I h => ?_⟩
  refine plainObj_wpAny_Assign_Attribute (thn (he.run pins s0 st0 H _ I h) fun v s1 ⟨y, H1, I1, r1, q1⟩ => thn (ho.run pins s1 st0 H1 _ I1 q1) fun u s2 ⟨x, H2, I2, r2, a, C, ex, T, ht, ea, q⟩ => ?_) hs
  subst ex
  obtain rfl : u = Value.ref a := r2
  exact put_first T I2 ea ht r1 fun dx s' n1 n2 J => ⟨st0, _, J, q dx n1 n2⟩
theorem pmk_err {CX : CXT} {x : Str} {C fI : Addr} {k : Nat} {fd : FuncData} {ps : List Str} {sp : Sp} (T : ErrC X.K C) (iC : PySem.W.findIn X.K (.ref C) "__init__" = some (some (.ref fI))) (tI : PySem.W.typeIn X.K (.ref fI) = some (.type "function"))
    (F1 : FnOk X.prog X.w X.K X.mg X.base CX k fI fd ps sp) (hr : Room (k + 1) X.A) (hb : Binds X.K fd ps []) (hx : Passes CX X (fun _ _ _ => False)) (hg : Gl X x) (hm : X.mg x = some (.ref C)) (ha : PA X (e :: es) ta)
    (hdb : (x == ("__debug__" : Str)) = false := by decide) (he : starEach (e :: es) X.env = (false, eval e X.env) :: starEach es X.env := by rfl) (hpl : (backTo pos (starEach es X.env)).any (·.1) = false := by rfl) :
    PMk X (.Call (.Name x p) (e :: es) [] pos) (tMkO C sp [] ta) := by
  intro pins s0 st0 H Q I h
  refine wpAny_Call_Name_kw (ld_glob I hg hm ?_ hdb)
  refine PySem.W.callWith_K (h₀ := X.base) I.ok.mod.kin T.kC (thn (ha.run pos pins s0 st0 H _ I h) fun us s1 ⟨vs, H1, I1, r1, hz, q1⟩ => ⟨I1.kIn, ?_⟩) he hpl
  show wpAny _ _ (call (.ref C) us) _ _ _
  obtain ⟨nm, N, qn, bs, bm, hdct, sn, sub, ab, col, dd, k0, k1, k2, k3, k5, hC, hT⟩ := PySem.W.excInit_of I1.kIn T.ini
  obtain ⟨hp, g, dr, tk, os⟩ := s1
  have le1 : hp.objs.size ≤ hp.objs.size + 1 := Nat.le_succ _
  have free := I1.hok.fresh le1
  have hq := q1 _ free
  have grown : ∀ b o, hp.get? b = some o → ((hp.push (PySem.W.kdv_tup us)).push (PySem.HandSPX.excO C hp.objs.size)).get? b = some o := fun b o z => Heap.get?_push_of_some _ (Heap.get?_push_of_some _ z)
  have made : ((hp.push (PySem.W.kdv_tup us)).push (PySem.HandSPX.excO C hp.objs.size)).get? (hp.objs.size + 1) = some (PySem.HandSPX.excO C hp.objs.size) := by heap_get
  have I2 : Inv X pins st0 (upd H1 (hp.objs.size + 1) (exo (hp.objs.size + 1) C none)) ⟨(hp.push (PySem.W.kdv_tup us)).push (PySem.HandSPX.excO C hp.objs.size), g, dr, tk, os⟩ := I1.laid (t' := tk) (a := hp.objs.size + 1) (o := exo (hp.objs.size + 1) C none) (h' := (hp.push (PySem.W.kdv_tup us)).push (PySem.HandSPX.excO C hp.objs.size)) grown le1 (exo_ok made)
  have r2 : Vals (V.ref (hp.objs.size + 1) :: (vs ++ [])) (Value.ref (hp.objs.size + 1) :: (us ++ [])) := .cons rfl (r1.append .nil)
  have hl : (Value.ref (hp.objs.size + 1) :: us ++ []).length = ps.length := r2.length.symm.trans (F1.len _ _ _ _ hq)
  have few : us.length ≤ sizeLine := by
    have := Paired.length r1
    rw [sizeLine_eq]
    omega
  have bound : BindsTo ⟨(hp.push (PySem.W.kdv_tup us)).push (PySem.HandSPX.excO C hp.objs.size), g, dr, tk, os⟩ fd ⟨Value.ref (hp.objs.size + 1) :: us, []⟩ (ps.zip (Value.ref (hp.objs.size + 1) :: (us ++ []))) := hb _ (Value.ref (hp.objs.size + 1) :: us) I2.kIn hl
  refine wpAny_call (PySem.HandSPX.call_own PySem.F.excBase_LookupError hT hC (PySem.W.looks_findIn I1.kIn iC) (fun self => PySem.W.bind_fn I1.kIn self tI) few
    (codeAny_mono (F1.run _ X.stack _ _ ⟨Value.ref (hp.objs.size + 1) :: us, []⟩ (Value.ref (hp.objs.size + 1) :: (us ++ [])) _ _ (fun _ _ _ => False) (hr.make C us []) (I2.env0.make C us []) bound r2 hq) fun r s' z => ?_))
  cases r with
  | error er => exact hx pins st0 _ _ er s' I2 z
  | ok fl =>
    cases fl with
    | ret u =>
      obtain ⟨v, H2, os2, bare2, un2, hok2, rv, ev, d, fs, ea, ed, hd1, q2⟩ := z
      subst ev
      obtain ⟨h2, g2, d2, t2, os'⟩ := s'
      exact ⟨rv, mk_end (raises_own T.exC T.tyC) I1 le1 grown un2 hok2 os2 bare2 ea ed hd1 q2⟩
    | next => exact False.elim z
    | brk => exact False.elim z
    | cont => exact False.elim z
end
/-- the error class of the module's name x, its __init__ keeping sp -/
def ErH (P : Program) (w : World) (K : PySem.W.Frag) (mg : Str → Option Value) (base : Heap) (CX : CXT) (k : Nat) (x : Str) (C : Addr) (ps : List Str) (sp : Sp) : Prop :=
  ∃ (f : Addr) (fd : FuncData), mg x = some (.ref C) ∧ ErrC K C ∧ PySem.W.findIn K (.ref C) "__init__" = some (some (.ref f)) ∧ PySem.W.typeIn K (.ref f) = some (.type "function") ∧ Binds K fd ps [] ∧ FnOk P w K mg base CX k f fd ps sp
section
variable {X : Cx} {C : Addr} {k : Nat} {x : Str} {ps : List Str} {sp : Sp} {e : Expr} {es : List Expr} {ta : TA} {p pos : Pos}
theorem pmk_mk (h : ErH X.prog X.w X.K X.mg X.base CX0 k x C ps sp) (hr : Room (k + 1) X.A) (ha : PA X (e :: es) ta) (hg : Gl X x := by rfl)
    (hdb : (x == ("__debug__" : Str)) = false := by decide) (he : starEach (e :: es) X.env = (false, eval e X.env) :: starEach es X.env := by rfl) (hpl : (backTo pos (starEach es X.env)).any (·.1) = false := by rfl) :
    PMk X (.Call (.Name x p) (e :: es) [] pos) (tMkO C sp [] ta) := by
  obtain ⟨f, fd, hm, T, iC, tI, hb, F⟩ := h
  exact pmk_err T iC tI F hr hb pass0 hg hm ha hdb he hpl
end
def rErs (K : PySem.W.Frag) (f : Str) (y x : V) (H : Hp) (Qn : Hp → Prop) : Prop := ∃ a C : Addr, x = .ref a ∧ ErrC K C ∧ PySem.W.takerIn K C f = some none ∧ H a = some (exo a C none) ∧ ∀ dx, H dx = none → dx ≠ a → Qn (upd (upd H dx (exd dx [(f, y)])) a (exo a C (some dx)))
theorem r_sErs {K : PySem.W.Frag} {f : Str} {to te : TE} {D : Ends} {σ : L2.St} {H : Hp} (q : te σ H fun y H1 => to σ H1 fun x H2 => rErs K f y x H2 fun H3 => D.nx σ H3) : tErs K f to te D σ H := q
theorem r_ers {K : PySem.W.Frag} {f : Str} {y : V} {a C : Addr} {H : Hp} {Qn : Hp → Prop} (T : ErrC K C) (t : PySem.W.takerIn K C f = some none) (h : H a = some (exo a C none)) (q : ∀ dx, H dx = none → dx ≠ a → Qn (upd (upd H dx (exd dx [(f, y)])) a (exo a C (some dx)))) : rErs K f y (.ref a) H Qn := ⟨a, C, rfl, T, t, h, q⟩
/-- the making of an error, told by its end -/
def rMkE (C : Addr) (sp : Sp) (vs : List V) (H1 : Hp) (Q : XK) : Prop := vs.length ≤ 1000 ∧ ∀ a, H1 a = none → sp (.ref a :: (vs ++ [])) (upd H1 a (exo a C none))
  (fun v H2 => v = .non ∧ ∃ (d : Addr) (fs : List (Str × V)), H2 a = some (exo a C (some d)) ∧ H2 d = some (exd d fs) ∧ H1 d = none ∧ Q (.ref C) (some d) (upd (del H2 a) d (.xd fs))) (fun _ _ _ => False)
theorem r_mkE {C : Addr} {sp : Sp} {ta : TA} {σ : L2.St} {H : Hp} {Q : XK} (q : ta σ H fun vs H1 => rMkE C sp vs H1 Q) : tMkO C sp [] ta σ H Q := q
def errB (K : PySem.W.Frag) (C : Addr) : Bool := PySem.W.excInitIn K C lkTail "LookupError.__new__" && (PySem.W.excOver K C lkTail && (PySem.W.hasDictIn K C && (decide (PySem.W.findIn K (.ref C) "__setattr__" = some (some (.builtin "object.__setattr__"))) &&
  (decide (PySem.W.subIn K (.ref C) (.type "BaseException") = some true) && (decide (PySem.W.typeIn K (.ref C) = some (.type "type")) && PySem.W.keepIn K (.ref C))))))
theorem errB_ok {K : PySem.W.Frag} {C : Addr} (h : errB K C = true) : ErrC K C := by
  unfold errB at h
  simp only [Bool.and_eq_true, decide_eq_true_eq] at h
  exact ⟨h.1, h.2.1, h.2.2.1, h.2.2.2.1, h.2.2.2.2.1, h.2.2.2.2.2.1, h.2.2.2.2.2.2⟩
/-- the making of an error with one field -/
theorem r_mk1 {C : Addr} {f : Str} {v : V} {H1 : Hp} {Q : XK} {sp : Sp} (hsp : ∀ a H (Q' : VK), H a = some (exo a C none) → (∀ d, H d = none → d ≠ a → Q' .non (upd (upd H d (exd d [(f, v)])) a (exo a C (some d)))) → sp [.ref a, v] H Q' (fun _ _ _ => False))
    (q : ∀ d H', Same H1 H' → H1 d = none → H' d = some (.xd [(f, v)]) → Q (.ref C) (some d) H') : rMkE C sp [v] H1 Q := by
  refine ⟨by simp, fun a ha => hsp a _ _ upd_same fun d hd hda => ⟨rfl, d, [(f, v)], upd_same, by rw [upd_ne hda]; exact upd_same, by rw [upd_ne hda] at hd; exact hd, ?_⟩⟩
  rw [upd_ne hda] at hd
  refine q d _ (fun b o e => ?_) hd upd_same
  have n1 : b ≠ d := ne_of_none e hd
  have n2 : b ≠ a := ne_of_none e ha
  rw [upd_ne n1, del_ne n2, upd_ne n2, upd_ne n1, upd_ne n2]
  exact e
end KrE

namespace KrE
open Kr L2 PySem PySem.Spec PyProof.Rows
/-- what the body's exception asks where the first clause takes it by a name, in slot i -/
def wFst (K : PySem.W.Frag) (c : Value) (i : Nat) (ts : Addr → Value → Option Addr → TS) (D : Ends) : WX := fun cls d σ H => PySem.W.exmOne K cls c = some true ∧ ∀ a, H a = none →
  ts a cls d { nx := fun σ2 H2 => D.nx (σ2.set i none) H2, rt := D.rt, bk := fun σ2 H2 => D.bk (σ2.set i none) H2, ct := fun σ2 H2 => D.ct (σ2.set i none) H2 } (σ.set i (some (.ref a))) H
section
variable {X : Cx} {x n : Str} {c : Value} {i : Nat} {body suite : List Stmt} {b0 : Stmt} {np pos pos' : Pos} {tb : WX → TS} {ts : Addr → Value → Option Addr → TS} {hds : List ExceptHandler}
/-- try: .. except X as n: suite, further clauses behind it: where the first clause takes all that comes -/
theorem ps_try_first (hs : X.stack = X.env :: X.outer) (hf : X.env.frame = some X.env.locals) (hN : X.N.Nodup) (hi : X.N[i]? = some n) (hln : X.env.kindOf n = some .local) (hc : Names X x c)
    (hb : ∀ (W : WX) (pn : List (Addr × Obj)) (xe : Value → Shared → Prop), Takes (X.tr pn xe) W → PassesOwn (model X.prog X.w) X.A X.env xe → PSs (X.tr pn xe) body (tb W))
    (hsu : ∀ (a : Addr) (oe : Obj) (cls : Value) (d : Option Addr) (pn : List (Addr × Obj)), Zc cls d oe → (∃ vs, oe.data = .fields vs) → PSs (X.suite a ((a, oe) :: pn)) (b0 :: suite) (ts a cls d)) :
    PS X (.Try body (.ExceptHandler (some (.Name x np)) (some n) (b0 :: suite) pos' :: hds) [] [] pos) (fun D σ H => tb (wFst X.K c i ts D) D σ H) := by
  refine ⟨fun pins s0 st0 H D I h => ?_⟩
  have ok := I.ok
  have hfr : X.A.frames = some (X.env :: X.outer) := by rw [ok.frames, hs]
  refine wpAny_Try_except ?_
  refine wpAny_mono ((hb (wFst X.K c i ts D) (X.pn ++ pins) (fun e s1 => wpAny (model X.prog X.w) X.A (noteFrame e X.env) (fun _ s2 => wpAny (model X.prog X.w) X.A (setFlight e none) (fun _ s3 =>
    wpAny (model X.prog X.w) X.A (handleBy e X.env (.ExceptHandler (some (.Name x np)) (some n) (b0 :: suite) pos' :: hds)) (SP X pins D) X.xe s3) X.xe s2) X.xe s1) (fun u s' xx => ?_) PassesOwn.looking).run [] s0 st0 H D (I.toTry _) h) (fun f s1 z => ?_) (fun _ _ he => he)
  · obtain ⟨a, B, sI, pins', st1, H1, cls, d, rfl, J', nb, up, sky, na, os, ag, hit, go⟩ := xx
    have J : Inv X pins st1 H1 sI := J'.ofTry ok
    rw [hs] at sky
    show wpAny (model X.prog X.w) X.A (noteFrame (.ref a) X.env) _ _ _
    refine Sky.land Zc.steady hfr hf sky fun h3 fl3 up3 => ?_
    have J3 : Inv X pins st1 H1 { s' with heap := h3 } := J.landed nb fl3.1 (up.trans up3) os ag
    obtain ⟨oe3, vs3, he3, hz3, hd3⟩ := fl3.there
    have nfr : a ∉ frs (X.env :: X.outer) := fun hm => by
      obtain ⟨_, o', e', hnf⟩ := fl3.2.2.1.mem hm
      rw [he3] at e'
      obtain rfl := Option.some.inj e'
      exact hnf _ hd3
    have nL : a ≠ X.env.locals := fun z => nfr (List.mem_filterMap.mpr ⟨X.env, List.mem_cons_self, by rw [hf, z]⟩)
    have nF : a ∉ X.fs := fun hm => by
      obtain ⟨e, he, q⟩ := List.mem_filterMap.mp hm
      exact nfr (List.mem_filterMap.mpr ⟨e, List.mem_cons_of_mem _ he, q⟩)
    have S3 := J3.suite he3 hd3 na nL nF
    refine wpAny_handleBy_cons (codeAny_handlers_test ?_) (by intro q; cases q)
    have ty : PySem.W.Looks (model X.prog X.w) h3 (typeOf (.ref a)) cls := fun A Q E s k q => wpAny_typeOf_ref (k _ _ he3) (by rw [hz3.1]; exact q)
    have asked : ∀ {Q : Value → Shared → Prop} {E : Value → Shared → Prop}, Q c { s' with heap := h3 } → wpAny (model X.prog X.w) (X.A.mark (some (.ref a))) (eval (.Name x np) X.env) Q E { s' with heap := h3 } := fun {Q E} q => by
      obtain ⟨hg, hdbg, hm | ⟨hm, hv, hnn⟩⟩ := hc
      · exact ld_glob (X := X.suite a ((a, oe3) :: (X.pn ++ pins))) S3 hg hm q hdbg
      · exact ld_blt (X := X.suite a ((a, oe3) :: (X.pn ++ pins))) S3 hg hm hv q hnn hdbg
    refine asked ((PySem.W.exm_one (M := model X.prog X.w) J3.kIn ty hit).here (codeAny_handlers_suite_as (HandSPX.lands_againZ fl3 fun h4 fl4 up4 => ?_)))
    have J4 : Inv X pins st1 H1 { s' with heap := h4 } := J.landed nb fl4.1 ((up.trans up3).trans up4) os ag
    obtain ⟨oe4, vs4, he4, hz4, hd4⟩ := fl4.there
    have S4 := J4.suite he4 hd4 na nL nF
    refine store_ok (X := X.suite a ((a, oe4) :: (X.pn ++ pins))) (v := .ref a) S4 hN hi (.inl hln) rfl (fun s5 S5 => ?_) (.inr hln)
    refine wpAny_mono ((hsu a oe4 cls d (X.pn ++ pins) hz4 ⟨_, hd4⟩).run [] s5 _ H1 _ S5 (go a na)) (fun f s6 z => ?_) (fun _ _ z => False.elim z)
    have off : ∀ {st6 : L2.St} {H6 : Hp} {Q : Shared → Prop}, Inv (X.suite a ((a, oe4) :: (X.pn ++ pins))) [] st6 H6 s6 → (∀ s7, Inv X pins (st6.set i none) H6 s7 → Q s7) →
        wpAny (model X.prog X.w) X.A (do bindName X.env n .none; unbindBehindTheSuite X.env n pos') (fun _ s7 => Q s7) X.xe s6 := fun S6 hq => gone_ok (S6.unsuite ok) hN hi hln hq
    cases f with
    | next =>
      obtain ⟨st6, H6, S6, q6⟩ := z
      exact off S6 fun s7 J7 => ⟨_, _, J7, q6⟩
    | brk =>
      obtain ⟨st6, H6, S6, q6⟩ := z
      exact off S6 fun s7 J7 => ⟨_, _, J7, q6⟩
    | cont =>
      obtain ⟨st6, H6, S6, q6⟩ := z
      exact off S6 fun s7 J7 => ⟨_, _, J7, q6⟩
    | ret u =>
      obtain ⟨v6, st6, H6, S6, r6, q6⟩ := z
      exact off S6 fun s7 J7 => ⟨_, _, _, J7, r6, q6⟩
  · cases f with
    | next =>
      obtain ⟨st2, H2, J2, q⟩ := z
      exact wpAny_execs_nil ⟨st2, H2, J2.ofTry ok, q⟩
    | brk =>
      obtain ⟨st2, H2, J2, q⟩ := z
      exact ⟨st2, H2, J2.ofTry ok, q⟩
    | cont =>
      obtain ⟨st2, H2, J2, q⟩ := z
      exact ⟨st2, H2, J2.ofTry ok, q⟩
    | ret u =>
      obtain ⟨v, st2, H2, J2, r, q⟩ := z
      exact ⟨v, st2, H2, J2.ofTry ok, r, q⟩
end
end KrE

namespace KrE
open Kr L2 PySem PySem.Spec PyProof.Rows
/-! ### an object made by keywords where an error may leave, told by the slots as they stand -/
def tMakeKS (C : Addr) (n m : Nat) (sp : Sp) (E : L2.St → XK) (t tk : TA) : TE := fun σ H Q => t σ H fun vs H1 => tk σ H1 fun zs H2 => vs.length = n ∧ zs.length = m ∧ rMk C sp (E σ) (fun s => s :: vs ++ zs) H2 Q
section
variable {X : Cx} {CX : CXT} {k n : Nat} {C : Addr} {ps ks : List Str} {sp : Sp} {E : L2.St → XK} {x : Str} {p pos : Pos} {e : Expr} {es : List Expr} {kws : List Keyword} {t tk : TA}
theorem pe_mkES (h : MkK X.prog X.w X.K X.mg X.base CX k x C ps (n + 1) ks sp) (hr : Room (k + 1) X.A) (hx : ∀ σ, PassesAt CX X σ (E σ)) (ha : PA X (e :: es) t) (hkw : PK X kws tk) (hg : Gl X x := by rfl)
    (hall : (backToKw pos (keywordEach kws X.env)).all (·.1.isSome) = true := by rfl) (hks : (backToKw pos (keywordEach kws X.env)).filterMap (·.1) = ks := by rfl) (hdb : (x == ("__debug__" : Str)) = false := by decide)
    (he : starEach (e :: es) X.env = (false, eval e X.env) :: starEach es X.env := by rfl) (hpl : ((backTo pos (starEach (e :: es) X.env)).any (·.1) || (backToKw pos (keywordEach kws X.env)).any (·.1.isNone)) = false := by rfl) :
    PE X (.Call (.Name x p) (e :: es) kws pos) (tMakeKS C n ks.length sp E t tk) := by
  obtain ⟨f, fd, hm, M, hb, F⟩ := h
  refine ⟨fun pins s0 st0 H Q I hq0 => ?_⟩
  refine wpAny_Call_Name_kw (ld_glob I hg hm ?_ hdb)
  refine PySem.W.callWith_KW (h₀ := X.base) I.ok.mod.kin M.kp hall (thn (ha.run pos pins s0 st0 H _ I hq0) fun us s1 ⟨vs, H1, I1, r1, q1⟩ => thn (hkw.run pos pins s1 st0 H1 _ I1 q1) fun ws s2 ⟨zs, H2, I2, r2, l1, l2, q2⟩ => ⟨I2.kIn, ?_⟩) hpl he
  rw [hks]
  have made := Inv.made (C := C) I2
  have free1 : H2 (s2.heap.objs.size + 1) = none := I2.hok.fresh (Nat.le_succ _)
  have free0 : H2 s2.heap.objs.size = none := I2.hok.fresh (Nat.le_refl _)
  have promise := q2 (s2.heap.objs.size + 1) s2.heap.objs.size free1 free0 (Nat.ne_of_lt (Nat.lt_succ_self _))
  have rs : Vals (V.ref (s2.heap.objs.size + 1) :: vs) (Value.ref (s2.heap.objs.size + 1) :: us) := .cons rfl r1
  have many : (Value.ref (s2.heap.objs.size + 1) :: us).length = n + 1 := by rw [List.length_cons, ← r1.length, l1]
  refine wpAny_call (make_map (f := f) I2.kIn M.makes M.init (beq_iff_eq.mp M.fn) (codeAny_mono (F.run _ X.stack _ _ ⟨Value.ref (s2.heap.objs.size + 1) :: us, ks.zip ws⟩ _ _ _ (E st0) (hr.make C us (ks.zip ws))
    (made.env0.make C us (ks.zip ws)) (hb.to _ (Value.ref (s2.heap.objs.size + 1) :: us) ws made.kIn many (r2.length.symm.trans l2)) (hb.rel rs r2) promise) fun r s3 z => ?_))
  cases r with
  | error er => exact hx st0 pins _ _ er s3 made z
  | ok fl =>
    cases fl with
    | ret u =>
      obtain ⟨v, H3, I3, rv, ev, q3⟩ := made.after z
      subst ev
      exact ⟨rv, V.ref (s2.heap.objs.size + 1), H3, I3, rfl, q3⟩
    | next => exact False.elim z
    | brk => exact False.elim z
    | cont => exact False.elim z
end
theorem r_mkKS {C : Addr} {n m : Nat} {sp : Sp} {E : L2.St → XK} {t tk : TA} {σ : L2.St} {H : Hp} {Q : VK} (q : t σ H fun vs H1 => tk σ H1 fun zs H2 => vs.length = n ∧ zs.length = m ∧ rMk C sp (E σ) (fun s => s :: vs ++ zs) H2 Q) : tMakeKS C n m sp E t tk σ H Q := q
end KrE
namespace PySem.W
open PySem PySem.Spec PySem.Calls PyProof.Rows
section
variable {prog : Program} {w : World} {A : Around} {E : Value → Shared → Prop} {s : Shared} {K : Frag} {x D : Addr} {ox : Obj} {od : Option Obj}
theorem kr_dataFound {C : Addr} {name : Str} {a g : Value} (hc : (clsIn K C).isSome = true) (ha : findIn K (.ref C) name = some (some a)) (hg : specialIn K a "__get__" = some (some g)) (ht : takesIn K a = some true) : findObj K C od name = some (.bind g a) := by
  obtain ⟨cd, e⟩ := Option.isSome_iff_exists.mp hc
  unfold findObj
  simp [e, ha, hg, ht]
/-- what an own class of errors says of __class__ -/
structure KrErrT (K : Frag) (D : Addr) : Prop where
  ga : findIn K (.ref D) "__getattribute__" = some (some (.builtin "BaseException.__getattribute__"))
  gt : findIn K (.ref D) "__getattr__" = some none
  sb : subIn K (.ref D) (.type "BaseException") = some true
  dc : hasDictIn K D = true
  ca : findIn K (.ref D) "__class__" = some (some (.builtin "object.__class__"))
  cg : specialIn K (.builtin "object.__class__") "__get__" = some (some (.builtin "getset_descriptor.__get__"))
  ct : takesIn K (.builtin "object.__class__") = some true
  mo : mroIn K D (.type "object") = some true
def krErrT (K : Frag) (D : Addr) : Bool := decide (findIn K (.ref D) "__getattribute__" = some (some (.builtin "BaseException.__getattribute__"))) && (decide (findIn K (.ref D) "__getattr__" = some none) && (decide (subIn K (.ref D) (.type "BaseException") = some true) && (hasDictIn K D &&
  (decide (findIn K (.ref D) "__class__" = some (some (.builtin "object.__class__"))) && (decide (specialIn K (.builtin "object.__class__") "__get__" = some (some (.builtin "getset_descriptor.__get__"))) && (decide (takesIn K (.builtin "object.__class__") = some true) && decide (mroIn K D (.type "object") = some true)))))))
theorem krErrT_ok {K : Frag} {D : Addr} (h : krErrT K D = true) : KrErrT K D := by
  unfold krErrT at h
  simp only [Bool.and_eq_true, decide_eq_true_eq] at h
  exact ⟨h.1, h.2.1, h.2.2.1, h.2.2.2.1, h.2.2.2.2.1, h.2.2.2.2.2.1, h.2.2.2.2.2.2.1, h.2.2.2.2.2.2.2⟩
theorem kr_class {Q : Option Value → Shared → Prop} (T : KrErrT K D) (X : K.In s.heap) (I : InstAt s.heap x ox D od) (h : Q (some (.ref D)) { s with toks := s.toks + 1 }) : wpAny (model prog w) A (getAttr? (.ref x) "__class__") Q E s := by
  have found : findObj K D od "__class__" = some (.bind (.builtin "getset_descriptor.__get__") (.builtin "object.__class__")) := kr_dataFound (by obtain ⟨cd, e, _⟩ := any_some T.dc; rw [e]; rfl) T.ca T.cg T.ct
  obtain ⟨hp, g, d, t, os⟩ := s
  have lt := I.type (M := model prog w)
  have lg := looks_findIn (M := model prog w) X T.ga
  have lh := looks_findIn (M := model prog w) X T.gt
  have lf := looks_find (M := model prog w) X I found
  have below : Looks (model prog w) hp (isInstance (.ref x) (.type "BaseException")) true := lt.andThen (looks_subIn X T.sb)
  have n0 : (false && onTheHeap (Value.builtin "BaseException.__getattribute__")) = false := rfl
  have n1 : (onTheHeap (Value.ref D) && Value.builtin "BaseException.__getattribute__" == Value.builtin "object.__getattribute__") = false := by
    have : (Value.builtin "BaseException.__getattribute__" == Value.builtin "object.__getattribute__") = false := by decide +kernel
    rw [this]
    rfl
  unfold getAttr? getAttrBy? getAttrBy
  refine wpAny_bind (wpAny_mkText (wpAny_bind (wpAny_attempt (wpAny_holding (wpAny_bind (lt.at (wpAny_bind (lg.at ?_))))))))
  show wpAny _ _ (if (onTheHeap (Value.ref D) && Value.builtin "BaseException.__getattribute__" == Value.builtin "object.__getattribute__") = true then _ else _) _ _ _
  rw [n1, if_neg Bool.false_ne_true]
  unfold getAttrByItsOwn hookBefore
  refine wpAny_bind ?_
  rw [if_pos (show onTheHeap (Value.ref D) = true from rfl)]
  refine lh.at (wpAny_bind (wpAny_attempt (wpAny_holding ?_)))
  unfold callGetattribute
  rw [n0, if_neg Bool.false_ne_true]
  unfold boundAndCalled
  rw [PySem.F.excAttr_ValueError.ga.bind (.ref x)]
  refine wpAny_bind (wpAny_pure ?_)
  show wpAny _ _ (call (.builtin "BaseException.__getattribute__") [.ref x, .str "__class__" t]) _ _ _
  refine wpAny_call (codeAny_call_builtin PySem.F.excAttr_ValueError.ga.plain PySem.F.entry_bexc_ga (@check_slot (model prog w) _ _ ⟨hp, g, d, t + 1, os⟩ "BaseException.__getattribute__" "BaseException" "__getattribute__" (.ref x) [.str "__class__" t] [] _ (by decide +kernel) (by decide +kernel) below (PySem.F.args_bexc_ga (.ref x) (.str "__class__" t)) ?_))
  unfold Builtin.«object.__getattribute__»
  refine wpAny_bind (wpAny_of_eq (a := ((Value.ref x : Value), [Value.str "__class__" t])) (by first | rfl | (simp only [slotArgs]; rfl)) (wpAny_bind (wpAny_pure (wpAny_bind (lt.at (wpAny_bind (lf.at ?_)))))))
  show wpAny _ _ (holding [Value.builtin "object.__class__"] (call (.builtin "getset_descriptor.__get__") [.builtin "object.__class__", .ref x, .ref D]) >>= ret) _ _ _
  refine wpAny_bind (wpAny_holding (wpAny_call (class_get (s := ⟨hp, g, d, t + 1, os⟩) (ox := ox) (od := od) X I T.mo (wpAny_pure ?_))))
  show wpAny _ _ (handedOut (.ref D)) _ _ _
  rw [handedOut_of (v := .ref D) rfl]
  first
    | exact wpAny_pure (wpAny_pure h)
    | exact wpAny_pure h
    | exact wpAny_pure (wpAny_bind (wpAny_pure (wpAny_pure h)))
theorem kr_kitx (T : KrErrT K D) : KitX K (.ref x) (.ref D) (fun h => InstAt h x ox D od) := by
  obtain ⟨cd, ec, _⟩ := any_some T.dc
  unfold clsIn at ec
  split at ec
  rotate_left
  · cases ec
  rename_i c1 d1 cd1 sl1 ho
  refine ⟨fun _ _ _ I => I.type, fun _ _ Y _ => ?_, fun h tp dd its n sl Y htp => ?_, fun Y I k => kr_class T Y I k⟩
  · intro A' Q' E' s' k q
    unfold isType loadHead
    exact wpAny_bind (wpAny_loadPart (k _ _ (Y _ _ ho)) (wpAny_pure q))
  · refine Bool.eq_false_iff.mpr fun q => ?_
    have e : D = tp := Value.ref.inj (beq_iff_eq.mp q)
    subst e
    cases (Y _ _ ho).symm.trans htp
end
end PySem.W
namespace KrE
open Kr L2 PySem PySem.Spec PyProof.Rows
/-- isinstance(e, c), e the error that the suite holds, with its fields -/
def rIsD (K : PySem.W.Frag) (a : Addr) (cls : Value) (d : Option Addr) (C : Addr) : List V → Hp → VK → Prop := fun xs H Q => ∃ (c : V) (cv : Value) (b : Bool) (dd : Addr) (fs : List (Str × V)), xs = [.ref a, c] ∧ cls = .ref C ∧ d = some dd ∧ H dd = some (.xd fs) ∧ (∀ u, RelV c u → u = cv) ∧ PySem.W.kitOne K (.ref C) cv = some b ∧ Q (.bl b) H
theorem c_isD {X : Cx} {a C : Addr} {oe : Obj} {cls : Value} {d : Option Addr} {pn : List (Addr × Obj)} (T : PySem.W.KrErrT X.K C) (hz : Zc cls d oe) (hf : ∃ vs, oe.data = .fields vs) : CallR (X.suite a ((a, oe) :: pn)) (.builtin "isinstance") (rIsD X.K a cls d C) := by
  intro pins s0 st0 H xs us Q I r h
  obtain ⟨c, cv, b, dd, fs, rfl, rfl, rfl, ea, hcv, e, q⟩ := h
  obtain ⟨u1, u2, rfl, rx, rt⟩ : ∃ u1 u2, us = [u1, u2] ∧ RelV (.ref a) u1 ∧ RelV c u2 := by
    cases r with
    | cons rx rr =>
      cases rr with
      | cons rt rr =>
        cases rr
        exact ⟨_, _, rfl, rx, rt⟩
  obtain rfl : u1 = Value.ref a := rx
  obtain rfl := hcv _ rt
  obtain ⟨at1, -⟩ := I.pin (a, oe) (List.mem_append.mpr (.inl List.mem_cons_self))
  obtain ⟨vs, hv⟩ := hf
  obtain ⟨mA, hns, -⟩ : ObjOk X.prog X.w H s0.heap dd (.xd fs) := I.hok dd _ ea
  obtain ⟨od, ho, -⟩ := lookIn_ns hns
  have J : PySem.W.InstAt s0.heap a oe C (some od) := ⟨at1, hz.1, by unfold PySem.W.notCls; rw [hv] <;> rfl, by rw [hz.2]; exact ho⟩
  exact PySem.W.kia_one (PySem.W.kr_kitx T) I.kIn J e (fun z => nomatch z) fun tk => ⟨.bl b, H, I.kept (t' := tk) fun _ _ z => z, rfl, q⟩
theorem r_isD {K : PySem.W.Frag} {a C dd : Addr} {H : Hp} {Q : VK} {fs : List (Str × V)} {T : Addr} {b : Bool} (h : H dd = some (.xd fs)) (e : PySem.W.kitOne K (.ref C) (.ref T) = some b) (q : Q (.bl b) H) : rIsD K a (.ref C) (some dd) C [.ref a, .ref T] H Q := ⟨_, _, b, dd, fs, rfl, rfl, rfl, h, fun u r => r, e, q⟩
def rXf (a : Addr) (cls : Value) (d : Option Addr) (C : Addr) (f : Str) (x : V) (H : Hp) (Q : VK) : Prop := x = .ref a ∧ cls = .ref C ∧ ∃ (dd : Addr) (fs : List (Str × V)) (v : V), d = some dd ∧ H dd = some (.xd fs) ∧ fs.lookup f = some v ∧ Q v H
theorem r_tXf {a C : Addr} {cls : Value} {d : Option Addr} {f : Str} {te : TE} {σ : L2.St} {H : Hp} {Q : VK} (q : te σ H fun x H1 => rXf a cls d C f x H1 Q) : tXf a cls d C f te σ H Q := q
theorem r_xf {a C dd : Addr} {f : Str} {H : Hp} {Q : VK} {fs : List (Str × V)} {v : V} (h : H dd = some (.xd fs)) (l : fs.lookup f = some v) (q : Q v H) : rXf a (.ref C) (some dd) C f (.ref a) H Q := ⟨rfl, rfl, dd, fs, v, rfl, h, l, q⟩
end KrE

namespace KrL
open Kr L2 PySem PySem.Spec PyProof.Rows LamX
/-! ### a def whose code object is known -/
theorem okC {P : Program} {w : World} {K : PySem.W.Frag} {mg : Str → Option Value} {base : Heap} {nm qual : Str} {params : Arguments} {body : List Stmt} {scope : Scope} {f c : Addr} {fd : FuncData} {CX : CXT} {N ps : List Str} {k : Nat} {sp : Sp}
    (F : FunD K nm qual params body scope [] [] f fd) (hc : fd.code = .ref c) (S : FnScope N ps scope) (ln : ∀ vs H Q E, sp vs H Q E → vs.length = ps.length)
    (hb : ∀ (A : Around) (outer : List Env) (s : Shared) (H : Hp) (vs : List V) (Q : VK) (E : XK), Room k (A.deeper (envOfC qual scope s.heap.objs.size f (.ref c))) → sp vs H Q E →
      ∃ t, PSs (cxOf CX P w K mg base N qual scope f (.ref c) A outer s H E) body t ∧ t { nx := fun _ H' => Q .non H', rt := Q } (L2.start N vs) H) : FnOk P w K mg base CX (k + 1) f fd ps sp := by
  obtain ⟨oc, od, dV, kV, doc, pm, an, cdv, ct, osl, e, lk, hcd, -, -⟩ := F.ex
  subst e
  have e2 : cdv = .ref c := hc
  subst e2
  exact fn_of lk hcd S ln hb
/-- the def p of the program is made with the code object and the table that cT finds -/
theorem code_cT {K : PySem.W.Frag} {p : He.Defn} {nm qual : Str} {params : Arguments} {body : List Stmt} {scope : Scope} {fd : FuncData} (F : FunD K nm qual params body scope [] [] (He.fAd K p) fd) : fd.code = .ref (He.cT K p).1 := by
  obtain ⟨oc, od, dV, kV, doc, pm, an, cdv, ct, osl, e, lk, hcd, -, -⟩ := F.ex
  obtain ⟨c, hc⟩ := He.codeIn_ref hcd
  have e1 : fd.code = .ref c := by
    subst e
    exact hc
  have e2 : He.codeOf K p = c := He.codeOf_eq lk e1
  rw [e1]
  show Value.ref c = Value.ref (He.codeOf K p)
  rw [e2]
/-! ### the lambda called, where what it raises is wished for at the slots as they stand -/
section
variable {X : Cx} {pins : List (Addr × Obj)} {st0 : L2.St} {H : Hp} {s0 : Shared}
theorem act_at {Eg : XK} {CXg : CXT} {Ng : List Str} {qg : Str} {sg : Scope} {g f co : Addr} {cdg pm ctv : Value} {params : Arguments} {body : Expr} {scope : Scope} {k i : Nat} {a : Str} {pn : List (Addr × Obj)} {xe : Value → Shared → Prop} {W : WX} {tb : XK → TE} {p1 p2 : Pos}
    (I : Inv X pins st0 H s0) (L : LamS X.env.scope scope) (hf : s0.heap.get? f = some (PySem.W.kla_obj "<lambda>" (X.env.qual ++ "<lambda>") params body scope (cloFrom X.env.cells scope.names []) pm co ctv)) (hfn : H f = none) (hfr : f ∉ frs X.stack)
    (hbind : bindArgs (PySem.W.kla_fn "<lambda>" (X.env.qual ++ "<lambda>") params body scope (cloFrom X.env.cells scope.names []) pm (.ref co) ctv) ⟨[], []⟩ = pure [])
    (tk : Takes ((cxOf CXg X.prog X.w X.K X.mg X.base Ng qg sg g cdg X.A X.stack s0 H Eg).tr pn xe) W) (hr : Room (k + 1) (X.A.deeper (envOfC qg sg s0.heap.objs.size g cdg)))
    (hbody : ∀ (A : Around) (outer : List Env) (s : Shared) (H : Hp) (E1 : XK), Room k (A.deeper (lamEnv X scope s.heap.objs.size f co)) → PE (lamCx X A outer s H E1 scope f co) body (tb E1))
    (hN : Ng[i]? = some a) (hv : Vis sg a) (hd : (a == ("__debug__" : Str)) = false := by decide) (hcd : (a == ("__classdict__" : Str)) = false := by decide) :
    PE ((cxOf CXg X.prog X.w X.K X.mg X.base Ng qg sg g cdg X.A X.stack s0 H Eg).tr pn xe) (.Call (.Name a p1) [] [] p2)
      (fun stZ HZ Q => stZ[i]? = some (some (.ref f)) ∧ HZ co = some (CodeO co (X.env.qual ++ "<lambda>")) ∧ ∃ E : XK, (∀ cls d H', E cls d H' → W cls d stZ H') ∧ tb E st0 HZ Q) := by
  refine ⟨fun pinsZ sZ stZ HZ Q IZ hz => ?_⟩
  obtain ⟨hs, hc, E, hW, ht⟩ := hz
  refine wpAny_Call_Name_kw (thn ((pe_var (pos := p1) (i := i) hN hv hd hcd).run pinsZ sZ stZ HZ (fun v H1 => v = .ref f ∧ H1 = HZ) IZ ⟨.ref f, hs, rfl, rfl⟩) fun u s1 ⟨v, H1, I1, r1, q1⟩ => ?_)
  obtain ⟨ev, eH⟩ := q1
  subst ev
  rw [eH] at I1
  obtain rfl : u = Value.ref f := r1
  have at1 := I1.base.keep f _ hf hfn hfr (fun z => nomatch (show f ∈ ([] : List Addr) from z))
  refine PySem.W.callWith_F0 ⟨_, _, _, _, at1⟩ ?_
  have un : Un (frs X.stack) [] H HZ s0.heap s1.heap := I1.base
  obtain ⟨⟨oc, vs, t, hoc, hdc, hvc⟩, -, -⟩ := I1.hok co _ hc
  have rc : codeAny (model X.prog X.w) (X.A.deeper (envOfC qg sg s0.heap.objs.size g cdg)) (.call (.ref f) ⟨[], []⟩) (CR (L2.CX X.prog X.w) (envOfC qg sg s0.heap.objs.size g cdg :: X.stack) X.prog X.w HZ s1 Q E) s1 := by
    refine PySem.W.kla_callFunE hr.depth at1 rfl L.co L.gen rfl ⟨co, oc, vs, t, rfl, hoc, hdc, hvc⟩ ?_
    rw [hbind]
    refine wpAny_pure (wpAny_newFunctionEnv (fun y hy => (L.own y hy).2) (fun y hy => absurd hy (by simp)) (fun hh hns hsb => ⟨I1.nolimit.fresh _ hsb, ?_⟩) L.kind)
    show codeAny _ _ (.expr body (lamEnv X scope s1.heap.objs.size f co)) _ _
    have kp : ∀ b o, s1.heap.get? b = some o → hh.get? b = some o := fun b o e => hsb.extBut b o (Nat.ne_of_lt (Heap.lt_size e)) (Heap.get?_push_of_some _ e)
    have J := lam_start2 (E := E) (f := f) (c' := co) (tk := s1.toks + ([] : List (Str × Value)).length) I L I1.env0 hr.hd un hns kp
    refine PySem.W.kla_codeExpr (wpAny_mono ((hbody _ _ s1 HZ E (hr.deeper _)).run [] _ _ HZ Q J ht) (fun v s2 hq => ?_) fun e s2 hq => hq)
    obtain ⟨v2, H2, J2, rv, q⟩ := hq
    exact ⟨v2, H2, J2.os, J2.bare, J2.base, J2.hok, rv, q⟩
  refine wpAny_call (codeAny_mono rc fun r s2 hq => ?_)
  cases r with
  | error e =>
    exact tk e s2 (XE.of_call I1 hW hq)
  | ok fl =>
    cases fl with
    | ret u => exact I1.after hq
    | next => exact False.elim hq
    | brk => exact False.elim hq
    | cont => exact False.elim hq
end
/-- what a def makes of the lambda that it gets: it calls it by its parameter's name -/
def Gives (X : Cx) (Ng : List Str) (x : Str) (sg : Scope) (g : Addr) (cdg : Value) (bg : List Stmt) (a : Str) (TT : (XK → Hp → VK → Prop) → Hp → VK → Prop) : Prop :=
  ∀ (q : Str) (f co : Addr) (s0 : Shared) (H : Hp) (Q : VK) (tl : XK → Hp → VK → Prop),
    (∀ (W : WX) (pn : List (Addr × Obj)) (xe : Value → Shared → Prop) (p1 p2 : Pos), Takes ((cxOf C8.CX0 X.prog X.w X.K X.mg X.base Ng x sg g cdg X.A X.stack s0 H C8.E0).tr pn xe) W →
      PE ((cxOf C8.CX0 X.prog X.w X.K X.mg X.base Ng x sg g cdg X.A X.stack s0 H C8.E0).tr pn xe) (.Call (.Name a p1) [] [] p2) (fun stZ HZ Q => stZ[0]? = some (some (.ref f)) ∧ HZ co = some (CodeO co q) ∧ ∃ E : XK, (∀ cls d H', E cls d H' → W cls d stZ H') ∧ tl E HZ Q)) →
    H co = some (CodeO co q) → TT tl H Q →
    ∃ t, PSs (cxOf C8.CX0 X.prog X.w X.K X.mg X.base Ng x sg g cdg X.A X.stack s0 H C8.E0).nox bg t ∧ t { nx := fun _ H' => Q .non H', rt := Q } (L2.start Ng [.ref f]) H
/-- the module's def x takes a lambda and makes TT of it -/
def LamH (P : Program) (w : World) (K : PySem.W.Frag) (mg : Str → Option Value) (base : Heap) (x : Str) (TT : (XK → Hp → VK → Prop) → Hp → VK → Prop) : Prop :=
  ∃ (a : Str) (g : Addr) (fd : FuncData) (pg : Arguments) (bg : List Stmt) (sg : Scope) (Ng : List Str), mg x = some (.ref g) ∧ FunD K x x pg bg sg [] [] g fd ∧ L2.Binds K fd [a] [] ∧ FnScope Ng [a] sg ∧ Ng[0]? = some a ∧ Vis sg a ∧ (a == ("__debug__" : Str)) = false ∧ (a == ("__classdict__" : Str)) = false ∧
    ∀ (X : Cx) (cdv : Value), X.prog = P → X.w = w → X.K = K → X.mg = mg → X.base = base → Gives X Ng x sg g cdv bg a TT
section
variable {X : Cx}
theorem pe_lam {T : List (Addr × Str)} {TT : (XK → Hp → VK → Prop) → Hp → VK → Prop} {x : Str} {c P : Addr} {k : Nat} {params : Arguments} {body : Expr} {scope : Scope} {t : XK → TE} {p lpos pos : Pos} (h : LamH X.prog X.w X.K X.mg X.base x TT)
    (TB : TabB X.base X.mg c P) (hcode : X.env.code = .ref c) (hmT : (P, X.env.qual ++ "<lambda>") ∈ T) (hu : ∀ p ∈ T, p.1 = P → p.2 = X.env.qual ++ "<lambda>") (hr : Room (k + 2) X.A) (L : LamS X.env.scope scope)
    (hbody : ∀ (A : Around) (outer : List Env) (s : Shared) (H : Hp) (E1 : XK) (f co : Addr), Room k (A.deeper (lamEnv X scope s.heap.objs.size f co)) → PE (lamCx X A outer s H E1 scope f co) body (t E1)) (hg : Gl X x := by rfl)
    (hdef : defaultsOf params X.env = ([], []) := by rfl) (hbind : ∀ (q : Str) (cl : List (Str × Addr)) (pm cv ctv : Value), bindArgs (PySem.W.kla_fn "<lambda>" q params body scope cl pm cv ctv) ⟨[], []⟩ = pure [] := by intros; rfl) (hdb : (x == ("__debug__" : Str)) = false := by decide) :
    PE X (.Call (.Name x p) [.Lambda params body scope lpos] [] pos) (tLam T TT t) := by
  obtain ⟨a, g, fd, pg, bg, sg, Ng, hm, F, hb, Sg, hNg, hva, hd, hcd, hG⟩ := h
  obtain ⟨oc, od, dV, kV, doc, pm, an, cdv, ct, osl, efd, lk, hcg, -, -⟩ := F.ex
  subst efd
  refine ⟨fun pins s0 st0 H Q I hz => ?_⟩
  obtain ⟨hT, hz⟩ := hz
  refine wpAny_Call_Name_kw (ld_glob I hg hm ?_ hdb)
  refine PySem.W.callWith_K (h₀ := X.base) I.ok.mod.kin F.kp ?_ (by rfl) (by rfl)
  show wpAny _ _ (spliced ((false, eval (.Lambda params body scope lpos) X.env) :: backTo pos (starEach [] X.env))) _ _ s0
  refine Calls.spliced_cons (lam_make2 I TB hcode hmT hu hT hdef (L.has I.ok) fun f co pm1 ctv H1 s1 I1 eN T1 hf hfn hfr hco => ?_)
  refine Calls.spliced_nil ⟨I1.kIn, ?_⟩
  have rc : codeAny (model X.prog X.w) X.A (.call (.ref g) ⟨[.ref f], []⟩) (CR C8.CX0 X.stack X.prog X.w H1 s1 Q C8.E0) s1 := by
    refine run_ofS (N := Ng) (ps := [a]) (us := [.ref f]) (vs := [.ref f]) lk hcg Sg hr I1.env0 (hb s1 [.ref f] I1.kIn rfl) (.cons rfl .nil) rfl fun hr1 => ?_
    obtain ⟨t1, ht1, hq1⟩ := hG X cdv rfl rfl rfl rfl rfl (X.env.qual ++ "<lambda>") f co s1 H1 Q (fun E1 H2 Q2 => t E1 st0 H2 Q2) (fun W pn xe p1 p2 tk => act_at (i := 0) I1 L hf hfn hfr (hbind _ _ _ _ _) tk hr1 (fun A outer s H E1 hr2 => hbody A outer s H E1 f co hr2) hNg hva hd hcd) hco (hz H1 eN T1)
    exact ⟨t1, ht1.nox, hq1⟩
  refine wpAny_call (codeAny_mono rc fun r s2 hq => ?_)
  cases r with
  | error e => exact (show False from hq).elim
  | ok fl =>
    cases fl with
    | ret u => exact I1.after hq
    | next => exact False.elim hq
    | brk => exact False.elim hq
    | cont => exact False.elim hq
end
theorem tbu_ok {T : List (Addr × Str)} {P : Addr} {q : Str} (h : (T.all fun p => !decide (p.1 = P) || decide (p.2 = q)) = true) : ∀ p ∈ T, p.1 = P → p.2 = q := fun p hp e => by
  have := List.all_eq_true.mp h p hp
  simpa [e] using this
/-! ### calls that may raise -/
section
variable {X : Cx} {CX : CXT} {k : Nat} {C : Addr} {ps : List Str} {sp : Sp} {E : XK} {x m : Str} {p pos apos : Pos} {e o : Expr} {es : List Expr} {ta : TE} {t : TA}
theorem pe_mtE (h : MtH X.prog X.w X.K X.mg X.base CX k C m ps sp) (c : Cls X.K C) (hr : Room k X.A) (hx : Passes CX X E) (he : PE X o ta) (ha : PA X (e :: es) t) {pl : Sem Bool}
    (hst : starEach (e :: es) X.env = (false, eval e X.env) :: starEach es X.env := by rfl) (hpl : (backTo pos (starEach es X.env)).any (·.1) = false := by rfl)
    (ht : eval (.Call (.Attribute o m apos) (e :: es) [] pos) X.env = (do
      let ov ← eval o X.env
      standAt apos.atName
      let (f, first) ← holding [ov] (getMethod ov m pl)
      callWith pos f first (backTo pos (starEach (e :: es) X.env)) (backToKw pos (keywordEach [] X.env))) := by rfl) : PE X (.Call (.Attribute o m apos) (e :: es) [] pos) (tMeth C m sp [] E ta t) := by
  obtain ⟨f, fd, hm, hb, F⟩ := h
  exact pe_meth he c hm F hr hb .nil hx ha hst hpl ht
theorem pe_mkP (h : MkH X.prog X.w X.K X.mg X.base CX k x C ps sp) (hr : Room (k + 1) X.A) (hx : Passes CX X E) (ha : PA X (e :: es) t) (hg : Gl X x := by rfl) (hdb : (x == ("__debug__" : Str)) = false := by decide)
    (he : starEach (e :: es) X.env = (false, eval e X.env) :: starEach es X.env := by rfl) (hpl : (backTo pos (starEach es X.env)).any (·.1) = false := by rfl) : PE X (.Call (.Name x p) (e :: es) [] pos) (tMake C sp [] E t) := by
  obtain ⟨f, fd, hm, M, hb, F⟩ := h
  exact pe_make M F hr hg hm hb .nil hx ha hdb he hpl
end
section
variable {H H1 H2 : Hp}
theorem r_lam {T : List (Addr × Str)} {TT : (XK → Hp → VK → Prop) → Hp → VK → Prop} {t : XK → TE} {st0 : L2.St} {Q : VK} (hT : Tabs T H) (q : ∀ H1, ExtN H H1 → Tabs T H1 → TT (fun E1 H2 Q2 => t E1 st0 H2 Q2) H1 Q) : tLam T TT t st0 H Q := ⟨hT, q⟩
theorem ExtN.of_same (s : Same H H1) : ExtN H H1 := fun b o e _ => s b o e
end
theorem r_clear {l : Addr} {xs : List V} {H : Hp} {Q : VK} (h : H l = some (.lst xs)) (q : Q .non (upd H l (.lst []))) : rClear (.ref l) [] H Q := ⟨l, xs, rfl, rfl, h, q⟩
theorem op_inK {X : Cx} {K : PySem.W.Frag} (h : X.K = K) : OpR X (compareOp .In) (rIn K false) := h ▸ op_in_seq
theorem op_ninK {X : Cx} {K : PySem.W.Frag} (h : X.K = K) : OpR X (compareOp .NotIn) (rIn K true) := h ▸ op_notIn_seq
theorem lk_relabel {env : Env} {sc : Scope} {x : Str} (h : sc.names.lookup x = some .cell ∨ sc.names.lookup x = some .free) : (relabel sc env).names.lookup x = some .cell ∨ (relabel sc env).names.lookup x = some .free := by
  unfold relabel
  generalize sc.names = names at h ⊢
  show (names.map fun (n, k) => if (k == NameKind.free && env.scope.kind == .function && env.kindOf n == some .cell) then (n, NameKind.cell) else (n, k)).lookup x = some .cell ∨ (names.map fun (n, k) => if (k == NameKind.free && env.scope.kind == .function && env.kindOf n == some .cell) then (n, NameKind.cell) else (n, k)).lookup x = some .free
  induction names with
  | nil => simp at h
  | cons y r ih =>
    obtain ⟨n, k⟩ := y
    rw [List.map_cons]
    generalize List.map _ r = r' at ih ⊢
    show List.lookup x ((if (k == NameKind.free && env.scope.kind == .function && env.kindOf n == some .cell) = true then (n, NameKind.cell) else (n, k)) :: r') = some .cell ∨ List.lookup x ((if (k == NameKind.free && env.scope.kind == .function && env.kindOf n == some .cell) = true then (n, NameKind.cell) else (n, k)) :: r') = some .free
    by_cases hc : (k == NameKind.free && env.scope.kind == .function && env.kindOf n == some .cell) = true
    · rw [if_pos hc]
      cases hx : x == n with
      | true => simp [List.lookup_cons, hx]
      | false =>
        simp only [List.lookup_cons, hx] at h ⊢
        exact ih h
    · rw [if_neg hc]
      cases hx : x == n with
      | true =>
        simp only [List.lookup_cons, hx] at h ⊢
        exact h
      | false =>
        simp only [List.lookup_cons, hx] at h ⊢
        exact ih h
/-- a comprehension's block within another's -/
theorem blk_in {X : Cx} {N : List Str} {sc scope : Scope} {own : List (Str × Nat)} {s : Shared} {H : Hp} {C : Addr} {cl : List (Str × Addr)} {fp : List Addr} (hN : X.N = N) (h : blkC N sc scope own = true) : BlkOk (X.blk s H sc (compEnvC sc cl C X.env) fp).N (X.blk s H sc (compEnvC sc cl C X.env) fp).env.scope scope own := by
  subst hN
  have b := blkOk_by h
  refine ⟨b.kind, b.uniq, b.ix, fun y hy e => ?_, b.own⟩
  show (relabel sc X.env).names.lookup y.1 = some .cell ∨ (relabel sc X.env).names.lookup y.1 = some .free
  exact lk_relabel (b.free y hy e)
theorem un65 {A : Around} {k : Nat} (hr : Room k A) : A.units + 65 < cLine := by
  have := hr.un
  omega
theorem pi_listK {X : Cx} {K : PySem.W.Frag} {tg l : Expr} {tl : TE} (h : X.K = K) (hl : PE X l tl) : PI X tg l (iList K tl) := h ▸ pi_list hl
theorem pi_tupK {X : Cx} {K : PySem.W.Frag} {tg l : Expr} {tl : TE} (h : X.K = K) (hl : PE X l tl) : PI X tg l (iTup K tl) := h ▸ pi_tup hl
end KrL

namespace Kw
open Kr L2 PySem PySem.Spec PyProof.Rows
def top (i : Nat) : Stmt := PySem.Challenge.pw_keeprows_k25_ways_of_pages.main.body.getD i (.Pass ⟨0, 0, 0, 0⟩)
abbrev s_InvalidArgument___init__ : Stmt := inClass (top 2) 0
abbrev N_InvalidArgument___init__ : List Str := ["self", "part"]
theorem st_InvalidArgument___init__ (v0 v1 : V) : L2.start N_InvalidArgument___init__ [v0, v1] = [some v0, some v1] := rfl
theorem sc_InvalidArgument___init__ : FnScope N_InvalidArgument___init__ ["self", "part"] (defScope s_InvalidArgument___init__) := ⟨rfl, rfl, rfl, by decide +kernel, rfl, by decide +kernel, by decide +kernel⟩
abbrev s_is_from : Stmt := top 4
abbrev N_is_from : List Str := ["number", "least"]
theorem st_is_from (v0 v1 : V) : L2.start N_is_from [v0, v1] = [some v0, some v1] := rfl
theorem sc_is_from : FnScope N_is_from ["number", "least"] (defScope s_is_from) := ⟨rfl, rfl, rfl, by decide +kernel, rfl, by decide +kernel, by decide +kernel⟩
abbrev s_is_within : Stmt := top 5
abbrev N_is_within : List Str := ["number", "least", "most"]
theorem st_is_within (v0 v1 v2 : V) : L2.start N_is_within [v0, v1, v2] = [some v0, some v1, some v2] := rfl
theorem sc_is_within : FnScope N_is_within ["number", "least", "most"] (defScope s_is_within) := ⟨rfl, rfl, rfl, by decide +kernel, rfl, by decide +kernel, by decide +kernel⟩
abbrev s_is_place : Stmt := top 8
abbrev N_is_place : List Str := ["place", "where", "number"]
theorem st_is_place (v0 : V) : L2.start N_is_place [v0] = [some v0, none, none] := rfl
theorem sc_is_place : FnScope N_is_place ["place"] (defScope s_is_place) := ⟨rfl, rfl, rfl, by decide +kernel, rfl, by decide +kernel, by decide +kernel⟩
abbrev s_is_place_among : Stmt := top 9
abbrev N_is_place_among : List Str := ["place", "many"]
theorem st_is_place_among (v0 v1 : V) : L2.start N_is_place_among [v0, v1] = [some v0, some v1] := rfl
theorem sc_is_place_among : FnScope N_is_place_among ["place", "many"] (defScope s_is_place_among) := ⟨rfl, rfl, rfl, by decide +kernel, rfl, by decide +kernel, by decide +kernel⟩
abbrev s_are_places : Stmt := top 10
abbrev N_are_places : List Str := ["places", "place"]
theorem st_are_places (v0 : V) : L2.start N_are_places [v0] = [some v0, none] := rfl
theorem sc_are_places : FnScope N_are_places ["places"] (defScope s_are_places) := ⟨rfl, rfl, rfl, by decide +kernel, rfl, by decide +kernel, by decide +kernel⟩
abbrev s_are_once : Stmt := top 11
abbrev N_are_once : List Str := ["places", "fresh", "used", "listed", "where", "number"]
theorem st_are_once (v0 v1 : V) : L2.start N_are_once [v0, v1] = [some v0, some v1, none, none, none, none] := rfl
theorem sc_are_once : FnScope N_are_once ["places", "fresh"] (defScope s_are_once) := ⟨rfl, rfl, rfl, by decide +kernel, rfl, by decide +kernel, by decide +kernel⟩
abbrev s_Turn___init__ : Stmt := inClass (top 12) 0
abbrev N_Turn___init__ : List Str := ["self", "used", "front", "fresh", "many", "number", "place"]
theorem st_Turn___init__ (v0 v1 v2 v3 : V) : L2.start N_Turn___init__ [v0, v1, v2, v3] = [some v0, some v1, some v2, some v3, none, none, none] := rfl
theorem sc_Turn___init__ : FnScope N_Turn___init__ ["self", "used", "front", "fresh"] (defScope s_Turn___init__) := ⟨rfl, rfl, rfl, by decide +kernel, rfl, by decide +kernel, by decide +kernel⟩
abbrev s_Turn___eq__ : Stmt := inClass (top 12) 1
abbrev N_Turn___eq__ : List Str := ["self", "other"]
theorem st_Turn___eq__ (v0 v1 : V) : L2.start N_Turn___eq__ [v0, v1] = [some v0, some v1] := rfl
theorem sc_Turn___eq__ : FnScope N_Turn___eq__ ["self", "other"] (defScope s_Turn___eq__) := ⟨rfl, rfl, rfl, by decide +kernel, rfl, by decide +kernel, by decide +kernel⟩
abbrev s_Turn_used : Stmt := inClass (top 12) 2
abbrev N_Turn_used : List Str := ["self"]
theorem st_Turn_used (v0 : V) : L2.start N_Turn_used [v0] = [some v0] := rfl
theorem sc_Turn_used : FnScope N_Turn_used ["self"] (defScope s_Turn_used) := ⟨rfl, rfl, rfl, by decide +kernel, rfl, by decide +kernel, by decide +kernel⟩
abbrev s_Turn_front : Stmt := inClass (top 12) 3
abbrev N_Turn_front : List Str := ["self"]
theorem st_Turn_front (v0 : V) : L2.start N_Turn_front [v0] = [some v0] := rfl
theorem sc_Turn_front : FnScope N_Turn_front ["self"] (defScope s_Turn_front) := ⟨rfl, rfl, rfl, by decide +kernel, rfl, by decide +kernel, by decide +kernel⟩
abbrev s_Turn_fresh : Stmt := inClass (top 12) 4
abbrev N_Turn_fresh : List Str := ["self"]
theorem st_Turn_fresh (v0 : V) : L2.start N_Turn_fresh [v0] = [some v0] := rfl
theorem sc_Turn_fresh : FnScope N_Turn_fresh ["self"] (defScope s_Turn_fresh) := ⟨rfl, rfl, rfl, by decide +kernel, rfl, by decide +kernel, by decide +kernel⟩
abbrev s_Turn_ahead : Stmt := inClass (top 12) 5
abbrev N_Turn_ahead : List Str := ["self"]
theorem st_Turn_ahead (v0 : V) : L2.start N_Turn_ahead [v0] = [some v0] := rfl
theorem sc_Turn_ahead : FnScope N_Turn_ahead ["self"] (defScope s_Turn_ahead) := ⟨rfl, rfl, rfl, by decide +kernel, rfl, by decide +kernel, by decide +kernel⟩
abbrev s_Turn_behind : Stmt := inClass (top 12) 6
abbrev N_Turn_behind : List Str := ["self"]
theorem st_Turn_behind (v0 : V) : L2.start N_Turn_behind [v0] = [some v0] := rfl
theorem sc_Turn_behind : FnScope N_Turn_behind ["self"] (defScope s_Turn_behind) := ⟨rfl, rfl, rfl, by decide +kernel, rfl, by decide +kernel, by decide +kernel⟩
abbrev s_Turn_origin : Stmt := inClass (top 12) 7
abbrev N_Turn_origin : List Str := ["self", "place", "where", "number"]
theorem st_Turn_origin (v0 v1 : V) : L2.start N_Turn_origin [v0, v1] = [some v0, some v1, none, none] := rfl
theorem sc_Turn_origin : FnScope N_Turn_origin ["self", "place"] (defScope s_Turn_origin) := ⟨rfl, rfl, rfl, by decide +kernel, rfl, by decide +kernel, by decide +kernel⟩
abbrev s_Turn_goal : Stmt := inClass (top 12) 8
abbrev N_Turn_goal : List Str := ["self", "place"]
theorem st_Turn_goal (v0 v1 : V) : L2.start N_Turn_goal [v0, v1] = [some v0, some v1] := rfl
theorem sc_Turn_goal : FnScope N_Turn_goal ["self", "place"] (defScope s_Turn_goal) := ⟨rfl, rfl, rfl, by decide +kernel, rfl, by decide +kernel, by decide +kernel⟩
abbrev s_Turn_then : Stmt := inClass (top 12) 9
abbrev N_Turn_then : List Str := ["self", "later", "many", "front", "number", "place"]
theorem st_Turn_then (v0 v1 : V) : L2.start N_Turn_then [v0, v1] = [some v0, some v1, none, none, none, none] := rfl
theorem sc_Turn_then : FnScope N_Turn_then ["self", "later"] (defScope s_Turn_then) := ⟨rfl, rfl, rfl, by decide +kernel, rfl, by decide +kernel, by decide +kernel⟩
abbrev s_still : Stmt := top 13
abbrev N_still : List Str := ["many", "number"]
theorem st_still (v0 : V) : L2.start N_still [v0] = [some v0, none] := rfl
theorem sc_still : FnScope N_still ["many"] (defScope s_still) := ⟨rfl, rfl, rfl, by decide +kernel, rfl, by decide +kernel, by decide +kernel⟩
abbrev s_are_turns : Stmt := top 14
abbrev N_are_turns : List Str := ["turns", "turn", "at"]
theorem st_are_turns (v0 : V) : L2.start N_are_turns [v0] = [some v0, none, none] := rfl
theorem sc_are_turns : FnScope N_are_turns ["turns"] (defScope s_are_turns) := ⟨rfl, rfl, rfl, by decide +kernel, rfl, by decide +kernel, by decide +kernel⟩
abbrev s_way : Stmt := top 15
abbrev N_way : List Str := ["turns", "place", "places", "turn"]
theorem st_way (v0 v1 : V) : L2.start N_way [v0, v1] = [some v0, some v1, none, none] := rfl
theorem sc_way : FnScope N_way ["turns", "place"] (defScope s_way) := ⟨rfl, rfl, rfl, by decide +kernel, rfl, by decide +kernel, by decide +kernel⟩
abbrev s__law_digits : Stmt := top 17
abbrev N__law_digits : List Str := ["cell", "many", "digits", "rest", "number", "k"]
theorem st__law_digits (v0 v1 : V) : L2.start N__law_digits [v0, v1] = [some v0, some v1, none, none, none, none] := rfl
theorem sc__law_digits : FnScope N__law_digits ["cell", "many"] (defScope s__law_digits) := ⟨rfl, rfl, rfl, by decide +kernel, rfl, by decide +kernel, by decide +kernel⟩
abbrev s__law_next : Stmt := top 18
abbrev N__law_next : List Str := ["source", "many"]
theorem st__law_next (v0 v1 : V) : L2.start N__law_next [v0, v1] = [some v0, some v1] := rfl
theorem sc__law_next : FnScope N__law_next ["source", "many"] (defScope s__law_next) := ⟨rfl, rfl, rfl, by decide +kernel, rfl, by decide +kernel, by decide +kernel⟩
abbrev s__law_mixed : Stmt := top 19
abbrev N__law_mixed : List Str := ["source", "some", "left", "found"]
theorem st__law_mixed (v0 v1 : V) : L2.start N__law_mixed [v0, v1] = [some v0, some v1, none, none] := rfl
theorem sc__law_mixed : FnScope N__law_mixed ["source", "some"] (defScope s__law_mixed) := ⟨rfl, rfl, rfl, by decide +kernel, rfl, by decide +kernel, by decide +kernel⟩
abbrev s__law_drawn : Stmt := top 20
abbrev N__law_drawn : List Str := ["source", "ahead", "fresh", "mixed", "many", "k"]
theorem st__law_drawn (v0 v1 : V) : L2.start N__law_drawn [v0, v1] = [some v0, some v1, none, none, none, none] := rfl
theorem sc__law_drawn : FnScope N__law_drawn ["source", "ahead"] (defScope s__law_drawn) := ⟨rfl, rfl, rfl, by decide +kernel, rfl, by decide +kernel, by decide +kernel⟩
abbrev s__law_turn : Stmt := top 21
abbrev N__law_turn : List Str := ["parts"]
theorem st__law_turn (v0 : V) : L2.start N__law_turn [v0] = [some v0] := rfl
theorem sc__law_turn : FnScope N__law_turn ["parts"] (defScope s__law_turn) := ⟨rfl, rfl, rfl, by decide +kernel, rfl, by decide +kernel, by decide +kernel⟩
abbrev s__law_origin : Stmt := top 22
abbrev N__law_origin : List Str := ["parts", "place", "used", "front", "fresh"]
theorem st__law_origin (v0 v1 : V) : L2.start N__law_origin [v0, v1] = [some v0, some v1, none, none, none] := rfl
theorem sc__law_origin : FnScope N__law_origin ["parts", "place"] (defScope s__law_origin) := ⟨rfl, rfl, rfl, by decide +kernel, rfl, by decide +kernel, by decide +kernel⟩
abbrev s__law_part : Stmt := top 23
abbrev N__law_part : List Str := ["ask", "e"]
theorem st__law_part (v0 : V) : L2.start N__law_part [v0] = [some v0, none] := rfl
theorem sc__law_part : FnScope N__law_part ["ask"] (defScope s__law_part) := ⟨rfl, rfl, rfl, by decide +kernel, rfl, by decide +kernel, by decide +kernel⟩
abbrev s__law_goal : Stmt := top 24
abbrev N__law_goal : List Str := ["parts", "place", "used", "front", "fresh"]
theorem st__law_goal (v0 v1 : V) : L2.start N__law_goal [v0, v1] = [some v0, some v1, none, none, none] := rfl
theorem sc__law_goal : FnScope N__law_goal ["parts", "place"] (defScope s__law_goal) := ⟨rfl, rfl, rfl, by decide +kernel, rfl, by decide +kernel, by decide +kernel⟩
abbrev s__law_path : Stmt := top 25
abbrev N__law_path : List Str := ["rows", "place", "found", "parts"]
theorem st__law_path (v0 v1 : V) : L2.start N__law_path [v0, v1] = [some v0, some v1, none, none] := rfl
theorem sc__law_path : FnScope N__law_path ["rows", "place"] (defScope s__law_path) := ⟨rfl, rfl, rfl, by decide +kernel, rfl, by decide +kernel, by decide +kernel⟩
abbrev s_is_from__r : Stmt := top 4
abbrev N_is_from__r : List Str := ["number", "least"]
theorem st_is_from__r (v0 v1 : V) : L2.start N_is_from__r [v0, v1] = [some v0, some v1] := rfl
theorem sc_is_from__r : FnScope N_is_from__r ["number", "least"] (defScope s_is_from__r) := ⟨rfl, rfl, rfl, by decide +kernel, rfl, by decide +kernel, by decide +kernel⟩
abbrev s_is_place__r : Stmt := top 8
abbrev N_is_place__r : List Str := ["place", "where", "number"]
theorem st_is_place__r (v0 : V) : L2.start N_is_place__r [v0] = [some v0, none, none] := rfl
theorem sc_is_place__r : FnScope N_is_place__r ["place"] (defScope s_is_place__r) := ⟨rfl, rfl, rfl, by decide +kernel, rfl, by decide +kernel, by decide +kernel⟩
abbrev s_is_place_among__r : Stmt := top 9
abbrev N_is_place_among__r : List Str := ["place", "many"]
theorem st_is_place_among__r (v0 v1 : V) : L2.start N_is_place_among__r [v0, v1] = [some v0, some v1] := rfl
theorem sc_is_place_among__r : FnScope N_is_place_among__r ["place", "many"] (defScope s_is_place_among__r) := ⟨rfl, rfl, rfl, by decide +kernel, rfl, by decide +kernel, by decide +kernel⟩
abbrev s_are_turns__r : Stmt := top 14
abbrev N_are_turns__r : List Str := ["turns", "turn", "at"]
theorem st_are_turns__r (v0 : V) : L2.start N_are_turns__r [v0] = [some v0, none, none] := rfl
theorem sc_are_turns__r : FnScope N_are_turns__r ["turns"] (defScope s_are_turns__r) := ⟨rfl, rfl, rfl, by decide +kernel, rfl, by decide +kernel, by decide +kernel⟩
abbrev s_way__r : Stmt := top 15
abbrev N_way__r : List Str := ["turns", "place", "places", "turn"]
theorem st_way__r (v0 v1 : V) : L2.start N_way__r [v0, v1] = [some v0, some v1, none, none] := rfl
theorem sc_way__r : FnScope N_way__r ["turns", "place"] (defScope s_way__r) := ⟨rfl, rfl, rfl, by decide +kernel, rfl, by decide +kernel, by decide +kernel⟩
abbrev s__law_refused_right : Stmt := top 26
abbrev N__law_refused_right : List Str := ["source", "rows", "turns", "count", "some", "odd", "bad", "place"]
theorem st__law_refused_right (v0 v1 v2 : V) : L2.start N__law_refused_right [v0, v1, v2] = [some v0, some v1, some v2, none, none, none, none, none] := rfl
theorem sc__law_refused_right : FnScope N__law_refused_right ["source", "rows", "turns"] (defScope s__law_refused_right) := ⟨rfl, rfl, rfl, by decide +kernel, rfl, by decide +kernel, by decide +kernel⟩
abbrev s_way__r2 : Stmt := top 15
abbrev N_way__r2 : List Str := ["turns", "place", "places", "turn"]
theorem st_way__r2 (v0 v1 : V) : L2.start N_way__r2 [v0, v1] = [some v0, some v1, none, none] := rfl
theorem sc_way__r2 : FnScope N_way__r2 ["turns", "place"] (defScope s_way__r2) := ⟨rfl, rfl, rfl, by decide +kernel, rfl, by decide +kernel, by decide +kernel⟩
abbrev s__law_drawn__r : Stmt := top 20
abbrev N__law_drawn__r : List Str := ["source", "ahead", "fresh", "mixed", "many", "k"]
theorem st__law_drawn__r (v0 v1 : V) : L2.start N__law_drawn__r [v0, v1] = [some v0, some v1, none, none, none, none] := rfl
theorem sc__law_drawn__r : FnScope N__law_drawn__r ["source", "ahead"] (defScope s__law_drawn__r) := ⟨rfl, rfl, rfl, by decide +kernel, rfl, by decide +kernel, by decide +kernel⟩
abbrev s__law_right : Stmt := top 27
abbrev N__law_right : List Str := ["source", "rows", "turns", "many", "ahead", "k", "far", "place", "told"]
theorem st__law_right (v0 : V) : L2.start N__law_right [v0] = [some v0, none, none, none, none, none, none, none, none] := rfl
theorem sc__law_right : FnScope N__law_right ["source"] (defScope s__law_right) := ⟨rfl, rfl, rfl, by decide +kernel, rfl, by decide +kernel, by decide +kernel⟩
abbrev s_law : Stmt := top 28
abbrev N_law : List Str := ["script", "cell", "source", "turn"]
theorem st_law (v0 : V) : L2.start N_law [v0] = [some v0, none, none, none] := rfl
theorem sc_law : FnScope N_law ["script"] (defScope s_law) := ⟨rfl, rfl, rfl, by decide +kernel, rfl, by decide +kernel, by decide +kernel⟩
abbrev s_is_within__r : Stmt := top 5
abbrev N_is_within__r : List Str := ["number", "least", "most"]
theorem st_is_within__r (v0 v1 v2 : V) : L2.start N_is_within__r [v0, v1, v2] = [some v0, some v1, some v2] := rfl
theorem sc_is_within__r : FnScope N_is_within__r ["number", "least", "most"] (defScope s_is_within__r) := ⟨rfl, rfl, rfl, by decide +kernel, rfl, by decide +kernel, by decide +kernel⟩
abbrev s_Turn_origin__r : Stmt := inClass (top 12) 7
abbrev N_Turn_origin__r : List Str := ["self", "place", "where", "number"]
theorem st_Turn_origin__r (v0 v1 : V) : L2.start N_Turn_origin__r [v0, v1] = [some v0, some v1, none, none] := rfl
theorem sc_Turn_origin__r : FnScope N_Turn_origin__r ["self", "place"] (defScope s_Turn_origin__r) := ⟨rfl, rfl, rfl, by decide +kernel, rfl, by decide +kernel, by decide +kernel⟩
abbrev s_Turn_goal__r : Stmt := inClass (top 12) 8
abbrev N_Turn_goal__r : List Str := ["self", "place"]
theorem st_Turn_goal__r (v0 v1 : V) : L2.start N_Turn_goal__r [v0, v1] = [some v0, some v1] := rfl
theorem sc_Turn_goal__r : FnScope N_Turn_goal__r ["self", "place"] (defScope s_Turn_goal__r) := ⟨rfl, rfl, rfl, by decide +kernel, rfl, by decide +kernel, by decide +kernel⟩
abbrev s_still__r : Stmt := top 13
abbrev N_still__r : List Str := ["many", "number"]
theorem st_still__r (v0 : V) : L2.start N_still__r [v0] = [some v0, none] := rfl
theorem sc_still__r : FnScope N_still__r ["many"] (defScope s_still__r) := ⟨rfl, rfl, rfl, by decide +kernel, rfl, by decide +kernel, by decide +kernel⟩
def Tb (K : PySem.W.Frag) : List (Addr × Str) := [((He.cT K ("_law_refused_right", none)).2, (("_law_refused_right" : Str) ++ ".<locals>.") ++ "<lambda>")]
theorem tbm__law_refused_right (K : PySem.W.Frag) : ((He.cT K ("_law_refused_right", none)).2, (("_law_refused_right" : Str) ++ ".<locals>.") ++ "<lambda>") ∈ Tb K := List.mem_cons_self
theorem tb0 {K : PySem.W.Frag} {H : Hp} (h : ∀ p ∈ ([("_law_refused_right", none)] : List He.Defn).map (He.cT K), H p.2 = some (.tbl #[])) : LamX.Tabs (Tb K) H := by
  intro p hp
  simp only [Tb, List.mem_cons, List.not_mem_nil, or_false] at hp
  rcases hp with rfl
  · exact LamX.TabS.nil (h _ (List.mem_map.mpr ⟨("_law_refused_right", none), by simp, rfl⟩))
/-- a positive number of at most forty digits: what draws are limited by -/
def Lim (n : Int) : Prop := 0 < n ∧ n ≤ 10 ^ 40
theorem Lim.div {n : Int} (h : Lim n) : CDivW 0 n := wide_div (b := 200) h.1 (by have := h.1; have := h.2; omega) (by decide) (by decide)
theorem emod_lt {a n : Int} (h : 0 < n) : 0 ≤ a % n ∧ a % n < n := ⟨Int.emod_nonneg _ (by omega), Int.emod_lt_of_pos _ h⟩
theorem mod_fit {a n : Int} (h : 0 < n) (hn : n < 2 ^ 64) : -(2 ^ 64) < a % n ∧ a % n < 2 ^ 64 := by
  have := @emod_lt a n h
  omega
/-- what drawn parts of settings keep -/
structure PartsOk (ls : List Int) (room fo re ev ke : Int) : Prop where
  l1 : 1 ≤ ls.length
  l6 : ls.length ≤ 6
  all : ∀ l ∈ ls, 1 ≤ l ∧ l ≤ room
  r1 : 1 ≤ room
  r64 : room ≤ 64
  fo : 2 ≤ fo ∧ fo ≤ 8
  re : 1 ≤ re ∧ re ≤ 16
  ev : 1 ≤ ev ∧ ev ≤ 40
  ke : 1 ≤ ke ∧ ke ≤ 100
/-- the bounds of the j-th further part -/
def Bd (j : Nat) (v : Int) : Prop := match j with
  | 0 => 2 ≤ v ∧ v ≤ 8
  | 1 => 1 ≤ v ∧ v ≤ 16
  | 2 => 1 ≤ v ∧ v ≤ 40
  | _ => 1 ≤ v ∧ v ≤ 100
/-- what a list of lengths keeps -/
structure LensOk (ls : List Int) (sz : Int) : Prop where
  l1 : 1 ≤ ls.length
  l6 : ls.length ≤ 6
  all : ∀ l ∈ ls, 1 ≤ l ∧ l ≤ sz
  r64 : sz ≤ 64
/-- what settings keep -/
structure SetOk (ls : List Int) (sz fo re ev ke : Int) : Prop extends LensOk ls sz where
  fo : 2 ≤ fo ∧ fo ≤ 8
  re : 1 ≤ re ∧ re ≤ 16
  ev : 1 ≤ ev ∧ ev ≤ 40
  ke : 1 ≤ ke ∧ ke ≤ 100
theorem PartsOk.set {ls : List Int} {room fo re ev ke : Int} (p : PartsOk ls room fo re ev ke) : SetOk ls room fo re ev ke := ⟨⟨p.l1, p.l6, p.all, p.r64⟩, p.fo, p.re, p.ev, p.ke⟩
/-- the attributes of Settings, in the order in which they are stored -/
def setF (t : Addr) (sz fo re ev ke : Int) : List (Str × V) := [("lengths", .ref t), ("size", .int sz), ("fanout", .int fo), ("records", .int re), ("every", .int ev), ("keep", .int ke)]
/-- Settings at a -/
def SetAt (K : PySem.W.Frag) (H : Hp) (a : Addr) (ls : List Int) (sz fo re ev ke : Int) : Prop := ∃ dx t, H a = some (.ins (He.ga K "Settings") dx (setF t sz fo re ev ke)) ∧ H t = some (.tup (ls.map V.int))
theorem SetAt.same {K : PySem.W.Frag} {H H' : Hp} {a : Addr} {ls : List Int} {sz fo re ev ke : Int} (h : SetAt K H a ls sz fo re ev ke) (s : Same H H') : SetAt K H' a ls sz fo re ev ke := by
  obtain ⟨dx, t, h1, h2⟩ := h
  exact ⟨dx, t, s _ _ h1, s _ _ h2⟩
theorem SetAt.dr {K : PySem.W.Frag} {H H' : Hp} {b a : Addr} {ls : List Int} {sz fo re ev ke : Int} (h : SetAt K H a ls sz fo re ev ke) (hs : Src H b) (s : Dr b H H') : SetAt K H' a ls sz fo re ev ke := by
  obtain ⟨dx, t, h1, h2⟩ := h
  exact ⟨dx, t, s.old _ _ (hs.ne_ins h1) h1, s.old _ _ (hs.ne_tup h2) h2⟩
/-- the list of the bounds of the other parts at L -/
def Bnds (H : Hp) (L : Addr) (m : Int) : Prop := ∃ t1 t2 t3 t4 t5 : Addr, H L = some (.lst [.ref t1, .ref t2, .ref t3, .ref t4, .ref t5]) ∧ H t1 = some (.tup [.str "size", .int m, .int 64]) ∧ H t2 = some (.tup [.str "fanout", .int 2, .int 8]) ∧
  H t3 = some (.tup [.str "records", .int 1, .int 16]) ∧ H t4 = some (.tup [.str "every", .int 1, .int 40]) ∧ H t5 = some (.tup [.str "keep", .int 1, .int 100])
/-- the further parts by their names -/
def givD (v1 v2 v3 v4 v5 : V) : List (Key × V) := [(.inr "size", v1), (.inr "fanout", v2), (.inr "records", v3), (.inr "every", v4), (.inr "keep", v5)]
open Tm
def _root_.Tm.Pl.w : Pl → Str
  | .use _ => "use"
  | .lst _ => "list"
/-- a place in memory -/
abbrev plO (p : Pl) : HO := .tup [.str p.w, .int p.n]
/-- a row of places -/
structure PlL (H : Hp) (vs : List V) (ps : List Pl) : Prop where
  len : vs.length = ps.length
  at_ : ∀ (i : Nat) (p : Pl), ps[i]? = some p → ∃ t, vs[i]? = some (V.ref t) ∧ H t = some (plO p)
theorem PlL.nil {H : Hp} : PlL H [] [] := ⟨rfl, fun i p h => by simp at h⟩
theorem PlL.same {H H' : Hp} {vs : List V} {ps : List Pl} (h : PlL H vs ps) (s : Same H H') : PlL H' vs ps := ⟨h.len, fun i p e => by
  obtain ⟨t, h1, h2⟩ := h.at_ i p e
  exact ⟨t, h1, s _ _ h2⟩⟩
theorem PlL.keep {H H' : Hp} {x : Addr} {vs : List V} {ps : List Pl} (h : PlL H vs ps) (s : ∀ b xs, H b = some (.tup xs) → H' b = some (.tup xs)) : PlL H' vs ps := ⟨h.len, fun i p e => by
  obtain ⟨t, h1, h2⟩ := h.at_ i p e
  exact ⟨t, h1, s _ _ h2⟩⟩
theorem PlL.snoc {H : Hp} {vs : List V} {ps : List Pl} {t : Addr} {p : Pl} (h : PlL H vs ps) (e : H t = some (plO p)) : PlL H (vs ++ [.ref t]) (ps ++ [p]) := by
  refine ⟨by rw [List.length_append, List.length_append, h.len]; rfl, fun i q hq => ?_⟩
  rcases Nat.lt_or_ge i ps.length with z | z
  · rw [List.getElem?_append_left z] at hq
    rw [List.getElem?_append_left (by rw [h.len]; exact z)]
    exact h.at_ i q hq
  · rw [List.getElem?_append_right z] at hq
    rw [List.getElem?_append_right (by rw [h.len]; exact z), h.len]
    rcases Nat.eq_zero_or_pos (i - ps.length) with y | y
    · rw [y] at hq ⊢
      cases hq
      exact ⟨t, rfl, e⟩
    · rw [List.getElem?_eq_none (by simp; omega)] at hq
      cases hq
theorem PlL.app {H : Hp} {vs ws : List V} {ps qs : List Pl} (h : PlL H vs ps) (g : PlL H ws qs) : PlL H (vs ++ ws) (ps ++ qs) := by
  refine ⟨by rw [List.length_append, List.length_append, h.len, g.len], fun i q hq => ?_⟩
  rcases Nat.lt_or_ge i ps.length with z | z
  · rw [List.getElem?_append_left z] at hq
    rw [List.getElem?_append_left (by rw [h.len]; exact z)]
    exact h.at_ i q hq
  · rw [List.getElem?_append_right z] at hq
    rw [List.getElem?_append_right (by rw [h.len]; exact z), h.len]
    exact g.at_ _ q hq
theorem PlL.get {H : Hp} {vs : List V} {ps : List Pl} {i : Nat} (h : PlL H vs ps) (hi : i < ps.length) : ∃ t, vs[i]? = some (V.ref t) ∧ H t = some (plO ps[i]) := h.at_ i _ (List.getElem?_eq_getElem hi)
/-- the item that a walk comes to -/
theorem PlL.item {H : Hp} {vs : List V} {ps : List Pl} {i : Nat} {x : V} (h : PlL H vs ps) (e : vs[i]? = some x) : ∃ (t : Addr) (hi : i < ps.length), x = .ref t ∧ H t = some (plO ps[i]) := by
  have hi : i < ps.length := by
    rw [← h.len]
    exact (List.getElem?_eq_some_iff.mp e).1
  obtain ⟨t, h1, h2⟩ := h.get hi
  rw [e] at h1
  exact ⟨t, hi, Option.some.inj h1, h2⟩
theorem PlL.take {H : Hp} {vs : List V} {ps : List Pl} (h : PlL H vs ps) (k : Nat) : PlL H (vs.take k) (ps.take k) := by
  refine ⟨by rw [List.length_take, List.length_take, h.len], fun i q hq => ?_⟩
  rw [List.getElem?_take] at hq ⊢
  split at hq
  · rename_i hlt
    rw [if_pos hlt]
    exact h.at_ i q hq
  · cases hq
theorem PlL.drop {H : Hp} {vs : List V} {ps : List Pl} (h : PlL H vs ps) (k : Nat) : PlL H (vs.drop k) (ps.drop k) := by
  refine ⟨by rw [List.length_drop, List.length_drop, h.len], fun i q hq => ?_⟩
  rw [List.getElem?_drop] at hq ⊢
  exact h.at_ _ q hq
/-! data -/
def plD (p : Pl) : PyData := .tuple [.str p.w, .int p.n]
theorem dpPl {K : PySem.W.Frag} {H : Hp} {t : Addr} {p : Pl} (h : H t = some (plO p)) : Dp K H (.ref t) (plD p) := .tup (SqT.of h) (.cons (.str _) (.cons (.int _) .nil))
theorem dpPls {K : PySem.W.Frag} {H : Hp} : ∀ {vs : List V} {ps : List Pl}, PlL H vs ps → DpAll K H vs (ps.map plD)
  | [], [], _ => .nil
  | [], _ :: _, h => by have := h.len; simp at this
  | _ :: _, [], h => by have := h.len; simp at this
  | v :: vs, p :: ps, h => by
    obtain ⟨t, h1, h2⟩ := h.at_ 0 p rfl
    cases h1
    refine .cons (dpPl h2) (dpPls ⟨by have := h.len; simpa using this, fun i q hq => ?_⟩)
    exact h.at_ (i + 1) q hq
theorem eqvPl (p q : Pl) : PyData.eqv (plD p) (plD q) = decide (p = q) := by
  show ((p.w == q.w) && (((p.n : Int) == (q.n : Int)) && true)) = _
  cases p with
  | use k =>
    cases q with
    | use j =>
      have : ((k : Int) == (j : Int)) = decide (k = j) := by
        rw [Bool.eq_iff_iff, beq_iff_eq, decide_eq_true_iff]
        omega
      simp [Pl.w, Pl.n, this]
    | lst j =>
      have : ((Pl.use k).w == (Pl.lst j).w) = false := by
        show (("use" : Str) == ("list" : Str)) = false
        decide +kernel
      rw [this]
      simp
  | lst k =>
    cases q with
    | use j =>
      have : ((Pl.lst k).w == (Pl.use j).w) = false := by
        show (("list" : Str) == ("use" : Str)) = false
        decide +kernel
      rw [this]
      simp
    | lst j =>
      have : ((k : Int) == (j : Int)) = decide (k = j) := by
        rw [Bool.eq_iff_iff, beq_iff_eq, decide_eq_true_iff]
        omega
      simp [Pl.w, Pl.n, this]
theorem eqvPls : ∀ ps qs : List Pl, PyData.eqvAll (ps.map plD) (qs.map plD) = decide (ps = qs)
  | [], [] => by simp [PyData.eqvAll]
  | [], _ :: _ => by simp [PyData.eqvAll]
  | _ :: _, [] => by simp [PyData.eqvAll]
  | p :: ps, q :: qs => by
    show (PyData.eqv (plD p) (plD q) && PyData.eqvAll (ps.map plD) (qs.map plD)) = _
    rw [eqvPl, eqvPls ps qs]
    by_cases h : p = q <;> by_cases h2 : ps = qs <;> simp [h, h2]
theorem okW (p : Pl) : PyData.strOk p.w = true := by
  cases p with
  | use k =>
    show PyData.strOk ("use" : Str) = true
    decide +kernel
  | lst k =>
    show PyData.strOk ("list" : Str) = true
    decide +kernel
theorem layPls : ∀ ps : List Pl, PyData.canLayAll0 (ps.map plD) = true ∧ PyData.depthAll (ps.map plD) ≤ 1
  | [] => ⟨rfl, by simp [PyData.depthAll]⟩
  | p :: ps => by
    obtain ⟨h1, h2⟩ := layPls ps
    refine ⟨?_, ?_⟩
    · simp [PyData.canLayAll0, PyData.canLay0, plD, h1, okW]
    · simp only [List.map_cons, PyData.depthAll, plD, PyData.depth]
      omega
theorem shPl (p : Pl) : SeqAt.shaped (plD p) = true := by simp [SeqAt.shaped, plD, PyData.canLay0, PyData.depth, PyData.canLayAll0, PyData.depthAll, okW]
theorem shPls (ps : List Pl) : SeqAt.shaped (.list (ps.map plD)) = true := by
  obtain ⟨h1, h2⟩ := layPls ps
  unfold SeqAt.shaped
  simp only [PyData.canLay0, PyData.depth, h1, Bool.true_and, Bool.and_true]
  exact decide_eq_true (by omega)
section
variable {K : PySem.W.Frag} {H : Hp} {Q : VK} {a b : Addr} {vs ws : List V} {ps qs : List Pl} {p q : Pl}
theorem r_eqPl (h : H a = some (plO p)) (g : H b = some (plO q)) (k : Q (.bl (decide (p = q))) H) : rEqD K (.ref a) (.ref b) H Q := ⟨_, _, dpPl h, dpPl g, shPl p, shPl q, by rw [eqvPl]; exact k⟩
theorem r_nePl (h : H a = some (plO p)) (g : H b = some (plO q)) (k : Q (.bl (!decide (p = q))) H) : rNeD K (.ref a) (.ref b) H Q := ⟨_, _, dpPl h, dpPl g, shPl p, shPl q, by rw [eqvPl]; exact k⟩
theorem r_eqPls (h : H a = some (.lst vs)) (h' : PlL H vs ps) (g : H b = some (.lst ws)) (g' : PlL H ws qs) (k : Q (.bl (decide (ps = qs))) H) : rEqD K (.ref a) (.ref b) H Q :=
  ⟨_, _, .lst (SqL.of h) (dpPls h'), .lst (SqL.of g) (dpPls g'), shPls ps, shPls qs, by rw [show PyData.eqv (.list (ps.map plD)) (.list (qs.map plD)) = decide (ps = qs) from eqvPls ps qs]; exact k⟩
theorem r_nePls (h : H a = some (.lst vs)) (h' : PlL H vs ps) (g : H b = some (.lst ws)) (g' : PlL H ws qs) (k : Q (.bl (!decide (ps = qs))) H) : rNeD K (.ref a) (.ref b) H Q :=
  ⟨_, _, .lst (SqL.of h) (dpPls h'), .lst (SqL.of g) (dpPls g'), shPls ps, shPls qs, by rw [show PyData.eqv (.list (ps.map plD)) (.list (qs.map plD)) = decide (ps = qs) from eqvPls ps qs]; exact k⟩
end
/-- front[many - 1] == ("list", fresh - 1), fresh maybe 0 -/
theorem eqvPlZ (p : Pl) (z : Int) : PyData.eqv (plD p) (.tuple [.str "list", .int z]) = decide (p.w = "list" ∧ (p.n : Int) = z) := by
  show ((p.w == ("list" : Str)) && (((p.n : Int) == z) && true)) = _
  by_cases h : p.w = "list" <;> by_cases h2 : (p.n : Int) = z <;> simp [h, h2]
def rgI (n : Nat) : List Int := (List.range n).map fun k : Nat => (k : Int)
theorem rgV_nat (n : Nat) : rgV 0 (n : Int) = (rgI n).map V.int := by
  unfold rgV rgI
  rw [show ((n : Int) - 0).toNat = n by omega, List.map_map]
  congr 1
  funext i
  show V.int (0 + (i : Int)) = V.int i
  rw [Int.zero_add]
/-! goals -/
def _root_.Tm.Pl.key (p : Pl) : List Key := [.inr p.w, .inl p.n]
theorem key_inj {p q : Pl} (h : p.key = q.key) : p = q := by
  cases p with
  | use k =>
    cases q with
    | use j =>
      have : (k : Int) = (j : Int) := Sum.inl.inj (List.cons.inj (List.cons.inj h).2).1
      rw [show k = j by omega]
    | lst j => exact absurd (Sum.inr.inj (List.cons.inj h).1) (show ¬ (("use" : Str) = ("list" : Str)) by decide +kernel)
  | lst k =>
    cases q with
    | use j => exact absurd (Sum.inr.inj (List.cons.inj h).1) (show ¬ (("list" : Str) = ("use" : Str)) by decide +kernel)
    | lst j =>
      have : (k : Int) = (j : Int) := Sum.inl.inj (List.cons.inj (List.cons.inj h).2).1
      rw [show k = j by omega]
theorem key_kV (p : Pl) : [V.str p.w, V.int p.n] = p.key.map kV := rfl
/-- what the dict of goals tells, u and f being entered -/
structure GoA (H : Hp) (kvs : List (List Key × V)) (u f : List Pl) : Prop where
  n : kvs.length ≤ u.length + f.length
  gu : ∀ (i : Nat) (p : Pl), u[i]? = some p → ∃ t, valV kvs p.key = some (.ref t) ∧ H t = some (plO (.use i))
  gf : ∀ (i : Nat) (p : Pl), f[i]? = some p → ∃ t, valV kvs p.key = some (.ref t) ∧ H t = some (plO (.lst i))
  no : ∀ p : Pl, p ∉ u → p ∉ f → valV kvs p.key = none
theorem GoA.same {H H' : Hp} {kvs : List (List Key × V)} {u f : List Pl} (h : GoA H kvs u f) (s : Same H H') : GoA H' kvs u f :=
  ⟨h.n, fun i p e => by obtain ⟨t, h1, h2⟩ := h.gu i p e; exact ⟨t, h1, s _ _ h2⟩, fun i p e => by obtain ⟨t, h1, h2⟩ := h.gf i p e; exact ⟨t, h1, s _ _ h2⟩, h.no⟩
/-- a Turn at x -/
structure TurnAt (K : PySem.W.Frag) (H : Hp) (x : Addr) (T : Tn) : Prop where
  ok : T.Ok
  ex : ∃ (dx pu pf pg : Addr) (vu vf : List V) (kvs : List (List Key × V)), H x = some (.ins (He.ga K "Turn") dx [("_ahead", .int T.a), ("_used", .ref pu), ("_front", .ref pf), ("_fresh", .int T.n), ("_goals", .ref pg)]) ∧
    H pu = some (.lst vu) ∧ PlL H vu T.u ∧ H pf = some (.lst vf) ∧ PlL H vf T.f ∧ H pg = some (.dT kvs) ∧ GoA H kvs T.u T.f
theorem TurnAt.same {K : PySem.W.Frag} {H H' : Hp} {x : Addr} {T : Tn} (h : TurnAt K H x T) (s : Same H H') : TurnAt K H' x T := by
  obtain ⟨ok, dx, pu, pf, pg, vu, vf, kvs, h1, h2, h3, h4, h5, h6, h7⟩ := h
  exact ⟨ok, dx, pu, pf, pg, vu, vf, kvs, s _ _ h1, s _ _ h2, h3.same s, s _ _ h4, h5.same s, s _ _ h6, h7.same s⟩
theorem TurnAt.fl {K : PySem.W.Frag} {H : Hp} {x : Addr} {T : Tn} (h : TurnAt K H x T) : ∃ (dx pu pf pg : Addr), H x = some (.ins (He.ga K "Turn") dx [("_ahead", .int T.a), ("_used", .ref pu), ("_front", .ref pf), ("_fresh", .int T.n), ("_goals", .ref pg)]) := by
  obtain ⟨ok, dx, pu, pf, pg, vu, vf, kvs, h1, -⟩ := h
  exact ⟨dx, pu, pf, pg, h1⟩
theorem at_neg1 {α : Type} {xs : List α} {i : Nat} {x : α} (h : xs.length = i + 1) (e : xs[i]? = some x) : atI xs (-1) = some x := by
  have := atI_last xs.dropLast x
  rwa [show xs.dropLast ++ [x] = xs by
    have e2 : xs.dropLast = xs.take i := by rw [List.dropLast_eq_take, h, Nat.add_sub_cancel]
    rw [e2]
    have hi : i < xs.length := by omega
    rw [List.getElem?_eq_getElem hi] at e
    have e3 : xs.take (i + 1) = xs.take i ++ [x] := by rw [List.take_add_one, List.getElem?_eq_getElem hi, Option.some.inj e]; rfl
    rw [← e3, List.take_of_length_le (by omega)]] at this
theorem turn_but {K : PySem.W.Frag} {H H2 : Hp} {x dx pu pf pg l : Addr} {vu vf ws : List V} {kvs : List (List Key × V)} {T : Tn} (ok : T.Ok)
    (h1 : H x = some (.ins (He.ga K "Turn") dx [("_ahead", .int T.a), ("_used", .ref pu), ("_front", .ref pf), ("_fresh", .int T.n), ("_goals", .ref pg)]))
    (h2 : H pu = some (.lst vu)) (h3 : PlL H vu T.u) (h4 : H pf = some (.lst vf)) (h5 : PlL H vf T.f) (h6 : H pg = some (.dT kvs)) (h7 : GoA H kvs T.u T.f)
    (hl : H l = some (.lst ws)) (nu : pu ≠ l) (nf : pf ≠ l) (b : But l H H2) : TurnAt K H2 x T := by
  have tp : ∀ c xs, H c = some (.tup xs) → H2 c = some (.tup xs) := fun c xs e => b c _ (ne_of e hl (by intro z; cases z)) e
  refine ⟨ok, dx, pu, pf, pg, vu, vf, kvs, b _ _ (ne_of h1 hl (by intro z; cases z)) h1, b _ _ nu h2, h3.keep (x := x) tp, b _ _ nf h4, h5.keep (x := x) tp, b _ _ (ne_of h6 hl (by intro z; cases z)) h6, ?_⟩
  exact ⟨h7.n, fun i p e => by obtain ⟨t, a1, a2⟩ := h7.gu i p e; exact ⟨t, a1, tp _ _ a2⟩, fun i p e => by obtain ⟨t, a1, a2⟩ := h7.gf i p e; exact ⟨t, a1, tp _ _ a2⟩, h7.no⟩
theorem in_words (p : Pl) : inV (.str p.w) [V.str "use", V.str "list"] = true := by
  cases p with
  | use k =>
    show inV (.str "use") [V.str "use", V.str "list"] = true
    decide +kernel
  | lst k =>
    show inV (.str "list") [V.str "use", V.str "list"] = true
    decide +kernel
/-- the numbers of some places, as ints -/
def nmI (g : Pl → Option Nat) (ps : List Pl) : List Int := (ps.filterMap g).map fun k : Nat => (k : Int)
theorem nmI_snoc (g : Pl → Option Nat) (ps : List Pl) (p : Pl) : nmI g (ps ++ [p]) = nmI g ps ++ (match g p with | some k => [(k : Int)] | none => []) := by
  unfold nmI
  rw [List.filterMap_append, List.map_append]
  cases h : g p with
  | none => simp [h]
  | some k => simp [h]
theorem nmI_le (g : Pl → Option Nat) (ps : List Pl) : (nmI g ps).length ≤ ps.length := by
  unfold nmI
  rw [List.length_map]
  exact List.length_filterMap_le _ _
theorem nm_perm {ps : List Pl} {a n : Nat} (h : ps.Perm (base a n)) : (nmI Pl.uN ps).Perm (rgI a) ∧ (nmI Pl.lN ps).Perm (rgI n) := by
  unfold nmI rgI
  refine ⟨?_, ?_⟩
  · rw [← base_uN a n]
    exact (h.filterMap _).map _
  · rw [← base_lN a n]
    exact (h.filterMap _).map _
theorem rgI_len (n : Nat) : (rgI n).length = n := by simp [rgI]
section
variable {K : PySem.W.Frag} {H : Hp} {Q : VK} {a b : Addr} {v : V} {kvs : List (List Key × V)} {k : List Key}
theorem r_eqPlZ {p : Pl} {z : Int} (h : H a = some (plO p)) (g : H b = some (.tup [.str "list", .int z])) (q : Q (.bl (decide (p.w = "list" ∧ (p.n : Int) = z))) H) : rEqD K (.ref a) (.ref b) H Q := by
  refine ⟨_, .tuple [.str "list", .int z], dpPl h, .tup (SqT.of g) (.cons (.str _) (.cons (.int _) .nil)), shPl p, ?_, ?_⟩
  · simp [SeqAt.shaped, PyData.canLay0, PyData.depth, PyData.canLayAll0, PyData.depthAll]
    decide +kernel
  · rw [eqvPlZ]
    exact q
theorem r_dpT {Qn : Hp → Prop} (h : H a = some (.dT kvs)) (hb : H b = some (.tup (k.map kV))) (hl : kvs.length < 100000) (q : Qn (upd H a (.dT (putK kvs k v)))) : rDp (.ref a) (.ref b) v H Qn := ⟨a, _, rfl, DPut.t h hb (szl hl), q⟩
theorem r_dgT (h : H a = some (.dT kvs)) (hb : H b = some (.tup (k.map kV))) (e : valV kvs k = some v) (q : Q v H) : rDg (.ref a) (.ref b) H Q := ⟨a, v, rfl, by rw [← e]; exact DGet.t h hb, q⟩
theorem r_dkT {R : Option V → Prop} (h : H a = some (.dT kvs)) (hb : H b = some (.tup (k.map kV))) (q : R (valV kvs k)) : rDk (.ref a) (.ref b) H R := ⟨a, _, rfl, DGet.t h hb, q⟩
theorem r_dnewT {st0 : L2.St} (q : rNew (.dT []) H Q) : tDNewT st0 H Q := q
theorem put_len : (putK kvs k v).length ≤ kvs.length + 1 := length_putK kvs k v
end
theorem cut_to {xs : List V} {m : Nat} (h : m ≤ xs.length) : cutV xs none (some (m : Int)) = xs.take m := by
  show (xs.drop 0).take (HT.sIx xs.length xs.length (some (m : Int)) - 0) = _
  rw [HT.sIx_nat, Nat.min_eq_left h]
  rfl
theorem cut_from {xs : List V} {m : Nat} (h : m ≤ xs.length) : cutV xs (some (m : Int)) none = xs.drop m := by
  show (xs.drop (HT.sIx xs.length 0 (some (m : Int)))).take (xs.length - HT.sIx xs.length 0 (some (m : Int))) = _
  rw [HT.sIx_nat, Nat.min_eq_left h, List.take_of_length_le (by rw [List.length_drop]; exact Nat.le_refl _)]
theorem nin_take {u : List Pl} (nd : u.Nodup) {i : Nat} (hi : i < u.length) : u[i] ∉ u.take i := fun h => by
  obtain ⟨j, hj, e⟩ := List.mem_iff_getElem.mp h
  rw [List.getElem_take] at e
  rw [List.length_take] at hj
  have := nd_get nd (by omega) hi e
  omega
theorem GoA.put {H H' : Hp} {kvs : List (List Key × V)} {u f : List Pl} {p : Pl} {t : Addr} (G : GoA H kvs u f) (s : ∀ b xs, H b = some (.tup xs) → H' b = some (.tup xs)) (nu : p ∉ u) (nf : p ∉ f) :
    (f = [] → H' t = some (plO (.use u.length)) → GoA H' (putK kvs p.key (.ref t)) (u ++ [p]) f) ∧ (H' t = some (plO (.lst f.length)) → GoA H' (putK kvs p.key (.ref t)) u (f ++ [p])) := by
  have same : valV (putK kvs p.key (.ref t)) p.key = some (.ref t) := by rw [valV_put, if_pos rfl]
  have other : ∀ q : Pl, q ≠ p → valV (putK kvs p.key (.ref t)) q.key = valV kvs q.key := fun q h => by
    rw [valV_put]
    split
    · rename_i e
      first
        | exact absurd (key_inj e) h
        | exact absurd (key_inj e.symm) h
    · rfl
  have hn := put_len (kvs := kvs) (k := p.key) (v := .ref t)
  have ou : ∀ {i : Nat} {q : Pl}, u[i]? = some q → q ≠ p := fun h e => nu (e ▸ List.mem_of_getElem? h)
  have of' : ∀ {i : Nat} {q : Pl}, f[i]? = some q → q ≠ p := fun h e => nf (e ▸ List.mem_of_getElem? h)
  have oldU : ∀ (i : Nat) (q : Pl), u[i]? = some q → ∃ t', valV (putK kvs p.key (.ref t)) q.key = some (.ref t') ∧ H' t' = some (plO (.use i)) := fun i q h => by
    obtain ⟨t', h1, h2⟩ := G.gu i q h
    exact ⟨t', by rw [other q (ou h)]; exact h1, s _ _ h2⟩
  have oldF : ∀ (i : Nat) (q : Pl), f[i]? = some q → ∃ t', valV (putK kvs p.key (.ref t)) q.key = some (.ref t') ∧ H' t' = some (plO (.lst i)) := fun i q h => by
    obtain ⟨t', h1, h2⟩ := G.gf i q h
    exact ⟨t', by rw [other q (of' h)]; exact h1, s _ _ h2⟩
  have snoc : ∀ {l : List Pl} {i : Nat} {q : Pl}, (l ++ [p])[i]? = some q → l[i]? = some q ∨ (i = l.length ∧ q = p) := fun {l i q} h => by
    rcases Nat.lt_or_ge i l.length with z | z
    · rw [List.getElem?_append_left z] at h
      exact .inl h
    · rw [List.getElem?_append_right z] at h
      rcases Nat.eq_zero_or_pos (i - l.length) with y | y
      · rw [y] at h
        cases h
        exact .inr ⟨by omega, rfl⟩
      · rw [List.getElem?_eq_none (by simp; omega)] at h
        cases h
  refine ⟨fun hf ht => ⟨by rw [List.length_append]; have := G.n; simp; omega, fun i q h => ?_, fun i q h => ?_, fun q h1 h2 => ?_⟩, fun ht => ⟨by rw [List.length_append]; have := G.n; simp; omega, oldU, fun i q h => ?_, fun q h1 h2 => ?_⟩⟩
  · rcases snoc h with h | ⟨rfl, rfl⟩
    · exact oldU i q h
    · exact ⟨t, same, ht⟩
  · exact oldF i q h
  · have ne : q ≠ p := fun e => h1 (by rw [e]; simp)
    rw [other q ne]
    exact G.no q (fun h => h1 (by simp [h])) h2
  · rcases snoc h with h | ⟨rfl, rfl⟩
    · exact oldF i q h
    · exact ⟨t, same, ht⟩
  · have ne : q ≠ p := fun e => h2 (by rw [e]; simp)
    rw [other q ne]
    exact G.no q h1 (fun h => h2 (by simp [h]))
/-- what a joined Turn is -/
structure Jn (S T R : Tn) : Prop where
  ok : R.Ok
  a : R.a = S.a
  u : R.u.length = T.u.length
  org : ∀ p, Vd T.u.length p → R.or p = S.or (T.or p)
  f : R.f.length ≤ S.f.length + T.f.length
  n : R.n ≤ S.n + T.n
/-- a row of Turns -/
structure TnL (K : PySem.W.Frag) (H : Hp) (vs : List V) (Ts : List Tn) : Prop where
  len : vs.length = Ts.length
  at_ : ∀ (i : Nat) (T : Tn), Ts[i]? = some T → ∃ x, vs[i]? = some (V.ref x) ∧ TurnAt K H x T
section
variable {K : PySem.W.Frag} {H H' : Hp} {vs ws : List V} {Ts Us : List Tn}
theorem TnL.nil : TnL K H [] [] := ⟨rfl, fun i p h => by simp at h⟩
theorem TnL.same (h : TnL K H vs Ts) (s : Same H H') : TnL K H' vs Ts := ⟨h.len, fun i p e => by
  obtain ⟨t, h1, h2⟩ := h.at_ i p e
  exact ⟨t, h1, h2.same s⟩⟩
theorem TnL.one {x : Addr} {T : Tn} (e : TurnAt K H x T) : TnL K H [.ref x] [T] := ⟨rfl, fun i q hq => by
  cases i with
  | zero =>
    cases hq
    exact ⟨x, rfl, e⟩
  | succ i => simp at hq⟩
theorem TnL.app (h : TnL K H vs Ts) (g : TnL K H ws Us) : TnL K H (vs ++ ws) (Ts ++ Us) := by
  refine ⟨by rw [List.length_append, List.length_append, h.len, g.len], fun i q hq => ?_⟩
  rcases Nat.lt_or_ge i Ts.length with z | z
  · rw [List.getElem?_append_left z] at hq
    rw [List.getElem?_append_left (by rw [h.len]; exact z)]
    exact h.at_ i q hq
  · rw [List.getElem?_append_right z] at hq
    rw [List.getElem?_append_right (by rw [h.len]; exact z), h.len]
    exact g.at_ _ q hq
theorem TnL.get {i : Nat} (h : TnL K H vs Ts) (hi : i < Ts.length) : ∃ t, vs[i]? = some (V.ref t) ∧ TurnAt K H t Ts[i] := h.at_ i _ (List.getElem?_eq_getElem hi)
theorem TnL.item {i : Nat} {x : V} (h : TnL K H vs Ts) (e : vs[i]? = some x) : ∃ (t : Addr) (hi : i < Ts.length), x = .ref t ∧ TurnAt K H t Ts[i] := by
  have hi : i < Ts.length := by
    rw [← h.len]
    exact (List.getElem?_eq_some_iff.mp e).1
  obtain ⟨t, h1, h2⟩ := h.get hi
  rw [e] at h1
  exact ⟨t, hi, Option.some.inj h1, h2⟩
theorem TnL.take (h : TnL K H vs Ts) (k : Nat) : TnL K H (vs.take k) (Ts.take k) := by
  refine ⟨by rw [List.length_take, List.length_take, h.len], fun i q hq => ?_⟩
  rw [List.getElem?_take] at hq ⊢
  split at hq
  · rename_i hlt
    rw [if_pos hlt]
    exact h.at_ i q hq
  · cases hq
theorem TnL.drop (h : TnL K H vs Ts) (k : Nat) : TnL K H (vs.drop k) (Ts.drop k) := by
  refine ⟨by rw [List.length_drop, List.length_drop, h.len], fun i q hq => ?_⟩
  rw [List.getElem?_drop] at hq ⊢
  exact h.at_ _ q hq
theorem TnL.ref (h : TnL K H vs Ts) : ∀ v ∈ vs, ∃ t, v = V.ref t := fun v hv => by
  obtain ⟨i, hi⟩ := List.getElem?_of_mem hv
  obtain ⟨t, _, e, _⟩ := h.item hi
  exact ⟨t, e⟩
end
/-- Turns that follow one another, from so many pages in use to so many -/
def Ch (a : Nat) : List Tn → Nat → Prop
  | [], b => a = b
  | T :: L, b => T.Ok ∧ T.a = a ∧ Ch T.u.length L b
/-- the origin through all of them -/
def orL : List Tn → Pl → Pl
  | [], p => p
  | T :: L, p => T.or (orL L p)
def wL (L : List Tn) : Nat := (L.map fun T => T.f.length + T.n).sum
theorem Ch.app {a b : Nat} : ∀ {X Y : List Tn}, Ch a (X ++ Y) b ↔ ∃ m, Ch a X m ∧ Ch m Y b
  | [], Y => ⟨fun h => ⟨a, rfl, h⟩, fun ⟨m, e, h⟩ => by cases e; exact h⟩
  | T :: X, Y => by
    show (T.Ok ∧ T.a = a ∧ Ch T.u.length (X ++ Y) b) ↔ _
    rw [Ch.app]
    exact ⟨fun ⟨h1, h2, m, h3, h4⟩ => ⟨m, ⟨h1, h2, h3⟩, h4⟩, fun ⟨m, ⟨h1, h2, h3⟩, h4⟩ => ⟨h1, h2, m, h3, h4⟩⟩
theorem orL_app (p : Pl) : ∀ X Y : List Tn, orL (X ++ Y) p = orL X (orL Y p)
  | [], _ => rfl
  | T :: X, Y => by
    show T.or (orL (X ++ Y) p) = T.or (orL X (orL Y p))
    rw [orL_app p X Y]
theorem wL_app (X Y : List Tn) : wL (X ++ Y) = wL X + wL Y := by simp [wL]
theorem wL_cons (T : Tn) (Y : List Tn) : wL (T :: Y) = T.f.length + T.n + wL Y := by simp [wL]
theorem Ch.vd {p : Pl} : ∀ {L : List Tn} {a b : Nat}, Ch a L b → Vd b p → Vd a (orL L p)
  | [], a, b, h, v => by cases h; exact v
  | T :: L, a, b, ⟨h1, h2, h3⟩, v => by
    have := h1.toPm.or_vd (h3.vd v)
    rw [h2] at this
    exact this
theorem Ch.end_le : ∀ {L : List Tn} {a b : Nat}, Ch a L b → b ≤ a + wL L
  | [], a, b, h => by cases h; simp
  | T :: L, a, b, ⟨h1, h2, h3⟩ => by
    have := h3.end_le
    have := h1.toPm.len
    rw [wL_cons]
    omega
theorem Ch.eq : ∀ {L : List Tn} {a b c : Nat}, Ch a L b → Ch a L c → b = c
  | [], a, b, c, h, g => by cases h; cases g; rfl
  | _ :: _, _, _, _, ⟨_, _, h⟩, ⟨_, _, g⟩ => h.eq g
/-- what is met on the way, at one of them -/
theorem Ch.at_ {a b : Nat} {L : List Tn} {i : Nat} (h : Ch a L b) (hi : i < L.length) : ∃ m, Ch a (L.take i) m ∧ L[i].a = m ∧ L[i].Ok ∧ Ch L[i].u.length (L.drop (i + 1)) b := by
  have e : L = L.take i ++ L[i] :: L.drop (i + 1) := by rw [List.getElem_cons_drop, List.take_append_drop]
  rw [e] at h
  obtain ⟨m, h1, h2, h3, h4⟩ := Ch.app.mp h
  exact ⟨m, h1, h3, h2, h4⟩
theorem split_at {L : List Tn} {i : Nat} (hi : i < L.length) : L = L.take i ++ L[i] :: L.drop (i + 1) := by rw [List.getElem_cons_drop, List.take_append_drop]
theorem el_w {L : List Tn} {i : Nat} (hi : i < L.length) : L[i].f.length + L[i].n ≤ wL L := by
  have e := congrArg wL (split_at hi)
  rw [wL_app, wL_cons] at e
  omega
theorem wL_take (L : List Tn) (i : Nat) : wL (L.take i) ≤ wL L := by
  have e := congrArg wL (List.take_append_drop i L)
  rw [wL_app] at e
  omega
theorem take_snoc {L : List Tn} {i : Nat} (hi : i < L.length) : L.take (i + 1) = L.take i ++ [L[i]] := by
  rw [List.take_add_one, List.getElem?_eq_getElem hi]
  rfl
theorem Ch.to {a b : Nat} {L : List Tn} {i : Nat} (h : Ch a L b) (hi : i < L.length) : Ch a (L.take (i + 1)) L[i].u.length := by
  obtain ⟨m, h1, h2, h3, -⟩ := h.at_ hi
  rw [take_snoc hi]
  exact Ch.app.mpr ⟨m, h1, show L[i].Ok ∧ L[i].a = m ∧ L[i].u.length = _ from ⟨h3, h2, rfl⟩⟩
theorem Ch.u_le {a b : Nat} {L : List Tn} {i : Nat} (h : Ch a L b) (hi : i < L.length) : L[i].u.length ≤ a + wL L := by
  have h1 := (h.to hi).end_le
  have h2 := wL_take L (i + 1)
  omega
theorem Ch.nxt {a b : Nat} {L : List Tn} {i : Nat} (h : Ch a L b) (hi : i + 1 < L.length) : L[i + 1].a = L[i].u.length := by
  obtain ⟨m, h1, h2, -⟩ := h.at_ hi
  rw [h2]
  exact h1.eq (h.to (i := i) (by omega))
theorem Ch.ok {a b : Nat} {L : List Tn} {i : Nat} (h : Ch a L b) (hi : i < L.length) : L[i].Ok := by
  obtain ⟨m, h1, h2, h3, -⟩ := h.at_ hi
  exact h3
theorem Ch.fold {a b : Nat} {X Y : List Tn} {S T R : Tn} (h : Ch a (X ++ S :: T :: Y) b) (j : Jn S T R) :
    Ch a (X ++ [R] ++ Y) b ∧ (∀ p, Vd b p → orL (X ++ [R] ++ Y) p = orL (X ++ S :: T :: Y) p) ∧ wL (X ++ [R] ++ Y) ≤ wL (X ++ S :: T :: Y) := by
  obtain ⟨m, h1, h2, h3, h4, h5, h6⟩ := Ch.app.mp h
  refine ⟨?_, fun p v => ?_, ?_⟩
  · rw [List.append_assoc]
    exact Ch.app.mpr ⟨m, h1, show R.Ok ∧ R.a = m ∧ Ch R.u.length Y b from ⟨j.ok, j.a.trans h3, j.u.symm ▸ h6⟩⟩
  · rw [List.append_assoc, orL_app p X, orL_app p X]
    show orL X (R.or (orL Y p)) = orL X (S.or (T.or (orL Y p)))
    rw [j.org _ (h6.vd v)]
  · have h7 := j.f
    have h8 := j.n
    rw [List.append_assoc, wL_app X, wL_app X, wL_cons, wL_cons]
    show wL X + wL (R :: Y) ≤ _
    rw [wL_cons]
    omega
/-- a Turn is what these are together -/
structure Fd (a : Nat) (L : List Tn) (b : Nat) (R : Tn) : Prop where
  ok : R.Ok
  a : R.a = a
  u : R.u.length = b
  org : ∀ p, Vd b p → R.or p = orL L p
  w : R.f.length + R.n ≤ wL L
theorem Fd.one {T : Tn} (o : T.Ok) : Fd T.a [T] T.u.length T := ⟨o, rfl, rfl, fun _ _ => rfl, by simp [wL]⟩
theorem Fd.eq {a b : Nat} {L : List Tn} {R S : Tn} (h : Fd a L b R) (g : Fd a L b S) : R = S := h.ok.ext g.ok (by rw [h.u, g.u]) fun p v => by
  rw [h.u] at v
  rw [h.org p v, g.org p v]
theorem Fd.join {a b c : Nat} {X Y : List Tn} {S T R : Tn} (h : Fd a X b S) (g : Fd b Y c T) (j : Jn S T R) : Fd a (X ++ Y) c R := by
  refine ⟨j.ok, by rw [j.a, h.a], by rw [j.u, g.u], fun p v => ?_, ?_⟩
  · rw [j.org p (by rw [g.u]; exact v), orL_app, ← g.org p v]
    refine h.org _ ?_
    have := g.ok.toPm.or_vd (p := p) (by rw [g.u]; exact v)
    rw [g.a] at this
    exact this
  · have h1 := h.w
    have h2 := g.w
    have h3 := j.f
    have h4 := j.n
    rw [wL_app]
    omega
theorem Fd.small {a b : Nat} {L : List Tn} {R : Tn} (h : Fd a L b R) : R.u.length ≤ a + wL L := by
  have h1 := h.w
  have h2 := h.ok.toPm.len
  have h3 := h.a
  omega
/-- a source of drawn digits -/
structure Sc (H : Hp) (s : Addr) : Prop where
  ex : ∃ (d : Addr) (ds : List Int) (j : Int), H s = some (.lst [.ref d, .int j]) ∧ H d = some (.lst (ds.map V.int)) ∧ 0 < ds.length ∧ ds.length ≤ 1000 ∧ ∀ x ∈ ds, 0 ≤ x ∧ x < 1009
structure Sx (s : Addr) (H H' : Hp) : Prop where
  sc : Sc H' s
  old : But s H H'
section
variable {K : PySem.W.Frag} {s : Addr} {H H1 H' : Hp}
theorem Sc.same (h : Sc H s) (x : Same H H') : Sc H' s := by
  obtain ⟨d, ds, j, h1, h2, h3⟩ := h.ex
  exact ⟨d, ds, j, x _ _ h1, x _ _ h2, h3⟩
theorem Sx.refl (h : Sc H s) : Sx s H H := ⟨h, But.refl _ _⟩
theorem Sx.of (h : Sc H s) (x : Same H H') : Sx s H H' := ⟨h.same x, But.of_same x⟩
theorem Sx.trans (x : Sx s H H1) (y : Sx s H1 H') : Sx s H H' := ⟨y.sc, x.old.trans y.old⟩
theorem Sx.same (x : Sx s H H1) (y : Same H1 H') : Sx s H H' := ⟨x.sc.same y, x.old.same y⟩
theorem Sc.ne_lst {l : Addr} {ws : List V} (c : Sc H s) (e : H l = some (.lst ws)) (r : ∀ v ∈ ws, ∃ t, v = V.ref t) : l ≠ s := by
  intro z
  obtain ⟨d, ds, j, h1, -⟩ := c.ex
  rw [z, h1] at e
  cases e
  obtain ⟨t, h⟩ := r (.int j) (by simp)
  cases h
theorem Sc.ne_tup {l : Addr} {ws : List V} (c : Sc H s) (e : H l = some (.tup ws)) : l ≠ s := by
  obtain ⟨d, ds, j, h1, -⟩ := c.ex
  exact ne_of e h1 (by intro z; cases z)
theorem Sx.tup {l : Addr} {ws : List V} (x : Sx s H H') (c : Sc H s) (e : H l = some (.tup ws)) : H' l = some (.tup ws) := x.old _ _ (c.ne_tup e) e
theorem Sx.lst {l : Addr} {ws : List V} (x : Sx s H H') (c : Sc H s) (e : H l = some (.lst ws)) (r : ∀ v ∈ ws, ∃ t, v = V.ref t) : H' l = some (.lst ws) := x.old _ _ (c.ne_lst e r) e
theorem PlL.rf {ws : List V} {ps : List Pl} (h : PlL H ws ps) : ∀ v ∈ ws, ∃ t, v = V.ref t := fun v hv => by
  obtain ⟨i, hi⟩ := List.getElem?_of_mem hv
  obtain ⟨t, _, e, _⟩ := h.item hi
  exact ⟨t, e⟩
theorem PlL.sx {ws : List V} {ps : List Pl} (h : PlL H ws ps) (c : Sc H s) (x : Sx s H H') : PlL H' ws ps := h.keep (x := s) fun _ _ e => x.tup c e
theorem TurnAt.sx {a : Addr} {T : Tn} (h : TurnAt K H a T) (c : Sc H s) (x : Sx s H H') : TurnAt K H' a T := by
  obtain ⟨ok, dx, pu, pf, pg, vu, vf, kvs, h1, h2, h3, h4, h5, h6, h7⟩ := h
  obtain ⟨d, ds, j, e, -⟩ := c.ex
  exact turn_but ok h1 h2 h3 h4 h5 h6 h7 e (c.ne_lst h2 h3.rf) (c.ne_lst h4 h5.rf) x.old
theorem TnL.sx {ws : List V} {Ts : List Tn} (h : TnL K H ws Ts) (c : Sc H s) (x : Sx s H H') : TnL K H' ws Ts := ⟨h.len, fun i p e => by
  obtain ⟨t, h1, h2⟩ := h.at_ i p e
  exact ⟨t, h1, h2.sx c x⟩⟩
end
/-- what raising InvalidArgument for the part w asks -/
def RaiA (K : PySem.W.Frag) (H : Hp) (E : XK) (w : Str) : Prop := ∀ d H', Same H H' → H d = none → H' d = some (.xd [("part", .str w)]) → E (.ref (He.ga K "InvalidArgument")) (some d) H'
theorem RaiA.same {K : PySem.W.Frag} {H H1 : Hp} {E : XK} {w : Str} (h : RaiA K H E w) (s : Same H H1) : RaiA K H1 E w := fun d H' s2 hd e => h d H' (s.trans s2) (s.free hd) e
/-- what a lambda's end, or its error, makes of the part -/
def tt__law_part (K : PySem.W.Frag) : (XK → Hp → VK → Prop) → Hp → VK → Prop := fun tl H Q => tl (fun cls d H' => ∃ dd v, cls = .ref (He.ga K "InvalidArgument") ∧ d = some dd ∧ H' dd = some (.xd [("part", v)]) ∧ Q v H') H (fun _ H' => Q .non H')
theorem tt_at {K : PySem.W.Frag} {tl : XK → Hp → VK → Prop} {H : Hp} {Q : VK} (h : ∀ E1 : XK, (∀ w, (∀ H', Same H H' → Q (.str w) H') → RaiA K H E1 w) → tl E1 H (fun _ H' => Q .non H')) : tt__law_part K tl H Q :=
  h _ fun w q d H' s hd e => ⟨d, .str w, rfl, rfl, e, q H' s⟩
/-- the parts of a Turn as a tuple in memory -/
structure PtA (H : Hp) (t : Addr) (T : Tn) : Prop where
  ex : ∃ (pu pf : Addr) (vu vf : List V), H t = some (.tup [.ref pu, .ref pf, .int T.n]) ∧ H pu = some (.lst vu) ∧ PlL H vu T.u ∧ H pf = some (.lst vf) ∧ PlL H vf T.f
theorem PtA.same {H H' : Hp} {t : Addr} {T : Tn} (h : PtA H t T) (s : Same H H') : PtA H' t T := by
  obtain ⟨pu, pf, vu, vf, h1, h2, h3, h4, h5⟩ := h.ex
  exact ⟨pu, pf, vu, vf, s _ _ h1, s _ _ h2, h3.same s, s _ _ h4, h5.same s⟩
theorem PtA.sx {H H' : Hp} {s t : Addr} {T : Tn} (h : PtA H t T) (c : Sc H s) (x : Sx s H H') : PtA H' t T := by
  obtain ⟨pu, pf, vu, vf, h1, h2, h3, h4, h5⟩ := h.ex
  exact ⟨pu, pf, vu, vf, x.tup c h1, x.lst c h2 h3.rf, h3.sx c x, x.lst c h4 h5.rf, h5.sx c x⟩
def ptD (T : Tn) : PyData := .tuple [.list (T.u.map plD), .list (T.f.map plD), .int T.n]
theorem dpPt {K : PySem.W.Frag} {H : Hp} {t : Addr} {T : Tn} (h : PtA H t T) : Dp K H (.ref t) (ptD T) := by
  obtain ⟨pu, pf, vu, vf, h1, h2, h3, h4, h5⟩ := h.ex
  exact .tup (SqT.of h1) (.cons (.lst (SqL.of h2) (dpPls h3)) (.cons (.lst (SqL.of h4) (dpPls h5)) (.cons (.int _) .nil)))
theorem eqvPt (S T : Tn) : PyData.eqv (ptD S) (ptD T) = decide (S.u = T.u ∧ S.f = T.f ∧ S.n = T.n) := by
  show (PyData.eqvAll (S.u.map plD) (T.u.map plD) && (PyData.eqvAll (S.f.map plD) (T.f.map plD) && (((S.n : Int) == (T.n : Int)) && true))) = _
  rw [eqvPls, eqvPls, show ((S.n : Int) == (T.n : Int)) = decide (S.n = T.n) by rw [Bool.eq_iff_iff, beq_iff_eq, decide_eq_true_iff]; omega]
  by_cases h1 : S.u = T.u <;> by_cases h2 : S.f = T.f <;> by_cases h3 : S.n = T.n <;> simp [h1, h2, h3]
theorem layPt (T : Tn) : PyData.canLay0 (ptD T) = true ∧ PyData.depth (ptD T) ≤ 4 := by
  obtain ⟨a1, a2⟩ := layPls T.u
  obtain ⟨b1, b2⟩ := layPls T.f
  refine ⟨by simp [ptD, PyData.canLay0, PyData.canLayAll0, a1, b1], ?_⟩
  simp only [ptD, PyData.depth, PyData.depthAll]
  omega
theorem shOf {d : PyData} (h : PyData.canLay0 d = true ∧ PyData.depth d ≤ 40) : SeqAt.shaped d = true := by
  unfold SeqAt.shaped
  rw [h.1, Bool.true_and]
  exact decide_eq_true (by omega)
theorem shPt (T : Tn) : SeqAt.shaped (ptD T) = true := shOf ⟨(layPt T).1, by have := (layPt T).2; omega⟩
section
variable {K : PySem.W.Frag} {H : Hp} {Q : VK} {a b a1 a2 b1 b2 : Addr} {S T S2 T2 : Tn}
theorem r_nePt (h : PtA H a S) (g : PtA H b T) (k : Q (.bl (!decide (S.u = T.u ∧ S.f = T.f ∧ S.n = T.n))) H) : rNeD K (.ref a) (.ref b) H Q := ⟨_, _, dpPt h, dpPt g, shPt S, shPt T, by rw [eqvPt]; exact k⟩
theorem r_nePt2 (h : H a = some (.tup [.ref a1, .ref a2])) (h1 : PtA H a1 S) (h2 : PtA H a2 S2) (g : H b = some (.tup [.ref b1, .ref b2])) (g1 : PtA H b1 T) (g2 : PtA H b2 T2) (e1 : S = T) (e2 : S2 = T2) (k : Q (.bl false) H) : rNeD K (.ref a) (.ref b) H Q := by
  subst e1 e2
  refine ⟨.tuple [ptD S, ptD S2], .tuple [ptD S, ptD S2], .tup (SqT.of h) (.cons (dpPt h1) (.cons (dpPt h2) .nil)), .tup (SqT.of g) (.cons (dpPt g1) (.cons (dpPt g2) .nil)), ?_, ?_, ?_⟩
  · refine shOf ⟨by simp [PyData.canLay0, PyData.canLayAll0, (layPt S).1, (layPt S2).1], ?_⟩
    have := (layPt S).2
    have := (layPt S2).2
    simp only [PyData.depth, PyData.depthAll]
    omega
  · refine shOf ⟨by simp [PyData.canLay0, PyData.canLayAll0, (layPt S).1, (layPt S2).1], ?_⟩
    have := (layPt S).2
    have := (layPt S2).2
    simp only [PyData.depth, PyData.depthAll]
    omega
  · have e : PyData.eqv (.tuple [ptD S, ptD S2]) (.tuple [ptD S, ptD S2]) = true := by
      show (PyData.eqv (ptD S) (ptD S) && (PyData.eqv (ptD S2) (ptD S2) && true)) = true
      rw [eqvPt, eqvPt]
      simp
    rw [e]
    exact k
end
theorem cut_neg1 {xs : List V} (h : xs ≠ []) : cutV xs none (some (-1)) = xs.take (xs.length - 1) := by
  have hl : 0 < xs.length := List.length_pos_iff.mpr h
  have e : HT.sIx xs.length xs.length (some (-1)) = xs.length - 1 := by
    rw [show (-1 : Int) = -((1 : Nat) : Int) by rfl]
    first | exact HT.sIx_neg .. | (unfold HT.sIx; simp; omega)
  show (xs.drop 0).take (HT.sIx xs.length xs.length (some (-1)) - 0) = _
  rw [e]
  rfl
open LamX KrL
/-! what stands behind a lambda's making -/
section
variable {K : PySem.W.Frag} {s : Addr} {H H1 H2 : Hp}
theorem PlL.xn {vs : List V} {ps : List Pl} (h : PlL H vs ps) (x : ExtN H H1) : PlL H1 vs ps := h.keep (x := 0) fun b xs e => x b _ e (fun ps z => by cases z)
theorem TurnAt.xn {a : Addr} {T : Tn} (h : TurnAt K H a T) (x : ExtN H H1) : TurnAt K H1 a T := by
  obtain ⟨ok, dx, pu, pf, pg, vu, vf, kvs, h1, h2, h3, h4, h5, h6, h7⟩ := h
  refine ⟨ok, dx, pu, pf, pg, vu, vf, kvs, x _ _ h1 (fun _ z => by cases z), x _ _ h2 (fun _ z => by cases z), h3.xn x, x _ _ h4 (fun _ z => by cases z), h5.xn x, x _ _ h6 (fun _ z => by cases z), ?_⟩
  exact ⟨h7.n, fun i p e => by obtain ⟨t, a1, a2⟩ := h7.gu i p e; exact ⟨t, a1, x _ _ a2 (fun _ z => by cases z)⟩, fun i p e => by obtain ⟨t, a1, a2⟩ := h7.gf i p e; exact ⟨t, a1, x _ _ a2 (fun _ z => by cases z)⟩, h7.no⟩
theorem Sc.xn (c : Sc H s) (x : ExtN H H1) : Sc H1 s := by
  obtain ⟨d, ds, j, h1, h2, h3⟩ := c.ex
  exact ⟨d, ds, j, x _ _ h1 (fun _ z => by cases z), x _ _ h2 (fun _ z => by cases z), h3⟩
theorem tabs_sx {T : List (Addr × Str)} (t : Tabs T H) (c : Sc H s) (x : Sx s H H1) : Tabs T H1 := fun p hp => by
  obtain ⟨ps, h1, h2, h3⟩ := t p hp
  obtain ⟨d, ds, j, e, -⟩ := c.ex
  refine ⟨ps, x.old _ _ (ne_of h1 e (by intro z; cases z)) h1, h2, fun pos cv hc => ?_⟩
  obtain ⟨q, e1, e2⟩ := h3 pos cv hc
  exact ⟨q, e1, x.old _ _ (ne_of e2 e (by intro z; unfold CodeO at z; cases z)) e2⟩
/-- all but the source and the tables stands -/
def BuN (s : Addr) (H H' : Hp) : Prop := ∀ b o, b ≠ s → H b = some o → (∀ ps, o ≠ .tbl ps) → H' b = some o
theorem BuN.of_sx (x : Sx s H H1) : BuN s H H1 := fun b o n e _ => x.old b o n e
theorem BuN.xn (a : BuN s H H1) (x : ExtN H1 H2) : BuN s H H2 := fun b o n e z => x b o (a b o n e z) z
theorem BuN.trans (a : BuN s H H1) (b : BuN s H1 H2) : BuN s H H2 := fun c o n e z => b c o n (a c o n e z) z
end
theorem cut_mem {xs : List V} {lo hi : Option Int} {x : V} (h : x ∈ cutV xs lo hi) : x ∈ xs := List.mem_of_mem_drop (List.mem_of_mem_take h)
theorem cut_len (xs : List V) (lo hi : Option Int) : (cutV xs lo hi).length ≤ xs.length := by
  unfold cutV
  rw [List.length_take, List.length_drop]
  omega
/-- no int, or a bool -/
def NotI (K : PySem.W.Frag) (H : Hp) (v : V) : Prop := (∃ k, v = .bl k) ∨ ∃ T, TyX K H v (.type T) ∧ kitB T "int" = some false
def FromV (K : PySem.W.Frag) (H : Hp) (v : V) (a : Int) (r : Bool) : Prop := (∃ n, v = .int n ∧ r = decide (a ≤ n)) ∨ (NotI K H v ∧ r = false)
/-- r tells whether v is an int from a to b -/
def WithinV (K : PySem.W.Frag) (H : Hp) (v : V) (a b : Int) (r : Bool) : Prop := (∃ n, v = .int n ∧ r = decide (a ≤ n ∧ n ≤ b)) ∨ (NotI K H v ∧ r = false)
section
variable {K : PySem.W.Frag} {H : Hp} {q : Addr}
theorem ni_bl {k : Bool} : NotI K H (.bl k) := .inl ⟨k, rfl⟩
theorem ni_non : NotI K H .non := .inr ⟨"NoneType", .base .non, by decide +kernel⟩
theorem ni_str {x : Str} : NotI K H (.str x) := .inr ⟨"str", .base (.str x), by decide +kernel⟩
theorem ni_lst {xs : List V} (h : H q = some (.lst xs)) : NotI K H (.ref q) := .inr ⟨"list", .base (.lst h), by decide +kernel⟩
theorem ni_tup {xs : List V} (h : H q = some (.tup xs)) : NotI K H (.ref q) := .inr ⟨"tuple", .base (.tup h), by decide +kernel⟩
theorem ni_dct {xs : List (Key × V)} (h : H q = some (.dK xs)) : NotI K H (.ref q) := .inr ⟨"dict", .base (.dK h), by decide +kernel⟩
theorem NotI.within {v : V} {a b : Int} (h : NotI K H v) : WithinV K H v a b false := .inr ⟨h, rfl⟩
theorem NotI.from {v : V} {a : Int} (h : NotI K H v) : FromV K H v a false := .inr ⟨h, rfl⟩
theorem int_out {n a b : Int} (h : ¬ (a ≤ n ∧ n ≤ b)) : WithinV K H (.int n) a b false := .inl ⟨n, rfl, (decide_eq_false h).symm⟩
theorem int_low {n a : Int} (h : ¬ a ≤ n) : FromV K H (.int n) a false := .inl ⟨n, rfl, (decide_eq_false h).symm⟩
end
/-- no number from 0 on -/
def NoNum (K : PySem.W.Frag) (H : Hp) (b : V) : Prop := ∀ H', Same H H' → FromV K H' b 0 false
/-- no place -/
def NoPl (K : PySem.W.Frag) (H : Hp) (v : V) : Prop := (∃ T, TyX K H v (.type T) ∧ kitB T "tuple" = some false) ∨ ∃ (t : Addr) (xs : List V), v = .ref t ∧ H t = some (.tup xs) ∧
  (xs.length ≠ 2 ∨ ∃ a b, xs = [a, b] ∧ ((∃ T, TyX K H a (.type T) ∧ kitB T "str" = some false) ∨ ∃ w, a = .str w ∧ (inV (.str w) [V.str "use", V.str "list"] = false ∨ (inV (.str w) [V.str "use", V.str "list"] = true ∧ NoNum K H b))))
/-- no place where so many are in use -/
def NoAm (K : PySem.W.Frag) (H : Hp) (m : Nat) (v : V) : Prop := NoPl K H v ∨ ∃ (t : Addr) (k : Nat), v = .ref t ∧ H t = some (plO (.use k)) ∧ m ≤ k
/-- no Turn -/
def NoT (K : PySem.W.Frag) (H : Hp) (w : V) : Prop := ∃ t, TyX K H w t ∧ PySem.W.kitOne K t (.ref (He.ga K "Turn")) = some false
def IsT (K : PySem.W.Frag) (H : Hp) (w : V) : Prop := ∃ y T, w = .ref y ∧ TurnAt K H y T
/-- whether a Turn leads to the next one -/
def stp (Ts : List Tn) (i : Nat) : Bool := match Ts[i]?, Ts[i + 1]? with
  | some A, some B => decide (A.u.length = B.a)
  | _, _ => true
def rowOk (Ts : List Tn) : Bool := ((List.range (Ts.length - 1)).map (stp Ts)).all id
theorem row_ch {Ts : List Tn} {a b : Nat} (c : Ch a Ts b) : rowOk Ts = true := by
  unfold rowOk
  rw [List.all_eq_true]
  intro x hx
  obtain ⟨i, hi, rfl⟩ := List.mem_map.mp hx
  have hi := List.mem_range.mp hi
  have n := c.nxt (i := i) (by omega)
  unfold stp
  rw [List.getElem?_eq_getElem (by omega), List.getElem?_eq_getElem (by omega)]
  exact decide_eq_true n.symm
theorem row_no {Ts : List Tn} {i : Nat} (hi : i + 1 < Ts.length) (h : Ts[i].u.length ≠ Ts[i + 1].a) : rowOk Ts = false := by
  unfold rowOk
  rw [List.all_eq_false]
  refine ⟨false, List.mem_map.mpr ⟨i, List.mem_range.mpr (by omega), ?_⟩, by decide⟩
  unfold stp
  rw [List.getElem?_eq_getElem (by omega), List.getElem?_eq_getElem (by omega)]
  exact decide_eq_false h
/-- whether v is a row of Turns that follow one another -/
def TsR (K : PySem.W.Frag) (H : Hp) (v : V) (r : Bool) : Prop := (r = false ∧ ∃ t, TyX K H v t ∧ PySem.W.kitOne K t (.type "list") = some false) ∨
  (r = false ∧ ∃ (l : Addr) (ws : List V) (f : Nat → Bool), v = .ref l ∧ H l = some (.lst ws) ∧ ws.length ≤ 5000 ∧ (∀ j w H', ws[j]? = some w → Same H H' → if f j = true then IsT K H' w else NoT K H' w) ∧ ∃ j, j < ws.length ∧ f j = false) ∨
  ∃ (l : Addr) (ws : List V) (Ts : List Tn), v = .ref l ∧ H l = some (.lst ws) ∧ TnL K H ws Ts ∧ Ts.length ≤ 5000 ∧ r = rowOk Ts
/-- the places of a page ahead of the first and behind each one -/
structure Wy (Ts : List Tn) (p : Pl) (qs : List Pl) : Prop where
  len : qs.length = Ts.length + 1
  z : qs[0]? = some p
  st : ∀ (i : Nat) (T : Tn) (q q' : Pl), Ts[i]? = some T → qs[i]? = some q → qs[i + 1]? = some q' → Vd T.u.length q' ∧ T.or q' = q
theorem Wy.uniq {Ts : List Tn} {p : Pl} {qs rs : List Pl} (ok : ∀ T ∈ Ts, T.Pm) (h : Wy Ts p qs) (g : Wy Ts p rs) : qs = rs := by
  refine List.ext_getElem? fun i => ?_
  induction i with
  | zero => rw [h.z, g.z]
  | succ i ih =>
    rcases Nat.lt_or_ge i Ts.length with z | z
    · have h1 : i + 1 < qs.length := by have := h.len; omega
      have g1 : i + 1 < rs.length := by have := g.len; omega
      have e1 := List.getElem?_eq_getElem h1
      have e2 := List.getElem?_eq_getElem g1
      have e3 : qs[i]? = some qs[i] := List.getElem?_eq_getElem (by omega)
      have e4 : rs[i]? = some qs[i] := ih ▸ e3
      obtain ⟨v1, o1⟩ := h.st i _ _ _ (List.getElem?_eq_getElem z) e3 e1
      obtain ⟨v2, o2⟩ := g.st i _ _ _ (List.getElem?_eq_getElem z) e4 e2
      rw [e1, e2, (ok _ (List.getElem_mem z)).or_inj v1 v2 (o1.trans o2.symm)]
    · rw [List.getElem?_eq_none (by have := h.len; omega), List.getElem?_eq_none (by have := g.len; omega)]
/-- Turns alike: the same origins -/
structure Alk (Ts Rs : List Tn) : Prop where
  len : Ts.length = Rs.length
  st : ∀ (i : Nat) (T R : Tn), Ts[i]? = some T → Rs[i]? = some R → R.u = T.u ∧ R.a = T.a ∧ ∀ p, R.or p = T.or p
theorem Wy.alk {Ts Rs : List Tn} {p : Pl} {qs : List Pl} (h : Wy Ts p qs) (a : Alk Ts Rs) : Wy Rs p qs := by
  refine ⟨by rw [h.len, a.len], h.z, fun i R q q' e1 e2 e3 => ?_⟩
  have hi : i < Ts.length := by rw [a.len]; exact (List.getElem?_eq_some_iff.mp e1).1
  obtain ⟨u, -, o⟩ := a.st i _ R (List.getElem?_eq_getElem hi) e1
  obtain ⟨v1, o1⟩ := h.st i _ q q' (List.getElem?_eq_getElem hi) e2 e3
  exact ⟨by rw [u]; exact v1, by rw [o, o1]⟩
theorem any_pl (p : Pl) : ∀ ps : List Pl, ((ps.map plD).any fun z => PyData.eqv z (plD p)) = decide (p ∈ ps)
  | [] => by simp
  | x :: ps => by
    rw [List.map_cons, List.any_cons, eqvPl, any_pl p ps]
    by_cases h : x = p
    · rw [decide_eq_true h, Bool.true_or]
      exact (decide_eq_true (List.mem_cons.mpr (.inl h.symm))).symm
    · rw [decide_eq_false h, Bool.false_or]
      by_cases h2 : p ∈ ps
      · rw [decide_eq_true h2, decide_eq_true (List.mem_cons.mpr (.inr h2))]
      · rw [decide_eq_false h2, decide_eq_false (fun z => (List.mem_cons.mp z).elim (fun e => h e.symm) h2)]
section
variable {K : PySem.W.Frag} {H : Hp} {Q : VK} {a b : Addr} {vs : List V} {ps : List Pl} {p : Pl}
theorem r_inPl (h : H a = some (plO p)) (g : H b = some (.lst vs)) (g' : PlL H vs ps) (k : Q (.bl (decide (p ∈ ps))) H) : rInD K (.ref a) (.ref b) H Q := ⟨plD p, ps.map plD, dpPl h, .lst (SqL.of g) (dpPls g'), shPl p, shPls ps, by rw [any_pl]; exact k⟩
theorem r_indexPl {j : Nat} (h : H a = some (plO p)) (g : H b = some (.lst vs)) (g' : PlL H vs ps) (nd : ps.Nodup) (hj : ps[j]? = some p) (k : Q (.int j) H) : rIndexD K (.ref b) [.ref a] H Q := by
  refine ⟨b, .ref a, plD p, ps.map plD, j, plD p, rfl, rfl, .lst (SqL.of g) (dpPls g'), dpPl h, shPls ps, shPl p, ?_, ?_, fun m z' hm hz => ?_, k⟩
  · rw [List.getElem?_map, hj]
    rfl
  · rw [eqvPl]
    exact decide_eq_true rfl
  · rw [List.getElem?_map] at hz
    obtain ⟨x, e1, e2⟩ := Option.map_eq_some_iff.mp hz
    rw [← e2, eqvPl]
    refine decide_eq_false fun e => ?_
    subst e
    obtain ⟨m1, m2⟩ := List.getElem?_eq_some_iff.mp e1
    obtain ⟨j1, j2⟩ := List.getElem?_eq_some_iff.mp hj
    have := nd_get nd m1 j1 (m2.trans j2.symm)
    omega
end
/-- a row of parts of Turns -/
structure RwL (H : Hp) (vs : List V) (Ts : List Tn) : Prop where
  len : vs.length = Ts.length
  at_ : ∀ (i : Nat) (T : Tn), Ts[i]? = some T → ∃ t, vs[i]? = some (V.ref t) ∧ PtA H t T
theorem RwL.same {H H' : Hp} {vs : List V} {Ts : List Tn} (h : RwL H vs Ts) (s : Same H H') : RwL H' vs Ts := ⟨h.len, fun i T e => by
  obtain ⟨t, h1, h2⟩ := h.at_ i T e
  exact ⟨t, h1, h2.same s⟩⟩
theorem RwL.item {H : Hp} {vs : List V} {Ts : List Tn} {i : Nat} {x : V} (h : RwL H vs Ts) (e : vs[i]? = some x) : ∃ (t : Addr) (hi : i < Ts.length), x = .ref t ∧ PtA H t Ts[i] := by
  have hi : i < Ts.length := by
    rw [← h.len]
    exact (List.getElem?_eq_some_iff.mp e).1
  obtain ⟨t, h1, h2⟩ := h.at_ i _ (List.getElem?_eq_getElem hi)
  rw [e] at h1
  exact ⟨t, hi, Option.some.inj h1, h2⟩
theorem RwL.take {H : Hp} {vs : List V} {Ts : List Tn} (h : RwL H vs Ts) (k : Nat) : RwL H (vs.take k) (Ts.take k) := by
  refine ⟨by rw [List.length_take, List.length_take, h.len], fun i q hq => ?_⟩
  rw [List.getElem?_take] at hq ⊢
  split at hq
  · rename_i hlt
    rw [if_pos hlt]
    exact h.at_ i q hq
  · cases hq
theorem RwL.app {H : Hp} {vs ws : List V} {Ts Us : List Tn} (h : RwL H vs Ts) (g : RwL H ws Us) : RwL H (vs ++ ws) (Ts ++ Us) := by
  refine ⟨by rw [List.length_append, List.length_append, h.len, g.len], fun i q hq => ?_⟩
  rcases Nat.lt_or_ge i Ts.length with z | z
  · rw [List.getElem?_append_left z] at hq
    rw [List.getElem?_append_left (by rw [h.len]; exact z)]
    exact h.at_ i q hq
  · rw [List.getElem?_append_right z] at hq
    rw [List.getElem?_append_right (by rw [h.len]; exact z), h.len]
    exact g.at_ _ q hq
theorem RwL.one {H : Hp} {t : Addr} {T : Tn} (e : PtA H t T) : RwL H [.ref t] [T] := ⟨rfl, fun i q hq => by
  cases i with
  | zero =>
    cases hq
    exact ⟨t, rfl, e⟩
  | succ i => simp at hq⟩
/-- parts that follow one another -/
def PCh (a : Nat) (Ts : List Tn) : Prop := ∀ (i : Nat) (T : Tn), Ts[i]? = some T → T.Pm ∧ T.a = if i = 0 then a else (Ts[i - 1]?.map (·.u.length)).getD 0
section
variable {K : PySem.W.Frag} {s l w : Addr} {H H2 H' : Hp} {ws : List V} {Ts : List Tn} {W : Tn}
theorem TnL.own (h : TnL K H ws Ts) (hl : H l = some (.lst ws)) (b : But l H H2) : TnL K H2 ws Ts := by
  refine ⟨h.len, fun i T e => ?_⟩
  obtain ⟨x, e1, TA⟩ := h.at_ i T e
  refine ⟨x, e1, ?_⟩
  have hi : i < ws.length := (List.getElem?_eq_some_iff.mp e1).1
  obtain ⟨x0, f1, TA0⟩ := h.get (i := 0) (by have := h.len; omega)
  obtain ⟨_, _, _, _, f3⟩ := TA0.fl
  have nl : ∀ c vs ps, H c = some (.lst vs) → PlL H vs ps → c ≠ l := fun c vs ps e P z => by
    rw [z, hl] at e
    have e2 := HO.lst.inj (Option.some.inj e)
    rw [e2] at f1
    obtain ⟨t, _, e3, e4⟩ := P.item f1
    cases e3
    rw [f3] at e4
    cases e4
  obtain ⟨ok, dx, pu, pf, pg, vu, vf, kvs, h1, h2, h3, h4, h5, h6, h7⟩ := TA
  exact turn_but ok h1 h2 h3 h4 h5 h6 h7 hl (nl _ _ _ h2 h3) (nl _ _ _ h4 h5) b
theorem Sc.upd {o : HO} (c : Sc H s) (e : H l = some (.lst ws)) (r : ∀ v ∈ ws, ∃ t, v = V.ref t) : Sc (L2.upd H l o) s := by
  obtain ⟨d, ds, j, h1, h2, h3, h4⟩ := c.ex
  have nd : d ≠ l := fun z => by
    rw [z, e] at h2
    have e2 := HO.lst.inj (Option.some.inj h2)
    cases ds with
    | nil => simp at h3
    | cons x ds =>
      obtain ⟨t, h⟩ := r (V.int x) (by rw [e2]; simp)
      cases h
  exact ⟨d, ds, j, by rw [upd_ne (c.ne_lst e r).symm]; exact h1, by rw [upd_ne nd]; exact h2, h3, h4⟩
/-- lists whose first things are no places -/
theorem nk {vu : List V} {u : List Pl} {c : Addr} (h1 : H c = some (.lst vu)) (h2 : PlL H vu u) (hl : H l = some (.lst ws)) {x : Addr} (k0 : ws[0]? = some (.ref x)) (k : ∀ p, H x ≠ some (plO p)) : c ≠ l := fun z => by
  rw [z, hl] at h1
  have e := HO.lst.inj (Option.some.inj h1)
  rw [e] at k0
  obtain ⟨t, _, e3, e4⟩ := h2.item k0
  cases e3
  exact k _ e4
theorem TurnAt.ky {x : Addr} {T : Tn} (h : TurnAt K H x T) (p : Pl) : H x ≠ some (plO p) := by
  obtain ⟨_, _, _, _, e⟩ := h.fl
  rw [e]
  intro z
  cases z
theorem PtA.ky {x : Addr} {T : Tn} (h : PtA H x T) (p : Pl) : H x ≠ some (plO p) := by
  obtain ⟨pu, pf, vu, vf, e, -⟩ := h.ex
  rw [e]
  intro z
  cases z
theorem PtA.but {t pu pf : Addr} {vu vf : List V} {T : Tn} (h1 : H t = some (.tup [.ref pu, .ref pf, .int T.n])) (h2 : H pu = some (.lst vu)) (h3 : PlL H vu T.u) (h4 : H pf = some (.lst vf)) (h5 : PlL H vf T.f) (hl : H l = some (.lst ws)) (nu : pu ≠ l) (nf : pf ≠ l) (b : But l H H2) : PtA H2 t T := by
  have tp : ∀ c xs, H c = some (.tup xs) → H2 c = some (.tup xs) := fun c xs e => b c _ (ne_of e hl (by intro z; cases z)) e
  exact ⟨pu, pf, vu, vf, tp _ _ h1, b _ _ nu h2, h3.keep (x := t) tp, b _ _ nf h4, h5.keep (x := t) tp⟩
theorem RwL.but {vs : List V} (h : RwL H vs Ts) (hl : H l = some (.lst ws)) (k : Ts ≠ [] → ∃ x, ws[0]? = some (.ref x) ∧ ∀ p, H x ≠ some (plO p)) (b : But l H H2) : RwL H2 vs Ts := ⟨h.len, fun i T e => by
  obtain ⟨t, e1, pu, pf, vu, vf, h1, h2, h3, h4, h5⟩ := h.at_ i T e
  obtain ⟨x, x1, x2⟩ := k (fun z => by rw [z] at e; simp at e)
  exact ⟨t, e1, PtA.but h1 h2 h3 h4 h5 hl (nk h2 h3 hl x1 x2) (nk h4 h5 hl x1 x2) b⟩⟩
theorem TnL.but {vs : List V} (h : TnL K H vs Ts) (hl : H l = some (.lst ws)) (k : Ts ≠ [] → ∃ x, ws[0]? = some (.ref x) ∧ ∀ p, H x ≠ some (plO p)) (b : But l H H2) : TnL K H2 vs Ts := ⟨h.len, fun i T e => by
  obtain ⟨t, e1, ok, dx, pu, pf, pg, vu, vf, kvs, h1, h2, h3, h4, h5, h6, h7⟩ := h.at_ i T e
  obtain ⟨x, x1, x2⟩ := k (fun z => by rw [z] at e; simp at e)
  exact ⟨t, e1, turn_but ok h1 h2 h3 h4 h5 h6 h7 hl (nk h2 h3 hl x1 x2) (nk h4 h5 hl x1 x2) b⟩⟩
theorem RwL.sx {vs : List V} (h : RwL H vs Ts) (c : Sc H s) (x : Sx s H H') : RwL H' vs Ts := ⟨h.len, fun i T e => by
  obtain ⟨t, h1, h2⟩ := h.at_ i T e
  exact ⟨t, h1, h2.sx c x⟩⟩
theorem RwL.rf {vs : List V} (h : RwL H vs Ts) : ∀ v ∈ vs, ∃ t, v = V.ref t := fun v hv => by
  obtain ⟨i, hi⟩ := List.getElem?_of_mem hv
  obtain ⟨t, _, e, _⟩ := h.item hi
  exact ⟨t, e⟩
theorem RwL.fst {vs : List V} (h : RwL H vs Ts) (n : Ts ≠ []) : ∃ x, vs[0]? = some (.ref x) ∧ ∀ p, H x ≠ some (plO p) := by
  obtain ⟨t, h1, h2⟩ := h.at_ 0 _ (List.getElem?_eq_getElem (List.length_pos_iff.mpr n))
  exact ⟨t, h1, h2.ky⟩
theorem TnL.fst {vs : List V} (h : TnL K H vs Ts) (n : Ts ≠ []) : ∃ x, vs[0]? = some (.ref x) ∧ ∀ p, H x ≠ some (plO p) := by
  obtain ⟨t, h1, h2⟩ := h.at_ 0 _ (List.getElem?_eq_getElem (List.length_pos_iff.mpr n))
  exact ⟨t, h1, h2.ky⟩
end
theorem PCh.take {a : Nat} {Ts : List Tn} (h : PCh a Ts) (k : Nat) : PCh a (Ts.take k) := fun i T e => by
  rw [List.getElem?_take] at e
  split at e
  · rename_i hk
    obtain ⟨h1, h2⟩ := h i T e
    refine ⟨h1, ?_⟩
    rw [h2]
    by_cases z : i = 0
    · rw [if_pos z, if_pos z]
    · rw [if_neg z, if_neg z, List.getElem?_take, if_pos (by omega)]
  · cases e
theorem Alk.take {Ts Rs : List Tn} (h : Alk Ts Rs) (k : Nat) : Alk (Ts.take k) (Rs.take k) := ⟨by rw [List.length_take, List.length_take, h.len], fun i T R e1 e2 => by
  rw [List.getElem?_take] at e1 e2
  split at e1
  · rename_i hk
    rw [if_pos hk] at e2
    exact h.st i T R e1 e2
  · cases e1⟩
theorem ch_pm {a b : Nat} {Ts : List Tn} (c : Ch a Ts b) : ∀ T ∈ Ts, T.Pm := fun T h => by
  obtain ⟨i, hi, rfl⟩ := List.getElem_of_mem h
  exact (c.ok hi).toPm
theorem getElem?_snoc {α : Type _} {xs : List α} {y z : α} {i : Nat} (h : (xs ++ [y])[i]? = some z) : (i < xs.length ∧ xs[i]? = some z) ∨ (i = xs.length ∧ z = y) := by
  rcases Nat.lt_or_ge i xs.length with q | q
  · rw [List.getElem?_append_left q] at h
    exact .inl ⟨q, h⟩
  · rw [List.getElem?_append_right q] at h
    rcases Nat.eq_zero_or_pos (i - xs.length) with r | r
    · rw [r] at h
      cases h
      exact .inr ⟨by omega, rfl⟩
    · rw [List.getElem?_eq_none (by simp; omega)] at h
      cases h
theorem PCh.snoc {a : Nat} {Ts : List Tn} {T : Tn} (h : PCh a Ts) (pm : T.Pm) (e : T.a = if Ts.length = 0 then a else (Ts[Ts.length - 1]?.map (·.u.length)).getD 0) : PCh a (Ts ++ [T]) := fun i U hU => by
  rcases getElem?_snoc hU with ⟨hi, h1⟩ | ⟨rfl, rfl⟩
  · obtain ⟨h2, h3⟩ := h i U h1
    refine ⟨h2, ?_⟩
    rw [h3, List.getElem?_append_left (by omega)]
  · refine ⟨pm, ?_⟩
    rw [e]
    by_cases z : Ts.length = 0
    · rw [if_pos z, if_pos z]
    · rw [if_neg z, if_neg z, List.getElem?_append_left (by omega)]
theorem Alk.snoc {Ts Rs : List Tn} {T R : Tn} (h : Alk Ts Rs) (u : R.u = T.u) (a : R.a = T.a) (o : ∀ p, R.or p = T.or p) : Alk (Ts ++ [T]) (Rs ++ [R]) := ⟨by rw [List.length_append, List.length_append, h.len]; rfl, fun i U S e1 e2 => by
  rcases getElem?_snoc e1 with ⟨hi, h1⟩ | ⟨e, rfl⟩ <;> rcases getElem?_snoc e2 with ⟨hj, h2⟩ | ⟨e', rfl⟩
  · exact h.st i U S h1 h2
  · exact absurd hi (by rw [h.len]; omega)
  · exact absurd hj (by rw [← h.len]; omega)
  · exact ⟨u, a, o⟩⟩
theorem Sc.ne_ob {H : Hp} {s r : Addr} {o : HO} (c : Sc H s) (e : H r = some o) (k : ∀ d j, o ≠ .lst [.ref d, .int j]) : r ≠ s := fun z => by
  obtain ⟨d, ds, j, h1, -⟩ := c.ex
  rw [z, h1] at e
  exact k d j (Option.some.inj e).symm
theorem Sc.ne_free {H : Hp} {s r : Addr} (c : Sc H s) (e : H r = none) : r ≠ s := fun z => by
  obtain ⟨d, ds, j, h1, -⟩ := c.ex
  rw [z, h1] at e
  cases e
/-- where the odd things stand -/
structure OdF (H : Hp) (r1 r2 r3 r4 r5 r6 r7 r8 : Addr) : Prop where
  hr1 : H r1 = some (.tup [])
  hr2 : H r2 = some (.tup [.str "use"])
  hr3 : H r3 = some (.tup [.str "use", .int 0, .int 0])
  hr4 : H r4 = some (.tup [.str "heap", .int 0])
  hr5 : H r5 = some (.lst [.str "use", .int 0])
  hr6 : H r6 = some (.tup [.str "use", .int (-1)])
  hr7 : H r7 = some (.tup [.str "list", .bl true])
  hr8 : H r8 = some (.dK [])
def OdL (r1 r2 r3 r4 r5 r6 r7 r8 : Addr) : List V := [.non, .int 5, .str "use", .ref r1, .ref r2, .ref r3, .ref r4, .ref r5, .ref r6, .ref r7, .ref r8]
theorem OdF.xn {H H1 : Hp} {r1 r2 r3 r4 r5 r6 r7 r8 : Addr} (h : OdF H r1 r2 r3 r4 r5 r6 r7 r8) (x : ExtN H H1) : OdF H1 r1 r2 r3 r4 r5 r6 r7 r8 := ⟨x _ _ h.hr1 (fun _ z => by cases z), x _ _ h.hr2 (fun _ z => by cases z), x _ _ h.hr3 (fun _ z => by cases z), x _ _ h.hr4 (fun _ z => by cases z), x _ _ h.hr5 (fun _ z => by cases z), x _ _ h.hr6 (fun _ z => by cases z), x _ _ h.hr7 (fun _ z => by cases z), x _ _ h.hr8 (fun _ z => by cases z)⟩
theorem OdF.bu {H H1 : Hp} {s r1 r2 r3 r4 r5 r6 r7 r8 : Addr} (h : OdF H r1 r2 r3 r4 r5 r6 r7 r8) (c : Sc H s) (x : BuN s H H1) : OdF H1 r1 r2 r3 r4 r5 r6 r7 r8 := ⟨x _ _ (c.ne_ob h.hr1 (by intro d j z; cases z)) h.hr1 (fun _ z => by cases z), x _ _ (c.ne_ob h.hr2 (by intro d j z; cases z)) h.hr2 (fun _ z => by cases z), x _ _ (c.ne_ob h.hr3 (by intro d j z; cases z)) h.hr3 (fun _ z => by cases z), x _ _ (c.ne_ob h.hr4 (by intro d j z; cases z)) h.hr4 (fun _ z => by cases z), x _ _ (c.ne_ob h.hr5 (by intro d j z; cases z)) h.hr5 (fun _ z => by cases z), x _ _ (c.ne_ob h.hr6 (by intro d j z; cases z)) h.hr6 (fun _ z => by cases z), x _ _ (c.ne_ob h.hr7 (by intro d j z; cases z)) h.hr7 (fun _ z => by cases z), x _ _ (c.ne_ob h.hr8 (by intro d j z; cases z)) h.hr8 (fun _ z => by cases z)⟩
theorem OdF.no {K : PySem.W.Frag} {H : Hp} {r1 r2 r3 r4 r5 r6 r7 r8 : Addr} (h : OdF H r1 r2 r3 r4 r5 r6 r7 r8) {v : V} {i : Nat} (e : (OdL r1 r2 r3 r4 r5 r6 r7 r8)[i]? = some v) : NoPl K H v := by
  rcases i with _ | _ | _ | _ | _ | _ | _ | _ | _ | _ | _ | i
  · cases e
    exact .inl ⟨"NoneType", .base .non, by decide +kernel⟩
  · cases e
    exact .inl ⟨"int", .base (.int _), by decide +kernel⟩
  · cases e
    exact .inl ⟨"str", .base (.str _), by decide +kernel⟩
  · cases e
    exact .inr ⟨_, _, rfl, h.hr1, .inl (by decide)⟩
  · cases e
    exact .inr ⟨_, _, rfl, h.hr2, .inl (by decide)⟩
  · cases e
    exact .inr ⟨_, _, rfl, h.hr3, .inl (by decide)⟩
  · cases e
    exact .inr ⟨_, _, rfl, h.hr4, .inr ⟨_, _, rfl, .inr ⟨_, rfl, .inl (by decide +kernel)⟩⟩⟩
  · cases e
    exact .inl ⟨"list", .base (.lst h.hr5), by decide +kernel⟩
  · cases e
    exact .inr ⟨_, _, rfl, h.hr6, .inr ⟨_, _, rfl, .inr ⟨_, rfl, .inr ⟨by decide +kernel, fun _ _ => int_low (by decide)⟩⟩⟩⟩
  · cases e
    exact .inr ⟨_, _, rfl, h.hr7, .inr ⟨_, _, rfl, .inr ⟨_, rfl, .inr ⟨by decide +kernel, fun _ _ => ni_bl.from⟩⟩⟩⟩
  · cases e
    exact .inl ⟨"dict", .base (.dK h.hr8), by decide +kernel⟩
  · simp [OdL] at e
section
variable {K : PySem.W.Frag} {s : Addr} {H H1 : Hp}
theorem PlL.bn {vs : List V} {ps : List Pl} (h : PlL H vs ps) (c : Sc H s) (b : BuN s H H1) : PlL H1 vs ps := h.keep (x := s) fun r xs e => b _ _ (c.ne_ob e (by intro d j z; cases z)) e (fun _ z => by cases z)
theorem TurnAt.bn {x : Addr} {T : Tn} (h : TurnAt K H x T) (c : Sc H s) (b : BuN s H H1) : TurnAt K H1 x T := by
  obtain ⟨ok, dx, pu, pf, pg, vu, vf, kvs, h1, h2, h3, h4, h5, h6, h7⟩ := h
  have tp : ∀ r xs, H r = some (.tup xs) → H1 r = some (.tup xs) := fun r xs e => b _ _ (c.ne_ob e (by intro d j z; cases z)) e (fun _ z => by cases z)
  refine ⟨ok, dx, pu, pf, pg, vu, vf, kvs, b _ _ (c.ne_ob h1 (by intro d j z; cases z)) h1 (fun _ z => by cases z), b _ _ (c.ne_lst h2 h3.rf) h2 (fun _ z => by cases z), h3.bn c b, b _ _ (c.ne_lst h4 h5.rf) h4 (fun _ z => by cases z), h5.bn c b, b _ _ (c.ne_ob h6 (by intro d j z; cases z)) h6 (fun _ z => by cases z), ?_⟩
  exact ⟨h7.n, fun i p e => by obtain ⟨t, a1, a2⟩ := h7.gu i p e; exact ⟨t, a1, tp _ _ a2⟩, fun i p e => by obtain ⟨t, a1, a2⟩ := h7.gf i p e; exact ⟨t, a1, tp _ _ a2⟩, h7.no⟩
theorem TnL.bn {vs : List V} {Ts : List Tn} (h : TnL K H vs Ts) (c : Sc H s) (b : BuN s H H1) : TnL K H1 vs Ts := ⟨h.len, fun i T e => by
  obtain ⟨t, h1, h2⟩ := h.at_ i T e
  exact ⟨t, h1, h2.bn c b⟩⟩
end
theorem row_no2 {Ts : List Tn} {i : Nat} {A B : Tn} (h1 : Ts[i]? = some A) (h2 : Ts[i + 1]? = some B) (h : A.u.length ≠ B.a) : rowOk Ts = false := by
  obtain ⟨a1, a2⟩ := List.getElem?_eq_some_iff.mp h1
  obtain ⟨b1, b2⟩ := List.getElem?_eq_some_iff.mp h2
  exact row_no b1 (by rw [a2, b2]; exact h)
theorem tsr_row {K : PySem.W.Frag} {H : Hp} {l : Addr} {ws : List V} {Ts : List Tn} {i : Nat} {A B : Tn} (hl : H l = some (.lst ws)) (P : TnL K H ws Ts) (n : Ts.length ≤ 5000) (h1 : Ts[i]? = some A) (h2 : Ts[i + 1]? = some B) (h : A.u.length ≠ B.a) : TsR K H (.ref l) false :=
  .inr (.inr ⟨l, ws, Ts, rfl, hl, P, n, (row_no2 h1 h2 h).symm⟩)
theorem tsr_snoc {K : PySem.W.Frag} {H : Hp} {l : Addr} {zs : List V} {w : V} {Rs : List Tn} (hl : H l = some (.lst (zs ++ [w]))) (P : TnL K H zs Rs) (n : Rs.length ≤ 4999) (no : ∀ H', Same H H' → NoT K H' w) : TsR K H (.ref l) false := by
  have hn := P.len
  refine .inr (.inl ⟨rfl, l, zs ++ [w], fun j => decide (j < zs.length), rfl, hl, by simp; omega, fun j v H' hv s' => ?_, zs.length, by simp, decide_eq_false (by omega)⟩)
  rcases getElem?_snoc hv with ⟨hj, h1⟩ | ⟨e, rfl⟩
  · rw [if_pos (decide_eq_true hj)]
    obtain ⟨t, _, e, T⟩ := (P.same s').item h1
    exact ⟨t, _, e, T⟩
  · rw [if_neg (by simp; omega)]
    exact no H' s'
theorem TurnAt.butN {K : PySem.W.Frag} {H H2 : Hp} {l x : Addr} {T : Tn} {ws : List V} (h : TurnAt K H x T) (hl : H l = some (.lst (.non :: ws))) (b : But l H H2) : TurnAt K H2 x T := by
  obtain ⟨ok, dx, pu, pf, pg, vu, vf, kvs, h1, h2, h3, h4, h5, h6, h7⟩ := h
  have nl : ∀ c vs ps, H c = some (.lst vs) → PlL H vs ps → c ≠ l := fun c vs ps e P z => by
    rw [z, hl] at e
    have e2 := HO.lst.inj (Option.some.inj e)
    rw [← e2] at P
    obtain ⟨t, _, e3, _⟩ := P.item (i := 0) rfl
    cases e3
  exact turn_but ok h1 h2 h3 h4 h5 h6 h7 hl (nl _ _ _ h2 h3) (nl _ _ _ h4 h5) b
theorem Ch.lst {a b : Nat} {Ts : List Tn} (c : Ch a Ts b) (n : 0 < Ts.length) : (Ts[Ts.length - 1]'(by omega)).u.length = b := by
  have h := c.to (i := Ts.length - 1) (by omega)
  rw [show Ts.length - 1 + 1 = Ts.length by omega, List.take_length] at h
  exact h.eq c
def sp_InvalidArgument___init__ (K : PySem.W.Frag) : Sp := fun vs H Q _ => ∃ (a : Addr) (v : V), vs = [.ref a, v] ∧ H a = some (exo a (He.ga K "InvalidArgument") none) ∧ ∀ d, H d = none → d ≠ a → Q .non (upd (upd H d (exd d [("part", v)])) a (exo a (He.ga K "InvalidArgument") (some d)))
/-- raise InvalidArgument(w) -/
theorem rai_at {K : PySem.W.Frag} {H : Hp} {E : XK} {w : Str} (h : RaiA K H E w) : KrE.rMkE (He.ga K "InvalidArgument") (sp_InvalidArgument___init__ K) [.str w] H fun cls d H2 => E cls d H2 :=
  KrE.r_mk1 (f := "part") (fun x Hx Q' hx k => ⟨x, _, rfl, hx, k⟩) fun d H2 s hd hx => h d H2 s hd hx
def sp_is_from (K : PySem.W.Frag) : Sp := fun vs H Q _ => ∃ n a : Int, vs = [.int n, .int a] ∧ Q (.bl (decide (a ≤ n))) H
def sp_is_within (K : PySem.W.Frag) : Sp := fun vs H Q _ => ∃ n a b : Int, vs = [.int n, .int a, .int b] ∧ Q (.bl (decide (a ≤ n ∧ n ≤ b))) H
def sp_is_place (K : PySem.W.Frag) : Sp := fun vs H Q _ => ∃ (t : Addr) (p : Pl), vs = [.ref t] ∧ H t = some (plO p) ∧ ∀ H', Same H H' → Q (.bl true) H'
def sp_is_place_among (K : PySem.W.Frag) : Sp := fun vs H Q _ => ∃ (t : Addr) (p : Pl) (m : Nat), vs = [.ref t, .int m] ∧ H t = some (plO p) ∧ Vd m p ∧ ∀ H', Same H H' → Q (.bl true) H'
def sp_are_places (K : PySem.W.Frag) : Sp := fun vs H Q _ => ∃ (l : Addr) (ws : List V) (ps : List Pl), vs = [.ref l] ∧ H l = some (.lst ws) ∧ PlL H ws ps ∧ ps.length ≤ 20000 ∧ ∀ H', Same H H' → Q (.bl true) H'
def sp_are_once (K : PySem.W.Frag) : Sp := fun vs H Q _ => ∃ (l : Addr) (ws : List V) (ps : List Pl) (a n : Nat), vs = [.ref l, .int n] ∧ H l = some (.lst ws) ∧ PlL H ws ps ∧ ps.length ≤ 20000 ∧ ps.Perm (base a n) ∧ ∀ H', Same H H' → Q (.bl true) H'
def sp_Turn___init__ (K : PySem.W.Frag) : Sp := fun vs H Q _ => ∃ (x dx pu pf : Addr) (vu vf : List V) (u f : List Pl) (n a : Nat), vs = [.ref x, .ref pu, .ref pf, .int n] ∧ H x = some (.ins (He.ga K "Turn") dx []) ∧ H pu = some (.lst vu) ∧ PlL H vu u ∧ H pf = some (.lst vf) ∧ PlL H vf f ∧
  (⟨u, f, n, a⟩ : Tn).Pm ∧ u.length ≤ 9000 ∧ f.length ≤ 9000 ∧ ∀ (T : Tn) (H' : Hp), T.Ok → T.u = u → T.a = a → (∀ p, T.or p = (⟨u, f, n, a⟩ : Tn).or p) → T.f.length ≤ f.length → T.n ≤ n → (∀ b o, b ≠ x → H b = some o → H' b = some o) → TurnAt K H' x T → (∀ l ws, H l = some (.lst ws) → ∀ H2, But l H' H2 → TurnAt K H2 x T) → Q .non H'
def sp_Turn___eq__ (K : PySem.W.Frag) : Sp := fun vs H Q _ => ∃ (x y : Addr) (S T : Tn), vs = [.ref x, .ref y] ∧ TurnAt K H x S ∧ TurnAt K H y T ∧ Q (.bl (decide (S.u = T.u ∧ S.f = T.f ∧ S.n = T.n))) H
theorem own_same {K : PySem.W.Frag} {H : Hp} {Q : VK} {a b : Addr} {T : Tn} (neg : Bool) (h : TurnAt K H a T) (g : TurnAt K H b T) (q : Q (.bl (!neg)) H) :
    rOwnC (He.ga K "Turn") (sp_Turn___eq__ K) neg (.ref a) (.ref b) H Q := by
  obtain ⟨_, _, _, _, h1⟩ := h.fl
  obtain ⟨_, _, _, _, g1⟩ := g.fl
  refine ⟨a, _, _, _, rfl, h1, .ins g1, a, b, T, T, rfl, h, g, _, rfl, ?_⟩
  rw [decide_eq_true ⟨rfl, rfl, rfl⟩]
  cases neg <;> exact q
theorem own_ne {K : PySem.W.Frag} {H : Hp} {Q : VK} {a b : Addr} {T : Tn} (h : TurnAt K H a T) (g : TurnAt K H b T) (q : Q (.bl false) H) :
    rOwnC (He.ga K "Turn") (sp_Turn___eq__ K) true (.ref a) (.ref b) H Q := own_same true h g q
theorem own_eq {K : PySem.W.Frag} {H : Hp} {Q : VK} {a b : Addr} {T : Tn} (h : TurnAt K H a T) (g : TurnAt K H b T) (q : Q (.bl true) H) :
    rOwnC (He.ga K "Turn") (sp_Turn___eq__ K) false (.ref a) (.ref b) H Q := own_same false h g q
def sp_Turn_used (K : PySem.W.Frag) : Sp := fun vs H Q _ => ∃ (x : Addr) (T : Tn), vs = [.ref x] ∧ TurnAt K H x T ∧ ∀ l vu H', Same H H' → H l = none → H' l = some (.lst vu) → PlL H' vu T.u → Q (.ref l) H'
def sp_Turn_front (K : PySem.W.Frag) : Sp := fun vs H Q _ => ∃ (x : Addr) (T : Tn), vs = [.ref x] ∧ TurnAt K H x T ∧ ∀ l vf H', Same H H' → H l = none → H' l = some (.lst vf) → PlL H' vf T.f → Q (.ref l) H'
def sp_Turn_fresh (K : PySem.W.Frag) : Sp := fun vs H Q _ => ∃ (x : Addr) (T : Tn), vs = [.ref x] ∧ TurnAt K H x T ∧ Q (.int T.n) H
def sp_Turn_ahead (K : PySem.W.Frag) : Sp := fun vs H Q _ => ∃ (x : Addr) (T : Tn), vs = [.ref x] ∧ TurnAt K H x T ∧ Q (.int T.a) H
def sp_Turn_behind (K : PySem.W.Frag) : Sp := fun vs H Q _ => ∃ (x : Addr) (T : Tn), vs = [.ref x] ∧ TurnAt K H x T ∧ Q (.int T.u.length) H
def sp_Turn_origin (K : PySem.W.Frag) : Sp := fun vs H Q _ => ∃ (x t : Addr) (T : Tn) (p : Pl), vs = [.ref x, .ref t] ∧ TurnAt K H x T ∧ H t = some (plO p) ∧ Vd T.u.length p ∧ ∀ t' H', Same H H' → H' t' = some (plO (T.or p)) → Q (.ref t') H'
def sp_Turn_goal (K : PySem.W.Frag) : Sp := fun vs H Q _ => ∃ (x t : Addr) (T : Tn) (p : Pl), vs = [.ref x, .ref t] ∧ TurnAt K H x T ∧ H t = some (plO p) ∧ Vd T.a p ∧ ∀ t' q H', Same H H' → Vd T.u.length q → T.or q = p → H' t' = some (plO q) → Q (.ref t') H'
def sp_Turn_then (K : PySem.W.Frag) : Sp := fun vs H Q _ => ∃ (x y : Addr) (S T : Tn), vs = [.ref x, .ref y] ∧ TurnAt K H x S ∧ TurnAt K H y T ∧ T.a = S.u.length ∧ S.u.length ≤ 4000 ∧ S.f.length ≤ 4000 ∧ S.n ≤ 4000 ∧ T.u.length ≤ 4000 ∧ T.f.length ≤ 4000 ∧ T.n ≤ 4000 ∧
  ∀ (z : Addr) (R : Tn) (H' : Hp), Same H H' → H z = none → TurnAt K H' z R → Jn S T R → Q (.ref z) H'
def sp_still (K : PySem.W.Frag) : Sp := fun vs H Q _ => ∃ (m : Nat), vs = [.int m] ∧ m ≤ 1000 ∧ ∀ (z : Addr) (R : Tn) (H' : Hp), Same H H' → H z = none → TurnAt K H' z R → R.a = m → R.u.length = m → (∀ p, Vd m p → R.or p = p) → R.f.length = 0 → R.n = 0 → Q (.ref z) H'
def sp_are_turns (K : PySem.W.Frag) : Sp := fun vs H Q _ => ∃ (l : Addr) (ws : List V) (Ts : List Tn) (a b : Nat), vs = [.ref l] ∧ H l = some (.lst ws) ∧ TnL K H ws Ts ∧ Ch a Ts b ∧ Ts.length ≤ 5000 ∧ Ts ≠ [] ∧ ∀ H', Same H H' → Q (.bl true) H'
def sp_way (K : PySem.W.Frag) : Sp := fun vs H Q _ => ∃ (l t : Addr) (ws : List V) (Ts : List Tn) (p : Pl) (a b : Nat), vs = [.ref l, .ref t] ∧ H l = some (.lst ws) ∧ TnL K H ws Ts ∧ Ch a Ts b ∧ Ts.length ≤ 5000 ∧ Ts ≠ [] ∧ H t = some (plO p) ∧ Vd a p ∧
  ∀ r (H' : Hp) (us : List V) (qs : List Pl), Same H H' → H' r = some (.lst us) → PlL H' us qs → qs.length = Ts.length + 1 → qs[0]? = some p → (∀ q, qs[Ts.length]? = some q → Vd b q ∧ orL Ts q = p) → Q (.ref r) H'
def sp__law_digits (K : PySem.W.Frag) : Sp := fun vs H Q _ => ∃ (c : Int) (m : Nat), vs = [.int c, .int m] ∧ m ≤ 1000 ∧ ∀ (p : Addr) (H' : Hp) (ds : List Int), Same H H' → H p = none → H' p = some (.lst (ds.map V.int)) → ds.length = m → (∀ x ∈ ds, 0 ≤ x ∧ x < 1009) → Q (.ref p) H'
def sp__law_next (K : PySem.W.Frag) : Sp := fun vs H Q _ => ∃ (s : Addr) (m : Nat), vs = [.ref s, .int m] ∧ Sc H s ∧ 0 < m ∧ m ≤ 100000 ∧ ∀ (r : Nat) (H' : Hp), r < m → Sx s H H' → Q (.int r) H'
def sp__law_mixed (K : PySem.W.Frag) : Sp := fun vs H Q _ => ∃ (s l : Addr) (ws : List V) (ps : List Pl), vs = [.ref s, .ref l] ∧ Sc H s ∧ H l = some (.lst ws) ∧ PlL H ws ps ∧ ps.length ≤ 1000 ∧
  ∀ (r : Addr) (us : List V) (qs : List Pl) (H' : Hp), Sx s H H' → H r = none → H' r = some (.lst us) → PlL H' us qs → qs.Perm ps → Q (.ref r) H'
def sp__law_drawn (K : PySem.W.Frag) : Sp := fun vs H Q _ => ∃ (s : Addr) (a : Nat), vs = [.ref s, .int a] ∧ Sc H s ∧ a ≤ 900 ∧
  ∀ (t pu pf : Addr) (vu vf : List V) (T : Tn) (H' : Hp), Sx s H H' → H' t = some (.tup [.ref pu, .ref pf, .int T.n]) → H' pu = some (.lst vu) → PlL H' vu T.u → H' pf = some (.lst vf) → PlL H' vf T.f → T.Pm → T.a = a → T.n ≤ 6 → Q (.ref t) H'
def sp__law_turn (K : PySem.W.Frag) : Sp := fun vs H Q _ => ∃ (t pu pf : Addr) (vu vf : List V) (T : Tn), vs = [.ref t] ∧ H t = some (.tup [.ref pu, .ref pf, .int T.n]) ∧ H pu = some (.lst vu) ∧ PlL H vu T.u ∧ H pf = some (.lst vf) ∧ PlL H vf T.f ∧ T.Pm ∧ T.u.length ≤ 9000 ∧ T.f.length ≤ 9000 ∧
  ∀ (z : Addr) (R : Tn) (H' : Hp), R.Ok → R.u = T.u → R.a = T.a → (∀ p, R.or p = T.or p) → R.f.length ≤ T.f.length → R.n ≤ T.n → Same H H' → H z = none → TurnAt K H' z R → (∀ l ws, H l = some (.lst ws) → ∀ H2, But l H' H2 → TurnAt K H2 z R) → Q (.ref z) H'
def sp__law_origin (K : PySem.W.Frag) : Sp := fun vs H Q _ => ∃ (t pl : Addr) (T : Tn) (p : Pl), vs = [.ref t, .ref pl] ∧ PtA H t T ∧ H pl = some (plO p) ∧ Vd T.u.length p ∧ ∀ t' H', Same H H' → H' t' = some (plO (T.or p)) → Q (.ref t') H'

def sp__law_goal (K : PySem.W.Frag) : Sp := fun vs H Q _ => ∃ (t pl : Addr) (T : Tn) (p : Pl), vs = [.ref t, .ref pl] ∧ PtA H t T ∧ T.Pm ∧ H pl = some (plO p) ∧ Vd T.a p ∧ ∀ t' q H', Same H H' → H' t' = some (plO q) → Vd T.u.length q → T.or q = p → Q (.ref t') H'
def sp__law_path (K : PySem.W.Frag) : Sp := fun vs H Q _ => ∃ (l t : Addr) (ws : List V) (Ts : List Tn) (p : Pl) (a : Nat), vs = [.ref l, .ref t] ∧ H l = some (.lst ws) ∧ RwL H ws Ts ∧ PCh a Ts ∧ Ts.length ≤ 5000 ∧ H t = some (plO p) ∧ (Ts ≠ [] → Vd a p) ∧
  ∀ r (H' : Hp) (us : List V) (qs : List Pl), Same H H' → H' r = some (.lst us) → PlL H' us qs → Wy Ts p qs → Q (.ref r) H'
def sp_is_from__r (K : PySem.W.Frag) : Sp := fun vs H Q _ => ∃ (v : V) (a : Int) (r : Bool), vs = [v, .int a] ∧ FromV K H v a r ∧ Q (.bl r) H
def sp_is_place__r (K : PySem.W.Frag) : Sp := fun vs H Q _ => ∃ v : V, vs = [v] ∧ ((NoPl K H v ∧ ∀ H', Same H H' → Q (.bl false) H') ∨ ∃ (t : Addr) (p : Pl), v = .ref t ∧ H t = some (plO p) ∧ ∀ H', Same H H' → Q (.bl true) H')
def sp_is_place_among__r (K : PySem.W.Frag) : Sp := fun vs H Q _ => ∃ (v : V) (m : Nat), vs = [v, .int m] ∧ NoAm K H m v ∧ ∀ H', Same H H' → Q (.bl false) H'
def sp_are_turns__r (K : PySem.W.Frag) : Sp := fun vs H Q _ => ∃ (v : V) (r : Bool), vs = [v] ∧ TsR K H v r ∧ ∀ H', Same H H' → Q (.bl r) H'
def sp_way__r (K : PySem.W.Frag) : Sp := fun vs H Q E => ∃ (v w : V), vs = [v, w] ∧ ((TsR K H v false ∧ RaiA K H E "turns") ∨
  ∃ (l : Addr) (ws : List V) (Ts : List Tn) (a b : Nat), v = .ref l ∧ H l = some (.lst ws) ∧ TnL K H ws Ts ∧ Ch a Ts b ∧ Ts.length ≤ 5000 ∧ RaiA K H E "place" ∧ ((∀ H', Same H H' → NoPl K H' w) ∨ (Ts ≠ [] ∧ ∃ (t : Addr) (k : Nat), w = .ref t ∧ H t = some (plO (.use k)) ∧ a ≤ k)))
def sp__law_refused_right (K : PySem.W.Frag) : Sp := fun vs H Q _ => ∃ (s L Z : Addr) (ws zs : List V) (Ts Rs : List Tn) (a b : Nat), vs = [.ref s, .ref L, .ref Z] ∧ Sc H s ∧ H L = some (.lst ws) ∧ RwL H ws Ts ∧ H Z = some (.lst zs) ∧ TnL K H zs Rs ∧ Ch a Rs b ∧ Rs ≠ [] ∧ Ts ≠ [] ∧ Rs.length ≤ 8 ∧ a ≤ 6 ∧ b ≤ 60 ∧ Tabs (Tb K) H ∧
  ∀ H', BuN s H H' → Sc H' s → Tabs (Tb K) H' → Q (.bl true) H'
def sp_way__r2 (K : PySem.W.Frag) : Sp := fun vs H Q _ => ∃ (l t : Addr) (ws : List V) (Ts : List Tn) (p : Pl) (a b : Nat), vs = [.ref l, .ref t] ∧ H l = some (.lst ws) ∧ TnL K H ws Ts ∧ Ch a Ts b ∧ Ts.length ≤ 5000 ∧ H t = some (plO p) ∧ (Ts ≠ [] → Vd a p) ∧
  ∀ r (H' : Hp) (us : List V) (qs : List Pl), Same H H' → H r = none → H' r = some (.lst us) → PlL H' us qs → Wy Ts p qs → Q (.ref r) H'
def sp__law_drawn__r (K : PySem.W.Frag) : Sp := fun vs H Q _ => ∃ (s : Addr) (a : Nat), vs = [.ref s, .int a] ∧ Sc H s ∧ a ≤ 900 ∧
  ∀ (t pu pf : Addr) (vu vf : List V) (T : Tn) (H' : Hp), Sx s H H' → H' t = some (.tup [.ref pu, .ref pf, .int T.n]) → H' pu = some (.lst vu) → PlL H' vu T.u → H' pf = some (.lst vf) → PlL H' vf T.f → T.Pm → T.a = a → T.n ≤ 6 → H pu = none → H pf = none → Q (.ref t) H'
def sp__law_right (K : PySem.W.Frag) : Sp := fun vs H Q _ => ∃ s : Addr, vs = [.ref s] ∧ Sc H s ∧ Tabs (Tb K) H ∧ ∀ H', BuN s H H' → Sc H' s → Tabs (Tb K) H' → Q (.bl true) H'
def sp_law (K : PySem.W.Frag) : Sp := fun vs H Q _ => ∃ (a : Addr) (ns : List Int), vs = [.ref a] ∧ SqL K H a (ns.map V.int) ∧ ns.length ≤ 63 ∧ Tabs (Tb K) H ∧ ∀ H', Q (.bl true) H'
def sp_is_within__r (K : PySem.W.Frag) : Sp := fun vs H Q _ => ∃ (v : V) (a b : Int) (r : Bool), vs = [v, .int a, .int b] ∧ WithinV K H v a b r ∧ Q (.bl r) H
def sp_Turn_origin__r (K : PySem.W.Frag) : Sp := fun vs H Q E => ∃ (x : Addr) (v : V) (T : Tn), vs = [.ref x, v] ∧ TurnAt K H x T ∧ NoAm K H T.u.length v ∧ RaiA K H E "place"
def sp_Turn_goal__r (K : PySem.W.Frag) : Sp := fun vs H Q E => ∃ (x : Addr) (v : V) (T : Tn), vs = [.ref x, v] ∧ TurnAt K H x T ∧ NoAm K H T.a v ∧ RaiA K H E "place"
def sp_still__r (K : PySem.W.Frag) : Sp := fun vs H Q E => ∃ v : V, vs = [v] ∧ WithinV K H v 0 1000 false ∧ RaiA K H E "many"
local macro_rules | `(tactic| walk_at "side") => `(tactic| first
  | assumption
  | decide
  | exact ⟨by decide, by decide⟩
  | exact ⟨by decide, by decide, by decide⟩
  | exact Or.inl ⟨by decide, by decide⟩
  | exact Or.inr ⟨by decide, by decide⟩
  | omega
  | exact ⟨by omega, by omega⟩
  | exact Or.inl ⟨by omega, by omega⟩
  | exact Or.inr ⟨by omega, by omega⟩)
local macro_rules | `(tactic| walk_at "seq") => `(tactic| first
  | assumption
  | exact SqL.of (by assumption)
  | exact SqT.of (by assumption)
  | exact SqL.of upd_same
  | exact SqT.of upd_same)
local macro_rules | `(tactic| walk_at "var") => `(tactic| first
  | with_reducible refine r_v0 ?_
  | with_reducible refine r_v1 ?_
  | with_reducible refine r_v2 ?_
  | with_reducible refine r_v3 ?_
  | with_reducible refine r_v4 ?_
  | with_reducible refine r_v5 ?_
  | with_reducible refine r_v6 ?_
  | with_reducible refine r_v7 ?_
  | with_reducible refine r_v8 ?_
  | with_reducible refine r_v9 ?_
  | with_reducible refine r_v10 ?_
  | with_reducible refine r_v11 ?_
  | with_reducible refine r_v12 ?_
  | with_reducible refine r_v13 ?_
  | with_reducible refine r_v14 ?_
  | with_reducible refine r_v15 ?_
  | with_reducible refine r_v16 ?_
  | with_reducible refine r_v17 ?_
  | with_reducible refine r_v18 ?_
  | with_reducible refine r_v19 ?_
  | with_reducible refine r_v20 ?_
  | with_reducible refine r_v21 ?_)
local macro_rules | `(tactic| walk_at "nam") => `(tactic| first
  | with_reducible refine r_g0 ?_
  | with_reducible refine r_g1 ?_
  | with_reducible refine r_g2 ?_
  | with_reducible refine r_g3 ?_
  | with_reducible refine r_g4 ?_
  | with_reducible refine r_g5 ?_
  | with_reducible refine r_g6 ?_
  | with_reducible refine r_g7 ?_
  | with_reducible refine r_g8 ?_
  | with_reducible refine r_g9 ?_
  | with_reducible refine r_g10 ?_
  | with_reducible refine r_g11 ?_
  | with_reducible refine r_g12 ?_
  | with_reducible refine r_g13 ?_
  | with_reducible refine r_g14 ?_
  | with_reducible refine r_g15 ?_
  | with_reducible refine r_g16 ?_
  | with_reducible refine r_g17 ?_
  | with_reducible refine r_g18 ?_
  | with_reducible refine r_g19 ?_
  | with_reducible refine r_g20 ?_
  | with_reducible refine r_g21 ?_)
local macro_rules | `(tactic| walk_at "aug") => `(tactic| first
  | with_reducible refine r_aug0 ?_
  | with_reducible refine r_aug1 ?_
  | with_reducible refine r_aug2 ?_
  | with_reducible refine r_aug3 ?_
  | with_reducible refine r_aug4 ?_
  | with_reducible refine r_aug5 ?_
  | with_reducible refine r_aug6 ?_
  | with_reducible refine r_aug7 ?_
  | with_reducible refine r_aug8 ?_
  | with_reducible refine r_aug9 ?_
  | with_reducible refine r_aug10 ?_
  | with_reducible refine r_aug11 ?_
  | with_reducible refine r_aug12 ?_
  | with_reducible refine r_aug13 ?_
  | with_reducible refine r_aug14 ?_
  | with_reducible refine r_aug15 ?_
  | with_reducible refine r_aug16 ?_
  | with_reducible refine r_aug17 ?_
  | with_reducible refine r_aug18 ?_
  | with_reducible refine r_aug19 ?_
  | with_reducible refine r_aug20 ?_
  | with_reducible refine r_aug21 ?_)
local macro_rules | `(tactic| walk_at "s") => `(tactic| first
  | walk_at "var"
  | with_reducible refine r_seq ?_
  | with_reducible refine r_asg ?_
  | with_reducible refine r_tC ?_
  | with_reducible refine r_op ?_
  | with_reducible refine r_cons ?_
  | with_reducible refine r_nil ?_
  | with_reducible refine r_CB ?_
  | with_reducible refine r_I0 ?_
  | with_reducible refine r_ret ?_
  | with_reducible refine r_call ?_
  | with_reducible refine r_ifS ?_
  | with_reducible refine r_test ?_
  | with_reducible refine r_tB ?_
  | with_reducible refine r_bl ?_
  | with_reducible refine r_int1 ?_
  | with_reducible refine r_max2 ?_
  | with_reducible refine r_min2 ?_
  | with_reducible refine r_and ?_
  | with_reducible refine r_or ?_
  | with_reducible refine r_not ?_
  | with_reducible refine r_andV ?_
  | with_reducible refine r_orV ?_
  | with_reducible refine r_notV ?_
  | with_reducible refine r_if ?_
  | with_reducible refine r_drop ?_
  | with_reducible refine r_next ?_
  | with_reducible refine r_gSub ?_
  | with_reducible refine r_gCons ?_
  | with_reducible refine r_gNil ?_
  | with_reducible refine r_tup ?_
  | with_reducible refine r_lst ?_
  | with_reducible refine r_un ?_
  | with_reducible refine r_U ?_
  | with_reducible refine r_chain ?_
  | with_reducible refine r_fld ?_
  | with_reducible refine r_sFld ?_
  | with_reducible refine r_meth ?_
  | with_reducible refine r_mkK ?_
  | with_reducible refine r_mk ?_
  | with_reducible refine r_sl ?_
  | with_reducible refine r_part ?_
  | with_reducible refine r_po ?_
  | with_reducible refine r_nopart ?_
  | with_reducible refine r_BM ?_
  | with_reducible refine r_tru ?_
  | with_reducible refine r_lc ?_
  | with_reducible refine r_dnotin ?_
  | with_reducible refine r_din ?_
  | with_reducible refine r_dget ?_
  | with_reducible refine r_dput ?_
  | with_reducible refine r_dnew ?_
  | with_reducible refine r_for ?_
  | with_reducible refine r_list ?_
  | with_reducible refine r_tupI ?_
  | with_reducible refine r_rng1 ?_
  | with_reducible refine r_rng2 ?_
  | with_reducible refine r_yes ?_
  | with_reducible refine r_par ?_
  | with_reducible refine r_two ?_
  | with_reducible refine r_par3 ?_
  | with_reducible refine r_tri ?_
  | with_reducible refine r_enum ?_
  | with_reducible refine r_ip ?_
  | with_reducible refine r_eqI ?_
  | with_reducible refine r_neI ?_
  | with_reducible refine r_eqS ?_
  | with_reducible refine r_neS ?_
  | with_reducible refine r_neB ?_
  | with_reducible refine r_eqB ?_
  | with_reducible refine r_BM0 ?_
  | with_reducible refine r_lstRg ?_
  | with_reducible refine r_rgA ?_
  | with_reducible refine iteT ?_
  | with_reducible refine iteF ?_
  | with_reducible refine iteNt ?_
  | with_reducible refine iteNf ?_
  | ((with_reducible refine' r_I ?k1 ?_); (case k1 => walk_at "side"))
  | ((with_reducible refine' r_ixL ?k1 ?k2 ?_); (case k1 => walk_at "seq"); (case k2 => rfl))
  | ((with_reducible refine' r_ixT ?k1 ?k2 ?_); (case k1 => walk_at "seq"); (case k2 => rfl))
  | ((with_reducible refine' r_lenL ?k1 ?_); (case k1 => walk_at "seq"))
  | ((with_reducible refine' r_lenT ?k1 ?_); (case k1 => walk_at "seq"))
  | ((with_reducible refine' r_sum ?k1 ?_); (case k1 => walk_at "seq"))
  | ((with_reducible refine' r_sumT ?k1 ?_); (case k1 => walk_at "seq"))
  | ((with_reducible refine' r_tupOf ?k1 ?_); (case k1 => walk_at "seq"))
  | ((with_reducible refine' r_listOf ?k1 ?_); (case k1 => walk_at "seq"))
  | ((with_reducible refine' r_slL ?k1 ?_); (case k1 => walk_at "seq"))
  | ((with_reducible refine' r_sq ?k1 ?_); (case k1 => walk_at "seq"))
  | ((with_reducible refine' r_sqT ?k1 ?_); (case k1 => walk_at "seq"))
  | ((with_reducible refine' r_en ?k1 ?_); (case k1 => walk_at "seq"))
  | ((with_reducible refine' r_tyL ?k1 ?_); (case k1 => walk_at "seq"))
  | ((with_reducible refine' r_gTup ?k1 ?k2 ?_); (case k1 => walk_at "seq"); (case k2 => rfl))
  | ((with_reducible refine' r_setL ?k1 ?k2 ?_); (case k1 => assumption); (case k2 => rfl))
  | ((with_reducible refine' r_fd ?k1 ?k2 ?k3 ?k4 ?_); (case k1 => assumption); (case k2 => assumption); (case k3 => assumption); (case k4 => first | rfl | assumption))
  | ((with_reducible refine' r_obj ?k1 ?k2 ?_); (case k1 => assumption); (case k2 => rfl))
  | ((with_reducible refine' r_rg1 ?k1 ?_); (case k1 => walk_at "side"))
  | ((with_reducible refine' r_rg2 ?k1 ?_); (case k1 => walk_at "side"))
  | ((with_reducible refine' r_sz ?k1 ?_); (case k1 => (show _ ≤ _; simp)))
  | walk_at "nam"
  | walk_at "aug")
local macro_rules | `(tactic| walk_at "ss") => `(tactic| repeat walk_at "s")

theorem ok_InvalidArgument___init__ {P : Program} {w : World} {K : PySem.W.Frag} {mg : Str → Option Value} {base : Heap} {f : Addr} {fd : FuncData} (F : FunD K "__init__" "InvalidArgument.__init__" (defArgs s_InvalidArgument___init__) (defBody s_InvalidArgument___init__) (defScope s_InvalidArgument___init__) [] [] f fd) (x_err_InvalidArgument : KrE.ErrC K (He.ga K "InvalidArgument")) (x_tk_InvalidArgument : PySem.W.takerIn K (He.ga K "InvalidArgument") "part" = some none) : FnOk P w K mg base CX0 1 f fd ["self", "part"] (sp_InvalidArgument___init__ K) := by
  refine F.ok sc_InvalidArgument___init__ (fun vs H Q E h => by first | (obtain ⟨rfl, _⟩ := h; rfl) | (obtain ⟨_, rfl, _⟩ := h; rfl) | (obtain ⟨_, _, rfl, _⟩ := h; rfl) | (obtain ⟨_, _, _, rfl, _⟩ := h; rfl) | (obtain ⟨_, _, _, _, rfl, _⟩ := h; rfl) | (obtain ⟨_, _, _, _, _, rfl, _⟩ := h; rfl) | (obtain ⟨_, _, _, _, _, _, rfl, _⟩ := h; rfl) | (obtain ⟨_, _, _, _, _, _, _, rfl, _⟩ := h; rfl) | (obtain ⟨_, _, _, _, _, _, _, _, rfl, _⟩ := h; rfl) | (obtain ⟨_, _, _, _, _, _, _, _, _, rfl, _⟩ := h; rfl) | (obtain ⟨_, _, _, _, _, _, _, _, _, _, rfl, _⟩ := h; rfl) | (obtain ⟨_, _, _, _, _, _, _, _, _, _, _, rfl, _⟩ := h; rfl) | (obtain ⟨_, _, _, _, _, _, _, _, _, _, _, _, rfl, _⟩ := h; rfl) | (obtain ⟨_, _, _, _, _, _, _, _, _, _, _, _, _, rfl, _⟩ := h; rfl) | (obtain ⟨_, _, _, _, _, _, _, _, _, _, _, _, _, _, rfl, _⟩ := h; rfl) | (obtain ⟨_, _, _, _, _, _, _, _, _, _, _, _, _, _, _, rfl, _⟩ := h; rfl) | (obtain ⟨_, _, _, _, _, _, _, _, _, _, _, _, _, _, _, _, rfl, _⟩ := h; rfl) | (obtain ⟨_, _, _, _, _, _, _, _, _, _, _, _, _, _, _, _, _, rfl, _⟩ := h; rfl)) (fun cdv A outer s H vs Q E hr h => ?_)
  · have hu := hu_of hr
    obtain ⟨a, v, rfl, ha, q⟩ := h
    have e1 := x_err_InvalidArgument
    have e2 := x_tk_InvalidArgument
    refine ⟨_, PSs.nox (pss_one (KrE.ps_ers (pv 0) (pv 1))), ?_⟩
    rw [st_InvalidArgument___init__]
    refine KrE.r_sErs ?_
    walk_at "ss"
    refine KrE.r_ers e1 e2 ha fun d n1 n2 => ?_
    walk_at "ss"
    exact q d n1 n2
theorem ok_is_from {P : Program} {w : World} {K : PySem.W.Frag} {mg : Str → Option Value} {base : Heap} {f : Addr} {fd : FuncData} (F : FunD K "is_from" "is_from" (defArgs s_is_from) (defBody s_is_from) (defScope s_is_from) [] [] f fd) (n_bool : mg "bool" = none) (n_int : mg "int" = none) (n_isinstance : mg "isinstance" = none) : FnOk P w K mg base CX0 1 f fd ["number", "least"] (sp_is_from K) := by
  refine F.ok sc_is_from (fun vs H Q E h => by first | (obtain ⟨rfl, _⟩ := h; rfl) | (obtain ⟨_, rfl, _⟩ := h; rfl) | (obtain ⟨_, _, rfl, _⟩ := h; rfl) | (obtain ⟨_, _, _, rfl, _⟩ := h; rfl) | (obtain ⟨_, _, _, _, rfl, _⟩ := h; rfl) | (obtain ⟨_, _, _, _, _, rfl, _⟩ := h; rfl) | (obtain ⟨_, _, _, _, _, _, rfl, _⟩ := h; rfl) | (obtain ⟨_, _, _, _, _, _, _, rfl, _⟩ := h; rfl) | (obtain ⟨_, _, _, _, _, _, _, _, rfl, _⟩ := h; rfl) | (obtain ⟨_, _, _, _, _, _, _, _, _, rfl, _⟩ := h; rfl) | (obtain ⟨_, _, _, _, _, _, _, _, _, _, rfl, _⟩ := h; rfl) | (obtain ⟨_, _, _, _, _, _, _, _, _, _, _, rfl, _⟩ := h; rfl) | (obtain ⟨_, _, _, _, _, _, _, _, _, _, _, _, rfl, _⟩ := h; rfl) | (obtain ⟨_, _, _, _, _, _, _, _, _, _, _, _, _, rfl, _⟩ := h; rfl) | (obtain ⟨_, _, _, _, _, _, _, _, _, _, _, _, _, _, rfl, _⟩ := h; rfl) | (obtain ⟨_, _, _, _, _, _, _, _, _, _, _, _, _, _, _, rfl, _⟩ := h; rfl) | (obtain ⟨_, _, _, _, _, _, _, _, _, _, _, _, _, _, _, _, rfl, _⟩ := h; rfl) | (obtain ⟨_, _, _, _, _, _, _, _, _, _, _, _, _, _, _, _, _, rfl, _⟩ := h; rfl)) (fun cdv A outer s H vs Q E hr h => ?_)
  · have hu := hu_of hr
    obtain ⟨n, a, rfl, q⟩ := h
    refine ⟨_, PSs.nox (pss_one (ps_ret (pe_and (pe_callB (id := "isinstance") call_isi rfl n_isinstance (by decide +kernel) (pa_cons (pv 0) (pa_cons (Kr.pe_bty (T := "int") n_int) pa_nil))) (pe_and (pe_not (pe_callB (id := "isinstance") call_isi rfl n_isinstance (by decide +kernel) (pa_cons (pv 0) (pa_cons (Kr.pe_bty (T := "bool") n_bool) pa_nil)))) (pe_one (pe_cmpR op_le (pv 1) (pv 0) (nomark _))))))), ?_⟩
    rw [st_is_from]
    walk_at "ss"
    refine r_isiT (.base (.int n)) (b := true) (by decide +kernel) ?_
    walk_at "ss"
    refine r_isiT (.base (.int n)) (b := false) (by decide +kernel) ?_
    walk_at "ss"
    exact q
theorem ok_is_within {P : Program} {w : World} {K : PySem.W.Frag} {mg : Str → Option Value} {base : Heap} {f : Addr} {fd : FuncData} (F : FunD K "is_within" "is_within" (defArgs s_is_within) (defBody s_is_within) (defScope s_is_within) [] [] f fd) (h_is_from : Kr.FnH P w K mg base CX0 1 "is_from" ["number", "least"] (sp_is_from K)) : FnOk P w K mg base CX0 2 f fd ["number", "least", "most"] (sp_is_within K) := by
  refine F.ok sc_is_within (fun vs H Q E h => by first | (obtain ⟨rfl, _⟩ := h; rfl) | (obtain ⟨_, rfl, _⟩ := h; rfl) | (obtain ⟨_, _, rfl, _⟩ := h; rfl) | (obtain ⟨_, _, _, rfl, _⟩ := h; rfl) | (obtain ⟨_, _, _, _, rfl, _⟩ := h; rfl) | (obtain ⟨_, _, _, _, _, rfl, _⟩ := h; rfl) | (obtain ⟨_, _, _, _, _, _, rfl, _⟩ := h; rfl) | (obtain ⟨_, _, _, _, _, _, _, rfl, _⟩ := h; rfl) | (obtain ⟨_, _, _, _, _, _, _, _, rfl, _⟩ := h; rfl) | (obtain ⟨_, _, _, _, _, _, _, _, _, rfl, _⟩ := h; rfl) | (obtain ⟨_, _, _, _, _, _, _, _, _, _, rfl, _⟩ := h; rfl) | (obtain ⟨_, _, _, _, _, _, _, _, _, _, _, rfl, _⟩ := h; rfl) | (obtain ⟨_, _, _, _, _, _, _, _, _, _, _, _, rfl, _⟩ := h; rfl) | (obtain ⟨_, _, _, _, _, _, _, _, _, _, _, _, _, rfl, _⟩ := h; rfl) | (obtain ⟨_, _, _, _, _, _, _, _, _, _, _, _, _, _, rfl, _⟩ := h; rfl) | (obtain ⟨_, _, _, _, _, _, _, _, _, _, _, _, _, _, _, rfl, _⟩ := h; rfl) | (obtain ⟨_, _, _, _, _, _, _, _, _, _, _, _, _, _, _, _, rfl, _⟩ := h; rfl) | (obtain ⟨_, _, _, _, _, _, _, _, _, _, _, _, _, _, _, _, _, rfl, _⟩ := h; rfl)) (fun cdv A outer s H vs Q E hr h => ?_)
  · have hu := hu_of hr
    obtain ⟨n, a, b, rfl, q⟩ := h
    refine ⟨_, PSs.nox (pss_one (ps_ret (pe_and (Kr.pe_cl h_is_from (hr.mono (by decide)) (pa_cons (pv 0) (pa_cons (pv 1) pa_nil))) (pe_one (pe_cmpR op_le (pv 0) (pv 2) (nomark _)))))), ?_⟩
    rw [st_is_within]
    walk_at "ss"
    refine ⟨_, _, rfl, ?_⟩
    walk_at "ss"
    refine r_dec (fun h1 => ?_) fun h1 => ?_
    · walk_at "ss"
      have e : decide (n ≤ b) = decide (a ≤ n ∧ n ≤ b) := by simp [h1]
      rw [e]
      exact q
    · have e : false = decide (a ≤ n ∧ n ≤ b) := by simp [h1]
      rw [e]
      exact q
theorem ok_is_place {P : Program} {w : World} {K : PySem.W.Frag} {mg : Str → Option Value} {base : Heap} {f : Addr} {fd : FuncData} (F : FunD K "is_place" "is_place" (defArgs s_is_place) (defBody s_is_place) (defScope s_is_place) [] [] f fd) (h_is_from : Kr.FnH P w K mg base CX0 1 "is_from" ["number", "least"] (sp_is_from K)) (n_isinstance : mg "isinstance" = none) (n_len : mg "len" = none) (n_str : mg "str" = none) (n_tuple : mg "tuple" = none) : FnOk P w K mg base CX0 2 f fd ["place"] (sp_is_place K) := by
  refine F.ok sc_is_place (fun vs H Q E h => by first | (obtain ⟨rfl, _⟩ := h; rfl) | (obtain ⟨_, rfl, _⟩ := h; rfl) | (obtain ⟨_, _, rfl, _⟩ := h; rfl) | (obtain ⟨_, _, _, rfl, _⟩ := h; rfl) | (obtain ⟨_, _, _, _, rfl, _⟩ := h; rfl) | (obtain ⟨_, _, _, _, _, rfl, _⟩ := h; rfl) | (obtain ⟨_, _, _, _, _, _, rfl, _⟩ := h; rfl) | (obtain ⟨_, _, _, _, _, _, _, rfl, _⟩ := h; rfl) | (obtain ⟨_, _, _, _, _, _, _, _, rfl, _⟩ := h; rfl) | (obtain ⟨_, _, _, _, _, _, _, _, _, rfl, _⟩ := h; rfl) | (obtain ⟨_, _, _, _, _, _, _, _, _, _, rfl, _⟩ := h; rfl) | (obtain ⟨_, _, _, _, _, _, _, _, _, _, _, rfl, _⟩ := h; rfl) | (obtain ⟨_, _, _, _, _, _, _, _, _, _, _, _, rfl, _⟩ := h; rfl) | (obtain ⟨_, _, _, _, _, _, _, _, _, _, _, _, _, rfl, _⟩ := h; rfl) | (obtain ⟨_, _, _, _, _, _, _, _, _, _, _, _, _, _, rfl, _⟩ := h; rfl) | (obtain ⟨_, _, _, _, _, _, _, _, _, _, _, _, _, _, _, rfl, _⟩ := h; rfl) | (obtain ⟨_, _, _, _, _, _, _, _, _, _, _, _, _, _, _, _, rfl, _⟩ := h; rfl) | (obtain ⟨_, _, _, _, _, _, _, _, _, _, _, _, _, _, _, _, _, rfl, _⟩ := h; rfl)) (fun cdv A outer s H vs Q E hr h => ?_)
  · have hu := hu_of hr
    obtain ⟨t, p, rfl, ht, q⟩ := h
    refine ⟨_, PSs.nox (pss_cons (ps_if (PW.pt (pw_or (pt_not (pt_val (pe_callB (id := "isinstance") call_isi rfl n_isinstance (by decide +kernel) (pa_cons (pv 0) (pa_cons (Kr.pe_bty (T := "tuple") n_tuple) pa_nil))))) (pw_or1 (pt_cmpR op_ne (pe_callB (id := "len") Kr.c_len rfl n_len (by decide +kernel) (pa_cons (pv 0) pa_nil)) pe_int (nomark _))))) (pss_one (ps_ret pe_bl)) pss_nil) (pss_cons (ps_asg (pv 0) (pg_tup rfl (pgs_cons (pg_name (i := 1) sc_is_place.nd rfl (.inl rfl)) (pgs_cons (pg_name (i := 2) sc_is_place.nd rfl (.inl rfl)) pgs_nil)))) (pss_one (ps_ret (pe_and (pe_callB (id := "isinstance") call_isi rfl n_isinstance (by decide +kernel) (pa_cons (pv 1) (pa_cons (Kr.pe_bty (T := "str") n_str) pa_nil))) (pe_and (pe_cmpR op_in_seq (pv 1) (pe_tup (pa_cons pe_str (pa_cons pe_str pa_nil))) (by rfl)) (pe_one (Kr.pe_cl h_is_from (hr.mono (by decide)) (pa_cons (pv 2) (pa_cons pe_int pa_nil)))))))))), ?_⟩
    rw [st_is_place]
    walk_at "ss"
    refine r_isiT (.base (.tup ht)) (b := true) (by decide +kernel) ?_
    walk_at "ss"
    refine r_decN (fun ne => absurd rfl ne) fun _ => ?_
    walk_at "ss"
    refine r_isiT (.base (.str p.w)) (b := true) (by decide +kernel) ?_
    walk_at "ss"
    refine r_newS fun t2 H1 h2 s1 e1 => ?_
    refine ⟨t2, _, rfl, .inr (SqT.of e1), rfl, rfl, ?_⟩
    rw [show (if false = true then !inV (V.str p.w) [V.str "use", V.str "list"] else inV (V.str p.w) [V.str "use", V.str "list"]) = true from in_words p]
    walk_at "ss"
    refine ⟨_, _, rfl, ?_⟩
    rw [decide_eq_true (show (0 : Int) ≤ (p.n : Int) by omega)]
    exact q H1 s1
theorem ok_is_place_among {P : Program} {w : World} {K : PySem.W.Frag} {mg : Str → Option Value} {base : Heap} {f : Addr} {fd : FuncData} (F : FunD K "is_place_among" "is_place_among" (defArgs s_is_place_among) (defBody s_is_place_among) (defScope s_is_place_among) [] [] f fd) (h_is_place : Kr.FnH P w K mg base CX0 2 "is_place" ["place"] (sp_is_place K)) : FnOk P w K mg base CX0 3 f fd ["place", "many"] (sp_is_place_among K) := by
  refine F.ok sc_is_place_among (fun vs H Q E h => by first | (obtain ⟨rfl, _⟩ := h; rfl) | (obtain ⟨_, rfl, _⟩ := h; rfl) | (obtain ⟨_, _, rfl, _⟩ := h; rfl) | (obtain ⟨_, _, _, rfl, _⟩ := h; rfl) | (obtain ⟨_, _, _, _, rfl, _⟩ := h; rfl) | (obtain ⟨_, _, _, _, _, rfl, _⟩ := h; rfl) | (obtain ⟨_, _, _, _, _, _, rfl, _⟩ := h; rfl) | (obtain ⟨_, _, _, _, _, _, _, rfl, _⟩ := h; rfl) | (obtain ⟨_, _, _, _, _, _, _, _, rfl, _⟩ := h; rfl) | (obtain ⟨_, _, _, _, _, _, _, _, _, rfl, _⟩ := h; rfl) | (obtain ⟨_, _, _, _, _, _, _, _, _, _, rfl, _⟩ := h; rfl) | (obtain ⟨_, _, _, _, _, _, _, _, _, _, _, rfl, _⟩ := h; rfl) | (obtain ⟨_, _, _, _, _, _, _, _, _, _, _, _, rfl, _⟩ := h; rfl) | (obtain ⟨_, _, _, _, _, _, _, _, _, _, _, _, _, rfl, _⟩ := h; rfl) | (obtain ⟨_, _, _, _, _, _, _, _, _, _, _, _, _, _, rfl, _⟩ := h; rfl) | (obtain ⟨_, _, _, _, _, _, _, _, _, _, _, _, _, _, _, rfl, _⟩ := h; rfl) | (obtain ⟨_, _, _, _, _, _, _, _, _, _, _, _, _, _, _, _, rfl, _⟩ := h; rfl) | (obtain ⟨_, _, _, _, _, _, _, _, _, _, _, _, _, _, _, _, _, rfl, _⟩ := h; rfl)) (fun cdv A outer s H vs Q E hr h => ?_)
  · have hu := hu_of hr
    obtain ⟨t, p, m, rfl, ht, v, q⟩ := h
    refine ⟨_, PSs.nox (pss_one (ps_ret (pe_and (Kr.pe_cl h_is_place (hr.mono (by decide)) (pa_cons (pv 0) pa_nil)) (pe_one (pe_or (pe_cmpR op_eq (pe_ix ix_tup (pv 0) pe_int (fun _ _ => rfl)) pe_str (nomark _)) (pe_one (pe_cmpR op_lt (pe_ix ix_tup (pv 0) pe_int (fun _ _ => rfl)) (pv 1) (nomark _)))))))), ?_⟩
    rw [st_is_place_among]
    walk_at "ss"
    refine ⟨t, p, rfl, ht, fun H1 s1 => ?_⟩
    have ht1 := s1 _ _ ht
    walk_at "ss"
    cases p with
    | use k =>
      rw [show decide ((Pl.use k).w = "list") = false from by show decide (("use" : Str) = "list") = false; decide +kernel]
      walk_at "ss"
      rw [decide_eq_true (show (((Pl.use k).n : Nat) : Int) < (m : Int) from Int.ofNat_lt.mpr v)]
      exact q H1 s1
    | lst k =>
      rw [show decide ((Pl.lst k).w = "list") = true from decide_eq_true rfl]
      walk_at "ss"
      exact q H1 s1
theorem ok_are_places {P : Program} {w : World} {K : PySem.W.Frag} {mg : Str → Option Value} {base : Heap} {f : Addr} {fd : FuncData} (F : FunD K "are_places" "are_places" (defArgs s_are_places) (defBody s_are_places) (defScope s_are_places) [] [] f fd) (h_is_place : Kr.FnH P w K mg base CX0 2 "is_place" ["place"] (sp_is_place K)) (n_all : mg "all" = none) (n_isinstance : mg "isinstance" = none) (n_list : mg "list" = none) : FnOk P w K mg base CX0 3 f fd ["places"] (sp_are_places K) := by
  refine F.ok sc_are_places (fun vs H Q E h => by first | (obtain ⟨rfl, _⟩ := h; rfl) | (obtain ⟨_, rfl, _⟩ := h; rfl) | (obtain ⟨_, _, rfl, _⟩ := h; rfl) | (obtain ⟨_, _, _, rfl, _⟩ := h; rfl) | (obtain ⟨_, _, _, _, rfl, _⟩ := h; rfl) | (obtain ⟨_, _, _, _, _, rfl, _⟩ := h; rfl) | (obtain ⟨_, _, _, _, _, _, rfl, _⟩ := h; rfl) | (obtain ⟨_, _, _, _, _, _, _, rfl, _⟩ := h; rfl) | (obtain ⟨_, _, _, _, _, _, _, _, rfl, _⟩ := h; rfl) | (obtain ⟨_, _, _, _, _, _, _, _, _, rfl, _⟩ := h; rfl) | (obtain ⟨_, _, _, _, _, _, _, _, _, _, rfl, _⟩ := h; rfl) | (obtain ⟨_, _, _, _, _, _, _, _, _, _, _, rfl, _⟩ := h; rfl) | (obtain ⟨_, _, _, _, _, _, _, _, _, _, _, _, rfl, _⟩ := h; rfl) | (obtain ⟨_, _, _, _, _, _, _, _, _, _, _, _, _, rfl, _⟩ := h; rfl) | (obtain ⟨_, _, _, _, _, _, _, _, _, _, _, _, _, _, rfl, _⟩ := h; rfl) | (obtain ⟨_, _, _, _, _, _, _, _, _, _, _, _, _, _, _, rfl, _⟩ := h; rfl) | (obtain ⟨_, _, _, _, _, _, _, _, _, _, _, _, _, _, _, _, rfl, _⟩ := h; rfl) | (obtain ⟨_, _, _, _, _, _, _, _, _, _, _, _, _, _, _, _, _, rfl, _⟩ := h; rfl)) (fun cdv A outer s H vs Q E hr h => ?_)
  · have hu := hu_of hr
    obtain ⟨l, ws, ps, rfl, hl, P, hz, q⟩ := h
    have hwl := P.len
    refine ⟨_, PSs.nox (pss_one (ps_ret (pe_and (pe_callB (id := "isinstance") call_isi rfl n_isinstance (by decide +kernel) (pa_cons (pv 0) (pa_cons (Kr.pe_bty (T := "list") n_list) pa_nil))) (pe_one (pe_callB (id := "all") (cr_all rfl) rfl n_all (by decide +kernel) (pa_cons (pe_lc (own := [("place", 1)]) rfl sc_are_places.nd (pi_list (pv 0)) (blkOk_by (own := [("place", 1)]) (N := N_are_places) (sc := defScope s_are_places) (by decide +kernel)) (fun _ _ _ _ _ => (pg_name (i := 1) sc_are_places.nd rfl (.inl rfl))) (fun _ _ _ _ _ => pts_nil) (fun _ _ _ _ _ => (Kr.pe_cl h_is_place (hr.mono (by decide)) (pa_cons (pv 1) pa_nil)))) pa_nil)))))), ?_⟩
    rw [st_are_places]
    walk_at "ss"
    refine r_isiT (.base (.lst hl)) (b := true) (by decide +kernel) ?_
    walk_at "ss"
    intro D hD
    refine lc_listS (xs := ws) [some (.ref l), none] rfl (fun i H5 => H5 D = some (.lst ((List.replicate i true).map V.bl)) ∧ Same H H5) ⟨upd_same, same_new hD⟩ (fun i H5 _ hh => hh.2.seq (SqL.of hl)) ?_ ?_
    · rintro i x H5 hx ⟨h5, s5⟩
      obtain ⟨t, hi, rfl, ht⟩ := P.item hx
      walk_at "ss"
      refine ⟨rfl, ?_⟩
      walk_at "ss"
      refine ⟨t, _, rfl, s5 _ _ ht, fun H6 s6 => ?_⟩
      refine ⟨_, s6 _ _ h5, by rw [List.length_map, List.length_replicate]; exact szl (by omega), ?_, fun b o e => ?_⟩
      · rw [upd_same, List.replicate_succ', List.map_append]
        rfl
      · rw [upd_ne (ne_of_none e hD)]
        exact s6 _ _ (s5 b o e)
    · rintro H5 ⟨h5, s5⟩
      walk_at "ss"
      refine r_all (SqL.of h5) ?_
      rw [take_map_bl (fun b hb => (List.mem_replicate.mp hb).2)]
      exact q _ s5
theorem ok_are_once {P : Program} {w : World} {K : PySem.W.Frag} {mg : Str → Option Value} {base : Heap} {f : Addr} {fd : FuncData} (F : FunD K "are_once" "are_once" (defArgs s_are_once) (defBody s_are_once) (defScope s_are_once) [] [] f fd) (n_len : mg "len" = none) (n_list : mg "list" = none) (n_range : mg "range" = none) (n_sorted : mg "sorted" = none) : FnOk P w K mg base CX0 1 f fd ["places", "fresh"] (sp_are_once K) := by
  refine F.ok sc_are_once (fun vs H Q E h => by first | (obtain ⟨rfl, _⟩ := h; rfl) | (obtain ⟨_, rfl, _⟩ := h; rfl) | (obtain ⟨_, _, rfl, _⟩ := h; rfl) | (obtain ⟨_, _, _, rfl, _⟩ := h; rfl) | (obtain ⟨_, _, _, _, rfl, _⟩ := h; rfl) | (obtain ⟨_, _, _, _, _, rfl, _⟩ := h; rfl) | (obtain ⟨_, _, _, _, _, _, rfl, _⟩ := h; rfl) | (obtain ⟨_, _, _, _, _, _, _, rfl, _⟩ := h; rfl) | (obtain ⟨_, _, _, _, _, _, _, _, rfl, _⟩ := h; rfl) | (obtain ⟨_, _, _, _, _, _, _, _, _, rfl, _⟩ := h; rfl) | (obtain ⟨_, _, _, _, _, _, _, _, _, _, rfl, _⟩ := h; rfl) | (obtain ⟨_, _, _, _, _, _, _, _, _, _, _, rfl, _⟩ := h; rfl) | (obtain ⟨_, _, _, _, _, _, _, _, _, _, _, _, rfl, _⟩ := h; rfl) | (obtain ⟨_, _, _, _, _, _, _, _, _, _, _, _, _, rfl, _⟩ := h; rfl) | (obtain ⟨_, _, _, _, _, _, _, _, _, _, _, _, _, _, rfl, _⟩ := h; rfl) | (obtain ⟨_, _, _, _, _, _, _, _, _, _, _, _, _, _, _, rfl, _⟩ := h; rfl) | (obtain ⟨_, _, _, _, _, _, _, _, _, _, _, _, _, _, _, _, rfl, _⟩ := h; rfl) | (obtain ⟨_, _, _, _, _, _, _, _, _, _, _, _, _, _, _, _, _, rfl, _⟩ := h; rfl)) (fun cdv A outer s H vs Q E hr h => ?_)
  · have hu := hu_of hr
    obtain ⟨l, ws, ps, a, n, rfl, hl, P, hz, pm, q⟩ := h
    have hwl := P.len
    have hpl := pm.length_eq
    rw [base_len] at hpl
    obtain ⟨pu, pl⟩ := nm_perm pm
    refine ⟨_, PSs.nox (pss_cons (ps_set (i := 2) sc_are_once.nd rfl (.inl rfl) (pe_callB (id := "sorted") cr_sortedI rfl n_sorted (by decide +kernel) (pa_cons (pe_lc (own := [("where", 4), ("number", 5)]) rfl sc_are_once.nd (pi_list (pv 0)) (blkOk_by (own := [("where", 4), ("number", 5)]) (N := N_are_once) (sc := defScope s_are_once) (by decide +kernel)) (fun _ _ _ _ _ => (Kr.pg_tupK (K := K) (n := 2) rfl rfl (pgs_cons (pg_name (i := 4) sc_are_once.nd rfl (.inl rfl)) (pgs_cons (pg_name (i := 5) sc_are_once.nd rfl (.inl rfl)) pgs_nil)))) (fun _ _ _ _ _ => (pts_one (pt_cmpR op_eq (pv 4) pe_str (nomark _)))) (fun _ _ _ _ _ => (pv 5))) pa_nil))) (pss_cons (ps_set (i := 3) sc_are_once.nd rfl (.inl rfl) (pe_callB (id := "sorted") cr_sortedI rfl n_sorted (by decide +kernel) (pa_cons (pe_lc (own := [("where", 4), ("number", 5)]) rfl sc_are_once.nd (pi_list (pv 0)) (blkOk_by (own := [("where", 4), ("number", 5)]) (N := N_are_once) (sc := defScope s_are_once) (by decide +kernel)) (fun _ _ _ _ _ => (Kr.pg_tupK (K := K) (n := 2) rfl rfl (pgs_cons (pg_name (i := 4) sc_are_once.nd rfl (.inl rfl)) (pgs_cons (pg_name (i := 5) sc_are_once.nd rfl (.inl rfl)) pgs_nil)))) (fun _ _ _ _ _ => (pts_one (pt_cmpR op_eq (pv 4) pe_str (nomark _)))) (fun _ _ _ _ _ => (pv 5))) pa_nil))) (pss_one (ps_ret (pe_and (pe_cmpR op_eq (pe_callB (id := "len") Kr.c_len rfl n_len (by decide +kernel) (pa_cons (pv 3) pa_nil)) (pv 1) (nomark _)) (pe_and (pe_cmpR (op_eqD hr.units) (pv 3) (pe_listRg rfl rfl n_list (prg_1 rfl n_range (pe_callB (id := "len") Kr.c_len rfl n_len (by decide +kernel) (pa_cons (pv 3) pa_nil)))) (nomark _)) (pe_one (pe_cmpR (op_eqD hr.units) (pv 2) (pe_listRg rfl rfl n_list (prg_1 rfl n_range (pe_callB (id := "len") Kr.c_len rfl n_len (by decide +kernel) (pa_cons (pv 2) pa_nil)))) (nomark _))))))))), ?_⟩
    rw [st_are_once]
    walk_at "ss"
    intro D hD
    refine lc_listS (xs := ws) [some (.ref l), some (.int n), none, none, none, none] rfl (fun i H5 => H5 D = some (.lst ((nmI Pl.uN (ps.take i)).map V.int)) ∧ Same H H5) ⟨upd_same, same_new hD⟩ (fun i H5 _ hh => hh.2.seq (SqL.of hl)) ?_ ?_
    · rintro i x H5 hx ⟨h5, s5⟩
      obtain ⟨t, hi, rfl, ht⟩ := P.item hx
      have ht5 := s5 _ _ ht
      have tk : ps.take (i + 1) = ps.take i ++ [ps[i]] := by rw [List.take_add_one, List.getElem?_eq_getElem hi]; rfl
      walk_at "ss"
      refine ⟨rfl, ?_⟩
      walk_at "ss"
      rw [tk, nmI_snoc]
      cases hp : ps[i] with
      | use k =>
        rw [show decide ((Pl.use k).w = "use") = true from decide_eq_true rfl]
        walk_at "ss"
        refine ⟨_, h5, by rw [List.length_map]; have := nmI_le Pl.uN (ps.take i); rw [List.length_take] at this; exact szl (by omega), ?_, fun b o e => ?_⟩
        · rw [upd_same, List.map_append]
          rfl
        · rw [upd_ne (ne_of_none e hD)]
          exact s5 b o e
      | lst k =>
        rw [show decide ((Pl.lst k).w = "use") = false from by show decide (("list" : Str) = "use") = false; decide +kernel]
        walk_at "ss"
        refine ⟨?_, s5⟩
        rw [h5]
        show _ = some (HO.lst ((nmI Pl.uN (ps.take i) ++ []).map V.int))
        rw [List.append_nil]
    rintro H2 ⟨e2, s2⟩
    rw [hwl, List.take_length] at e2
    walk_at "ss"
    refine ⟨D, _, rfl, SqL.of e2, fun us u pus su hu => ?_⟩
    have eu : us = rgI a := sorted_range (pus.trans pu) su
    rw [eu]
    have s3 : Same H (upd H2 u (.lst ((rgI a).map V.int))) := s2.trans (same_new hu)
    have e3 : (upd H2 u (.lst ((rgI a).map V.int))) u = some (.lst ((rgI a).map V.int)) := upd_same
    generalize (upd H2 u (.lst ((rgI a).map V.int))) = H3 at s3 e3 ⊢
    have hl3 := s3 _ _ hl
    have P3 := P.same s3
    walk_at "ss"
    intro D2 hD2
    refine lc_listS (xs := ws) [some (.ref l), some (.int n), some (.ref u), none, none, none] rfl (fun i H5 => H5 D2 = some (.lst ((nmI Pl.lN (ps.take i)).map V.int)) ∧ Same H3 H5) ⟨upd_same, same_new hD2⟩ (fun i H5 _ hh => hh.2.seq (SqL.of hl3)) ?_ ?_
    · rintro i x H5 hx ⟨h5, s5⟩
      obtain ⟨t, hi, rfl, ht⟩ := P3.item hx
      have ht5 := s5 _ _ ht
      have tk : ps.take (i + 1) = ps.take i ++ [ps[i]] := by rw [List.take_add_one, List.getElem?_eq_getElem hi]; rfl
      walk_at "ss"
      refine ⟨rfl, ?_⟩
      walk_at "ss"
      rw [tk, nmI_snoc]
      cases hp : ps[i] with
      | lst k =>
        rw [show decide ((Pl.lst k).w = "list") = true from decide_eq_true rfl]
        walk_at "ss"
        refine ⟨_, h5, by rw [List.length_map]; have := nmI_le Pl.lN (ps.take i); rw [List.length_take] at this; exact szl (by omega), ?_, fun b o e => ?_⟩
        · rw [upd_same, List.map_append]
          rfl
        · rw [upd_ne (ne_of_none e hD2)]
          exact s5 b o e
      | use k =>
        rw [show decide ((Pl.use k).w = "list") = false from by show decide (("use" : Str) = "list") = false; decide +kernel]
        walk_at "ss"
        refine ⟨?_, s5⟩
        rw [h5]
        show _ = some (HO.lst ((nmI Pl.lN (ps.take i) ++ []).map V.int))
        rw [List.append_nil]
    rintro H4 ⟨e4, s4⟩
    rw [hwl, List.take_length] at e4
    walk_at "ss"
    refine ⟨D2, _, rfl, SqL.of e4, fun us2 v pus2 su2 hv => ?_⟩
    have ev : us2 = rgI n := sorted_range (pus2.trans pl) su2
    rw [ev]
    have s5 : Same H3 (upd H4 v (.lst ((rgI n).map V.int))) := s4.trans (same_new hv)
    have e5 : (upd H4 v (.lst ((rgI n).map V.int))) v = some (.lst ((rgI n).map V.int)) := upd_same
    generalize (upd H4 v (.lst ((rgI n).map V.int))) = H5 at s5 e5 ⊢
    have f5 := s5 _ _ e3
    walk_at "ss"
    rw [List.length_map, rgI_len]
    refine r_dec (fun _ => ?_) fun ne => absurd rfl ne
    walk_at "ss"
    rw [List.length_map, rgI_len]
    refine r_rgL (by omega) (by omega) ?_
    refine r_newS fun g H6 hg s6 e6 => ?_
    rw [rgV_nat] at e6
    refine r_eqLL (is := rgI n) (js := rgI n) (SqL.of (s6 _ _ e5)) (SqL.of e6) ?_
    walk_at "ss"
    refine r_dec (fun _ => ?_) fun ne => absurd rfl ne
    have f6 := s6 _ _ f5
    walk_at "ss"
    rw [List.length_map, rgI_len]
    refine r_rgL (by omega) (by omega) ?_
    refine r_newS fun g2 H7 hg2 s7 e7 => ?_
    rw [rgV_nat] at e7
    refine r_eqLL (is := rgI a) (js := rgI a) (SqL.of (s7 _ _ f6)) (SqL.of e7) ?_
    rw [decide_eq_true rfl]
    exact q H7 (((s3.trans s5).trans s6).trans s7)
theorem ok_Turn___init__ {P : Program} {w : World} {K : PySem.W.Frag} {mg : Str → Option Value} {base : Heap} {f : Addr} {fd : FuncData} (F : FunD K "__init__" "Turn.__init__" (defArgs s_Turn___init__) (defBody s_Turn___init__) (defScope s_Turn___init__) [] [] f fd) (a_Turn__ahead : NoAttr K (He.ga K "Turn") "_ahead") (a_Turn__fresh : NoAttr K (He.ga K "Turn") "_fresh") (a_Turn__front : NoAttr K (He.ga K "Turn") "_front") (a_Turn__goals : NoAttr K (He.ga K "Turn") "_goals") (a_Turn__used : NoAttr K (He.ga K "Turn") "_used") (c_Turn : Cls K (He.ga K "Turn")) (h_are_once : Kr.FnH P w K mg base CX0 1 "are_once" ["places", "fresh"] (sp_are_once K)) (h_are_places : Kr.FnH P w K mg base CX0 3 "are_places" ["places"] (sp_are_places K)) (h_is_from : Kr.FnH P w K mg base CX0 1 "is_from" ["number", "least"] (sp_is_from K)) (n_enumerate : mg "enumerate" = none) (n_len : mg "len" = none) (n_list : mg "list" = none) : FnOk P w K mg base CX0 4 f fd ["self", "used", "front", "fresh"] (sp_Turn___init__ K) := by
  refine F.ok sc_Turn___init__ (fun vs H Q E h => by first | (obtain ⟨rfl, _⟩ := h; rfl) | (obtain ⟨_, rfl, _⟩ := h; rfl) | (obtain ⟨_, _, rfl, _⟩ := h; rfl) | (obtain ⟨_, _, _, rfl, _⟩ := h; rfl) | (obtain ⟨_, _, _, _, rfl, _⟩ := h; rfl) | (obtain ⟨_, _, _, _, _, rfl, _⟩ := h; rfl) | (obtain ⟨_, _, _, _, _, _, rfl, _⟩ := h; rfl) | (obtain ⟨_, _, _, _, _, _, _, rfl, _⟩ := h; rfl) | (obtain ⟨_, _, _, _, _, _, _, _, rfl, _⟩ := h; rfl) | (obtain ⟨_, _, _, _, _, _, _, _, _, rfl, _⟩ := h; rfl) | (obtain ⟨_, _, _, _, _, _, _, _, _, _, rfl, _⟩ := h; rfl) | (obtain ⟨_, _, _, _, _, _, _, _, _, _, _, rfl, _⟩ := h; rfl) | (obtain ⟨_, _, _, _, _, _, _, _, _, _, _, _, rfl, _⟩ := h; rfl) | (obtain ⟨_, _, _, _, _, _, _, _, _, _, _, _, _, rfl, _⟩ := h; rfl) | (obtain ⟨_, _, _, _, _, _, _, _, _, _, _, _, _, _, rfl, _⟩ := h; rfl) | (obtain ⟨_, _, _, _, _, _, _, _, _, _, _, _, _, _, _, rfl, _⟩ := h; rfl) | (obtain ⟨_, _, _, _, _, _, _, _, _, _, _, _, _, _, _, _, rfl, _⟩ := h; rfl) | (obtain ⟨_, _, _, _, _, _, _, _, _, _, _, _, _, _, _, _, _, rfl, _⟩ := h; rfl)) (fun cdv A outer s H vs Q E hr h => ?_)
  · have hu := hu_of hr
    obtain ⟨x, dx, pu, pf, vu, vf, u, f, n, a, rfl, hx, hu0, PU, hf0, PF, pm, zu, zf, q⟩ := h
    have cc := c_Turn
    have n1 := a_Turn__ahead
    have n2 := a_Turn__used
    have n3 := a_Turn__front
    have n4 := a_Turn__fresh
    have n5 := a_Turn__goals
    have lu := PU.len
    have lf := PF.len
    have plen := pm.len
    simp only at plen
    have nd : (u ++ f).Nodup := pm.nd
    refine ⟨_, PSs.nox (pss_cons (ps_if (pt_not (pt_val (Kr.pe_cl h_are_places (hr.mono (by decide)) (pa_cons (pv 1) pa_nil)))) (pss_one ps_never) pss_nil) (pss_cons (ps_if (pt_not (pt_val (Kr.pe_cl h_are_places (hr.mono (by decide)) (pa_cons (pv 2) pa_nil)))) (pss_one ps_never) pss_nil) (pss_cons (ps_if (pt_not (pt_val (Kr.pe_cl h_is_from (hr.mono (by decide)) (pa_cons (pv 3) (pa_cons pe_int pa_nil))))) (pss_one ps_never) pss_nil) (pss_cons (ps_if (pt_not (pt_val (Kr.pe_cl h_are_once (hr.mono (by decide)) (pa_cons (pe_op Kr.op_catS (pv 1) (pv 2)) (pa_cons (pv 3) pa_nil))))) (pss_one ps_never) pss_nil) (pss_cons (ps_fld (pv 0) (pe_op op_sub (pe_op op_add (pe_callB (id := "len") Kr.c_len rfl n_len (by decide +kernel) (pa_cons (pv 1) pa_nil)) (pe_callB (id := "len") Kr.c_len rfl n_len (by decide +kernel) (pa_cons (pv 2) pa_nil))) (pv 3)) rfl) (pss_cons (ps_set (i := 4) sc_Turn___init__.nd rfl (.inl rfl) (pe_callB (id := "len") Kr.c_len rfl n_len (by decide +kernel) (pa_cons (pv 2) pa_nil))) (pss_cons (ps_while PassesOwn.never (PW.pt (pw_and (pt_cmpR op_gt (pv 4) pe_int (nomark _)) (pw_and1 (pt_cmpR (op_eqD hr.units) (pe_ix ix_list (pv 2) (pe_op op_sub (pv 4) pe_int) (fun _ _ => rfl)) (pe_tup (pa_cons pe_str (pa_cons (pe_op op_sub (pv 3) pe_int) pa_nil))) (nomark _))))) (pss_cons (ps_aug (i := 4) sc_Turn___init__.nd rfl (.inl rfl) pe_int ip_sub) (pss_one (ps_aug (i := 3) sc_Turn___init__.nd rfl (.inl rfl) pe_int ip_sub)))) (pss_cons (ps_fld (pv 0) (pe_callTy (T := "list") Kr.c_list rfl n_list (by decide +kernel) (pa_cons (pv 1) pa_nil)) rfl) (pss_cons (ps_fld (pv 0) (pe_slice sl_list (pv 2) po_none (po_some (pv 4))) rfl) (pss_cons (ps_fld (pv 0) (pv 3) rfl) (pss_cons (ps_fld (pv 0) pe_dnewT rfl) (pss_cons (ps_for PassesOwn.never rfl (pi_enum rfl n_enumerate (pa_cons (pe_fld (pv 0) rfl) pa_nil)) (pg_tup rfl (pgs_cons (pg_name (i := 5) sc_Turn___init__.nd rfl (.inl rfl)) (pgs_cons (pg_name (i := 6) sc_Turn___init__.nd rfl (.inl rfl)) pgs_nil))) (pss_one (ps_dput hu (pe_fld (pv 0) rfl) (pv 6) (pe_tup (pa_cons pe_str (pa_cons (pv 5) pa_nil))) rfl))) (pss_one (ps_for PassesOwn.never rfl (pi_enum rfl n_enumerate (pa_cons (pe_fld (pv 0) rfl) pa_nil)) (pg_tup rfl (pgs_cons (pg_name (i := 5) sc_Turn___init__.nd rfl (.inl rfl)) (pgs_cons (pg_name (i := 6) sc_Turn___init__.nd rfl (.inl rfl)) pgs_nil))) (pss_one (ps_dput hu (pe_fld (pv 0) rfl) (pv 6) (pe_tup (pa_cons pe_str (pa_cons (pv 5) pa_nil))) rfl)))))))))))))))), ?_⟩
    rw [st_Turn___init__]
    walk_at "ss"
    refine ⟨pu, vu, u, rfl, hu0, PU, by omega, fun H1 s1 => ?_⟩
    walk_at "ss"
    refine ⟨pf, vf, f, rfl, s1 _ _ hf0, PF.same s1, by omega, fun H2 s2 => ?_⟩
    walk_at "ss"
    refine ⟨_, _, rfl, ?_⟩
    rw [decide_eq_true (show (0 : Int) ≤ (n : Int) by omega)]
    walk_at "ss"
    have s12 := s1.trans s2
    refine r_catS (SqL.of (s12 _ _ hu0)) (SqL.of (s12 _ _ hf0)) (by omega) ?_
    refine r_newS fun c H3 hc s3 e3 => ?_
    have s13 := s12.trans s3
    walk_at "ss"
    refine ⟨c, _, u ++ f, a, n, rfl, e3, (PU.same s13).app (PF.same s13), by rw [List.length_append]; omega, pm.perm, fun H4 s4 => ?_⟩
    have s14 := s13.trans s4
    have hu4 := s14 _ _ hu0
    have hf4 := s14 _ _ hf0
    have hx4 := s14 _ _ hx
    walk_at "ss"
    rw [lu, lf, show (u.length : Int) + (f.length : Int) - (n : Int) = (a : Int) by omega]
    refine r_st (gs := [("_ahead", .int a)]) hx4 cc n1 (by decide) rfl ?_
    have xu : pu ≠ x := ne_of hu4 hx4 (by intro z; cases z)
    have xf : pf ≠ x := ne_of hf4 hx4 (by intro z; cases z)
    have tups : ∀ (o : List (Str × V)) b xs, H4 b = some (.tup xs) → upd H4 x (.ins (He.ga K "Turn") dx o) b = some (.tup xs) := fun o b xs h => by
      rw [upd_ne (ne_of h hx4 (by intro z; cases z))]
      exact h
    have hu5 : upd H4 x (.ins (He.ga K "Turn") dx [("_ahead", .int a)]) pu = some (.lst vu) := by rw [upd_ne xu]; exact hu4
    have hf5 : upd H4 x (.ins (He.ga K "Turn") dx [("_ahead", .int a)]) pf = some (.lst vf) := by rw [upd_ne xf]; exact hf4
    have hx5 : upd H4 x (.ins (He.ga K "Turn") dx [("_ahead", .int a)]) x = some (.ins (He.ga K "Turn") dx [("_ahead", .int a)]) := upd_same
    have PU5 : PlL (upd H4 x (.ins (He.ga K "Turn") dx [("_ahead", .int a)])) vu u := (PU.same s14).keep (x := x) (tups _)
    have PF5 : PlL (upd H4 x (.ins (He.ga K "Turn") dx [("_ahead", .int a)])) vf f := (PF.same s14).keep (x := x) (tups _)
    have k5 : ∀ b o, b ≠ x → H b = some o → upd H4 x (.ins (He.ga K "Turn") dx [("_ahead", .int a)]) b = some o := fun b o z e => by rw [upd_ne z]; exact s14 _ _ e
    generalize upd H4 x (.ins (He.ga K "Turn") dx [("_ahead", .int a)]) = H5 at hu5 hf5 hx5 PU5 PF5 k5 ⊢
    walk_at "ss"
    rw [lf]
    refine r_while (fun m σ H' => ∃ (g r : List Pl) (n' : Nat) (x6 x7 : Option V), m = g.length ∧ σ = [some (.ref x), some (.ref pu), some (.ref pf), some (.int n'), some (.int g.length), x6, x7] ∧ Same H5 H' ∧ f = g ++ r ∧ (⟨u, g, n', a⟩ : Tn).Pm ∧ n' ≤ n ∧ ∀ p, (⟨u, g, n', a⟩ : Tn).or p = (⟨u, f, n, a⟩ : Tn).or p) _
      ⟨f, [], n, _, _, rfl, rfl, fun _ _ h => h, by simp, pm, Nat.le_refl _, fun _ => rfl⟩ ?_
    rintro m σ H6 ⟨g, r, n', x6, x7, rfl, rfl, s6, efg, pg, nle, org⟩
    have hf6 := s6 _ _ hf5
    have hu6 := s6 _ _ hu5
    have hx6 := s6 _ _ hx5
    have PU6 := PU5.same s6
    have PF6 := PF5.same s6
    have gl : g.length ≤ f.length := by rw [efg, List.length_append]; omega
    walk_at "ss"
    refine r_dec (fun hpos => ?c1) fun hz => ?c2
    case' c1 =>
      obtain ⟨h, p, eg⟩ : ∃ h p, g = h ++ [p] := by
        rcases List.eq_nil_or_concat g with e | ⟨h, p, e⟩
        · rw [e] at hpos
          exact absurd hpos (by simp)
        · exact ⟨h, p, by simpa using e⟩
      have egl : g.length = h.length + 1 := by rw [eg]; simp
      have hp : f[h.length]? = some p := by
        rw [efg, eg]
        simp
      obtain ⟨t, at1, et⟩ := PF6.at_ _ _ hp
      walk_at "ss"
      rw [show (g.length : Int) - 1 = ((h.length : Nat) : Int) by omega]
      refine r_ixL (SqL.of hf6) (at_of rfl at1) ?_
      walk_at "ss"
      refine r_newS fun z H7 hz s7 e7 => ?_
      refine r_eqPlZ (s7 _ _ et) e7 ?_
      walk_at "ss"
      refine r_whD (fun hq => ?_) fun hq => ?_
      · obtain ⟨ew, ez⟩ := hq
        have ep : p = .lst (n' - 1) ∧ 0 < n' := by
          cases p with
          | use k => exact absurd ew (show ¬ (("use" : Str) = ("list" : Str)) by decide +kernel)
          | lst k =>
            have : (k : Int) = (n' : Int) - 1 := ez
            exact ⟨by rw [show k = n' - 1 by omega], by omega⟩
        obtain ⟨ep, npos⟩ := ep
        rw [eg, ep] at pg org
        obtain ⟨pg2, or2⟩ := pg.shorter npos
        walk_at "ss"
        refine ⟨_, ?_, h, p :: r, n' - 1, x6, x7, rfl, ?_, s6.trans s7, by rw [efg, eg]; simp, pg2, by omega, fun q => (or2 q).trans (org q)⟩
        · omega
        · rw [show (g.length : Int) - 1 = (h.length : Int) by omega, show (n' : Int) - 1 = ((n' - 1 : Nat) : Int) by omega]
      have s67 : Same H6 H7 := s7
      have can : ∀ h', g = h' ++ [.lst (n' - 1)] → n' = 0 := fun h' e => by
        rcases Nat.eq_zero_or_pos n' with y | y
        · exact y
        · exfalso
          rw [eg] at e
          have e2 := (List.append_inj' e rfl).2
          have e3 : p = .lst (n' - 1) := (List.cons.inj e2).1
          refine hq ⟨by rw [e3]; rfl, ?_⟩
          rw [e3]
          show ((n' - 1 : Nat) : Int) = (n' : Int) - 1
          omega
      clear hq e7 hz et at1 hp egl eg
    case' c2 =>
      refine r_whF ?_
      obtain ⟨H7, eH7⟩ : ∃ H7, H7 = H6 := ⟨_, rfl⟩
      have s67 : Same H6 H7 := by
        rw [eH7]
        exact fun _ _ h => h
      rw [← eH7]
      have can : ∀ h', g = h' ++ [.lst (n' - 1)] → n' = 0 := fun h' e => absurd hz (by rw [e]; simp)
      clear eH7
    all_goals
      have hx7 := s67 _ _ hx6
      have hu7 := s67 _ _ hu6
      have hf7 := s67 _ _ hf6
      have PU7 := PU6.same s67
      have PF7 := PF6.same s67
      have k7 : ∀ b o, b ≠ x → H b = some o → H7 b = some o := fun b o z e => s67 _ _ (s6 _ _ (k5 b o z e))
      have hb : ∀ {b : Addr}, H7 b = none → H b = none := fun {b} h => by
        cases e : H b with
        | none => rfl
        | some o =>
          by_cases z : b = x
          · rw [z, hx7] at h
            cases h
          · rw [k7 b o z e] at h
            cases h
      walk_at "ss"
      refine r_newS fun pu2 H8 nu2 s8 e8 => ?_
      walk_at "ss"
      have hx8 := s8 _ _ hx7
      have hf8 := s8 _ _ hf7
      refine r_st (gs := [("_ahead", .int a), ("_used", .ref pu2)]) hx8 cc n2 (by show 1 < 1000; decide) rfl ?_
      have tups8 : ∀ (o : List (Str × V)) b xs, H8 b = some (.tup xs) → upd H8 x (.ins (He.ga K "Turn") dx o) b = some (.tup xs) := fun o b xs h => by
        rw [upd_ne (ne_of h hx8 (by intro z; cases z))]
        exact h
      have a9 : upd H8 x (.ins (He.ga K "Turn") dx [("_ahead", .int a), ("_used", .ref pu2)]) x = some (.ins (He.ga K "Turn") dx [("_ahead", .int a), ("_used", .ref pu2)]) := upd_same
      have b9 : upd H8 x (.ins (He.ga K "Turn") dx [("_ahead", .int a), ("_used", .ref pu2)]) pu2 = some (.lst vu) := by rw [upd_ne (ne_of e8 hx8 (by intro z; cases z))]; exact e8
      have c9 : upd H8 x (.ins (He.ga K "Turn") dx [("_ahead", .int a), ("_used", .ref pu2)]) pf = some (.lst vf) := by rw [upd_ne (ne_of hf8 hx8 (by intro z; cases z))]; exact hf8
      have PU9 : PlL (upd H8 x (.ins (He.ga K "Turn") dx [("_ahead", .int a), ("_used", .ref pu2)])) vu u := (PU7.same s8).keep (x := x) (tups8 _)
      have PF9 : PlL (upd H8 x (.ins (He.ga K "Turn") dx [("_ahead", .int a), ("_used", .ref pu2)])) vf f := (PF7.same s8).keep (x := x) (tups8 _)
      have k9 : ∀ b o, b ≠ x → H b = some o → upd H8 x (.ins (He.ga K "Turn") dx [("_ahead", .int a), ("_used", .ref pu2)]) b = some o := fun b o z e => by rw [upd_ne z]; exact s8 _ _ (k7 b o z e)
      generalize upd H8 x (.ins (He.ga K "Turn") dx [("_ahead", .int a), ("_used", .ref pu2)]) = H9 at a9 b9 c9 PU9 PF9 k9 ⊢
      walk_at "ss"
      rw [cut_to (by rw [lf]; exact gl)]
      refine r_newS fun pf2 H10 nf2 s10 e10 => ?_
      walk_at "ss"
      have hx10 := s10 _ _ a9
      refine r_st (gs := [("_ahead", .int a), ("_used", .ref pu2), ("_front", .ref pf2)]) hx10 cc n3 (by show 2 < 1000; decide) rfl ?_
      have tups10 : ∀ (o : List (Str × V)) b xs, H10 b = some (.tup xs) → upd H10 x (.ins (He.ga K "Turn") dx o) b = some (.tup xs) := fun o b xs h => by
        rw [upd_ne (ne_of h hx10 (by intro z; cases z))]
        exact h
      have PGf : PlL H10 (vf.take g.length) g := by
        have := (PF9.same s10).take g.length
        rw [efg, List.take_left] at this
        exact this
      walk_at "ss"
      refine r_st (gs := [("_ahead", .int a), ("_used", .ref pu2), ("_front", .ref pf2), ("_fresh", .int n')]) upd_same cc n4 (by show 3 < 1000; decide) rfl ?_
      rw [upd_upd]
      have a11 : upd H10 x (.ins (He.ga K "Turn") dx [("_ahead", .int a), ("_used", .ref pu2), ("_front", .ref pf2), ("_fresh", .int n')]) x = some (.ins (He.ga K "Turn") dx [("_ahead", .int a), ("_used", .ref pu2), ("_front", .ref pf2), ("_fresh", .int n')]) := upd_same
      have b11 : upd H10 x (.ins (He.ga K "Turn") dx [("_ahead", .int a), ("_used", .ref pu2), ("_front", .ref pf2), ("_fresh", .int n')]) pu2 = some (.lst vu) := by
        have := s10 _ _ b9
        rw [upd_ne (ne_of this hx10 (by intro z; cases z))]
        exact this
      have c11 : upd H10 x (.ins (He.ga K "Turn") dx [("_ahead", .int a), ("_used", .ref pu2), ("_front", .ref pf2), ("_fresh", .int n')]) pf2 = some (.lst (vf.take g.length)) := by rw [upd_ne (ne_of e10 hx10 (by intro z; cases z))]; exact e10
      have PU11 : PlL (upd H10 x (.ins (He.ga K "Turn") dx [("_ahead", .int a), ("_used", .ref pu2), ("_front", .ref pf2), ("_fresh", .int n')])) vu u := (PU9.same s10).keep (x := x) (tups10 _)
      have PF11 : PlL (upd H10 x (.ins (He.ga K "Turn") dx [("_ahead", .int a), ("_used", .ref pu2), ("_front", .ref pf2), ("_fresh", .int n')])) (vf.take g.length) g := PGf.keep (x := x) (tups10 _)
      have k11 : ∀ b o, b ≠ x → H b = some o → upd H10 x (.ins (He.ga K "Turn") dx [("_ahead", .int a), ("_used", .ref pu2), ("_front", .ref pf2), ("_fresh", .int n')]) b = some o := fun b o z e => by rw [upd_ne z]; exact s10 _ _ (k9 b o z e)
      generalize upd H10 x (.ins (He.ga K "Turn") dx [("_ahead", .int a), ("_used", .ref pu2), ("_front", .ref pf2), ("_fresh", .int n')]) = H11 at a11 b11 c11 PU11 PF11 k11 ⊢
      walk_at "ss"
      refine r_dnewT ?_
      refine r_newS (o := .dT []) fun pgd H12 ng s12' e12 => ?_
      walk_at "ss"
      have hx12 := s12' _ _ a11
      refine r_st (gs := [("_ahead", .int a), ("_used", .ref pu2), ("_front", .ref pf2), ("_fresh", .int n'), ("_goals", .ref pgd)]) hx12 cc n5 (by show 4 < 1000; decide) rfl ?_
      have tups12 : ∀ (o : List (Str × V)) b xs, H12 b = some (.tup xs) → upd H12 x (.ins (He.ga K "Turn") dx o) b = some (.tup xs) := fun o b xs h => by
        rw [upd_ne (ne_of h hx12 (by intro z; cases z))]
        exact h
      have a13 : upd H12 x (.ins (He.ga K "Turn") dx [("_ahead", .int a), ("_used", .ref pu2), ("_front", .ref pf2), ("_fresh", .int n'), ("_goals", .ref pgd)]) x = some (.ins (He.ga K "Turn") dx [("_ahead", .int a), ("_used", .ref pu2), ("_front", .ref pf2), ("_fresh", .int n'), ("_goals", .ref pgd)]) := upd_same
      have b13 : upd H12 x (.ins (He.ga K "Turn") dx [("_ahead", .int a), ("_used", .ref pu2), ("_front", .ref pf2), ("_fresh", .int n'), ("_goals", .ref pgd)]) pu2 = some (.lst vu) := by
        have := s12' _ _ b11
        rw [upd_ne (ne_of this hx12 (by intro z; cases z))]
        exact this
      have c13 : upd H12 x (.ins (He.ga K "Turn") dx [("_ahead", .int a), ("_used", .ref pu2), ("_front", .ref pf2), ("_fresh", .int n'), ("_goals", .ref pgd)]) pf2 = some (.lst (vf.take g.length)) := by
        have := s12' _ _ c11
        rw [upd_ne (ne_of this hx12 (by intro z; cases z))]
        exact this
      have d13 : upd H12 x (.ins (He.ga K "Turn") dx [("_ahead", .int a), ("_used", .ref pu2), ("_front", .ref pf2), ("_fresh", .int n'), ("_goals", .ref pgd)]) pgd = some (.dT []) := by rw [upd_ne (ne_of e12 hx12 (by intro z; cases z))]; exact e12
      have PU13 : PlL (upd H12 x (.ins (He.ga K "Turn") dx [("_ahead", .int a), ("_used", .ref pu2), ("_front", .ref pf2), ("_fresh", .int n'), ("_goals", .ref pgd)])) vu u := (PU11.same s12').keep (x := x) (tups12 _)
      have PF13 : PlL (upd H12 x (.ins (He.ga K "Turn") dx [("_ahead", .int a), ("_used", .ref pu2), ("_front", .ref pf2), ("_fresh", .int n'), ("_goals", .ref pgd)])) (vf.take g.length) g := (PF11.same s12').keep (x := x) (tups12 _)
      have k13 : ∀ b o, b ≠ x → H b = some o → upd H12 x (.ins (He.ga K "Turn") dx [("_ahead", .int a), ("_used", .ref pu2), ("_front", .ref pf2), ("_fresh", .int n'), ("_goals", .ref pgd)]) b = some o := fun b o z e => by rw [upd_ne z]; exact s12' _ _ (k11 b o z e)
      have ngx : ∀ b o, b ≠ x → H b = some o → b ≠ pgd := fun b o z e => ne_of_none (k11 b o z e) ng
      generalize upd H12 x (.ins (He.ga K "Turn") dx [("_ahead", .int a), ("_used", .ref pu2), ("_front", .ref pf2), ("_fresh", .int n'), ("_goals", .ref pgd)]) = H13 at a13 b13 c13 d13 PU13 PF13 k13 ⊢
      have nxg : x ≠ pgd := ne_of a13 d13 (by intro z; cases z)
      have nug : pu2 ≠ pgd := ne_of b13 d13 (by intro z; cases z)
      have nfg : pf2 ≠ pgd := ne_of c13 d13 (by intro z; cases z)
      have ntg : ∀ {H' : Hp} {b : Addr} {xs : List V} {kvs : List (List Key × V)}, H' b = some (.tup xs) → H' pgd = some (.dT kvs) → b ≠ pgd := fun h h2 => ne_of h h2 (by intro z; cases z)
      have ndg : (u ++ g).Nodup := pg.nd
      have tkg : (vf.take g.length).length = g.length := PF13.len
      walk_at "ss"
      refine r_forE (xs := vu) (fun i σ H' => ∃ (kvs : List (List Key × V)) (x6 x7 : Option V), σ = [some (.ref x), some (.ref pu), some (.ref pf), some (.int n'), some (.int g.length), x6, x7] ∧ But pgd H13 H' ∧ H' pgd = some (.dT kvs) ∧ GoA H' kvs (u.take i) [])
        ⟨[], _, _, rfl, But.refl pgd H13, d13, ⟨Nat.zero_le _, fun i p h => by simp at h, fun i p h => by simp at h, fun p _ _ => rfl⟩⟩ (fun i σ H' hi ⟨kvs, x6, x7, _, b, _⟩ => SqL.of (b pu2 _ nug b13)) ?_ ?_
      · rintro i v σ H14 T0 H15 hv ⟨kvs, x6, x7, rfl, b14, e14, G14⟩ hT0 s15 eT0
        obtain ⟨t, hi, rfl, ht⟩ := PU13.item hv
        have b15 : But pgd H13 H15 := b14.same s15
        have e15 := s15 _ _ e14
        have G15 := G14.same s15
        have a15 := b15 x _ nxg a13
        have ht15 := b15 t _ (fun e => by rw [e, d13] at ht; cases ht) ht
        walk_at "ss"
        refine r_newS fun w H16 nw s16 e16 => ?_
        have a16 := s16 _ _ a15
        walk_at "ss"
        have ht16 := s16 _ _ ht15
        have e16g := s16 _ _ e15
        refine r_dpT (k := (u[i]).key) e16g ht16 (by have := (G15.same s16).n; rw [List.length_take] at this; simp at this; omega) ?_
        have tk : u.take (i + 1) = u.take i ++ [u[i]] := by rw [List.take_add_one, List.getElem?_eq_getElem hi]; rfl
        have nin : u[i] ∉ u.take i := nin_take (List.nodup_append.mp ndg).1 hi
        have lti : (u.take i).length = i := by rw [List.length_take]; omega
        walk_at "ss"
        refine ⟨_, _, _, rfl, ?_, upd_same, ?_⟩
        · intro b o z e
          rw [upd_ne z]
          exact s16 _ _ (b15 b o z e)
        · rw [tk]
          refine ((G15.same s16).put (t := w) (fun b xs h => ?_) nin (by simp)).1 rfl ?_
          · rw [upd_ne (ntg h e16g)]
            exact h
          · rw [lti, upd_ne (ntg e16 e16g)]
            exact e16
      rintro σ H14 ⟨kvs, x6, x7, rfl, b14, e14, G14⟩
      rw [lu, List.take_length] at G14
      have a14 := b14 x _ nxg a13
      walk_at "ss"
      refine r_en (SqL.of (b14 pf2 _ nfg c13)) ?_
      refine r_forE (xs := vf.take g.length) (fun i σ H' => ∃ (kvs : List (List Key × V)) (x6 x7 : Option V), σ = [some (.ref x), some (.ref pu), some (.ref pf), some (.int n'), some (.int g.length), x6, x7] ∧ But pgd H13 H' ∧ H' pgd = some (.dT kvs) ∧ GoA H' kvs u (g.take i))
        ⟨kvs, _, _, rfl, b14, e14, G14⟩ (fun i σ H' hi ⟨kvs, x6, x7, _, b, _⟩ => SqL.of (b pf2 _ nfg c13)) ?_ ?_
      · rintro i v σ H14 T0 H15 hv ⟨kvs, x6, x7, rfl, b14, e14, G14⟩ hT0 s15 eT0
        obtain ⟨t, hi, rfl, ht⟩ := PF13.item hv
        have b15 : But pgd H13 H15 := b14.same s15
        have e15 := s15 _ _ e14
        have G15 := G14.same s15
        have a15 := b15 x _ nxg a13
        have ht15 := b15 t _ (fun e => by rw [e, d13] at ht; cases ht) ht
        walk_at "ss"
        refine r_newS fun w H16 nw s16 e16 => ?_
        have a16 := s16 _ _ a15
        walk_at "ss"
        have ht16 := s16 _ _ ht15
        have e16g := s16 _ _ e15
        refine r_dpT (k := (g[i]).key) e16g ht16 (by have := (G15.same s16).n; rw [List.length_take] at this; omega) ?_
        have tk : g.take (i + 1) = g.take i ++ [g[i]] := by rw [List.take_add_one, List.getElem?_eq_getElem hi]; rfl
        have nin : g[i] ∉ g.take i := nin_take (List.nodup_append.mp ndg).2.1 hi
        have nin2 : g[i] ∉ u := fun h => (List.nodup_append.mp ndg).2.2 _ h _ (List.getElem_mem hi) rfl
        have lti : (g.take i).length = i := by rw [List.length_take]; omega
        walk_at "ss"
        refine ⟨_, _, _, rfl, ?_, upd_same, ?_⟩
        · intro b o z e
          rw [upd_ne z]
          exact s16 _ _ (b15 b o z e)
        · rw [tk]
          refine ((G15.same s16).put (t := w) (fun b xs h => ?_) nin2 nin).2 ?_
          · rw [upd_ne (ntg h e16g)]
            exact h
          · rw [lti, upd_ne (ntg e16 e16g)]
            exact e16
      rintro σ H17 ⟨kvs, x6, x7, rfl, b17, e17, G17⟩
      rw [tkg, List.take_length] at G17
      walk_at "ss"
      have PU17 : PlL H17 vu u := PU13.keep (x := x) fun b xs h => b17 b _ (fun e => by rw [e, d13] at h; cases h) h
      have PF17 : PlL H17 (vf.take g.length) g := PF13.keep (x := x) fun b xs h => b17 b _ (fun e => by rw [e, d13] at h; cases h) h
      refine q ⟨u, g, n', a⟩ H17 ⟨pg, can⟩ rfl rfl org gl nle (fun b o z e => b17 b o (ngx b o z e) (k13 b o z e)) ⟨⟨pg, can⟩, dx, pu2, pf2, pgd, vu, vf.take g.length, kvs, b17 _ _ nxg a13, b17 _ _ nug b13, PU17, b17 _ _ nfg c13, PF17, e17, G17⟩ fun l ws hl H2 b2 => ?_
      have nlx : l ≠ x := ne_of hl hx (by intro z; cases z)
      exact turn_but (T := ⟨u, g, n', a⟩) ⟨pg, can⟩ (b17 _ _ nxg a13) (b17 _ _ nug b13) PU17 (b17 _ _ nfg c13) PF17 e17 G17 (b17 _ _ (ngx _ _ nlx hl) (k13 _ _ nlx hl)) (ne_of_none (k7 _ _ nlx hl) nu2).symm (ne_of_none (k9 _ _ nlx hl) nf2).symm b2
theorem ok_Turn___eq__ {P : Program} {w : World} {K : PySem.W.Frag} {mg : Str → Option Value} {base : Heap} {f : Addr} {fd : FuncData} (F : FunD K "__eq__" "Turn.__eq__" (defArgs s_Turn___eq__) (defBody s_Turn___eq__) (defScope s_Turn___eq__) [] [] f fd) (a_Turn__fresh : NoAttr K (He.ga K "Turn") "_fresh") (a_Turn__front : NoAttr K (He.ga K "Turn") "_front") (a_Turn__used : NoAttr K (He.ga K "Turn") "_used") (c_Turn : Cls K (He.ga K "Turn")) (i_Turn : Kr.InsI K (He.ga K "Turn")) (k_Turn : mg "Turn" = some (.ref (He.ga K "Turn"))) (n_isinstance : mg "isinstance" = none) : FnOk P w K mg base CX0 1 f fd ["self", "other"] (sp_Turn___eq__ K) := by
  refine F.ok sc_Turn___eq__ (fun vs H Q E h => by first | (obtain ⟨rfl, _⟩ := h; rfl) | (obtain ⟨_, rfl, _⟩ := h; rfl) | (obtain ⟨_, _, rfl, _⟩ := h; rfl) | (obtain ⟨_, _, _, rfl, _⟩ := h; rfl) | (obtain ⟨_, _, _, _, rfl, _⟩ := h; rfl) | (obtain ⟨_, _, _, _, _, rfl, _⟩ := h; rfl) | (obtain ⟨_, _, _, _, _, _, rfl, _⟩ := h; rfl) | (obtain ⟨_, _, _, _, _, _, _, rfl, _⟩ := h; rfl) | (obtain ⟨_, _, _, _, _, _, _, _, rfl, _⟩ := h; rfl) | (obtain ⟨_, _, _, _, _, _, _, _, _, rfl, _⟩ := h; rfl) | (obtain ⟨_, _, _, _, _, _, _, _, _, _, rfl, _⟩ := h; rfl) | (obtain ⟨_, _, _, _, _, _, _, _, _, _, _, rfl, _⟩ := h; rfl) | (obtain ⟨_, _, _, _, _, _, _, _, _, _, _, _, rfl, _⟩ := h; rfl) | (obtain ⟨_, _, _, _, _, _, _, _, _, _, _, _, _, rfl, _⟩ := h; rfl) | (obtain ⟨_, _, _, _, _, _, _, _, _, _, _, _, _, _, rfl, _⟩ := h; rfl) | (obtain ⟨_, _, _, _, _, _, _, _, _, _, _, _, _, _, _, rfl, _⟩ := h; rfl) | (obtain ⟨_, _, _, _, _, _, _, _, _, _, _, _, _, _, _, _, rfl, _⟩ := h; rfl) | (obtain ⟨_, _, _, _, _, _, _, _, _, _, _, _, _, _, _, _, _, rfl, _⟩ := h; rfl)) (fun cdv A outer s H vs Q E hr h => ?_)
  · have hu := hu_of hr
    obtain ⟨x, y, S, T, rfl, ⟨-, dx, pu, pf, pg, vu, vf, kvs, h1, h2, h3, h4, h5, h6, h7⟩, ⟨-, dy, qu, qf, qg, wu, wf, kws, g1, g2, g3, g4, g5, g6, g7⟩, q⟩ := h
    have cc := c_Turn
    have n2 := a_Turn__used
    have n3 := a_Turn__front
    have n4 := a_Turn__fresh
    refine ⟨_, PSs.nox (pss_one (ps_ret (pe_and (pe_callB (id := "isinstance") call_isi rfl n_isinstance (by decide +kernel) (pa_cons (pv 1) (pa_cons (Kr.pe_gcls k_Turn) pa_nil))) (pe_and (pe_cmpR (op_eqD hr.units) (pe_fld (pv 0) rfl) (pe_fld (pv 1) rfl) (nomark _)) (pe_and (pe_cmpR (op_eqD hr.units) (pe_fld (pv 0) rfl) (pe_fld (pv 1) rfl) (nomark _)) (pe_one (pe_cmpR op_eq (pe_fld (pv 0) rfl) (pe_fld (pv 1) rfl) (nomark _)))))))), ?_⟩
    rw [st_Turn___eq__]
    walk_at "ss"
    refine r_isiC i_Turn g1 ?_
    walk_at "ss"
    refine r_eqPls h2 h3 g2 g3 ?_
    walk_at "ss"
    refine r_dec (fun e1 => ?_) fun e1 => ?_
    rotate_left
    · rw [show (false : Bool) = decide (S.u = T.u ∧ S.f = T.f ∧ S.n = T.n) by simp [e1]]
      exact q
    walk_at "ss"
    refine r_eqPls h4 h5 g4 g5 ?_
    walk_at "ss"
    refine r_dec (fun e2 => ?_) fun e2 => ?_
    rotate_left
    · rw [show (false : Bool) = decide (S.u = T.u ∧ S.f = T.f ∧ S.n = T.n) by simp [e2]]
      exact q
    walk_at "ss"
    have e : decide ((S.n : Int) = (T.n : Int)) = decide (S.u = T.u ∧ S.f = T.f ∧ S.n = T.n) := by
      by_cases h : S.n = T.n
      · simp [e1, e2, h]
      · have h' : ¬ ((S.n : Int) = (T.n : Int)) := by omega
        simp [h, h']
    rw [e]
    exact q
theorem ok_Turn_used {P : Program} {w : World} {K : PySem.W.Frag} {mg : Str → Option Value} {base : Heap} {f : Addr} {fd : FuncData} (F : FunD K "used" "Turn.used" (defArgs s_Turn_used) (defBody s_Turn_used) (defScope s_Turn_used) [] [] f fd) (a_Turn__used : NoAttr K (He.ga K "Turn") "_used") (c_Turn : Cls K (He.ga K "Turn")) (n_list : mg "list" = none) : FnOk P w K mg base CX0 1 f fd ["self"] (sp_Turn_used K) := by
  refine F.ok sc_Turn_used (fun vs H Q E h => by first | (obtain ⟨rfl, _⟩ := h; rfl) | (obtain ⟨_, rfl, _⟩ := h; rfl) | (obtain ⟨_, _, rfl, _⟩ := h; rfl) | (obtain ⟨_, _, _, rfl, _⟩ := h; rfl) | (obtain ⟨_, _, _, _, rfl, _⟩ := h; rfl) | (obtain ⟨_, _, _, _, _, rfl, _⟩ := h; rfl) | (obtain ⟨_, _, _, _, _, _, rfl, _⟩ := h; rfl) | (obtain ⟨_, _, _, _, _, _, _, rfl, _⟩ := h; rfl) | (obtain ⟨_, _, _, _, _, _, _, _, rfl, _⟩ := h; rfl) | (obtain ⟨_, _, _, _, _, _, _, _, _, rfl, _⟩ := h; rfl) | (obtain ⟨_, _, _, _, _, _, _, _, _, _, rfl, _⟩ := h; rfl) | (obtain ⟨_, _, _, _, _, _, _, _, _, _, _, rfl, _⟩ := h; rfl) | (obtain ⟨_, _, _, _, _, _, _, _, _, _, _, _, rfl, _⟩ := h; rfl) | (obtain ⟨_, _, _, _, _, _, _, _, _, _, _, _, _, rfl, _⟩ := h; rfl) | (obtain ⟨_, _, _, _, _, _, _, _, _, _, _, _, _, _, rfl, _⟩ := h; rfl) | (obtain ⟨_, _, _, _, _, _, _, _, _, _, _, _, _, _, _, rfl, _⟩ := h; rfl) | (obtain ⟨_, _, _, _, _, _, _, _, _, _, _, _, _, _, _, _, rfl, _⟩ := h; rfl) | (obtain ⟨_, _, _, _, _, _, _, _, _, _, _, _, _, _, _, _, _, rfl, _⟩ := h; rfl)) (fun cdv A outer s H vs Q E hr h => ?_)
  · have hu := hu_of hr
    obtain ⟨x, T, rfl, ⟨-, dx, pu, pf, pg, vu, vf, kvs, h1, h2, h3, h4, h5, h6, h7⟩, q⟩ := h
    have cc := c_Turn
    have n2 := a_Turn__used
    refine ⟨_, PSs.nox (pss_one (ps_ret (pe_callTy (T := "list") Kr.c_list rfl n_list (by decide +kernel) (pa_cons (pe_fld (pv 0) rfl) pa_nil)))), ?_⟩
    rw [st_Turn_used]
    walk_at "ss"
    exact r_newS fun l H' hl s e => q l vu H' s hl e (h3.same s)
theorem ok_Turn_front {P : Program} {w : World} {K : PySem.W.Frag} {mg : Str → Option Value} {base : Heap} {f : Addr} {fd : FuncData} (F : FunD K "front" "Turn.front" (defArgs s_Turn_front) (defBody s_Turn_front) (defScope s_Turn_front) [] [] f fd) (a_Turn__front : NoAttr K (He.ga K "Turn") "_front") (c_Turn : Cls K (He.ga K "Turn")) (n_list : mg "list" = none) : FnOk P w K mg base CX0 1 f fd ["self"] (sp_Turn_front K) := by
  refine F.ok sc_Turn_front (fun vs H Q E h => by first | (obtain ⟨rfl, _⟩ := h; rfl) | (obtain ⟨_, rfl, _⟩ := h; rfl) | (obtain ⟨_, _, rfl, _⟩ := h; rfl) | (obtain ⟨_, _, _, rfl, _⟩ := h; rfl) | (obtain ⟨_, _, _, _, rfl, _⟩ := h; rfl) | (obtain ⟨_, _, _, _, _, rfl, _⟩ := h; rfl) | (obtain ⟨_, _, _, _, _, _, rfl, _⟩ := h; rfl) | (obtain ⟨_, _, _, _, _, _, _, rfl, _⟩ := h; rfl) | (obtain ⟨_, _, _, _, _, _, _, _, rfl, _⟩ := h; rfl) | (obtain ⟨_, _, _, _, _, _, _, _, _, rfl, _⟩ := h; rfl) | (obtain ⟨_, _, _, _, _, _, _, _, _, _, rfl, _⟩ := h; rfl) | (obtain ⟨_, _, _, _, _, _, _, _, _, _, _, rfl, _⟩ := h; rfl) | (obtain ⟨_, _, _, _, _, _, _, _, _, _, _, _, rfl, _⟩ := h; rfl) | (obtain ⟨_, _, _, _, _, _, _, _, _, _, _, _, _, rfl, _⟩ := h; rfl) | (obtain ⟨_, _, _, _, _, _, _, _, _, _, _, _, _, _, rfl, _⟩ := h; rfl) | (obtain ⟨_, _, _, _, _, _, _, _, _, _, _, _, _, _, _, rfl, _⟩ := h; rfl) | (obtain ⟨_, _, _, _, _, _, _, _, _, _, _, _, _, _, _, _, rfl, _⟩ := h; rfl) | (obtain ⟨_, _, _, _, _, _, _, _, _, _, _, _, _, _, _, _, _, rfl, _⟩ := h; rfl)) (fun cdv A outer s H vs Q E hr h => ?_)
  · have hu := hu_of hr
    obtain ⟨x, T, rfl, ⟨-, dx, pu, pf, pg, vu, vf, kvs, h1, h2, h3, h4, h5, h6, h7⟩, q⟩ := h
    have cc := c_Turn
    have n3 := a_Turn__front
    refine ⟨_, PSs.nox (pss_one (ps_ret (pe_callTy (T := "list") Kr.c_list rfl n_list (by decide +kernel) (pa_cons (pe_fld (pv 0) rfl) pa_nil)))), ?_⟩
    rw [st_Turn_front]
    walk_at "ss"
    exact r_newS fun l H' hl s e => q l vf H' s hl e (h5.same s)
theorem ok_Turn_fresh {P : Program} {w : World} {K : PySem.W.Frag} {mg : Str → Option Value} {base : Heap} {f : Addr} {fd : FuncData} (F : FunD K "fresh" "Turn.fresh" (defArgs s_Turn_fresh) (defBody s_Turn_fresh) (defScope s_Turn_fresh) [] [] f fd) (a_Turn__fresh : NoAttr K (He.ga K "Turn") "_fresh") (c_Turn : Cls K (He.ga K "Turn")) : FnOk P w K mg base CX0 1 f fd ["self"] (sp_Turn_fresh K) := by
  refine F.ok sc_Turn_fresh (fun vs H Q E h => by first | (obtain ⟨rfl, _⟩ := h; rfl) | (obtain ⟨_, rfl, _⟩ := h; rfl) | (obtain ⟨_, _, rfl, _⟩ := h; rfl) | (obtain ⟨_, _, _, rfl, _⟩ := h; rfl) | (obtain ⟨_, _, _, _, rfl, _⟩ := h; rfl) | (obtain ⟨_, _, _, _, _, rfl, _⟩ := h; rfl) | (obtain ⟨_, _, _, _, _, _, rfl, _⟩ := h; rfl) | (obtain ⟨_, _, _, _, _, _, _, rfl, _⟩ := h; rfl) | (obtain ⟨_, _, _, _, _, _, _, _, rfl, _⟩ := h; rfl) | (obtain ⟨_, _, _, _, _, _, _, _, _, rfl, _⟩ := h; rfl) | (obtain ⟨_, _, _, _, _, _, _, _, _, _, rfl, _⟩ := h; rfl) | (obtain ⟨_, _, _, _, _, _, _, _, _, _, _, rfl, _⟩ := h; rfl) | (obtain ⟨_, _, _, _, _, _, _, _, _, _, _, _, rfl, _⟩ := h; rfl) | (obtain ⟨_, _, _, _, _, _, _, _, _, _, _, _, _, rfl, _⟩ := h; rfl) | (obtain ⟨_, _, _, _, _, _, _, _, _, _, _, _, _, _, rfl, _⟩ := h; rfl) | (obtain ⟨_, _, _, _, _, _, _, _, _, _, _, _, _, _, _, rfl, _⟩ := h; rfl) | (obtain ⟨_, _, _, _, _, _, _, _, _, _, _, _, _, _, _, _, rfl, _⟩ := h; rfl) | (obtain ⟨_, _, _, _, _, _, _, _, _, _, _, _, _, _, _, _, _, rfl, _⟩ := h; rfl)) (fun cdv A outer s H vs Q E hr h => ?_)
  · have hu := hu_of hr
    obtain ⟨x, T, rfl, ⟨-, dx, pu, pf, pg, vu, vf, kvs, h1, h2, h3, h4, h5, h6, h7⟩, q⟩ := h
    have cc := c_Turn
    have n4 := a_Turn__fresh
    refine ⟨_, PSs.nox (pss_one (ps_ret (pe_fld (pv 0) rfl))), ?_⟩
    rw [st_Turn_fresh]
    walk_at "ss"
    exact q
theorem ok_Turn_ahead {P : Program} {w : World} {K : PySem.W.Frag} {mg : Str → Option Value} {base : Heap} {f : Addr} {fd : FuncData} (F : FunD K "ahead" "Turn.ahead" (defArgs s_Turn_ahead) (defBody s_Turn_ahead) (defScope s_Turn_ahead) [] [] f fd) (a_Turn__ahead : NoAttr K (He.ga K "Turn") "_ahead") (c_Turn : Cls K (He.ga K "Turn")) : FnOk P w K mg base CX0 1 f fd ["self"] (sp_Turn_ahead K) := by
  refine F.ok sc_Turn_ahead (fun vs H Q E h => by first | (obtain ⟨rfl, _⟩ := h; rfl) | (obtain ⟨_, rfl, _⟩ := h; rfl) | (obtain ⟨_, _, rfl, _⟩ := h; rfl) | (obtain ⟨_, _, _, rfl, _⟩ := h; rfl) | (obtain ⟨_, _, _, _, rfl, _⟩ := h; rfl) | (obtain ⟨_, _, _, _, _, rfl, _⟩ := h; rfl) | (obtain ⟨_, _, _, _, _, _, rfl, _⟩ := h; rfl) | (obtain ⟨_, _, _, _, _, _, _, rfl, _⟩ := h; rfl) | (obtain ⟨_, _, _, _, _, _, _, _, rfl, _⟩ := h; rfl) | (obtain ⟨_, _, _, _, _, _, _, _, _, rfl, _⟩ := h; rfl) | (obtain ⟨_, _, _, _, _, _, _, _, _, _, rfl, _⟩ := h; rfl) | (obtain ⟨_, _, _, _, _, _, _, _, _, _, _, rfl, _⟩ := h; rfl) | (obtain ⟨_, _, _, _, _, _, _, _, _, _, _, _, rfl, _⟩ := h; rfl) | (obtain ⟨_, _, _, _, _, _, _, _, _, _, _, _, _, rfl, _⟩ := h; rfl) | (obtain ⟨_, _, _, _, _, _, _, _, _, _, _, _, _, _, rfl, _⟩ := h; rfl) | (obtain ⟨_, _, _, _, _, _, _, _, _, _, _, _, _, _, _, rfl, _⟩ := h; rfl) | (obtain ⟨_, _, _, _, _, _, _, _, _, _, _, _, _, _, _, _, rfl, _⟩ := h; rfl) | (obtain ⟨_, _, _, _, _, _, _, _, _, _, _, _, _, _, _, _, _, rfl, _⟩ := h; rfl)) (fun cdv A outer s H vs Q E hr h => ?_)
  · have hu := hu_of hr
    obtain ⟨x, T, rfl, ⟨-, dx, pu, pf, pg, vu, vf, kvs, h1, h2, h3, h4, h5, h6, h7⟩, q⟩ := h
    have cc := c_Turn
    have n1 := a_Turn__ahead
    refine ⟨_, PSs.nox (pss_one (ps_ret (pe_fld (pv 0) rfl))), ?_⟩
    rw [st_Turn_ahead]
    walk_at "ss"
    exact q
theorem ok_Turn_behind {P : Program} {w : World} {K : PySem.W.Frag} {mg : Str → Option Value} {base : Heap} {f : Addr} {fd : FuncData} (F : FunD K "behind" "Turn.behind" (defArgs s_Turn_behind) (defBody s_Turn_behind) (defScope s_Turn_behind) [] [] f fd) (a_Turn__used : NoAttr K (He.ga K "Turn") "_used") (c_Turn : Cls K (He.ga K "Turn")) (n_len : mg "len" = none) : FnOk P w K mg base CX0 1 f fd ["self"] (sp_Turn_behind K) := by
  refine F.ok sc_Turn_behind (fun vs H Q E h => by first | (obtain ⟨rfl, _⟩ := h; rfl) | (obtain ⟨_, rfl, _⟩ := h; rfl) | (obtain ⟨_, _, rfl, _⟩ := h; rfl) | (obtain ⟨_, _, _, rfl, _⟩ := h; rfl) | (obtain ⟨_, _, _, _, rfl, _⟩ := h; rfl) | (obtain ⟨_, _, _, _, _, rfl, _⟩ := h; rfl) | (obtain ⟨_, _, _, _, _, _, rfl, _⟩ := h; rfl) | (obtain ⟨_, _, _, _, _, _, _, rfl, _⟩ := h; rfl) | (obtain ⟨_, _, _, _, _, _, _, _, rfl, _⟩ := h; rfl) | (obtain ⟨_, _, _, _, _, _, _, _, _, rfl, _⟩ := h; rfl) | (obtain ⟨_, _, _, _, _, _, _, _, _, _, rfl, _⟩ := h; rfl) | (obtain ⟨_, _, _, _, _, _, _, _, _, _, _, rfl, _⟩ := h; rfl) | (obtain ⟨_, _, _, _, _, _, _, _, _, _, _, _, rfl, _⟩ := h; rfl) | (obtain ⟨_, _, _, _, _, _, _, _, _, _, _, _, _, rfl, _⟩ := h; rfl) | (obtain ⟨_, _, _, _, _, _, _, _, _, _, _, _, _, _, rfl, _⟩ := h; rfl) | (obtain ⟨_, _, _, _, _, _, _, _, _, _, _, _, _, _, _, rfl, _⟩ := h; rfl) | (obtain ⟨_, _, _, _, _, _, _, _, _, _, _, _, _, _, _, _, rfl, _⟩ := h; rfl) | (obtain ⟨_, _, _, _, _, _, _, _, _, _, _, _, _, _, _, _, _, rfl, _⟩ := h; rfl)) (fun cdv A outer s H vs Q E hr h => ?_)
  · have hu := hu_of hr
    obtain ⟨x, T, rfl, ⟨-, dx, pu, pf, pg, vu, vf, kvs, h1, h2, h3, h4, h5, h6, h7⟩, q⟩ := h
    have cc := c_Turn
    have n2 := a_Turn__used
    refine ⟨_, PSs.nox (pss_one (ps_ret (pe_callB (id := "len") Kr.c_len rfl n_len (by decide +kernel) (pa_cons (pe_fld (pv 0) rfl) pa_nil)))), ?_⟩
    rw [st_Turn_behind]
    walk_at "ss"
    rw [h3.len]
    exact q
theorem ok_Turn_origin {P : Program} {w : World} {K : PySem.W.Frag} {mg : Str → Option Value} {base : Heap} {f : Addr} {fd : FuncData} (F : FunD K "origin" "Turn.origin" (defArgs s_Turn_origin) (defBody s_Turn_origin) (defScope s_Turn_origin) [] [] f fd) (a_Turn__fresh : NoAttr K (He.ga K "Turn") "_fresh") (a_Turn__front : NoAttr K (He.ga K "Turn") "_front") (a_Turn__used : NoAttr K (He.ga K "Turn") "_used") (c_Turn : Cls K (He.ga K "Turn")) (h_is_place_among : Kr.FnH P w K mg base CX0 3 "is_place_among" ["place", "many"] (sp_is_place_among K)) (n_len : mg "len" = none) : FnOk P w K mg base CX0 4 f fd ["self", "place"] (sp_Turn_origin K) := by
  refine F.ok sc_Turn_origin (fun vs H Q E h => by first | (obtain ⟨rfl, _⟩ := h; rfl) | (obtain ⟨_, rfl, _⟩ := h; rfl) | (obtain ⟨_, _, rfl, _⟩ := h; rfl) | (obtain ⟨_, _, _, rfl, _⟩ := h; rfl) | (obtain ⟨_, _, _, _, rfl, _⟩ := h; rfl) | (obtain ⟨_, _, _, _, _, rfl, _⟩ := h; rfl) | (obtain ⟨_, _, _, _, _, _, rfl, _⟩ := h; rfl) | (obtain ⟨_, _, _, _, _, _, _, rfl, _⟩ := h; rfl) | (obtain ⟨_, _, _, _, _, _, _, _, rfl, _⟩ := h; rfl) | (obtain ⟨_, _, _, _, _, _, _, _, _, rfl, _⟩ := h; rfl) | (obtain ⟨_, _, _, _, _, _, _, _, _, _, rfl, _⟩ := h; rfl) | (obtain ⟨_, _, _, _, _, _, _, _, _, _, _, rfl, _⟩ := h; rfl) | (obtain ⟨_, _, _, _, _, _, _, _, _, _, _, _, rfl, _⟩ := h; rfl) | (obtain ⟨_, _, _, _, _, _, _, _, _, _, _, _, _, rfl, _⟩ := h; rfl) | (obtain ⟨_, _, _, _, _, _, _, _, _, _, _, _, _, _, rfl, _⟩ := h; rfl) | (obtain ⟨_, _, _, _, _, _, _, _, _, _, _, _, _, _, _, rfl, _⟩ := h; rfl) | (obtain ⟨_, _, _, _, _, _, _, _, _, _, _, _, _, _, _, _, rfl, _⟩ := h; rfl) | (obtain ⟨_, _, _, _, _, _, _, _, _, _, _, _, _, _, _, _, _, rfl, _⟩ := h; rfl)) (fun cdv A outer s H vs Q E hr h => ?_)
  · have hu := hu_of hr
    obtain ⟨x, t, T, p, rfl, ⟨-, dx, pu, pf, pg, vu, vf, kvs, h1, h2, h3, h4, h5, h6, h7⟩, ht, v, q⟩ := h
    have cc := c_Turn
    have n2 := a_Turn__used
    have n3 := a_Turn__front
    have n4 := a_Turn__fresh
    refine ⟨_, PSs.nox (pss_cons (ps_if (pt_not (pt_val (Kr.pe_cl h_is_place_among (hr.mono (by decide)) (pa_cons (pv 1) (pa_cons (pe_callB (id := "len") Kr.c_len rfl n_len (by decide +kernel) (pa_cons (pe_fld (pv 0) rfl) pa_nil)) pa_nil))))) (pss_one ps_never) pss_nil) (pss_cons (ps_asg (pv 1) (pg_tup rfl (pgs_cons (pg_name (i := 2) sc_Turn_origin.nd rfl (.inl rfl)) (pgs_cons (pg_name (i := 3) sc_Turn_origin.nd rfl (.inl rfl)) pgs_nil)))) (pss_cons (ps_if (pt_cmpR op_eq (pv 2) pe_str (nomark _)) (pss_one (ps_ret (pe_ix ix_list (pe_fld (pv 0) rfl) (pv 3) (fun _ _ => rfl)))) pss_nil) (pss_cons (ps_if (pt_cmpR op_lt (pv 3) (pe_callB (id := "len") Kr.c_len rfl n_len (by decide +kernel) (pa_cons (pe_fld (pv 0) rfl) pa_nil)) (nomark _)) (pss_one (ps_ret (pe_ix ix_list (pe_fld (pv 0) rfl) (pv 3) (fun _ _ => rfl)))) pss_nil) (pss_one (ps_ret (pe_tup (pa_cons pe_str (pa_cons (pe_op op_add (pe_op op_sub (pv 3) (pe_callB (id := "len") Kr.c_len rfl n_len (by decide +kernel) (pa_cons (pe_fld (pv 0) rfl) pa_nil))) (pe_fld (pv 0) rfl)) pa_nil))))))))), ?_⟩
    rw [st_Turn_origin]
    walk_at "ss"
    refine ⟨t, p, _, rfl, ht, by rw [h3.len]; exact v, fun H1 s1 => ?_⟩
    have ht1 := s1 _ _ ht
    have i1 := s1 _ _ h1
    have i2 := s1 _ _ h2
    have i4 := s1 _ _ h4
    have i3 := h3.same s1
    have i5 := h5.same s1
    walk_at "ss"
    cases p with
    | use k =>
      have hk : k < T.u.length := v
      rw [show decide ((Pl.use k).w = "use") = true from decide_eq_true rfl]
      walk_at "ss"
      obtain ⟨t', a1, a2⟩ := i3.get hk
      refine r_ixL (SqL.of i2) (at_of rfl a1) ?_
      refine q t' H1 s1 ?_
      rw [Tn.or_use hk]
      exact a2
    | lst k =>
      rw [show decide ((Pl.lst k).w = "use") = false from by show decide (("list" : Str) = "use") = false; decide +kernel]
      walk_at "ss"
      rw [i5.len]
      refine r_dec (fun hlt => ?_) fun hge => ?_
      · have hk : k < T.f.length := Int.ofNat_lt.mp hlt
        walk_at "ss"
        obtain ⟨t', a1, a2⟩ := i5.get hk
        refine r_ixL (SqL.of i4) (at_of rfl a1) ?_
        refine q t' H1 s1 ?_
        rw [Tn.or_frn hk]
        exact a2
      · have hk : T.f.length ≤ k := Nat.le_of_not_lt fun h => hge (Int.ofNat_lt.mpr h)
        walk_at "ss"
        rw [i5.len]
        refine r_newS fun t' H2 n s2 e2 => ?_
        refine q t' H2 (s1.trans s2) ?_
        rw [Tn.or_bck hk, e2]
        show some (HO.tup [.str "list", .int ((k : Int) - (T.f.length : Int) + (T.n : Int))]) = some (HO.tup [.str "list", .int ((k - T.f.length + T.n : Nat) : Int)])
        rw [show (k : Int) - (T.f.length : Int) + (T.n : Int) = ((k - T.f.length + T.n : Nat) : Int) by omega]
theorem ok_Turn_goal {P : Program} {w : World} {K : PySem.W.Frag} {mg : Str → Option Value} {base : Heap} {f : Addr} {fd : FuncData} (F : FunD K "goal" "Turn.goal" (defArgs s_Turn_goal) (defBody s_Turn_goal) (defScope s_Turn_goal) [] [] f fd) (a_Turn__ahead : NoAttr K (He.ga K "Turn") "_ahead") (a_Turn__fresh : NoAttr K (He.ga K "Turn") "_fresh") (a_Turn__front : NoAttr K (He.ga K "Turn") "_front") (a_Turn__goals : NoAttr K (He.ga K "Turn") "_goals") (c_Turn : Cls K (He.ga K "Turn")) (h_is_place_among : Kr.FnH P w K mg base CX0 3 "is_place_among" ["place", "many"] (sp_is_place_among K)) (n_len : mg "len" = none) : FnOk P w K mg base CX0 4 f fd ["self", "place"] (sp_Turn_goal K) := by
  refine F.ok sc_Turn_goal (fun vs H Q E h => by first | (obtain ⟨rfl, _⟩ := h; rfl) | (obtain ⟨_, rfl, _⟩ := h; rfl) | (obtain ⟨_, _, rfl, _⟩ := h; rfl) | (obtain ⟨_, _, _, rfl, _⟩ := h; rfl) | (obtain ⟨_, _, _, _, rfl, _⟩ := h; rfl) | (obtain ⟨_, _, _, _, _, rfl, _⟩ := h; rfl) | (obtain ⟨_, _, _, _, _, _, rfl, _⟩ := h; rfl) | (obtain ⟨_, _, _, _, _, _, _, rfl, _⟩ := h; rfl) | (obtain ⟨_, _, _, _, _, _, _, _, rfl, _⟩ := h; rfl) | (obtain ⟨_, _, _, _, _, _, _, _, _, rfl, _⟩ := h; rfl) | (obtain ⟨_, _, _, _, _, _, _, _, _, _, rfl, _⟩ := h; rfl) | (obtain ⟨_, _, _, _, _, _, _, _, _, _, _, rfl, _⟩ := h; rfl) | (obtain ⟨_, _, _, _, _, _, _, _, _, _, _, _, rfl, _⟩ := h; rfl) | (obtain ⟨_, _, _, _, _, _, _, _, _, _, _, _, _, rfl, _⟩ := h; rfl) | (obtain ⟨_, _, _, _, _, _, _, _, _, _, _, _, _, _, rfl, _⟩ := h; rfl) | (obtain ⟨_, _, _, _, _, _, _, _, _, _, _, _, _, _, _, rfl, _⟩ := h; rfl) | (obtain ⟨_, _, _, _, _, _, _, _, _, _, _, _, _, _, _, _, rfl, _⟩ := h; rfl) | (obtain ⟨_, _, _, _, _, _, _, _, _, _, _, _, _, _, _, _, _, rfl, _⟩ := h; rfl)) (fun cdv A outer s H vs Q E hr h => ?_)
  · have hu := hu_of hr
    obtain ⟨x, t, T, p, rfl, ⟨ok, dx, pu, pf, pg, vu, vf, kvs, h1, h2, h3, h4, h5, h6, h7⟩, ht, v, q⟩ := h
    have cc := c_Turn
    have n1 := a_Turn__ahead
    have n3 := a_Turn__front
    have n4 := a_Turn__fresh
    have n5 := a_Turn__goals
    refine ⟨_, PSs.nox (pss_cons (ps_if (pt_not (pt_val (Kr.pe_cl h_is_place_among (hr.mono (by decide)) (pa_cons (pv 1) (pa_cons (pe_fld (pv 0) rfl) pa_nil))))) (pss_one ps_never) pss_nil) (pss_cons (ps_if (pt_cmp (pc_din hu (pv 1) (pe_fld (pv 0) rfl))) (pss_one (ps_ret (pe_dget hu (pe_fld (pv 0) rfl) (pv 1) (fun _ _ => rfl)))) pss_nil) (pss_one (ps_ret (pe_tup (pa_cons pe_str (pa_cons (pe_op op_add (pe_op op_sub (pe_ix ix_tup (pv 1) pe_int (fun _ _ => rfl)) (pe_fld (pv 0) rfl)) (pe_callB (id := "len") Kr.c_len rfl n_len (by decide +kernel) (pa_cons (pe_fld (pv 0) rfl) pa_nil))) pa_nil))))))), ?_⟩
    rw [st_Turn_goal]
    walk_at "ss"
    refine ⟨t, p, _, rfl, ht, v, fun H1 s1 => ?_⟩
    have ht1 := s1 _ _ ht
    have i1 := s1 _ _ h1
    have i4 := s1 _ _ h4
    have i6 := s1 _ _ h6
    have i7 := h7.same s1
    walk_at "ss"
    refine r_dkT (k := p.key) i6 ht1 ?_
    rcases ok.toPm.cases v with ⟨k, hk, e⟩ | ⟨k, hk, e⟩ | ⟨k, rfl, hk⟩
    · obtain ⟨t', a1, a2⟩ := i7.gu k p e
      rw [a1]
      walk_at "ss"
      refine iteT ?_
      walk_at "ss"
      refine r_dgT (k := p.key) i6 ht1 a1 ?_
      refine q t' (.use k) H1 s1 hk ?_ a2
      rw [Tn.or_use hk]
      rw [List.getElem?_eq_getElem hk] at e
      exact Option.some.inj e
    · obtain ⟨t', a1, a2⟩ := i7.gf k p e
      rw [a1]
      walk_at "ss"
      refine iteT ?_
      walk_at "ss"
      refine r_dgT (k := p.key) i6 ht1 a1 ?_
      refine q t' (.lst k) H1 s1 trivial ?_ a2
      rw [Tn.or_frn hk]
      rw [List.getElem?_eq_getElem hk] at e
      exact Option.some.inj e
    · have none1 : valV kvs (Pl.lst k).key = none := i7.no _ (fun h => by
          have := mem_lst.mp (ok.toPm.bd (List.mem_append.mpr (.inl h)))
          omega) (fun h => by
          have := mem_lst.mp (ok.toPm.bd (List.mem_append.mpr (.inr h)))
          omega)
      rw [none1]
      walk_at "ss"
      refine iteF ?_
      walk_at "ss"
      rw [h5.len]
      refine r_newS fun t' H2 n s2 e2 => ?_
      refine q t' (.lst (k - T.n + T.f.length)) H2 (s1.trans s2) trivial ?_ ?_
      · rw [Tn.or_bck (by omega)]
        congr 1
        omega
      · rw [e2]
        show some (HO.tup [.str "list", .int ((k : Int) - (T.n : Int) + (T.f.length : Int))]) = some (HO.tup [.str "list", .int ((k - T.n + T.f.length : Nat) : Int)])
        rw [show (k : Int) - (T.n : Int) + (T.f.length : Int) = ((k - T.n + T.f.length : Nat) : Int) by omega]
theorem ok_Turn_then {P : Program} {w : World} {K : PySem.W.Frag} {mg : Str → Option Value} {base : Heap} {f : Addr} {fd : FuncData} (F : FunD K "then" "Turn.then" (defArgs s_Turn_then) (defBody s_Turn_then) (defScope s_Turn_then) [] [] f fd) (a_Turn__fresh : NoAttr K (He.ga K "Turn") "_fresh") (a_Turn__front : NoAttr K (He.ga K "Turn") "_front") (a_Turn__used : NoAttr K (He.ga K "Turn") "_used") (c_Turn : Cls K (He.ga K "Turn")) (i_Turn : Kr.InsI K (He.ga K "Turn")) (k_Turn : mg "Turn" = some (.ref (He.ga K "Turn"))) (m_Turn_ahead : Kr.MtH P w K mg base CX0 1 (He.ga K "Turn") "ahead" ["self"] (sp_Turn_ahead K)) (m_Turn_fresh : Kr.MtH P w K mg base CX0 1 (He.ga K "Turn") "fresh" ["self"] (sp_Turn_fresh K)) (m_Turn_front : Kr.MtH P w K mg base CX0 1 (He.ga K "Turn") "front" ["self"] (sp_Turn_front K)) (m_Turn_origin : Kr.MtH P w K mg base CX0 4 (He.ga K "Turn") "origin" ["self", "place"] (sp_Turn_origin K)) (m_Turn_used : Kr.MtH P w K mg base CX0 1 (He.ga K "Turn") "used" ["self"] (sp_Turn_used K)) (mk_Turn : Kr.MkH P w K mg base CX0 4 "Turn" (He.ga K "Turn") ["self", "used", "front", "fresh"] (sp_Turn___init__ K)) (n_isinstance : mg "isinstance" = none) (n_len : mg "len" = none) (n_max : mg "max" = none) (n_range : mg "range" = none) : FnOk P w K mg base CX0 6 f fd ["self", "later"] (sp_Turn_then K) := by
  refine F.ok sc_Turn_then (fun vs H Q E h => by first | (obtain ⟨rfl, _⟩ := h; rfl) | (obtain ⟨_, rfl, _⟩ := h; rfl) | (obtain ⟨_, _, rfl, _⟩ := h; rfl) | (obtain ⟨_, _, _, rfl, _⟩ := h; rfl) | (obtain ⟨_, _, _, _, rfl, _⟩ := h; rfl) | (obtain ⟨_, _, _, _, _, rfl, _⟩ := h; rfl) | (obtain ⟨_, _, _, _, _, _, rfl, _⟩ := h; rfl) | (obtain ⟨_, _, _, _, _, _, _, rfl, _⟩ := h; rfl) | (obtain ⟨_, _, _, _, _, _, _, _, rfl, _⟩ := h; rfl) | (obtain ⟨_, _, _, _, _, _, _, _, _, rfl, _⟩ := h; rfl) | (obtain ⟨_, _, _, _, _, _, _, _, _, _, rfl, _⟩ := h; rfl) | (obtain ⟨_, _, _, _, _, _, _, _, _, _, _, rfl, _⟩ := h; rfl) | (obtain ⟨_, _, _, _, _, _, _, _, _, _, _, _, rfl, _⟩ := h; rfl) | (obtain ⟨_, _, _, _, _, _, _, _, _, _, _, _, _, rfl, _⟩ := h; rfl) | (obtain ⟨_, _, _, _, _, _, _, _, _, _, _, _, _, _, rfl, _⟩ := h; rfl) | (obtain ⟨_, _, _, _, _, _, _, _, _, _, _, _, _, _, _, rfl, _⟩ := h; rfl) | (obtain ⟨_, _, _, _, _, _, _, _, _, _, _, _, _, _, _, _, rfl, _⟩ := h; rfl) | (obtain ⟨_, _, _, _, _, _, _, _, _, _, _, _, _, _, _, _, _, rfl, _⟩ := h; rfl)) (fun cdv A outer s H vs Q E hr h => ?_)
  · have hu := hu_of hr
    obtain ⟨x, y, S, T, rfl, TS, TT, hm, b1, b2, b3, b4, b5, b6, q⟩ := h
    obtain ⟨okS, dx, pu, pf, pg, vu, vf, kvs, h1, h2, h3, h4, h5, h6, h7⟩ := id TS
    obtain ⟨okT, dy, qu, qf, qg, wu, wf, kws, g1, g2, g3, g4, g5, g6, g7⟩ := id TT
    have cc := c_Turn
    have n2 := a_Turn__used
    have n3 := a_Turn__front
    have n4 := a_Turn__fresh
    obtain ⟨m, em⟩ : ∃ m : Nat, (if (T.n : Int) > (S.f.length : Int) then (T.n : Int) else (S.f.length : Int)) = (m : Int) ∧ S.f.length ≤ m ∧ T.n ≤ m ∧ (m = T.n ∨ m = S.f.length) := by
      by_cases h : (T.n : Int) > (S.f.length : Int)
      · exact ⟨T.n, if_pos h, by omega, Nat.le_refl _, .inl rfl⟩
      · exact ⟨S.f.length, if_neg h, Nat.le_refl _, by omega, .inr rfl⟩
    obtain ⟨em, m1, m2, m3⟩ := em
    obtain ⟨jp, jo⟩ := join_ok okS.toPm okT.toPm hm m1 m2
    refine ⟨_, PSs.nox (pss_cons (ps_if (PW.pt (pw_or (pt_not (pt_val (pe_callB (id := "isinstance") call_isi rfl n_isinstance (by decide +kernel) (pa_cons (pv 1) (pa_cons (Kr.pe_gcls k_Turn) pa_nil))))) (pw_or1 (pt_cmpR op_ne (Kr.pe_mt0 m_Turn_ahead c_Turn (hr.mono (by decide)) (pv 1)) (pe_callB (id := "len") Kr.c_len rfl n_len (by decide +kernel) (pa_cons (pe_fld (pv 0) rfl) pa_nil)) (nomark _))))) (pss_one ps_never) pss_nil) (pss_cons (ps_set (i := 2) sc_Turn_then.nd rfl (.inl rfl) (pe_callB (id := "max") (Kr.c_max2 rfl) rfl n_max (by decide +kernel) (pa_cons (pe_callB (id := "len") Kr.c_len rfl n_len (by decide +kernel) (pa_cons (pe_fld (pv 0) rfl) pa_nil)) (pa_cons (Kr.pe_mt0 m_Turn_fresh c_Turn (hr.mono (by decide)) (pv 1)) pa_nil)))) (pss_cons (ps_setLc (i := 3) (own := [("number", 4)]) rfl sc_Turn_then.nd rfl rfl (sw_true rfl rfl rfl (by decide +kernel)) (pi_range1 rfl n_range (pa_cons (pe_op op_sub (pe_op op_add (pe_callB (id := "len") Kr.c_len rfl n_len (by decide +kernel) (pa_cons (Kr.pe_mt0 m_Turn_front c_Turn (hr.mono (by decide)) (pv 1)) pa_nil)) (pv 2)) (Kr.pe_mt0 m_Turn_fresh c_Turn (hr.mono (by decide)) (pv 1))) pa_nil)) (blkOk_by (own := [("number", 4)]) (N := N_Turn_then) (sc := defScope s_Turn_then) (by decide +kernel)) (fun _ _ _ _ _ => (pg_name (i := 4) sc_Turn_then.nd rfl (.inl rfl))) (fun _ _ _ _ _ => pts_nil) (fun _ _ _ _ _ => (Kr.pe_mt m_Turn_origin c_Turn (hr.mono (by decide)) (pv 1) (pa_cons (pe_tup (pa_cons pe_str (pa_cons (pv 4) pa_nil))) pa_nil)))) (pss_one (ps_ret (Kr.pe_mk mk_Turn (hr.mono (by decide)) (pa_cons (pe_lc (own := [("place", 5)]) rfl sc_Turn_then.nd (pi_list (Kr.pe_mt0 m_Turn_used c_Turn (hr.mono (by decide)) (pv 1))) (blkOk_by (own := [("place", 5)]) (N := N_Turn_then) (sc := defScope s_Turn_then) (by decide +kernel)) (fun _ _ _ _ _ => (pg_name (i := 5) sc_Turn_then.nd rfl (.inl rfl))) (fun _ _ _ _ _ => pts_nil) (fun _ _ _ _ _ => (Kr.pe_mt m_Turn_origin c_Turn (hr.mono (by decide)) (pv 0) (pa_cons (pv 5) pa_nil)))) (pa_cons (pe_lc (own := [("place", 5)]) rfl sc_Turn_then.nd (pi_list (pv 3)) (blkOk_by (own := [("place", 5)]) (N := N_Turn_then) (sc := defScope s_Turn_then) (by decide +kernel)) (fun _ _ _ _ _ => (pg_name (i := 5) sc_Turn_then.nd rfl (.inl rfl))) (fun _ _ _ _ _ => pts_nil) (fun _ _ _ _ _ => (Kr.pe_mt m_Turn_origin c_Turn (hr.mono (by decide)) (pv 0) (pa_cons (pv 5) pa_nil)))) (pa_cons (pe_op op_add (pe_op op_sub (pv 2) (pe_callB (id := "len") Kr.c_len rfl n_len (by decide +kernel) (pa_cons (pe_fld (pv 0) rfl) pa_nil))) (pe_fld (pv 0) rfl)) pa_nil))))))))), ?_⟩
    rw [st_Turn_then]
    walk_at "ss"
    refine r_isiC i_Turn g1 ?_
    walk_at "ss"
    refine ⟨y, T, rfl, TT, ?_⟩
    walk_at "ss"
    rw [h3.len]
    refine r_decN (fun ne => absurd (by omega) ne) fun _ => ?_
    walk_at "ss"
    refine ⟨y, T, rfl, TT, ?_⟩
    walk_at "ss"
    rw [h5.len, em]
    walk_at "ss"
    refine ⟨y, T, rfl, TT, fun l1 v1 H1 s1 hl1 e1 P1 => ?_⟩
    have g1a := s1 _ _ g1
    walk_at "ss"
    rw [P1.len]
    refine ⟨y, T, rfl, TT.same s1, ?_⟩
    walk_at "ss"
    intro D hD
    have ec : ((T.f.length : Int) + (m : Int) - (T.n : Int)).toNat = T.f.length + m - T.n := by omega
    rw [ec]
    refine lc_rangeS [some (.ref x), some (.ref y), some (.int m), none, none, none] rfl (fun i H5 => Same H1 H5 ∧ ∃ vs, H5 D = some (.lst vs) ∧ PlL H5 vs ((List.range i).map fun k => T.or (.lst k))) ⟨same_new hD, [], upd_same, PlL.nil⟩ ?_ ?_
    · rintro i H5 hi ⟨s5, vs, e5, P5⟩
      have g15 := s5 _ _ g1a
      walk_at "ss"
      refine ⟨rfl, ?_⟩
      walk_at "ss"
      refine r_newS fun w H6 hw s6 e6 => ?_
      have g16 := s6 _ _ g15
      have s16 := s1.trans (s5.trans s6)
      have e6' : H6 w = some (plO (.lst i)) := by
        rw [e6]
        show some (HO.tup [V.str "list", V.int (0 + (i : Int))]) = _
        rw [Int.zero_add]
        rfl
      refine ⟨y, w, T, .lst i, rfl, TT.same s16, e6', trivial, fun t' H7 s7 e7 => ?_⟩
      have e57 := s7 _ _ (s6 _ _ e5)
      refine ⟨vs, e57, by rw [P5.len]; simp; exact szl (by omega), fun b o e => ?_, _, upd_same, ?_⟩
      · rw [upd_ne (ne_of_none e hD)]
        exact s7 _ _ (s6 _ _ (s5 b o e))
      · rw [List.range_succ, List.map_append]
        refine ((P5.same (s6.trans s7)).snoc e7).keep (x := x) fun b xs h => ?_
        rw [upd_ne (ne_of h e57 (by intro z; cases z))]
        exact h
    rintro H2 ⟨s2, fs, e2, P2⟩
    have s12 := s1.trans s2
    have TS2 := TS.same s12
    have TT2 := TT.same s12
    have g12 := s12 _ _ g1
    have h12 := s12 _ _ h1
    walk_at "ss"
    refine ⟨y, T, rfl, TT2, fun l2 v2 H3 s3 hl2 e3 P3 => ?_⟩
    have s13 := s12.trans s3
    walk_at "ss"
    intro D2 hD2
    refine lc_listS (xs := v2) [some (.ref x), some (.ref y), some (.int m), some (.ref D), none, none] rfl (fun i H5 => Same H3 H5 ∧ ∃ vs, H5 D2 = some (.lst vs) ∧ PlL H5 vs ((T.u.take i).map S.or)) ⟨same_new hD2, [], upd_same, PlL.nil⟩ (fun i H5 _ hh => hh.1.seq (SqL.of e3)) ?_ ?_
    · rintro i v H5 hv ⟨s5, vs, e5, P5⟩
      obtain ⟨t, hi, rfl, ht⟩ := P3.item hv
      have h15 := s5 _ _ (s3 _ _ h12)
      have tk : T.u.take (i + 1) = T.u.take i ++ [T.u[i]] := by rw [List.take_add_one, List.getElem?_eq_getElem hi]; rfl
      have vd : Vd S.u.length T.u[i] := by
        have := okT.toPm.or_vd (p := .use i) hi
        rw [Tn.or_use hi, hm] at this
        exact this
      walk_at "ss"
      refine ⟨rfl, ?_⟩
      walk_at "ss"
      refine ⟨x, t, S, T.u[i], rfl, TS.same (s13.trans s5), s5 _ _ ht, vd, fun t' H7 s7 e7 => ?_⟩
      have e57 := s7 _ _ e5
      refine ⟨vs, e57, by rw [P5.len, List.length_map, List.length_take]; exact szl (by omega), fun b o e => ?_, _, upd_same, ?_⟩
      · rw [upd_ne (ne_of_none e hD2)]
        exact s7 _ _ (s5 b o e)
      · rw [tk, List.map_append]
        refine ((P5.same s7).snoc e7).keep (x := x) fun b xs h => ?_
        rw [upd_ne (ne_of h e57 (by intro z; cases z))]
        exact h
    rintro H4 ⟨s4, us, e4, P4⟩
    rw [P3.len, List.take_length] at P4
    have s14 := s13.trans s4
    have h14 := s14 _ _ h1
    have eD4 := s4 _ _ (s3 _ _ e2)
    have PD4 := P2.same (s3.trans s4)
    walk_at "ss"
    intro D3 hD3
    refine lc_listS (xs := fs) [some (.ref x), some (.ref y), some (.int m), some (.ref D), none, none] rfl (fun i H5 => Same H4 H5 ∧ ∃ vs, H5 D3 = some (.lst vs) ∧ PlL H5 vs ((((List.range (T.f.length + m - T.n)).map fun k => T.or (.lst k)).take i).map S.or)) ⟨same_new hD3, [], upd_same, PlL.nil⟩ (fun i H5 _ hh => hh.1.seq (SqL.of eD4)) ?_ ?_
    · rintro i v H5 hv ⟨s5, vs, e5, P5⟩
      obtain ⟨t, hi, rfl, ht⟩ := PD4.item hv
      have h15 := s5 _ _ h14
      have tk : ((List.range (T.f.length + m - T.n)).map fun k => T.or (.lst k)).take (i + 1) = ((List.range (T.f.length + m - T.n)).map fun k => T.or (.lst k)).take i ++ [((List.range (T.f.length + m - T.n)).map fun k => T.or (.lst k))[i]] := by rw [List.take_add_one, List.getElem?_eq_getElem hi]; rfl
      have li : i < T.f.length + m - T.n := by simpa using hi
      have vd : Vd S.u.length ((List.range (T.f.length + m - T.n)).map fun k => T.or (.lst k))[i] := by
        have := okT.toPm.or_vd (p := .lst i) trivial
        rw [hm] at this
        simpa using this
      walk_at "ss"
      refine ⟨rfl, ?_⟩
      walk_at "ss"
      refine ⟨x, t, S, _, rfl, TS.same (s14.trans s5), s5 _ _ ht, vd, fun t' H7 s7 e7 => ?_⟩
      have e57 := s7 _ _ e5
      refine ⟨vs, e57, by rw [P5.len, List.length_map, List.length_take, List.length_map, List.length_range]; exact szl (by omega), fun b o e => ?_, _, upd_same, ?_⟩
      · rw [upd_ne (ne_of_none e hD3)]
        exact s7 _ _ (s5 b o e)
      · rw [tk, List.map_append]
        refine ((P5.same s7).snoc e7).keep (x := x) fun b xs h => ?_
        rw [upd_ne (ne_of h e57 (by intro z; cases z))]
        exact h
    rintro H5 ⟨s5, fr, e5, P5⟩
    have fsl : fs.length = ((List.range (T.f.length + m - T.n)).map fun k => T.or (.lst k)).length := P2.len
    rw [fsl, List.take_length, List.map_map] at P5
    have s15 := s14.trans s5
    have h15 := s15 _ _ h1
    have h45 := s15 _ _ h4
    walk_at "ss"
    rw [h5.len, show (m : Int) - (S.f.length : Int) + (S.n : Int) = ((m - S.f.length + S.n : Nat) : Int) by omega]
    have jul : (joinU S T).length = T.u.length := by simp [joinU]
    have jfl : (joinF S T m).length = T.f.length + m - T.n := by simp [joinF]
    intro z dz hz hdz nz
    have s6 : Same H5 (upd (upd H5 dz (.own z)) z (.ins (He.ga K "Turn") dz [])) := (same_new hdz).trans (same_new (by rw [upd_ne nz.symm]; exact hz))
    refine ⟨z, dz, D2, D3, us, fr, joinU S T, joinF S T m, m - S.f.length + S.n, S.a, rfl, upd_same, s6 _ _ (s5 _ _ e4), (P4.same s5).same s6, s6 _ _ e5, P5.same s6, jp, by omega, by omega, fun R H' okR eu ea eo ef en keep TA _ => ⟨rfl, ?_⟩⟩
    have sH : Same H H' := fun b o e => keep b o (ne_of_none (s15 b o e) hz) (s6 b o (s15 b o e))
    refine q z R H' sH (s15.free hz) TA ⟨okR, ea, by rw [eu, jul], fun p hp => (eo p).trans (jo p hp), ?_, ?_⟩
    · omega
    · omega
theorem ok_still {P : Program} {w : World} {K : PySem.W.Frag} {mg : Str → Option Value} {base : Heap} {f : Addr} {fd : FuncData} (F : FunD K "still" "still" (defArgs s_still) (defBody s_still) (defScope s_still) [] [] f fd) (g_MOST_STILL : ∃ t, mg "MOST_STILL" = some (.int 1000 t)) (h_is_within : Kr.FnH P w K mg base CX0 2 "is_within" ["number", "least", "most"] (sp_is_within K)) (mk_Turn : Kr.MkH P w K mg base CX0 4 "Turn" (He.ga K "Turn") ["self", "used", "front", "fresh"] (sp_Turn___init__ K)) (n_range : mg "range" = none) : FnOk P w K mg base CX0 6 f fd ["many"] (sp_still K) := by
  refine F.ok sc_still (fun vs H Q E h => by first | (obtain ⟨rfl, _⟩ := h; rfl) | (obtain ⟨_, rfl, _⟩ := h; rfl) | (obtain ⟨_, _, rfl, _⟩ := h; rfl) | (obtain ⟨_, _, _, rfl, _⟩ := h; rfl) | (obtain ⟨_, _, _, _, rfl, _⟩ := h; rfl) | (obtain ⟨_, _, _, _, _, rfl, _⟩ := h; rfl) | (obtain ⟨_, _, _, _, _, _, rfl, _⟩ := h; rfl) | (obtain ⟨_, _, _, _, _, _, _, rfl, _⟩ := h; rfl) | (obtain ⟨_, _, _, _, _, _, _, _, rfl, _⟩ := h; rfl) | (obtain ⟨_, _, _, _, _, _, _, _, _, rfl, _⟩ := h; rfl) | (obtain ⟨_, _, _, _, _, _, _, _, _, _, rfl, _⟩ := h; rfl) | (obtain ⟨_, _, _, _, _, _, _, _, _, _, _, rfl, _⟩ := h; rfl) | (obtain ⟨_, _, _, _, _, _, _, _, _, _, _, _, rfl, _⟩ := h; rfl) | (obtain ⟨_, _, _, _, _, _, _, _, _, _, _, _, _, rfl, _⟩ := h; rfl) | (obtain ⟨_, _, _, _, _, _, _, _, _, _, _, _, _, _, rfl, _⟩ := h; rfl) | (obtain ⟨_, _, _, _, _, _, _, _, _, _, _, _, _, _, _, rfl, _⟩ := h; rfl) | (obtain ⟨_, _, _, _, _, _, _, _, _, _, _, _, _, _, _, _, rfl, _⟩ := h; rfl) | (obtain ⟨_, _, _, _, _, _, _, _, _, _, _, _, _, _, _, _, _, rfl, _⟩ := h; rfl)) (fun cdv A outer s H vs Q E hr h => ?_)
  · have hu := hu_of hr
    obtain ⟨m, rfl, hm, q⟩ := h
    refine ⟨_, PSs.nox (pss_cons (ps_if (pt_not (pt_val (Kr.pe_cl h_is_within (hr.mono (by decide)) (pa_cons (pv 0) (pa_cons pe_int (pa_cons (Kr.pe_gint g_MOST_STILL) pa_nil)))))) (pss_one ps_never) pss_nil) (pss_one (ps_ret (Kr.pe_mk mk_Turn (hr.mono (by decide)) (pa_cons (pe_lc (own := [("number", 1)]) rfl sc_still.nd (pi_range1 rfl n_range (pa_cons (pv 0) pa_nil)) (blkOk_by (own := [("number", 1)]) (N := N_still) (sc := defScope s_still) (by decide +kernel)) (fun _ _ _ _ _ => (pg_name (i := 1) sc_still.nd rfl (.inl rfl))) (fun _ _ _ _ _ => pts_nil) (fun _ _ _ _ _ => (pe_tup (pa_cons pe_str (pa_cons (pv 1) pa_nil))))) (pa_cons (pe_lst pa_nil) (pa_cons pe_int pa_nil))))))), ?_⟩
    rw [st_still]
    walk_at "ss"
    refine ⟨_, _, _, rfl, ?_⟩
    rw [decide_eq_true (show (0 : Int) ≤ (m : Int) ∧ (m : Int) ≤ 1000 by omega)]
    walk_at "ss"
    intro D hD
    rw [show ((m : Int)).toNat = m by omega]
    refine lc_rangeS [some (.int m), none] rfl (fun i H5 => Same H H5 ∧ ∃ vs, H5 D = some (.lst vs) ∧ PlL H5 vs ((List.range i).map Pl.use)) ⟨same_new hD, [], upd_same, PlL.nil⟩ ?_ ?_
    · rintro i H5 hi ⟨s5, vs, e5, P5⟩
      walk_at "ss"
      refine ⟨rfl, ?_⟩
      walk_at "ss"
      refine r_newS fun w H6 hw s6 e6 => ?_
      have e6' : H6 w = some (plO (.use i)) := by
        rw [e6]
        show some (HO.tup [V.str "use", V.int (0 + (i : Int))]) = _
        rw [Int.zero_add]
        rfl
      have e56 := s6 _ _ e5
      refine ⟨vs, e56, by rw [P5.len]; simp; exact szl (by omega), fun b o e => ?_, _, upd_same, ?_⟩
      · rw [upd_ne (ne_of_none e hD)]
        exact s6 _ _ (s5 b o e)
      · rw [List.range_succ, List.map_append]
        refine ((P5.same s6).snoc e6').keep (x := D) fun b xs h => ?_
        rw [upd_ne (ne_of h e56 (by intro z; cases z))]
        exact h
    rintro H2 ⟨s2, us, e2, P2⟩
    walk_at "ss"
    refine r_newS fun l H3 hl s3 e3 => ?_
    walk_at "ss"
    have s13 := s2.trans s3
    intro z dz hz hdz nz
    have s6 : Same H3 (upd (upd H3 dz (.own z)) z (.ins (He.ga K "Turn") dz [])) := (same_new hdz).trans (same_new (by rw [upd_ne nz.symm]; exact hz))
    have pm : (⟨(List.range m).map Pl.use, [], 0, m⟩ : Tn).Pm := ⟨by show ((List.range m).map Pl.use ++ []).Perm (Tm.base m 0); simp [Tm.base]⟩
    refine ⟨z, dz, D, l, us, [], (List.range m).map Pl.use, [], 0, m, rfl, upd_same, s6 _ _ (s3 _ _ e2), (P2.same s3).same s6, s6 _ _ e3, PlL.nil, pm, by simp; omega, by simp, fun R H' okR eu ea eo ef en keep TA _ => ⟨rfl, ?_⟩⟩
    have sH : Same H H' := fun b o e => keep b o (ne_of_none (s13 b o e) hz) (s6 b o (s13 b o e))
    refine q z R H' sH (s13.free hz) TA ea (by rw [eu]; simp) (fun p hp => ?_) (by simpa using ef) (by omega)
    rw [eo]
    cases p with
    | use k =>
      have hk : k < ((List.range m).map Pl.use).length := by
        rw [List.length_map, List.length_range]
        exact hp
      rw [Tn.or_use (T := ⟨(List.range m).map Pl.use, [], 0, m⟩) hk]
      simp
    | lst k =>
      rw [Tn.or_bck (T := ⟨(List.range m).map Pl.use, [], 0, m⟩) (Nat.zero_le k)]
      simp
theorem ok_are_turns {P : Program} {w : World} {K : PySem.W.Frag} {mg : Str → Option Value} {base : Heap} {f : Addr} {fd : FuncData} (F : FunD K "are_turns" "are_turns" (defArgs s_are_turns) (defBody s_are_turns) (defScope s_are_turns) [] [] f fd) (c_Turn : Cls K (He.ga K "Turn")) (i_Turn : Kr.InsI K (He.ga K "Turn")) (k_Turn : mg "Turn" = some (.ref (He.ga K "Turn"))) (m_Turn_ahead : Kr.MtH P w K mg base CX0 1 (He.ga K "Turn") "ahead" ["self"] (sp_Turn_ahead K)) (m_Turn_behind : Kr.MtH P w K mg base CX0 1 (He.ga K "Turn") "behind" ["self"] (sp_Turn_behind K)) (n_all : mg "all" = none) (n_isinstance : mg "isinstance" = none) (n_len : mg "len" = none) (n_list : mg "list" = none) (n_range : mg "range" = none) : FnOk P w K mg base CX0 2 f fd ["turns"] (sp_are_turns K) := by
  refine F.ok sc_are_turns (fun vs H Q E h => by first | (obtain ⟨rfl, _⟩ := h; rfl) | (obtain ⟨_, rfl, _⟩ := h; rfl) | (obtain ⟨_, _, rfl, _⟩ := h; rfl) | (obtain ⟨_, _, _, rfl, _⟩ := h; rfl) | (obtain ⟨_, _, _, _, rfl, _⟩ := h; rfl) | (obtain ⟨_, _, _, _, _, rfl, _⟩ := h; rfl) | (obtain ⟨_, _, _, _, _, _, rfl, _⟩ := h; rfl) | (obtain ⟨_, _, _, _, _, _, _, rfl, _⟩ := h; rfl) | (obtain ⟨_, _, _, _, _, _, _, _, rfl, _⟩ := h; rfl) | (obtain ⟨_, _, _, _, _, _, _, _, _, rfl, _⟩ := h; rfl) | (obtain ⟨_, _, _, _, _, _, _, _, _, _, rfl, _⟩ := h; rfl) | (obtain ⟨_, _, _, _, _, _, _, _, _, _, _, rfl, _⟩ := h; rfl) | (obtain ⟨_, _, _, _, _, _, _, _, _, _, _, _, rfl, _⟩ := h; rfl) | (obtain ⟨_, _, _, _, _, _, _, _, _, _, _, _, _, rfl, _⟩ := h; rfl) | (obtain ⟨_, _, _, _, _, _, _, _, _, _, _, _, _, _, rfl, _⟩ := h; rfl) | (obtain ⟨_, _, _, _, _, _, _, _, _, _, _, _, _, _, _, rfl, _⟩ := h; rfl) | (obtain ⟨_, _, _, _, _, _, _, _, _, _, _, _, _, _, _, _, rfl, _⟩ := h; rfl) | (obtain ⟨_, _, _, _, _, _, _, _, _, _, _, _, _, _, _, _, _, rfl, _⟩ := h; rfl)) (fun cdv A outer s H vs Q E hr h => ?_)
  · have hu := hu_of hr
    obtain ⟨l, ws, Ts, a, b, rfl, hl, P, ch, hz, ne0, q⟩ := h
    have hwl := P.len
    have hpos : 0 < Ts.length := List.length_pos_iff.mpr ne0
    refine ⟨_, PSs.nox (pss_cons (ps_if (PW.pt (pw_or (pt_not (pt_val (pe_callB (id := "isinstance") call_isi rfl n_isinstance (by decide +kernel) (pa_cons (pv 0) (pa_cons (Kr.pe_bty (T := "list") n_list) pa_nil))))) (pw_or1 (pt_not (pt_val (pe_callB (id := "all") (cr_all rfl) rfl n_all (by decide +kernel) (pa_cons (pe_lc (own := [("turn", 1)]) rfl sc_are_turns.nd (pi_list (pv 0)) (blkOk_by (own := [("turn", 1)]) (N := N_are_turns) (sc := defScope s_are_turns) (by decide +kernel)) (fun _ _ _ _ _ => (pg_name (i := 1) sc_are_turns.nd rfl (.inl rfl))) (fun _ _ _ _ _ => pts_nil) (fun _ _ _ _ _ => (pe_callB (id := "isinstance") (Kr.c_isiK (K := K) rfl) rfl n_isinstance (by decide +kernel) (pa_cons (pv 1) (pa_cons (Kr.pe_gcls k_Turn) pa_nil))))) pa_nil))))))) (pss_one (ps_ret pe_bl)) pss_nil) (pss_one (ps_ret (pe_callB (id := "all") (cr_all rfl) rfl n_all (by decide +kernel) (pa_cons (pe_lc (own := [("at", 2)]) rfl sc_are_turns.nd (pi_range1 rfl n_range (pa_cons (pe_op op_sub (pe_callB (id := "len") Kr.c_len rfl n_len (by decide +kernel) (pa_cons (pv 0) pa_nil)) pe_int) pa_nil)) (blkOk_by (own := [("at", 2)]) (N := N_are_turns) (sc := defScope s_are_turns) (by decide +kernel)) (fun _ _ _ _ _ => (pg_name (i := 2) sc_are_turns.nd rfl (.inl rfl))) (fun _ _ _ _ _ => pts_nil) (fun _ _ _ _ _ => (pe_cmpR op_eq (Kr.pe_mt0 m_Turn_behind c_Turn (hr.mono (by decide)) (pe_ix (Kr.ix_listK (K := K) rfl) (pv 0) (pv 2) (fun _ _ => rfl))) (Kr.pe_mt0 m_Turn_ahead c_Turn (hr.mono (by decide)) (pe_ix (Kr.ix_listK (K := K) rfl) (pv 0) (pe_op op_add (pv 2) pe_int) (fun _ _ => rfl))) (nomark _)))) pa_nil))))), ?_⟩
    rw [st_are_turns]
    walk_at "ss"
    refine r_isiT (.base (.lst hl)) (b := true) (by decide +kernel) ?_
    walk_at "ss"
    intro D hD
    refine lc_listS (xs := ws) [some (.ref l), none, none] rfl (fun i H5 => H5 D = some (.lst ((List.replicate i true).map V.bl)) ∧ Same H H5) ⟨upd_same, same_new hD⟩ (fun i H5 _ hh => hh.2.seq (SqL.of hl)) ?_ ?_
    · rintro i x H5 hx ⟨h5, s5⟩
      obtain ⟨t, hi, rfl, TA⟩ := P.item hx
      obtain ⟨-, dx, pu, pf, pg, vu, vf, kvs, h1, -⟩ := TA
      have g1 := s5 _ _ h1
      walk_at "ss"
      refine ⟨rfl, ?_⟩
      walk_at "ss"
      refine r_isiC i_Turn g1 ?_
      refine ⟨_, h5, by rw [List.length_map, List.length_replicate]; exact szl (by omega), ?_, fun b o e => ?_⟩
      · rw [upd_same, List.replicate_succ', List.map_append]
        rfl
      · rw [upd_ne (ne_of_none e hD)]
        exact s5 b o e
    rintro H5 ⟨h5, s5⟩
    have hl5 := s5 _ _ hl
    have P5 := P.same s5
    walk_at "ss"
    refine r_all (SqL.of h5) ?_
    rw [take_map_bl (fun b hb => (List.mem_replicate.mp hb).2)]
    walk_at "ss"
    intro D2 hD2
    rw [hwl, show ((Ts.length : Int) - 1).toNat = Ts.length - 1 by omega]
    refine lc_rangeS [some (.ref l), none, none] rfl (fun i H6 => H6 D2 = some (.lst ((List.replicate i true).map V.bl)) ∧ Same H5 H6) ⟨upd_same, same_new hD2⟩ ?_ ?_
    · rintro i H6 hi ⟨h6, s6⟩
      have P6 := P5.same s6
      have hl6 := s6 _ _ hl5
      obtain ⟨t, a1, a2⟩ := P6.get (i := i) (by omega)
      obtain ⟨t2, c1, c2⟩ := P6.get (i := i + 1) (by omega)
      obtain ⟨z1, z2, z3, z4, z5⟩ := a2.fl
      obtain ⟨y1, y2, y3, y4, y5⟩ := c2.fl
      walk_at "ss"
      refine ⟨rfl, ?_⟩
      walk_at "ss"
      refine r_ixL (SqL.of hl6) (at_of (j := i) (by omega) a1) ?_
      walk_at "ss"
      refine ⟨t, _, rfl, a2, ?_⟩
      walk_at "ss"
      refine r_ixL (SqL.of hl6) (at_of (j := i + 1) (by omega) c1) ?_
      walk_at "ss"
      refine ⟨t2, _, rfl, c2, ?_⟩
      obtain ⟨m, -, -, -, d4⟩ := ch.at_ (i := i) (by omega)
      rw [← List.getElem_cons_drop (h := (show i + 1 < Ts.length by omega))] at d4
      obtain ⟨-, d5, -⟩ := d4
      walk_at "ss"
      rw [d5, decide_eq_true (rfl : (Ts[i].u.length : Int) = _)]
      refine ⟨_, h6, by rw [List.length_map, List.length_replicate]; exact szl (by omega), ?_, fun b o e => ?_⟩
      · rw [upd_same, List.replicate_succ', List.map_append]
        rfl
      · rw [upd_ne (ne_of_none e hD2)]
        exact s6 b o e
    rintro H6 ⟨h6, s6⟩
    walk_at "ss"
    refine r_all (SqL.of h6) ?_
    rw [take_map_bl (fun b hb => (List.mem_replicate.mp hb).2)]
    exact q _ (s5.trans s6)
theorem ok_way {P : Program} {w : World} {K : PySem.W.Frag} {mg : Str → Option Value} {base : Heap} {f : Addr} {fd : FuncData} (F : FunD K "way" "way" (defArgs s_way) (defBody s_way) (defScope s_way) [] [] f fd) (c_Turn : Cls K (He.ga K "Turn")) (h_are_turns : Kr.FnH P w K mg base CX0 2 "are_turns" ["turns"] (sp_are_turns K)) (h_is_place : Kr.FnH P w K mg base CX0 2 "is_place" ["place"] (sp_is_place K)) (h_is_place_among : Kr.FnH P w K mg base CX0 3 "is_place_among" ["place", "many"] (sp_is_place_among K)) (m_Turn_ahead : Kr.MtH P w K mg base CX0 1 (He.ga K "Turn") "ahead" ["self"] (sp_Turn_ahead K)) (m_Turn_goal : Kr.MtH P w K mg base CX0 4 (He.ga K "Turn") "goal" ["self", "place"] (sp_Turn_goal K)) : FnOk P w K mg base CX0 5 f fd ["turns", "place"] (sp_way K) := by
  refine F.ok sc_way (fun vs H Q E h => by first | (obtain ⟨rfl, _⟩ := h; rfl) | (obtain ⟨_, rfl, _⟩ := h; rfl) | (obtain ⟨_, _, rfl, _⟩ := h; rfl) | (obtain ⟨_, _, _, rfl, _⟩ := h; rfl) | (obtain ⟨_, _, _, _, rfl, _⟩ := h; rfl) | (obtain ⟨_, _, _, _, _, rfl, _⟩ := h; rfl) | (obtain ⟨_, _, _, _, _, _, rfl, _⟩ := h; rfl) | (obtain ⟨_, _, _, _, _, _, _, rfl, _⟩ := h; rfl) | (obtain ⟨_, _, _, _, _, _, _, _, rfl, _⟩ := h; rfl) | (obtain ⟨_, _, _, _, _, _, _, _, _, rfl, _⟩ := h; rfl) | (obtain ⟨_, _, _, _, _, _, _, _, _, _, rfl, _⟩ := h; rfl) | (obtain ⟨_, _, _, _, _, _, _, _, _, _, _, rfl, _⟩ := h; rfl) | (obtain ⟨_, _, _, _, _, _, _, _, _, _, _, _, rfl, _⟩ := h; rfl) | (obtain ⟨_, _, _, _, _, _, _, _, _, _, _, _, _, rfl, _⟩ := h; rfl) | (obtain ⟨_, _, _, _, _, _, _, _, _, _, _, _, _, _, rfl, _⟩ := h; rfl) | (obtain ⟨_, _, _, _, _, _, _, _, _, _, _, _, _, _, _, rfl, _⟩ := h; rfl) | (obtain ⟨_, _, _, _, _, _, _, _, _, _, _, _, _, _, _, _, rfl, _⟩ := h; rfl) | (obtain ⟨_, _, _, _, _, _, _, _, _, _, _, _, _, _, _, _, _, rfl, _⟩ := h; rfl)) (fun cdv A outer s H vs Q E hr h => ?_)
  · have hu := hu_of hr
    obtain ⟨l, t, ws, Ts, p, a, b, rfl, hl, P, ch, hz, ne0, ht, v, q⟩ := h
    have hwl := P.len
    have hpos : 0 < Ts.length := List.length_pos_iff.mpr ne0
    refine ⟨_, PSs.nox (pss_cons (ps_if (pt_not (pt_val (Kr.pe_cl h_are_turns (hr.mono (by decide)) (pa_cons (pv 0) pa_nil)))) (pss_one ps_never) pss_nil) (pss_cons (ps_if (PW.pt (pw_or (pt_not (pt_val (Kr.pe_cl h_is_place (hr.mono (by decide)) (pa_cons (pv 1) pa_nil)))) (pw_or1 (PW.pt (pw_and (Kr.p_truth (pv 0) (by intro _; rfl)) (pw_and1 (pt_not (pt_val (Kr.pe_cl h_is_place_among (hr.mono (by decide)) (pa_cons (pv 1) (pa_cons (Kr.pe_mt0 m_Turn_ahead c_Turn (hr.mono (by decide)) (pe_ix ix_list (pv 0) pe_int (fun _ _ => rfl))) pa_nil))))))))))) (pss_one ps_never) pss_nil) (pss_cons (ps_set (i := 2) sc_way.nd rfl (.inl rfl) (pe_lst (pa_cons (pv 1) pa_nil))) (pss_cons (ps_for PassesOwn.never rfl (pi_list (pv 0)) (pg_name (i := 3) sc_way.nd rfl (.inl rfl)) (pss_one (ps_expr (pe_bm PySem.F.plainAttrs_list PySem.F.slot_list_append PySem.F.type_list_append mt_append (pv 2) (pa_cons (Kr.pe_mt m_Turn_goal c_Turn (hr.mono (by decide)) (pv 3) (pa_cons (pe_ix ix_list (pv 2) (pe_un un_neg pe_int) (fun _ _ => rfl)) pa_nil)) pa_nil))))) (pss_one (ps_ret (pv 2))))))), ?_⟩
    rw [st_way]
    walk_at "ss"
    refine ⟨l, ws, Ts, a, b, rfl, hl, P, ch, hz, ne0, fun H1 s1 => ?_⟩
    have hl1 := s1 _ _ hl
    have ht1 := s1 _ _ ht
    have P1 := P.same s1
    walk_at "ss"
    refine ⟨t, p, rfl, ht1, fun H2 s2 => ?_⟩
    have hl2 := s2 _ _ hl1
    have ht2 := s2 _ _ ht1
    have P2 := P1.same s2
    obtain ⟨t0, a1, a2⟩ := P2.get (i := 0) hpos
    have ha0 : Ts[0].a = a := by
      obtain ⟨m, h1, h2, -⟩ := ch.at_ (i := 0) hpos
      rw [h2]
      exact h1.symm
    obtain ⟨dx, pu, pf, pg, h0⟩ := a2.fl
    have ee : ws.isEmpty = false := by
      cases ws with
      | nil => simp at hwl; omega
      | cons _ _ => rfl
    walk_at "ss"
    refine ⟨!ws.isEmpty, .inl ⟨ws, SqL.of hl2, rfl⟩, ?_⟩
    rw [ee]
    refine iteNf ?_
    walk_at "ss"
    refine r_ixL (SqL.of hl2) (at_of (j := 0) rfl a1) ?_
    walk_at "ss"
    refine ⟨t0, _, rfl, a2, ?_⟩
    walk_at "ss"
    refine ⟨t, p, _, rfl, ht2, ha0.symm ▸ v, fun H3 s3 => ?_⟩
    have hl3 := s3 _ _ hl2
    have ht3 := s3 _ _ ht2
    have P3 := P2.same s3
    walk_at "ss"
    refine r_newS fun r H4 hr s4 e4 => ?_
    have hr0 : H3 r = none := hr
    have hl4 := s4 _ _ hl3
    have ht4 := s4 _ _ ht3
    walk_at "ss"
    refine r_forL (xs := ws) (fun i σ H' => ∃ (us : List V) (qs : List Pl) (x3 : Option V), σ = [some (.ref l), some (.ref t), some (.ref r), x3] ∧ Same H3 H' ∧ H' r = some (.lst us) ∧ PlL H' us qs ∧ qs.length = i + 1 ∧ qs[0]? = some p ∧
        (∀ q, qs[i]? = some q → ∃ m, Ch a (Ts.take i) m ∧ Vd m q ∧ orL (Ts.take i) q = p))
      ⟨_, [p], _, rfl, s4, e4, PlL.nil.snoc (s4 _ _ ht3), rfl, rfl, fun q e => ?_⟩ (fun i σ H' hi ⟨us, qs, x3, _, s5, _⟩ => SqL.of (s5 _ _ hl3)) ?_ ?_
    · cases e
      exact ⟨a, rfl, v, rfl⟩
    · rintro i x σ H5 hx ⟨us, qs, x3, rfl, s5, e5, P5, lq, q0, qi⟩
      obtain ⟨y, hi, rfl, TA⟩ := (P3.same s5).item hx
      obtain ⟨dy, yu, yf, yg, hy⟩ := TA.fl
      have hiq : i < qs.length := by omega
      obtain ⟨w, b1, b2⟩ := P5.get hiq
      obtain ⟨m, m1, m2, m3⟩ := qi _ (List.getElem?_eq_getElem hiq)
      obtain ⟨m', k1, k2, k3, k4⟩ := ch.at_ hi
      have em : m' = m := k1.eq m1
      subst em
      have lus : us.length = i + 1 := by rw [P5.len, lq]
      walk_at "ss"
      refine r_ixL (SqL.of e5) (at_neg1 lus b1) ?_
      walk_at "ss"
      refine ⟨y, w, _, _, rfl, TA, b2, k2.symm ▸ m2, fun t' q' H6 s6 v6 o6 e6 => ?_⟩
      have e56 := s6 _ _ e5
      walk_at "ss"
      refine r_append e56 (by omega) ?_
      walk_at "ss"
      have tk : Ts.take (i + 1) = Ts.take i ++ [Ts[i]] := by rw [List.take_add_one, List.getElem?_eq_getElem hi]; rfl
      refine ⟨us ++ [.ref t'], qs ++ [q'], _, rfl, fun b o e => ?_, upd_same, ?_, by simp [lq], by rw [List.getElem?_append_left (by omega)]; exact q0, fun q2 e => ?_⟩
      · rw [upd_ne (ne_of_none e hr0)]
        exact s6 _ _ (s5 b o e)
      · refine ((P5.same s6).snoc e6).keep (x := r) fun b xs h => ?_
        rw [upd_ne (ne_of h e56 (by intro z; cases z))]
        exact h
      · rw [List.getElem?_append_right (by omega), show i + 1 - qs.length = 0 by omega] at e
        cases e
        rw [tk]
        refine ⟨_, Ch.app.mpr ⟨_, k1, show Ts[i].Ok ∧ Ts[i].a = _ ∧ Ts[i].u.length = _ from ⟨k3, k2, rfl⟩⟩, v6, ?_⟩
        rw [orL_app]
        show orL (Ts.take i) (Ts[i].or q') = p
        rw [o6]
        exact m3
    rintro σ H5 ⟨us, qs, x3, rfl, s5, e5, P5, lq, q0, qi⟩
    walk_at "ss"
    rw [hwl] at lq qi
    refine q r H5 us qs (fun b o e => s5 b o (s3 _ _ (s2 _ _ (s1 _ _ e)))) e5 P5 lq q0 fun q2 e => ?_
    obtain ⟨m, m1, m2, m3⟩ := qi q2 e
    rw [List.take_length] at m1 m3
    rw [ch.eq m1]
    exact ⟨m2, m3⟩
theorem ok__law_digits {P : Program} {w : World} {K : PySem.W.Frag} {mg : Str → Option Value} {base : Heap} {f : Addr} {fd : FuncData} (F : FunD K "_law_digits" "_law_digits" (defArgs s__law_digits) (defBody s__law_digits) (defScope s__law_digits) [] [] f fd) (n_int : mg "int" = none) (n_range : mg "range" = none) : FnOk P w K mg base CX0 1 f fd ["cell", "many"] (sp__law_digits K) := by
  refine F.ok sc__law_digits (fun vs H Q E h => by first | (obtain ⟨rfl, _⟩ := h; rfl) | (obtain ⟨_, rfl, _⟩ := h; rfl) | (obtain ⟨_, _, rfl, _⟩ := h; rfl) | (obtain ⟨_, _, _, rfl, _⟩ := h; rfl) | (obtain ⟨_, _, _, _, rfl, _⟩ := h; rfl) | (obtain ⟨_, _, _, _, _, rfl, _⟩ := h; rfl) | (obtain ⟨_, _, _, _, _, _, rfl, _⟩ := h; rfl) | (obtain ⟨_, _, _, _, _, _, _, rfl, _⟩ := h; rfl) | (obtain ⟨_, _, _, _, _, _, _, _, rfl, _⟩ := h; rfl) | (obtain ⟨_, _, _, _, _, _, _, _, _, rfl, _⟩ := h; rfl) | (obtain ⟨_, _, _, _, _, _, _, _, _, _, rfl, _⟩ := h; rfl) | (obtain ⟨_, _, _, _, _, _, _, _, _, _, _, rfl, _⟩ := h; rfl) | (obtain ⟨_, _, _, _, _, _, _, _, _, _, _, _, rfl, _⟩ := h; rfl) | (obtain ⟨_, _, _, _, _, _, _, _, _, _, _, _, _, rfl, _⟩ := h; rfl) | (obtain ⟨_, _, _, _, _, _, _, _, _, _, _, _, _, _, rfl, _⟩ := h; rfl) | (obtain ⟨_, _, _, _, _, _, _, _, _, _, _, _, _, _, _, rfl, _⟩ := h; rfl) | (obtain ⟨_, _, _, _, _, _, _, _, _, _, _, _, _, _, _, _, rfl, _⟩ := h; rfl) | (obtain ⟨_, _, _, _, _, _, _, _, _, _, _, _, _, _, _, _, _, rfl, _⟩ := h; rfl)) (fun cdv A outer s H vs Q E hr h => ?_)
  · have hu := hu_of hr
    obtain ⟨c, m, rfl, hm1000, q⟩ := h
    refine ⟨_, PSs.nox (pss_cons (ps_set (i := 2) sc__law_digits.nd rfl (.inl rfl) (pe_lst pa_nil)) (pss_cons (ps_set (i := 3) sc__law_digits.nd rfl (.inl rfl) pe_int) (pss_cons (ps_if (pt_cmpR op_ge (pv 0) (pe_op op_pow pe_int pe_int) (nomark _)) (pss_one (ps_set (i := 3) sc__law_digits.nd rfl (.inl rfl) (pv 0))) pss_nil) (pss_cons (ps_set (i := 4) sc__law_digits.nd rfl (.inl rfl) (pe_op op_mod (pe_callTy (T := "int") Kr.c_int1 rfl n_int (by decide +kernel) (pa_cons (pv 0) pa_nil)) pe_int)) (pss_cons (ps_for PassesOwn.never rfl (pi_range1 rfl n_range (pa_cons (pv 1) pa_nil)) (pg_name (i := 5) sc__law_digits.nd rfl (.inl rfl)) (pss_cons (ps_set (i := 4) sc__law_digits.nd rfl (.inl rfl) (pe_op op_mod (pe_callTy (T := "int") Kr.c_int1 rfl n_int (by decide +kernel) (pa_cons (pe_op op_add (pe_op op_add (pe_op op_mul (pv 4) pe_int) (pe_op op_mul pe_int (pv 5))) pe_int) pa_nil)) pe_int)) (pss_cons (ps_set (i := 4) sc__law_digits.nd rfl (.inl rfl) (pe_op op_mod (pe_callTy (T := "int") Kr.c_int1 rfl n_int (by decide +kernel) (pa_cons (pe_op op_mul (pv 4) (pe_op op_add (pe_op op_fdivW (pv 4) pe_int) pe_int)) pa_nil)) pe_int)) (pss_one (ps_if (pt_cmpR op_gt (pv 3) pe_int (nomark _)) (pss_cons (ps_expr (pe_bm PySem.F.plainAttrs_list PySem.F.slot_list_append PySem.F.type_list_append mt_append (pv 2) (pa_cons (pe_op op_mod (pe_callTy (T := "int") Kr.c_int1 rfl n_int (by decide +kernel) (pa_cons (pv 3) pa_nil)) pe_int) pa_nil))) (pss_one (ps_set (i := 3) sc__law_digits.nd rfl (.inl rfl) (pe_op op_fdivW (pv 3) pe_int)))) (pss_one (ps_expr (pe_bm PySem.F.plainAttrs_list PySem.F.slot_list_append PySem.F.type_list_append mt_append (pv 2) (pa_cons (pe_op op_mod (pe_callTy (T := "int") Kr.c_int1 rfl n_int (by decide +kernel) (pa_cons (pe_op op_fdivW (pv 4) pe_int) pa_nil)) pe_int) pa_nil))))))))) (pss_one (ps_ret (pv 2)))))))), ?_⟩
    rw [st__law_digits]
    walk_at "ss"
    refine r_newS fun p H1 hp s1 ep => ?_
    walk_at "ss"
    refine r_dec (fun _ => ?_) fun _ => ?_
    all_goals
      walk_at "ss"
      rw [show ((m : Int)).toNat = m by omega]
      refine r_forR (fun i σ H' => ∃ (rest number : Int) (x5 : Option V) (ds : List Int), σ = [some (.int c), some (.int m), some (.ref p), some (.int rest), some (.int number), x5] ∧ 0 ≤ number ∧ number < 2147483647 ∧ ds.length = i ∧ (∀ d ∈ ds, 0 ≤ d ∧ d < 1009) ∧
          H' p = some (.lst (ds.map V.int)) ∧ ∀ b o, H b = some o → H' b = some o) ⟨_, _, _, [], rfl, by omega, by omega, rfl, by simp, ep, s1⟩ ?_ ?_
      · rintro i σ H2 hi ⟨rest, number, x5, ds, rfl, h0, h1, hl, hb, e2, s2⟩
        have hi40 : i < 1000 := by omega
        walk_at "ss"
        refine r_dec (fun _ => ?_) fun _ => ?_
        · walk_at "ss"
          refine r_append e2 (by rw [List.length_map]; omega) ?_
          walk_at "ss"
          refine ⟨_, _, _, ds ++ [rest % 1009], rfl, by omega, by omega, by simp [hl], fun d hd => ?_, ?_, fun b o e => ?_⟩
          · rcases List.mem_append.mp hd with hd | hd
            · exact hb d hd
            · rw [List.mem_singleton] at hd
              omega
          · rw [upd_same, List.map_append]
            rfl
          · rw [upd_ne (ne_of_none e hp)]
            exact s2 b o e
        · walk_at "ss"
          generalize hE : (_ : Int) % 1009 = dd
          have hdd : 0 ≤ dd ∧ dd < 1009 := by
            rw [← hE]
            exact emod_lt (by decide)
          refine r_append e2 (by rw [List.length_map]; omega) ?_
          walk_at "ss"
          refine ⟨_, _, _, ds ++ [dd], rfl, by omega, by omega, by simp [hl], fun d hd => ?_, ?_, fun b o e => ?_⟩
          · rcases List.mem_append.mp hd with hd | hd
            · exact hb d hd
            · rw [List.mem_singleton] at hd
              rw [hd]
              exact hdd
          · rw [upd_same, List.map_append]
            rfl
          · rw [upd_ne (ne_of_none e hp)]
            exact s2 b o e
      · rintro σ H2 ⟨rest, number, x5, ds, rfl, h0, h1, hl, hb, e2, s2⟩
        walk_at "ss"
        exact q p H2 ds s2 hp e2 hl hb
theorem ok__law_next {P : Program} {w : World} {K : PySem.W.Frag} {mg : Str → Option Value} {base : Heap} {f : Addr} {fd : FuncData} (F : FunD K "_law_next" "_law_next" (defArgs s__law_next) (defBody s__law_next) (defScope s__law_next) [] [] f fd) (n_int : mg "int" = none) (n_len : mg "len" = none) : FnOk P w K mg base CX0 1 f fd ["source", "many"] (sp__law_next K) := by
  refine F.ok sc__law_next (fun vs H Q E h => by first | (obtain ⟨rfl, _⟩ := h; rfl) | (obtain ⟨_, rfl, _⟩ := h; rfl) | (obtain ⟨_, _, rfl, _⟩ := h; rfl) | (obtain ⟨_, _, _, rfl, _⟩ := h; rfl) | (obtain ⟨_, _, _, _, rfl, _⟩ := h; rfl) | (obtain ⟨_, _, _, _, _, rfl, _⟩ := h; rfl) | (obtain ⟨_, _, _, _, _, _, rfl, _⟩ := h; rfl) | (obtain ⟨_, _, _, _, _, _, _, rfl, _⟩ := h; rfl) | (obtain ⟨_, _, _, _, _, _, _, _, rfl, _⟩ := h; rfl) | (obtain ⟨_, _, _, _, _, _, _, _, _, rfl, _⟩ := h; rfl) | (obtain ⟨_, _, _, _, _, _, _, _, _, _, rfl, _⟩ := h; rfl) | (obtain ⟨_, _, _, _, _, _, _, _, _, _, _, rfl, _⟩ := h; rfl) | (obtain ⟨_, _, _, _, _, _, _, _, _, _, _, _, rfl, _⟩ := h; rfl) | (obtain ⟨_, _, _, _, _, _, _, _, _, _, _, _, _, rfl, _⟩ := h; rfl) | (obtain ⟨_, _, _, _, _, _, _, _, _, _, _, _, _, _, rfl, _⟩ := h; rfl) | (obtain ⟨_, _, _, _, _, _, _, _, _, _, _, _, _, _, _, rfl, _⟩ := h; rfl) | (obtain ⟨_, _, _, _, _, _, _, _, _, _, _, _, _, _, _, _, rfl, _⟩ := h; rfl) | (obtain ⟨_, _, _, _, _, _, _, _, _, _, _, _, _, _, _, _, _, rfl, _⟩ := h; rfl)) (fun cdv A outer s H vs Q E hr h => ?_)
  · have hu := hu_of hr
    obtain ⟨s, m, rfl, ⟨d, ds, j, hs, hd, hl0, hl1, hb⟩, h0, hm, q⟩ := h
    have nsd : d ≠ s := by
      intro z
      rw [z, hs] at hd
      have e := HO.lst.inj (Option.some.inj hd)
      cases ds with
      | nil => simp at e
      | cons x r => simp at e
    refine ⟨_, PSs.nox (pss_cons (ps_asg (pe_op op_add (pe_ix ix_list (pv 0) pe_int (fun _ _ => rfl)) pe_int) (pg_sub (pv 0) pe_int set_list)) (pss_one (ps_ret (pe_op op_mod (pe_callTy (T := "int") Kr.c_int1 rfl n_int (by decide +kernel) (pa_cons (pe_ix ix_list (pe_ix ix_list (pv 0) pe_int (fun _ _ => rfl)) (pe_op op_mod (pe_callTy (T := "int") Kr.c_int1 rfl n_int (by decide +kernel) (pa_cons (pe_op op_sub (pe_ix ix_list (pv 0) pe_int (fun _ _ => rfl)) pe_int) pa_nil)) (pe_callB (id := "len") Kr.c_len rfl n_len (by decide +kernel) (pa_cons (pe_ix ix_list (pv 0) pe_int (fun _ _ => rfl)) pa_nil))) (fun _ _ => rfl)) pa_nil)) (pv 1))))), ?_⟩
    rw [st__law_next]
    have hz := @emod_lt (j + 1 - 1) (ds.length : Int) (by omega)
    obtain ⟨x, hx⟩ : ∃ x, ds[((j + 1 - 1) % (ds.length : Int)).toNat]? = some x := ⟨_, List.getElem?_eq_getElem (by omega)⟩
    have hm0 := @emod_lt x (m : Int) (by omega)
    walk_at "ss"
    have hd1 : upd H s (.lst ([V.ref d, V.int j].set (Int.toNat 1) (V.int (j + 1)))) d = some (.lst (ds.map V.int)) := by rw [upd_ne nsd]; exact hd
    refine r_lenL (SqL.of hd1) ?_
    rw [List.length_map]
    refine r_I (show (0 : Int) < (ds.length : Int) by omega) ?_
    refine r_ixL (SqL.of hd1) (at_of (j := ((j + 1 - 1) % (ds.length : Int)).toNat) (by show (j + 1 - 1) % (ds.length : Int) = _; omega) (by rw [List.getElem?_map, hx]; rfl)) ?_
    walk_at "ss"
    try (refine r_I (show (0 : Int) < (m : Int) by omega) ?_)
    have er : x % (m : Int) = ((x % (m : Int)).toNat : Int) := by omega
    rw [er]
    exact q _ _ (by omega) ⟨⟨d, ds, j + 1, upd_same, hd1, hl0, hl1, hb⟩, (But.refl s H).upd⟩
theorem ok__law_mixed {P : Program} {w : World} {K : PySem.W.Frag} {mg : Str → Option Value} {base : Heap} {f : Addr} {fd : FuncData} (F : FunD K "_law_mixed" "_law_mixed" (defArgs s__law_mixed) (defBody s__law_mixed) (defScope s__law_mixed) [] [] f fd) (h__law_next : Kr.FnH P w K mg base CX0 1 "_law_next" ["source", "many"] (sp__law_next K)) (n_len : mg "len" = none) (n_list : mg "list" = none) : FnOk P w K mg base CX0 2 f fd ["source", "some"] (sp__law_mixed K) := by
  refine F.ok sc__law_mixed (fun vs H Q E h => by first | (obtain ⟨rfl, _⟩ := h; rfl) | (obtain ⟨_, rfl, _⟩ := h; rfl) | (obtain ⟨_, _, rfl, _⟩ := h; rfl) | (obtain ⟨_, _, _, rfl, _⟩ := h; rfl) | (obtain ⟨_, _, _, _, rfl, _⟩ := h; rfl) | (obtain ⟨_, _, _, _, _, rfl, _⟩ := h; rfl) | (obtain ⟨_, _, _, _, _, _, rfl, _⟩ := h; rfl) | (obtain ⟨_, _, _, _, _, _, _, rfl, _⟩ := h; rfl) | (obtain ⟨_, _, _, _, _, _, _, _, rfl, _⟩ := h; rfl) | (obtain ⟨_, _, _, _, _, _, _, _, _, rfl, _⟩ := h; rfl) | (obtain ⟨_, _, _, _, _, _, _, _, _, _, rfl, _⟩ := h; rfl) | (obtain ⟨_, _, _, _, _, _, _, _, _, _, _, rfl, _⟩ := h; rfl) | (obtain ⟨_, _, _, _, _, _, _, _, _, _, _, _, rfl, _⟩ := h; rfl) | (obtain ⟨_, _, _, _, _, _, _, _, _, _, _, _, _, rfl, _⟩ := h; rfl) | (obtain ⟨_, _, _, _, _, _, _, _, _, _, _, _, _, _, rfl, _⟩ := h; rfl) | (obtain ⟨_, _, _, _, _, _, _, _, _, _, _, _, _, _, _, rfl, _⟩ := h; rfl) | (obtain ⟨_, _, _, _, _, _, _, _, _, _, _, _, _, _, _, _, rfl, _⟩ := h; rfl) | (obtain ⟨_, _, _, _, _, _, _, _, _, _, _, _, _, _, _, _, _, rfl, _⟩ := h; rfl)) (fun cdv A outer s H vs Q E hr h => ?_)
  · have hu := hu_of hr
    obtain ⟨s, l, ws, ps, rfl, sc, hl, P, hz, q⟩ := h
    have hwl := P.len
    refine ⟨_, PSs.nox (pss_cons (ps_par (i := 2) (j := 3) rfl sc__law_mixed.nd rfl rfl (by decide) rfl rfl (pa_cons (pe_callTy (T := "list") Kr.c_list rfl n_list (by decide +kernel) (pa_cons (pv 1) pa_nil)) (pa_cons (pe_lst pa_nil) pa_nil)) (by rfl)) (pss_cons (ps_while PassesOwn.never (pt_cmpR (op_neD hr.units) (pv 2) (pe_lst pa_nil) (nomark _)) (pss_one (ps_expr (pe_bm PySem.F.plainAttrs_list PySem.F.slot_list_append PySem.F.type_list_append mt_append (pv 3) (pa_cons (pe_bm PySem.F.plainAttrs_list PySem.F.slot_list_pop PySem.F.type_list_pop mt_popAt (pv 2) (pa_cons (Kr.pe_cl h__law_next (hr.mono (by decide)) (pa_cons (pv 0) (pa_cons (pe_callB (id := "len") Kr.c_len rfl n_len (by decide +kernel) (pa_cons (pv 2) pa_nil)) pa_nil))) pa_nil)) pa_nil))))) (pss_one (ps_ret (pv 3))))), ?_⟩
    rw [st__law_mixed]
    walk_at "ss"
    refine r_newS fun a H1 na s1 e1 => ?_
    walk_at "ss"
    refine r_newS fun b H2 nb s2 e2 => ?_
    have s12 := s1.trans s2
    have nb0 : H b = none := s1.free nb
    have sc2 := sc.same s12
    have nas : a ≠ s := by
      obtain ⟨d, ds, j, h1, -⟩ := sc.ex
      exact (ne_of_none h1 na).symm
    have nbs : b ≠ s := by
      obtain ⟨d, ds, j, h1, -⟩ := sc.ex
      exact (ne_of_none h1 nb0).symm
    have nab : a ≠ b := ne_of_none e1 nb
    walk_at "ss"
    refine r_while (fun m σ H' => ∃ (us vs : List V) (lp fp : List Pl), σ = [some (.ref s), some (.ref l), some (.ref a), some (.ref b)] ∧ m = lp.length ∧ Sc H' s ∧ (∀ c o, c ≠ s → H c = some o → H' c = some o) ∧ H' a = some (.lst us) ∧ H' b = some (.lst vs) ∧ PlL H' us lp ∧ PlL H' vs fp ∧ (fp ++ lp).Perm ps) _
      ⟨ws, [], ps, [], rfl, rfl, sc2, fun c o _ e => s12 _ _ e, s2 _ _ e1, e2, P.same s12, PlL.nil, by simp⟩ ?_
    rintro m σ H3 ⟨us, vs, lp, fp, rfl, rfl, sc3, k3, a3, b3, PL, PF, pm⟩
    have hpl := pm.length_eq
    rw [List.length_append] at hpl
    walk_at "ss"
    refine r_newS fun t H4 nt s4 e4 => ?_
    refine r_nePls (s4 _ _ a3) (PL.same s4) e4 PlL.nil ?_
    by_cases z : lp = []
    · rw [decide_eq_true z]
      refine r_bl ?_
      refine r_whF ?_
      walk_at "ss"
      exact q b vs fp H4 ⟨sc3.same s4, fun c o n e => s4 _ _ (k3 c o n e)⟩ nb0 (s4 _ _ b3) (PF.same s4) (by rw [z, List.append_nil] at pm; exact pm)
    · rw [decide_eq_false z]
      refine r_bl ?_
      refine r_whT ?_
      have hpos : 0 < lp.length := List.length_pos_iff.mpr z
      have a4 := s4 _ _ a3
      have b4 := s4 _ _ b3
      have sc4 := sc3.same s4
      walk_at "ss"
      rw [PL.len]
      refine ⟨s, lp.length, rfl, sc4, hpos, by omega, fun k H5 hk x5 => ?_⟩
      have a5 := x5.old _ _ nas a4
      have b5 := x5.old _ _ nbs b4
      have PL5 := (PL.same s4).sx sc4 x5
      have PF5 := (PF.same s4).sx sc4 x5
      obtain ⟨y, y1, y2⟩ := PL5.get hk
      have lus := PL.len
      walk_at "ss"
      refine ⟨a, us, k, k, .ref y, rfl, rfl, a5, by omega, by omega, ?_, y1, ?_⟩
      · exact seqIndex_of (by omega) (by rw [lus]; exact_mod_cast hk)
      have b6 : upd H5 a (.lst (us.eraseIdx k)) b = some (.lst vs) := by rw [upd_ne nab.symm]; exact b5
      walk_at "ss"
      refine r_append b6 (by rw [PF.len]; omega) ?_
      walk_at "ss"
      have tp : ∀ c xs, H5 c = some (.tup xs) → upd (upd H5 a (.lst (us.eraseIdx k))) b (.lst (vs ++ [.ref y])) c = some (.tup xs) := fun c xs e => by
        rw [upd_ne (ne_of e b5 (by intro z; cases z)), upd_ne (ne_of e a5 (by intro z; cases z))]
        exact e
      refine ⟨_, ?_, us.eraseIdx k, vs ++ [.ref y], lp.eraseIdx k, fp ++ [lp[k]], rfl, rfl, ?_, fun c o n e => ?_, ?_, upd_same, ?_, ?_, ?_⟩
      · rw [List.length_eraseIdx_of_lt hk]
        omega
      · obtain ⟨d, ds, j, h1, h2, h3⟩ := x5.sc.ex
        have nd : ∀ l ws, H5 l = some (.lst ws) → (∀ v ∈ ws, ∃ t, v = V.ref t) → d ≠ l := fun l ws e r z => by
          rw [z, e] at h2
          have e2 := HO.lst.inj (Option.some.inj h2)
          cases ds with
          | nil => exact absurd h3.1 (by simp)
          | cons x ds =>
            obtain ⟨t, h⟩ := r (V.int x) (by rw [e2]; simp)
            cases h
        have nda : d ≠ a ∧ d ≠ b := ⟨nd a _ a5 PL5.rf, nd b _ b5 PF5.rf⟩
        exact ⟨d, ds, j, by rw [upd_ne nbs.symm, upd_ne nas.symm]; exact h1, by rw [upd_ne nda.2, upd_ne nda.1]; exact h2, h3⟩
      · rw [upd_ne (ne_of_none e nb0), upd_ne (ne_of_none e na)]
        exact x5.old _ _ n (s4 _ _ (k3 c o n e))
      · rw [upd_ne nab]
        exact upd_same
      · have := ((PL5.take k).app (PL5.drop (k + 1))).keep (x := a) tp
        rw [← List.eraseIdx_eq_take_drop_succ, ← List.eraseIdx_eq_take_drop_succ] at this
        exact this
      · exact (PF5.snoc y2).keep (x := a) tp
      · rw [List.append_assoc]
        refine List.Perm.trans (List.Perm.append_left fp ?_) pm
        rw [List.eraseIdx_eq_take_drop_succ]
        have e := List.perm_middle (a := lp[k]) (l₁ := lp.take k) (l₂ := lp.drop (k + 1))
        rw [List.getElem_cons_drop, List.take_append_drop] at e
        exact e.symm
theorem ok__law_drawn {P : Program} {w : World} {K : PySem.W.Frag} {mg : Str → Option Value} {base : Heap} {f : Addr} {fd : FuncData} (F : FunD K "_law_drawn" "_law_drawn" (defArgs s__law_drawn) (defBody s__law_drawn) (defScope s__law_drawn) [] [] f fd) (h__law_mixed : Kr.FnH P w K mg base CX0 2 "_law_mixed" ["source", "some"] (sp__law_mixed K)) (h__law_next : Kr.FnH P w K mg base CX0 1 "_law_next" ["source", "many"] (sp__law_next K)) (n_len : mg "len" = none) (n_range : mg "range" = none) : FnOk P w K mg base CX0 3 f fd ["source", "ahead"] (sp__law_drawn K) := by
  refine F.ok sc__law_drawn (fun vs H Q E h => by first | (obtain ⟨rfl, _⟩ := h; rfl) | (obtain ⟨_, rfl, _⟩ := h; rfl) | (obtain ⟨_, _, rfl, _⟩ := h; rfl) | (obtain ⟨_, _, _, rfl, _⟩ := h; rfl) | (obtain ⟨_, _, _, _, rfl, _⟩ := h; rfl) | (obtain ⟨_, _, _, _, _, rfl, _⟩ := h; rfl) | (obtain ⟨_, _, _, _, _, _, rfl, _⟩ := h; rfl) | (obtain ⟨_, _, _, _, _, _, _, rfl, _⟩ := h; rfl) | (obtain ⟨_, _, _, _, _, _, _, _, rfl, _⟩ := h; rfl) | (obtain ⟨_, _, _, _, _, _, _, _, _, rfl, _⟩ := h; rfl) | (obtain ⟨_, _, _, _, _, _, _, _, _, _, rfl, _⟩ := h; rfl) | (obtain ⟨_, _, _, _, _, _, _, _, _, _, _, rfl, _⟩ := h; rfl) | (obtain ⟨_, _, _, _, _, _, _, _, _, _, _, _, rfl, _⟩ := h; rfl) | (obtain ⟨_, _, _, _, _, _, _, _, _, _, _, _, _, rfl, _⟩ := h; rfl) | (obtain ⟨_, _, _, _, _, _, _, _, _, _, _, _, _, _, rfl, _⟩ := h; rfl) | (obtain ⟨_, _, _, _, _, _, _, _, _, _, _, _, _, _, _, rfl, _⟩ := h; rfl) | (obtain ⟨_, _, _, _, _, _, _, _, _, _, _, _, _, _, _, _, rfl, _⟩ := h; rfl) | (obtain ⟨_, _, _, _, _, _, _, _, _, _, _, _, _, _, _, _, _, rfl, _⟩ := h; rfl)) (fun cdv A outer s H vs Q E hr h => ?_)
  · have hu := hu_of hr
    obtain ⟨s, a, rfl, sc, ha, q⟩ := h
    refine ⟨_, PSs.nox (pss_cons (ps_set (i := 2) sc__law_drawn.nd rfl (.inl rfl) (Kr.pe_cl h__law_next (hr.mono (by decide)) (pa_cons (pv 0) (pa_cons pe_int pa_nil)))) (pss_cons (ps_set (i := 3) sc__law_drawn.nd rfl (.inl rfl) (Kr.pe_cl h__law_mixed (hr.mono (by decide)) (pa_cons (pv 0) (pa_cons (pe_op Kr.op_catS (pe_lc (own := [("k", 5)]) rfl sc__law_drawn.nd (pi_range1 rfl n_range (pa_cons (pv 1) pa_nil)) (blkOk_by (own := [("k", 5)]) (N := N__law_drawn) (sc := defScope s__law_drawn) (by decide +kernel)) (fun _ _ _ _ _ => (pg_name (i := 5) sc__law_drawn.nd rfl (.inl rfl))) (fun _ _ _ _ _ => pts_nil) (fun _ _ _ _ _ => (pe_tup (pa_cons pe_str (pa_cons (pv 5) pa_nil))))) (pe_lc (own := [("k", 5)]) rfl sc__law_drawn.nd (pi_range1 rfl n_range (pa_cons (pv 2) pa_nil)) (blkOk_by (own := [("k", 5)]) (N := N__law_drawn) (sc := defScope s__law_drawn) (by decide +kernel)) (fun _ _ _ _ _ => (pg_name (i := 5) sc__law_drawn.nd rfl (.inl rfl))) (fun _ _ _ _ _ => pts_nil) (fun _ _ _ _ _ => (pe_tup (pa_cons pe_str (pa_cons (pv 5) pa_nil)))))) pa_nil)))) (pss_cons (ps_set (i := 4) sc__law_drawn.nd rfl (.inl rfl) (Kr.pe_cl h__law_next (hr.mono (by decide)) (pa_cons (pv 0) (pa_cons (pe_op op_add (pe_callB (id := "len") Kr.c_len rfl n_len (by decide +kernel) (pa_cons (pv 3) pa_nil)) pe_int) pa_nil)))) (pss_one (ps_ret (pe_tup (pa_cons (pe_slice sl_list (pv 3) po_none (po_some (pv 4))) (pa_cons (pe_slice sl_list (pv 3) (po_some (pv 4)) po_none) (pa_cons (pv 2) pa_nil))))))))), ?_⟩
    rw [st__law_drawn]
    walk_at "ss"
    refine ⟨s, 7, rfl, sc, by decide, by decide, fun n H1 hn x1 => ?_⟩
    walk_at "ss"
    intro D hD
    rw [show ((a : Int)).toNat = a by omega]
    refine lc_rangeS [some (.ref s), some (.int a), some (.int n), none, none, none] rfl (fun i H5 => Same H1 H5 ∧ ∃ vs, H5 D = some (.lst vs) ∧ PlL H5 vs ((List.range i).map Pl.use)) ⟨same_new hD, [], upd_same, PlL.nil⟩ ?_ ?_
    · rintro i H5 hi ⟨s5, vs, e5, P5⟩
      walk_at "ss"
      refine ⟨rfl, ?_⟩
      walk_at "ss"
      refine r_newS fun w H6 hw s6 e6 => ?_
      have e6' : H6 w = some (plO (Pl.use i)) := by
        rw [e6]
        show some (HO.tup [V.str "use", V.int (0 + (i : Int))]) = _
        rw [Int.zero_add]
        rfl
      have e56 := s6 _ _ e5
      refine ⟨vs, e56, by rw [P5.len]; simp; exact szl (by omega), fun b o e => ?_, _, upd_same, ?_⟩
      · rw [upd_ne (ne_of_none e hD)]
        exact s6 _ _ (s5 b o e)
      · rw [List.range_succ, List.map_append]
        refine ((P5.same s6).snoc e6').keep (x := D) fun b xs h => ?_
        rw [upd_ne (ne_of h e56 (by intro z; cases z))]
        exact h
    rintro H2 ⟨s2, us, e2, P2⟩
    walk_at "ss"
    intro D2 hD2
    rw [show ((n : Int)).toNat = n by omega]
    refine lc_rangeS [some (.ref s), some (.int a), some (.int n), none, none, none] rfl (fun i H5 => Same H2 H5 ∧ ∃ vs, H5 D2 = some (.lst vs) ∧ PlL H5 vs ((List.range i).map Pl.lst)) ⟨same_new hD2, [], upd_same, PlL.nil⟩ ?_ ?_
    · rintro i H5 hi ⟨s5, vs, e5, P5⟩
      walk_at "ss"
      refine ⟨rfl, ?_⟩
      walk_at "ss"
      refine r_newS fun w H6 hw s6 e6 => ?_
      have e6' : H6 w = some (plO (Pl.lst i)) := by
        rw [e6]
        show some (HO.tup [V.str "list", V.int (0 + (i : Int))]) = _
        rw [Int.zero_add]
        rfl
      have e56 := s6 _ _ e5
      refine ⟨vs, e56, by rw [P5.len]; simp; exact szl (by omega), fun b o e => ?_, _, upd_same, ?_⟩
      · rw [upd_ne (ne_of_none e hD2)]
        exact s6 _ _ (s5 b o e)
      · rw [List.range_succ, List.map_append]
        refine ((P5.same s6).snoc e6').keep (x := D2) fun b xs h => ?_
        rw [upd_ne (ne_of h e56 (by intro z; cases z))]
        exact h
    rintro H3 ⟨s3, ls, e3, P3⟩
    have lu := P2.len
    have ll := P3.len
    rw [List.length_map, List.length_range] at lu ll
    refine r_catS (SqL.of (s3 _ _ e2)) (SqL.of e3) (by omega) ?_
    refine r_newS fun l H4 nl s4 e4 => ?_
    have x4 : Sx s H H4 := x1.same (s2.trans (s3.trans s4))
    walk_at "ss"
    refine ⟨s, l, us ++ ls, Tm.base a n, rfl, x4.sc, e4, (P2.same (s3.trans s4)).app (P3.same s4), by rw [base_len]; omega, fun r ms qs H5 x5 nr hr PQ pm => ?_⟩
    have lq := PQ.len
    have pl := pm.length_eq
    rw [base_len] at pl
    walk_at "ss"
    rw [lq, show ((qs.length : Int) + 1) = ((qs.length + 1 : Nat) : Int) by omega]
    refine ⟨s, qs.length + 1, rfl, x5.sc, by omega, by omega, fun m H6 hm x6 => ?_⟩
    have hr6 : H6 r = some (.lst ms) := x6.lst x5.sc hr PQ.rf
    have PQ6 := PQ.sx x5.sc x6
    walk_at "ss"
    rw [cut_to (by omega)]
    refine r_newS fun l1 H7 n7 s7 e7 => ?_
    have hr7 := s7 _ _ hr6
    walk_at "ss"
    rw [cut_from (by omega)]
    refine r_newS fun l2 H8 n8 s8 e8 => ?_
    walk_at "ss"
    refine r_newS fun t H9 n9 s9 e9 => ?_
    have s79 := s7.trans (s8.trans s9)
    exact q t l1 l2 (ms.take m) (ms.drop m) ⟨qs.take m, qs.drop m, n, a⟩ H9 ((x4.trans (x5.trans x6)).same s79) e9 (s9 _ _ (s8 _ _ e7)) ((PQ6.same s79).take m) (s9 _ _ e8) ((PQ6.same s79).drop m) ⟨by rw [List.take_append_drop]; exact pm⟩ rfl (by show n ≤ 6; omega)
theorem ok__law_turn {P : Program} {w : World} {K : PySem.W.Frag} {mg : Str → Option Value} {base : Heap} {f : Addr} {fd : FuncData} (F : FunD K "_law_turn" "_law_turn" (defArgs s__law_turn) (defBody s__law_turn) (defScope s__law_turn) [] [] f fd) (mk_Turn : Kr.MkH P w K mg base CX0 4 "Turn" (He.ga K "Turn") ["self", "used", "front", "fresh"] (sp_Turn___init__ K)) (n_list : mg "list" = none) : FnOk P w K mg base CX0 6 f fd ["parts"] (sp__law_turn K) := by
  refine F.ok sc__law_turn (fun vs H Q E h => by first | (obtain ⟨rfl, _⟩ := h; rfl) | (obtain ⟨_, rfl, _⟩ := h; rfl) | (obtain ⟨_, _, rfl, _⟩ := h; rfl) | (obtain ⟨_, _, _, rfl, _⟩ := h; rfl) | (obtain ⟨_, _, _, _, rfl, _⟩ := h; rfl) | (obtain ⟨_, _, _, _, _, rfl, _⟩ := h; rfl) | (obtain ⟨_, _, _, _, _, _, rfl, _⟩ := h; rfl) | (obtain ⟨_, _, _, _, _, _, _, rfl, _⟩ := h; rfl) | (obtain ⟨_, _, _, _, _, _, _, _, rfl, _⟩ := h; rfl) | (obtain ⟨_, _, _, _, _, _, _, _, _, rfl, _⟩ := h; rfl) | (obtain ⟨_, _, _, _, _, _, _, _, _, _, rfl, _⟩ := h; rfl) | (obtain ⟨_, _, _, _, _, _, _, _, _, _, _, rfl, _⟩ := h; rfl) | (obtain ⟨_, _, _, _, _, _, _, _, _, _, _, _, rfl, _⟩ := h; rfl) | (obtain ⟨_, _, _, _, _, _, _, _, _, _, _, _, _, rfl, _⟩ := h; rfl) | (obtain ⟨_, _, _, _, _, _, _, _, _, _, _, _, _, _, rfl, _⟩ := h; rfl) | (obtain ⟨_, _, _, _, _, _, _, _, _, _, _, _, _, _, _, rfl, _⟩ := h; rfl) | (obtain ⟨_, _, _, _, _, _, _, _, _, _, _, _, _, _, _, _, rfl, _⟩ := h; rfl) | (obtain ⟨_, _, _, _, _, _, _, _, _, _, _, _, _, _, _, _, _, rfl, _⟩ := h; rfl)) (fun cdv A outer s H vs Q E hr h => ?_)
  · have hu := hu_of hr
    obtain ⟨t, pu, pf, vu, vf, T, rfl, ht, h1, P1, h2, P2, pm, b1, b2, q⟩ := h
    refine ⟨_, PSs.nox (pss_one (ps_ret (Kr.pe_mk mk_Turn (hr.mono (by decide)) (pa_cons (pe_callTy (T := "list") Kr.c_list rfl n_list (by decide +kernel) (pa_cons (pe_ix ix_tup (pv 0) pe_int (fun _ _ => rfl)) pa_nil)) (pa_cons (pe_callTy (T := "list") Kr.c_list rfl n_list (by decide +kernel) (pa_cons (pe_ix ix_tup (pv 0) pe_int (fun _ _ => rfl)) pa_nil)) (pa_cons (pe_ix ix_tup (pv 0) pe_int (fun _ _ => rfl)) pa_nil)))))), ?_⟩
    rw [st__law_turn]
    walk_at "ss"
    refine r_newS fun l1 H1 n1 s1 e1 => ?_
    have ht1 := s1 _ _ ht
    have h21 := s1 _ _ h2
    walk_at "ss"
    refine r_newS fun l2 H2 n2 s2 e2 => ?_
    have s12 := s1.trans s2
    have ht2 := s12 _ _ ht
    walk_at "ss"
    intro z dz hz hdz nz
    have s6 : Same H2 (upd (upd H2 dz (.own z)) z (.ins (He.ga K "Turn") dz [])) := (same_new hdz).trans (same_new (by rw [upd_ne nz.symm]; exact hz))
    refine ⟨z, dz, l1, l2, vu, vf, T.u, T.f, T.n, T.a, rfl, upd_same, s6 _ _ (s2 _ _ e1), (P1.same s12).same s6, s6 _ _ e2, (P2.same s12).same s6, pm, b1, b2, fun R H' okR eu ea eo ef en keep TA av => ⟨rfl, ?_⟩⟩
    have sH : Same H H' := fun b o e => keep b o (ne_of_none (s12 b o e) hz) (s6 b o (s12 b o e))
    exact q z R H' okR eu ea eo ef en sH (s12.free hz) TA fun l ws hl => av l ws (s6 _ _ (s12 _ _ hl))
theorem ok__law_origin {P : Program} {w : World} {K : PySem.W.Frag} {mg : Str → Option Value} {base : Heap} {f : Addr} {fd : FuncData} (F : FunD K "_law_origin" "_law_origin" (defArgs s__law_origin) (defBody s__law_origin) (defScope s__law_origin) [] [] f fd) (n_len : mg "len" = none) : FnOk P w K mg base CX0 1 f fd ["parts", "place"] (sp__law_origin K) := by
  refine F.ok sc__law_origin (fun vs H Q E h => by first | (obtain ⟨rfl, _⟩ := h; rfl) | (obtain ⟨_, rfl, _⟩ := h; rfl) | (obtain ⟨_, _, rfl, _⟩ := h; rfl) | (obtain ⟨_, _, _, rfl, _⟩ := h; rfl) | (obtain ⟨_, _, _, _, rfl, _⟩ := h; rfl) | (obtain ⟨_, _, _, _, _, rfl, _⟩ := h; rfl) | (obtain ⟨_, _, _, _, _, _, rfl, _⟩ := h; rfl) | (obtain ⟨_, _, _, _, _, _, _, rfl, _⟩ := h; rfl) | (obtain ⟨_, _, _, _, _, _, _, _, rfl, _⟩ := h; rfl) | (obtain ⟨_, _, _, _, _, _, _, _, _, rfl, _⟩ := h; rfl) | (obtain ⟨_, _, _, _, _, _, _, _, _, _, rfl, _⟩ := h; rfl) | (obtain ⟨_, _, _, _, _, _, _, _, _, _, _, rfl, _⟩ := h; rfl) | (obtain ⟨_, _, _, _, _, _, _, _, _, _, _, _, rfl, _⟩ := h; rfl) | (obtain ⟨_, _, _, _, _, _, _, _, _, _, _, _, _, rfl, _⟩ := h; rfl) | (obtain ⟨_, _, _, _, _, _, _, _, _, _, _, _, _, _, rfl, _⟩ := h; rfl) | (obtain ⟨_, _, _, _, _, _, _, _, _, _, _, _, _, _, _, rfl, _⟩ := h; rfl) | (obtain ⟨_, _, _, _, _, _, _, _, _, _, _, _, _, _, _, _, rfl, _⟩ := h; rfl) | (obtain ⟨_, _, _, _, _, _, _, _, _, _, _, _, _, _, _, _, _, rfl, _⟩ := h; rfl)) (fun cdv A outer s H vs Q E hr h => ?_)
  · have hu := hu_of hr
    obtain ⟨t, pl, T, p, rfl, ⟨pu, pf, vu, vf, h1, h2, h3, h4, h5⟩, ht, v, q⟩ := h
    refine ⟨_, PSs.nox (pss_cons (ps_asg (pv 0) (pg_tup rfl (pgs_cons (pg_name (i := 2) sc__law_origin.nd rfl (.inl rfl)) (pgs_cons (pg_name (i := 3) sc__law_origin.nd rfl (.inl rfl)) (pgs_cons (pg_name (i := 4) sc__law_origin.nd rfl (.inl rfl)) pgs_nil))))) (pss_cons (ps_if (pt_cmpR op_eq (pe_ix ix_tup (pv 1) pe_int (fun _ _ => rfl)) pe_str (nomark _)) (pss_one (ps_ret (pe_ix ix_list (pv 2) (pe_ix ix_tup (pv 1) pe_int (fun _ _ => rfl)) (fun _ _ => rfl)))) pss_nil) (pss_one (ps_ret (pe_ifExp (pt_cmpR op_lt (pe_ix ix_tup (pv 1) pe_int (fun _ _ => rfl)) (pe_callB (id := "len") Kr.c_len rfl n_len (by decide +kernel) (pa_cons (pv 3) pa_nil)) (nomark _)) (pe_ix ix_list (pv 3) (pe_ix ix_tup (pv 1) pe_int (fun _ _ => rfl)) (fun _ _ => rfl)) (pe_tup (pa_cons pe_str (pa_cons (pe_op op_sub (pe_op op_add (pv 4) (pe_ix ix_tup (pv 1) pe_int (fun _ _ => rfl))) (pe_callB (id := "len") Kr.c_len rfl n_len (by decide +kernel) (pa_cons (pv 3) pa_nil))) pa_nil)))))))), ?_⟩
    rw [st__law_origin]
    walk_at "ss"
    cases p with
    | use k =>
      have hk : k < T.u.length := v
      rw [show decide ((Pl.use k).w = "use") = true from decide_eq_true rfl]
      walk_at "ss"
      obtain ⟨t', a1, a2⟩ := h3.get hk
      refine r_ixL (SqL.of h2) (at_of rfl a1) ?_
      refine q t' H (fun _ _ e => e) ?_
      rw [Tn.or_use hk]
      exact a2
    | lst k =>
      rw [show decide ((Pl.lst k).w = "use") = false from by show decide (("list" : Str) = "use") = false; decide +kernel]
      walk_at "ss"
      rw [h5.len]
      refine r_dec (fun hlt => ?_) fun hge => ?_
      · have hk : k < T.f.length := Int.ofNat_lt.mp hlt
        walk_at "ss"
        obtain ⟨t', a1, a2⟩ := h5.get hk
        refine r_ixL (SqL.of h4) (at_of rfl a1) ?_
        refine q t' H (fun _ _ e => e) ?_
        rw [Tn.or_frn hk]
        exact a2
      · have hk : T.f.length ≤ k := Nat.le_of_not_lt fun h => hge (Int.ofNat_lt.mpr h)
        walk_at "ss"
        rw [h5.len]
        refine r_newS fun t' H2 n s2 e2 => ?_
        refine q t' H2 s2 ?_
        rw [Tn.or_bck hk, e2]
        show some (HO.tup [.str "list", .int ((T.n : Int) + (k : Int) - (T.f.length : Int))]) = some (HO.tup [.str "list", .int ((k - T.f.length + T.n : Nat) : Int)])
        rw [show (T.n : Int) + (k : Int) - (T.f.length : Int) = ((k - T.f.length + T.n : Nat) : Int) by omega]

theorem lt__law_part {P : Program} {w : World} {K : PySem.W.Frag} {mg : Str → Option Value} {base : Heap} {f : Addr} {fd : FuncData} (F : FunD K "_law_part" "_law_part" (defArgs s__law_part) (defBody s__law_part) (defScope s__law_part) [] [] f fd) (hm : mg "_law_part" = some (.ref f)) (hb : L2.Binds K fd ["ask"] []) (k_InvalidArgument : mg "InvalidArgument" = some (.ref (He.ga K "InvalidArgument"))) (x_em_InvalidArgument : PySem.W.exmOne K (.ref (He.ga K "InvalidArgument")) (.ref (He.ga K "InvalidArgument")) = some true) (x_no_InvalidArgument : PySem.W.findIn K (.ref (He.ga K "InvalidArgument")) "part" = some none) (x_xf_InvalidArgument : XfC K (He.ga K "InvalidArgument")) : KrL.LamH P w K mg base "_law_part" (tt__law_part K) := by
  refine ⟨_, f, fd, _, _, _, N__law_part, hm, F, hb, sc__law_part, rfl, by first | exact .inl rfl | exact .inr (.inl rfl), by decide, by decide, ?_⟩
  rintro X cdv rfl rfl rfl rfl rfl q f co s0 H Q tl act hco h
  refine ⟨_, (pss_cons (ps_try_as (i := 1) rfl rfl sc__law_part.nd rfl rfl ⟨rfl, by decide, .inl k_InvalidArgument⟩ LamX.takes0 (fun W pn xe tk _ => (pss_one (ps_expr (act W pn xe _ _ tk)))) (fun a oe cls d pn hz hf => (pss_one (ps_ret (pe_xf x_xf_InvalidArgument x_no_InvalidArgument hz hf (pv 1)))))) (pss_one (ps_ret pe_non))), ?_⟩
  rw [st__law_part]
  walk_at "ss"
  refine ⟨rfl, hco, _, fun cls d H' hz => ?_, h⟩
  obtain ⟨dd, v, rfl, rfl, e1, q1⟩ := hz
  refine ⟨true, x_em_InvalidArgument, fun _ a ha => ?_, fun z => nomatch z⟩
  dsimp only [List.set]
  walk_at "ss"
  refine KrE.r_tXf ?_
  walk_at "ss"
  refine KrE.r_xf e1 rfl ?_
  walk_at "ss"
  exact q1
theorem ok__law_goal {P : Program} {w : World} {K : PySem.W.Frag} {mg : Str → Option Value} {base : Heap} {f : Addr} {fd : FuncData} (F : FunD K "_law_goal" "_law_goal" (defArgs s__law_goal) (defBody s__law_goal) (defScope s__law_goal) [] [] f fd) (n_len : mg "len" = none) : FnOk P w K mg base CX0 1 f fd ["parts", "place"] (sp__law_goal K) := by
  refine F.ok sc__law_goal (fun vs H Q E h => by first | (obtain ⟨rfl, _⟩ := h; rfl) | (obtain ⟨_, rfl, _⟩ := h; rfl) | (obtain ⟨_, _, rfl, _⟩ := h; rfl) | (obtain ⟨_, _, _, rfl, _⟩ := h; rfl) | (obtain ⟨_, _, _, _, rfl, _⟩ := h; rfl) | (obtain ⟨_, _, _, _, _, rfl, _⟩ := h; rfl) | (obtain ⟨_, _, _, _, _, _, rfl, _⟩ := h; rfl) | (obtain ⟨_, _, _, _, _, _, _, rfl, _⟩ := h; rfl) | (obtain ⟨_, _, _, _, _, _, _, _, rfl, _⟩ := h; rfl) | (obtain ⟨_, _, _, _, _, _, _, _, _, rfl, _⟩ := h; rfl) | (obtain ⟨_, _, _, _, _, _, _, _, _, _, rfl, _⟩ := h; rfl) | (obtain ⟨_, _, _, _, _, _, _, _, _, _, _, rfl, _⟩ := h; rfl) | (obtain ⟨_, _, _, _, _, _, _, _, _, _, _, _, rfl, _⟩ := h; rfl) | (obtain ⟨_, _, _, _, _, _, _, _, _, _, _, _, _, rfl, _⟩ := h; rfl) | (obtain ⟨_, _, _, _, _, _, _, _, _, _, _, _, _, _, rfl, _⟩ := h; rfl) | (obtain ⟨_, _, _, _, _, _, _, _, _, _, _, _, _, _, _, rfl, _⟩ := h; rfl) | (obtain ⟨_, _, _, _, _, _, _, _, _, _, _, _, _, _, _, _, rfl, _⟩ := h; rfl) | (obtain ⟨_, _, _, _, _, _, _, _, _, _, _, _, _, _, _, _, _, rfl, _⟩ := h; rfl)) (fun cdv A outer s H vs Q E hr h => ?_)
  · have hu := hu_of hr
    obtain ⟨t, pl, T, p, rfl, ⟨pu, pf, vu, vf, h1, h2, h3, h4, h5⟩, pm, ht, v, q⟩ := h
    refine ⟨_, PSs.nox (pss_cons (ps_asg (pv 0) (pg_tup rfl (pgs_cons (pg_name (i := 2) sc__law_goal.nd rfl (.inl rfl)) (pgs_cons (pg_name (i := 3) sc__law_goal.nd rfl (.inl rfl)) (pgs_cons (pg_name (i := 4) sc__law_goal.nd rfl (.inl rfl)) pgs_nil))))) (pss_cons (ps_if (pt_cmpR (op_inD (KrL.un65 hr)) (pv 1) (pv 2) (by rfl)) (pss_one (ps_ret (pe_tup (pa_cons pe_str (pa_cons (pe_bm PySem.F.plainAttrs_list PySem.F.slot_list_index PySem.F.type_list_index (mt_indexD (KrL.un65 hr)) (pv 2) (pa_cons (pv 1) pa_nil)) pa_nil))))) pss_nil) (pss_cons (ps_if (pt_cmpR (op_inD (KrL.un65 hr)) (pv 1) (pv 3) (by rfl)) (pss_one (ps_ret (pe_tup (pa_cons pe_str (pa_cons (pe_bm PySem.F.plainAttrs_list PySem.F.slot_list_index PySem.F.type_list_index (mt_indexD (KrL.un65 hr)) (pv 3) (pa_cons (pv 1) pa_nil)) pa_nil))))) pss_nil) (pss_one (ps_ret (pe_tup (pa_cons pe_str (pa_cons (pe_op op_add (pe_op op_sub (pe_ix ix_tup (pv 1) pe_int (fun _ _ => rfl)) (pv 4)) (pe_callB (id := "len") Kr.c_len rfl n_len (by decide +kernel) (pa_cons (pv 3) pa_nil))) pa_nil)))))))), ?_⟩
    rw [st__law_goal]
    walk_at "ss"
    have nd := pm.nd
    have ndu : T.u.Nodup := (List.nodup_append.mp nd).1
    have ndf : T.f.Nodup := (List.nodup_append.mp nd).2.1
    refine r_inPl ht h2 h3 ?_
    by_cases hu : p ∈ T.u
    · rw [decide_eq_true hu]
      walk_at "ss"
      obtain ⟨k, hk⟩ := List.getElem?_of_mem hu
      refine r_indexPl ht h2 h3 ndu hk ?_
      walk_at "ss"
      refine r_newS fun t' H2 n s2 e2 => ?_
      obtain ⟨k1, k2⟩ := List.getElem?_eq_some_iff.mp hk
      exact q t' (.use k) H2 s2 e2 k1 (by rw [Tn.or_use k1]; exact k2)
    · rw [decide_eq_false hu]
      walk_at "ss"
      refine r_inPl ht h4 h5 ?_
      by_cases hf : p ∈ T.f
      · rw [decide_eq_true hf]
        walk_at "ss"
        obtain ⟨k, hk⟩ := List.getElem?_of_mem hf
        refine r_indexPl ht h4 h5 ndf hk ?_
        walk_at "ss"
        refine r_newS fun t' H2 n s2 e2 => ?_
        obtain ⟨k1, k2⟩ := List.getElem?_eq_some_iff.mp hk
        exact q t' (.lst k) H2 s2 e2 trivial (by rw [Tn.or_frn k1]; exact k2)
      · rw [decide_eq_false hf]
        walk_at "ss"
        rcases pm.cases v with ⟨k, hk, e⟩ | ⟨k, hk, e⟩ | ⟨k, rfl, hk⟩
        · exact absurd (List.mem_of_getElem? e) hu
        · exact absurd (List.mem_of_getElem? e) hf
        rw [h5.len]
        refine r_newS fun t' H2 n s2 e2 => ?_
        refine q t' (.lst (k - T.n + T.f.length)) H2 s2 ?_ trivial ?_
        · rw [e2]
          show some (HO.tup [.str "list", .int ((k : Int) - (T.n : Int) + (T.f.length : Int))]) = some (HO.tup [.str "list", .int ((k - T.n + T.f.length : Nat) : Int)])
          rw [show (k : Int) - (T.n : Int) + (T.f.length : Int) = ((k - T.n + T.f.length : Nat) : Int) by omega]
        · rw [Tn.or_bck (by omega)]
          congr 1
          omega
theorem ok__law_path {P : Program} {w : World} {K : PySem.W.Frag} {mg : Str → Option Value} {base : Heap} {f : Addr} {fd : FuncData} (F : FunD K "_law_path" "_law_path" (defArgs s__law_path) (defBody s__law_path) (defScope s__law_path) [] [] f fd) (h__law_goal : Kr.FnH P w K mg base CX0 1 "_law_goal" ["parts", "place"] (sp__law_goal K)) : FnOk P w K mg base CX0 2 f fd ["rows", "place"] (sp__law_path K) := by
  refine F.ok sc__law_path (fun vs H Q E h => by first | (obtain ⟨rfl, _⟩ := h; rfl) | (obtain ⟨_, rfl, _⟩ := h; rfl) | (obtain ⟨_, _, rfl, _⟩ := h; rfl) | (obtain ⟨_, _, _, rfl, _⟩ := h; rfl) | (obtain ⟨_, _, _, _, rfl, _⟩ := h; rfl) | (obtain ⟨_, _, _, _, _, rfl, _⟩ := h; rfl) | (obtain ⟨_, _, _, _, _, _, rfl, _⟩ := h; rfl) | (obtain ⟨_, _, _, _, _, _, _, rfl, _⟩ := h; rfl) | (obtain ⟨_, _, _, _, _, _, _, _, rfl, _⟩ := h; rfl) | (obtain ⟨_, _, _, _, _, _, _, _, _, rfl, _⟩ := h; rfl) | (obtain ⟨_, _, _, _, _, _, _, _, _, _, rfl, _⟩ := h; rfl) | (obtain ⟨_, _, _, _, _, _, _, _, _, _, _, rfl, _⟩ := h; rfl) | (obtain ⟨_, _, _, _, _, _, _, _, _, _, _, _, rfl, _⟩ := h; rfl) | (obtain ⟨_, _, _, _, _, _, _, _, _, _, _, _, _, rfl, _⟩ := h; rfl) | (obtain ⟨_, _, _, _, _, _, _, _, _, _, _, _, _, _, rfl, _⟩ := h; rfl) | (obtain ⟨_, _, _, _, _, _, _, _, _, _, _, _, _, _, _, rfl, _⟩ := h; rfl) | (obtain ⟨_, _, _, _, _, _, _, _, _, _, _, _, _, _, _, _, rfl, _⟩ := h; rfl) | (obtain ⟨_, _, _, _, _, _, _, _, _, _, _, _, _, _, _, _, _, rfl, _⟩ := h; rfl)) (fun cdv A outer s H vs Q E hr h => ?_)
  · have hu := hu_of hr
    obtain ⟨l, t, ws, Ts, p, a, rfl, hl, P, ch, hz, ht, vd, q⟩ := h
    have hwl := P.len
    refine ⟨_, PSs.nox (pss_cons (ps_set (i := 2) sc__law_path.nd rfl (.inl rfl) (pe_lst (pa_cons (pv 1) pa_nil))) (pss_cons (ps_for PassesOwn.never rfl (pi_list (pv 0)) (pg_name (i := 3) sc__law_path.nd rfl (.inl rfl)) (pss_one (ps_expr (pe_bm PySem.F.plainAttrs_list PySem.F.slot_list_append PySem.F.type_list_append mt_append (pv 2) (pa_cons (Kr.pe_cl h__law_goal (hr.mono (by decide)) (pa_cons (pv 3) (pa_cons (pe_ix ix_list (pv 2) (pe_un un_neg pe_int) (fun _ _ => rfl)) pa_nil))) pa_nil))))) (pss_one (ps_ret (pv 2))))), ?_⟩
    rw [st__law_path]
    walk_at "ss"
    refine r_newS fun r H4 hr s4 e4 => ?_
    have hl4 := s4 _ _ hl
    have ht4 := s4 _ _ ht
    walk_at "ss"
    refine r_forL (xs := ws) (fun i σ H' => ∃ (us : List V) (qs : List Pl) (x3 : Option V), σ = [some (.ref l), some (.ref t), some (.ref r), x3] ∧ Same H H' ∧ H' r = some (.lst us) ∧ PlL H' us qs ∧ Wy (Ts.take i) p qs ∧ (∀ T, Ts[i]? = some T → ∀ q, qs[i]? = some q → Vd T.a q))
      ⟨_, [p], _, rfl, s4, e4, PlL.nil.snoc ht4, ⟨rfl, rfl, fun i T q q' e1 => by simp at e1⟩, fun T f1 q e => ?_⟩ (fun i σ H' hi ⟨us, qs, x3, _, s5, _⟩ => SqL.of (s5 _ _ hl)) ?_ ?_
    · cases e
      have := (ch 0 T f1).2
      rw [if_pos rfl] at this
      rw [this]
      exact vd (fun z => by rw [z] at f1; simp at f1)
    · rintro i x σ H5 hx ⟨us, qs, x3, rfl, s5, e5, P5, wy, qi⟩
      obtain ⟨y, hi, rfl, PA⟩ := (P.same s5).item hx
      have lq : qs.length = i + 1 := by rw [wy.len, List.length_take]; omega
      have hiq : i < qs.length := by omega
      obtain ⟨w, b1, b2⟩ := P5.get hiq
      have va := qi _ (List.getElem?_eq_getElem hi) _ (List.getElem?_eq_getElem hiq)
      have lus : us.length = i + 1 := by rw [P5.len, lq]
      walk_at "ss"
      refine r_ixL (SqL.of e5) (at_neg1 lus b1) ?_
      walk_at "ss"
      refine ⟨y, w, _, _, rfl, PA, (ch i _ (List.getElem?_eq_getElem hi)).1, b2, va, fun t' q' H6 s6 e6 v6 o6 => ?_⟩
      have e56 := s6 _ _ e5
      walk_at "ss"
      refine r_append e56 (by omega) ?_
      walk_at "ss"
      have tk : Ts.take (i + 1) = Ts.take i ++ [Ts[i]] := by rw [List.take_add_one, List.getElem?_eq_getElem hi]; rfl
      have lt : (Ts.take i).length = i := by rw [List.length_take]; omega
      refine ⟨us ++ [.ref t'], qs ++ [q'], _, rfl, fun b o e => ?_, upd_same, ?_, ⟨?_, ?_, fun j T q1 q2 f1 f2 f3 => ?_⟩, fun T2 g2 q2 e => ?_⟩
      · rw [upd_ne (ne_of_none e hr)]
        exact s6 _ _ (s5 b o e)
      · refine ((P5.same s6).snoc e6).keep (x := r) fun b xs h => ?_
        rw [upd_ne (ne_of h e56 (by intro z; cases z))]
        exact h
      · rw [tk, List.length_append, List.length_append, lq, lt]
        rfl
      · rw [List.getElem?_append_left (by omega)]
        exact wy.z
      · rw [tk] at f1
        rcases Nat.lt_or_ge j i with z | z
        · rw [List.getElem?_append_left (by omega)] at f1 f2 f3
          exact wy.st j T q1 q2 f1 f2 f3
        · have ej : j = i := by
            have := (List.getElem?_eq_some_iff.mp f1).1
            rw [List.length_append, lt, List.length_singleton] at this
            omega
          subst ej
          rw [List.getElem?_append_right (by omega), lt, Nat.sub_self] at f1
          rw [List.getElem?_append_left (by omega), List.getElem?_eq_getElem hiq] at f2
          rw [List.getElem?_append_right (by omega), show j + 1 - qs.length = 0 by omega] at f3
          cases f1
          cases f2
          cases f3
          exact ⟨v6, o6⟩
      · rw [List.getElem?_append_right (by omega), show i + 1 - qs.length = 0 by omega] at e
        cases e
        have := (ch (i + 1) T2 g2).2
        rw [if_neg (by omega), Nat.add_sub_cancel, List.getElem?_eq_getElem hi] at this
        rw [this]
        exact v6
    rintro σ H5 ⟨us, qs, x3, rfl, s5, e5, P5, wy, -⟩
    walk_at "ss"
    rw [hwl, List.take_length] at wy
    exact q r H5 us qs s5 e5 P5 wy
theorem ok_is_from__r {P : Program} {w : World} {K : PySem.W.Frag} {mg : Str → Option Value} {base : Heap} {f : Addr} {fd : FuncData} (F : FunD K "is_from" "is_from" (defArgs s_is_from__r) (defBody s_is_from__r) (defScope s_is_from__r) [] [] f fd) (n_bool : mg "bool" = none) (n_int : mg "int" = none) (n_isinstance : mg "isinstance" = none) : FnOk P w K mg base CX0 1 f fd ["number", "least"] (sp_is_from__r K) := by
  refine F.ok sc_is_from__r (fun vs H Q E h => by first | (obtain ⟨rfl, _⟩ := h; rfl) | (obtain ⟨_, rfl, _⟩ := h; rfl) | (obtain ⟨_, _, rfl, _⟩ := h; rfl) | (obtain ⟨_, _, _, rfl, _⟩ := h; rfl) | (obtain ⟨_, _, _, _, rfl, _⟩ := h; rfl) | (obtain ⟨_, _, _, _, _, rfl, _⟩ := h; rfl) | (obtain ⟨_, _, _, _, _, _, rfl, _⟩ := h; rfl) | (obtain ⟨_, _, _, _, _, _, _, rfl, _⟩ := h; rfl) | (obtain ⟨_, _, _, _, _, _, _, _, rfl, _⟩ := h; rfl) | (obtain ⟨_, _, _, _, _, _, _, _, _, rfl, _⟩ := h; rfl) | (obtain ⟨_, _, _, _, _, _, _, _, _, _, rfl, _⟩ := h; rfl) | (obtain ⟨_, _, _, _, _, _, _, _, _, _, _, rfl, _⟩ := h; rfl) | (obtain ⟨_, _, _, _, _, _, _, _, _, _, _, _, rfl, _⟩ := h; rfl) | (obtain ⟨_, _, _, _, _, _, _, _, _, _, _, _, _, rfl, _⟩ := h; rfl) | (obtain ⟨_, _, _, _, _, _, _, _, _, _, _, _, _, _, rfl, _⟩ := h; rfl) | (obtain ⟨_, _, _, _, _, _, _, _, _, _, _, _, _, _, _, rfl, _⟩ := h; rfl) | (obtain ⟨_, _, _, _, _, _, _, _, _, _, _, _, _, _, _, _, rfl, _⟩ := h; rfl) | (obtain ⟨_, _, _, _, _, _, _, _, _, _, _, _, _, _, _, _, _, rfl, _⟩ := h; rfl)) (fun cdv A outer s H vs Q E hr h => ?_)
  · have hu := hu_of hr
    obtain ⟨v, a, r, rfl, h, q⟩ := h
    refine ⟨_, PSs.nox (pss_one (ps_ret (pe_and (pe_callB (id := "isinstance") call_isi rfl n_isinstance (by decide +kernel) (pa_cons (pv 0) (pa_cons (Kr.pe_bty (T := "int") n_int) pa_nil))) (pe_and (pe_not (pe_callB (id := "isinstance") call_isi rfl n_isinstance (by decide +kernel) (pa_cons (pv 0) (pa_cons (Kr.pe_bty (T := "bool") n_bool) pa_nil)))) (pe_one (pe_cmpR op_le (pv 1) (pv 0) (nomark _))))))), ?_⟩
    rw [st_is_from__r]
    walk_at "ss"
    rcases h with ⟨n, rfl, rfl⟩ | ⟨⟨k, rfl⟩ | ⟨T, ty, kt⟩, rfl⟩
    · refine r_isiT (.base (.int n)) (b := true) (by decide +kernel) ?_
      walk_at "ss"
      refine r_isiT (.base (.int n)) (b := false) (by decide +kernel) ?_
      walk_at "ss"
      exact q
    · refine r_isiT (.base (.bl k)) (b := true) (by decide +kernel) ?_
      walk_at "ss"
      refine r_isiT (.base (.bl k)) (b := true) (by decide +kernel) ?_
      walk_at "ss"
      exact q
    · refine r_isiT ty kt ?_
      walk_at "ss"
      exact q
theorem ok_is_place__r {P : Program} {w : World} {K : PySem.W.Frag} {mg : Str → Option Value} {base : Heap} {f : Addr} {fd : FuncData} (F : FunD K "is_place" "is_place" (defArgs s_is_place__r) (defBody s_is_place__r) (defScope s_is_place__r) [] [] f fd) (h_is_from__r : Kr.FnH P w K mg base CX0 1 "is_from" ["number", "least"] (sp_is_from__r K)) (n_isinstance : mg "isinstance" = none) (n_len : mg "len" = none) (n_str : mg "str" = none) (n_tuple : mg "tuple" = none) : FnOk P w K mg base CX0 2 f fd ["place"] (sp_is_place__r K) := by
  refine F.ok sc_is_place__r (fun vs H Q E h => by first | (obtain ⟨rfl, _⟩ := h; rfl) | (obtain ⟨_, rfl, _⟩ := h; rfl) | (obtain ⟨_, _, rfl, _⟩ := h; rfl) | (obtain ⟨_, _, _, rfl, _⟩ := h; rfl) | (obtain ⟨_, _, _, _, rfl, _⟩ := h; rfl) | (obtain ⟨_, _, _, _, _, rfl, _⟩ := h; rfl) | (obtain ⟨_, _, _, _, _, _, rfl, _⟩ := h; rfl) | (obtain ⟨_, _, _, _, _, _, _, rfl, _⟩ := h; rfl) | (obtain ⟨_, _, _, _, _, _, _, _, rfl, _⟩ := h; rfl) | (obtain ⟨_, _, _, _, _, _, _, _, _, rfl, _⟩ := h; rfl) | (obtain ⟨_, _, _, _, _, _, _, _, _, _, rfl, _⟩ := h; rfl) | (obtain ⟨_, _, _, _, _, _, _, _, _, _, _, rfl, _⟩ := h; rfl) | (obtain ⟨_, _, _, _, _, _, _, _, _, _, _, _, rfl, _⟩ := h; rfl) | (obtain ⟨_, _, _, _, _, _, _, _, _, _, _, _, _, rfl, _⟩ := h; rfl) | (obtain ⟨_, _, _, _, _, _, _, _, _, _, _, _, _, _, rfl, _⟩ := h; rfl) | (obtain ⟨_, _, _, _, _, _, _, _, _, _, _, _, _, _, _, rfl, _⟩ := h; rfl) | (obtain ⟨_, _, _, _, _, _, _, _, _, _, _, _, _, _, _, _, rfl, _⟩ := h; rfl) | (obtain ⟨_, _, _, _, _, _, _, _, _, _, _, _, _, _, _, _, _, rfl, _⟩ := h; rfl)) (fun cdv A outer s H vs Q E hr h => ?_)
  · have hu := hu_of hr
    obtain ⟨v, rfl, h⟩ := h
    refine ⟨_, PSs.nox (pss_cons (ps_if (PW.pt (pw_or (pt_not (pt_val (pe_callB (id := "isinstance") call_isi rfl n_isinstance (by decide +kernel) (pa_cons (pv 0) (pa_cons (Kr.pe_bty (T := "tuple") n_tuple) pa_nil))))) (pw_or1 (pt_cmpR op_ne (pe_callB (id := "len") Kr.c_len rfl n_len (by decide +kernel) (pa_cons (pv 0) pa_nil)) pe_int (nomark _))))) (pss_one (ps_ret pe_bl)) pss_nil) (pss_cons (ps_asg (pv 0) (pg_tup rfl (pgs_cons (pg_name (i := 1) sc_is_place__r.nd rfl (.inl rfl)) (pgs_cons (pg_name (i := 2) sc_is_place__r.nd rfl (.inl rfl)) pgs_nil)))) (pss_one (ps_ret (pe_and (pe_callB (id := "isinstance") call_isi rfl n_isinstance (by decide +kernel) (pa_cons (pv 1) (pa_cons (Kr.pe_bty (T := "str") n_str) pa_nil))) (pe_and (pe_cmpR op_in_seq (pv 1) (pe_tup (pa_cons pe_str (pa_cons pe_str pa_nil))) (by rfl)) (pe_one (Kr.pe_cl h_is_from__r (hr.mono (by decide)) (pa_cons (pv 2) (pa_cons pe_int pa_nil)))))))))), ?_⟩
    rw [st_is_place__r]
    walk_at "ss"
    rcases h with ⟨⟨T, ty, kt⟩ | ⟨t, xs, rfl, ht, bad⟩, q⟩ | ⟨t, p, rfl, ht, q⟩
    · refine r_isiT ty kt ?_
      walk_at "ss"
      exact q H fun _ _ e => e
    · refine r_isiT (.base (.tup ht)) (b := true) (by decide +kernel) ?_
      walk_at "ss"
      rcases bad with ne | ⟨a, b, rfl, bad⟩
      · refine r_decN (fun _ => ?_) fun e => absurd (by omega) ne
        walk_at "ss"
        exact q H fun _ _ e => e
      · refine r_decN (fun ne => absurd rfl ne) fun _ => ?_
        walk_at "ss"
        rcases bad with ⟨T, ty, kt⟩ | ⟨w, rfl, bad⟩
        · refine r_isiT ty kt ?_
          walk_at "ss"
          exact q H fun _ _ e => e
        · refine r_isiT (.base (.str w)) (b := true) (by decide +kernel) ?_
          walk_at "ss"
          refine r_newS fun t2 H1 h2 s1 e1 => ?_
          refine ⟨t2, _, rfl, .inr (SqT.of e1), rfl, rfl, ?_⟩
          rcases bad with e | ⟨e, nn⟩
          · rw [show (if false = true then !inV (V.str w) [V.str "use", V.str "list"] else inV (V.str w) [V.str "use", V.str "list"]) = false from e]
            walk_at "ss"
            exact q H1 s1
          · rw [show (if false = true then !inV (V.str w) [V.str "use", V.str "list"] else inV (V.str w) [V.str "use", V.str "list"]) = true from e]
            walk_at "ss"
            exact ⟨_, _, _, rfl, nn H1 s1, q H1 s1⟩
    · refine r_isiT (.base (.tup ht)) (b := true) (by decide +kernel) ?_
      walk_at "ss"
      refine r_decN (fun ne => absurd rfl ne) fun _ => ?_
      walk_at "ss"
      refine r_isiT (.base (.str p.w)) (b := true) (by decide +kernel) ?_
      walk_at "ss"
      refine r_newS fun t2 H1 h2 s1 e1 => ?_
      refine ⟨t2, _, rfl, .inr (SqT.of e1), rfl, rfl, ?_⟩
      rw [show (if false = true then !inV (V.str p.w) [V.str "use", V.str "list"] else inV (V.str p.w) [V.str "use", V.str "list"]) = true from in_words p]
      walk_at "ss"
      refine ⟨_, _, true, rfl, .inl ⟨_, rfl, (decide_eq_true (show (0 : Int) ≤ (p.n : Int) by omega)).symm⟩, q H1 s1⟩
theorem ok_is_place_among__r {P : Program} {w : World} {K : PySem.W.Frag} {mg : Str → Option Value} {base : Heap} {f : Addr} {fd : FuncData} (F : FunD K "is_place_among" "is_place_among" (defArgs s_is_place_among__r) (defBody s_is_place_among__r) (defScope s_is_place_among__r) [] [] f fd) (h_is_place__r : Kr.FnH P w K mg base CX0 2 "is_place" ["place"] (sp_is_place__r K)) : FnOk P w K mg base CX0 3 f fd ["place", "many"] (sp_is_place_among__r K) := by
  refine F.ok sc_is_place_among__r (fun vs H Q E h => by first | (obtain ⟨rfl, _⟩ := h; rfl) | (obtain ⟨_, rfl, _⟩ := h; rfl) | (obtain ⟨_, _, rfl, _⟩ := h; rfl) | (obtain ⟨_, _, _, rfl, _⟩ := h; rfl) | (obtain ⟨_, _, _, _, rfl, _⟩ := h; rfl) | (obtain ⟨_, _, _, _, _, rfl, _⟩ := h; rfl) | (obtain ⟨_, _, _, _, _, _, rfl, _⟩ := h; rfl) | (obtain ⟨_, _, _, _, _, _, _, rfl, _⟩ := h; rfl) | (obtain ⟨_, _, _, _, _, _, _, _, rfl, _⟩ := h; rfl) | (obtain ⟨_, _, _, _, _, _, _, _, _, rfl, _⟩ := h; rfl) | (obtain ⟨_, _, _, _, _, _, _, _, _, _, rfl, _⟩ := h; rfl) | (obtain ⟨_, _, _, _, _, _, _, _, _, _, _, rfl, _⟩ := h; rfl) | (obtain ⟨_, _, _, _, _, _, _, _, _, _, _, _, rfl, _⟩ := h; rfl) | (obtain ⟨_, _, _, _, _, _, _, _, _, _, _, _, _, rfl, _⟩ := h; rfl) | (obtain ⟨_, _, _, _, _, _, _, _, _, _, _, _, _, _, rfl, _⟩ := h; rfl) | (obtain ⟨_, _, _, _, _, _, _, _, _, _, _, _, _, _, _, rfl, _⟩ := h; rfl) | (obtain ⟨_, _, _, _, _, _, _, _, _, _, _, _, _, _, _, _, rfl, _⟩ := h; rfl) | (obtain ⟨_, _, _, _, _, _, _, _, _, _, _, _, _, _, _, _, _, rfl, _⟩ := h; rfl)) (fun cdv A outer s H vs Q E hr h => ?_)
  · have hu := hu_of hr
    obtain ⟨v, m, rfl, bad, q⟩ := h
    refine ⟨_, PSs.nox (pss_one (ps_ret (pe_and (Kr.pe_cl h_is_place__r (hr.mono (by decide)) (pa_cons (pv 0) pa_nil)) (pe_one (pe_or (pe_cmpR op_eq (pe_ix ix_tup (pv 0) pe_int (fun _ _ => rfl)) pe_str (nomark _)) (pe_one (pe_cmpR op_lt (pe_ix ix_tup (pv 0) pe_int (fun _ _ => rfl)) (pv 1) (nomark _)))))))), ?_⟩
    rw [st_is_place_among__r]
    walk_at "ss"
    rcases bad with no | ⟨t, k, rfl, ht, hk⟩
    · refine ⟨v, rfl, .inl ⟨no, fun H1 s1 => ?_⟩⟩
      walk_at "ss"
      exact q H1 s1
    · refine ⟨_, rfl, .inr ⟨t, .use k, rfl, ht, fun H1 s1 => ?_⟩⟩
      have ht1 := s1 _ _ ht
      walk_at "ss"
      rw [show decide ((Pl.use k).w = "list") = false from by show decide (("use" : Str) = "list") = false; decide +kernel]
      walk_at "ss"
      rw [decide_eq_false (show ¬ (((Pl.use k).n : Nat) : Int) < (m : Int) from fun z => by have : k < m := Int.ofNat_lt.mp z; omega)]
      exact q H1 s1
theorem ok_are_turns__r {P : Program} {w : World} {K : PySem.W.Frag} {mg : Str → Option Value} {base : Heap} {f : Addr} {fd : FuncData} (F : FunD K "are_turns" "are_turns" (defArgs s_are_turns__r) (defBody s_are_turns__r) (defScope s_are_turns__r) [] [] f fd) (c_Turn : Cls K (He.ga K "Turn")) (i_Turn : Kr.InsI K (He.ga K "Turn")) (k_Turn : mg "Turn" = some (.ref (He.ga K "Turn"))) (m_Turn_ahead : Kr.MtH P w K mg base CX0 1 (He.ga K "Turn") "ahead" ["self"] (sp_Turn_ahead K)) (m_Turn_behind : Kr.MtH P w K mg base CX0 1 (He.ga K "Turn") "behind" ["self"] (sp_Turn_behind K)) (n_all : mg "all" = none) (n_isinstance : mg "isinstance" = none) (n_len : mg "len" = none) (n_list : mg "list" = none) (n_range : mg "range" = none) : FnOk P w K mg base CX0 2 f fd ["turns"] (sp_are_turns__r K) := by
  refine F.ok sc_are_turns__r (fun vs H Q E h => by first | (obtain ⟨rfl, _⟩ := h; rfl) | (obtain ⟨_, rfl, _⟩ := h; rfl) | (obtain ⟨_, _, rfl, _⟩ := h; rfl) | (obtain ⟨_, _, _, rfl, _⟩ := h; rfl) | (obtain ⟨_, _, _, _, rfl, _⟩ := h; rfl) | (obtain ⟨_, _, _, _, _, rfl, _⟩ := h; rfl) | (obtain ⟨_, _, _, _, _, _, rfl, _⟩ := h; rfl) | (obtain ⟨_, _, _, _, _, _, _, rfl, _⟩ := h; rfl) | (obtain ⟨_, _, _, _, _, _, _, _, rfl, _⟩ := h; rfl) | (obtain ⟨_, _, _, _, _, _, _, _, _, rfl, _⟩ := h; rfl) | (obtain ⟨_, _, _, _, _, _, _, _, _, _, rfl, _⟩ := h; rfl) | (obtain ⟨_, _, _, _, _, _, _, _, _, _, _, rfl, _⟩ := h; rfl) | (obtain ⟨_, _, _, _, _, _, _, _, _, _, _, _, rfl, _⟩ := h; rfl) | (obtain ⟨_, _, _, _, _, _, _, _, _, _, _, _, _, rfl, _⟩ := h; rfl) | (obtain ⟨_, _, _, _, _, _, _, _, _, _, _, _, _, _, rfl, _⟩ := h; rfl) | (obtain ⟨_, _, _, _, _, _, _, _, _, _, _, _, _, _, _, rfl, _⟩ := h; rfl) | (obtain ⟨_, _, _, _, _, _, _, _, _, _, _, _, _, _, _, _, rfl, _⟩ := h; rfl) | (obtain ⟨_, _, _, _, _, _, _, _, _, _, _, _, _, _, _, _, _, rfl, _⟩ := h; rfl)) (fun cdv A outer s H vs Q E hr h => ?_)
  · have hu := hu_of hr
    obtain ⟨v, r, rfl, h, q⟩ := h
    have cc := c_Turn
    have _i := i_Turn
    refine ⟨_, PSs.nox (pss_cons (ps_if (PW.pt (pw_or (pt_not (pt_val (pe_callB (id := "isinstance") call_isi rfl n_isinstance (by decide +kernel) (pa_cons (pv 0) (pa_cons (Kr.pe_bty (T := "list") n_list) pa_nil))))) (pw_or1 (pt_not (pt_val (pe_callB (id := "all") (cr_all rfl) rfl n_all (by decide +kernel) (pa_cons (pe_lc (own := [("turn", 1)]) rfl sc_are_turns__r.nd (pi_list (pv 0)) (blkOk_by (own := [("turn", 1)]) (N := N_are_turns__r) (sc := defScope s_are_turns__r) (by decide +kernel)) (fun _ _ _ _ _ => (pg_name (i := 1) sc_are_turns__r.nd rfl (.inl rfl))) (fun _ _ _ _ _ => pts_nil) (fun _ _ _ _ _ => (pe_callB (id := "isinstance") (Kr.c_isiK (K := K) rfl) rfl n_isinstance (by decide +kernel) (pa_cons (pv 1) (pa_cons (Kr.pe_gcls k_Turn) pa_nil))))) pa_nil))))))) (pss_one (ps_ret pe_bl)) pss_nil) (pss_one (ps_ret (pe_callB (id := "all") (cr_all rfl) rfl n_all (by decide +kernel) (pa_cons (pe_lc (own := [("at", 2)]) rfl sc_are_turns__r.nd (pi_range1 rfl n_range (pa_cons (pe_op op_sub (pe_callB (id := "len") Kr.c_len rfl n_len (by decide +kernel) (pa_cons (pv 0) pa_nil)) pe_int) pa_nil)) (blkOk_by (own := [("at", 2)]) (N := N_are_turns__r) (sc := defScope s_are_turns__r) (by decide +kernel)) (fun _ _ _ _ _ => (pg_name (i := 2) sc_are_turns__r.nd rfl (.inl rfl))) (fun _ _ _ _ _ => pts_nil) (fun _ _ _ _ _ => (pe_cmpR op_eq (Kr.pe_mt0 m_Turn_behind c_Turn (hr.mono (by decide)) (pe_ix (Kr.ix_listK (K := K) rfl) (pv 0) (pv 2) (fun _ _ => rfl))) (Kr.pe_mt0 m_Turn_ahead c_Turn (hr.mono (by decide)) (pe_ix (Kr.ix_listK (K := K) rfl) (pv 0) (pe_op op_add (pv 2) pe_int) (fun _ _ => rfl))) (nomark _)))) pa_nil))))), ?_⟩
    rw [st_are_turns__r]
    walk_at "ss"
    rcases h with ⟨rfl, t, ty, kt⟩ | h
    · refine r_isi (.ty "list") ty kt ?_
      walk_at "ss"
      exact q H fun _ _ e => e
    obtain ⟨l, ws, f, rfl, hl, hz, hf, more⟩ : ∃ (l : Addr) (ws : List V) (f : Nat → Bool), v = .ref l ∧ H l = some (.lst ws) ∧ ws.length ≤ 5000 ∧ (∀ j w H', ws[j]? = some w → Same H H' → if f j = true then IsT K H' w else NoT K H' w) ∧
        ((r = false ∧ ∃ j, j < ws.length ∧ f j = false) ∨ ((∀ j, f j = true) ∧ ∃ Ts, TnL K H ws Ts ∧ r = rowOk Ts)) := by
      rcases h with ⟨e, l, ws, f, e1, e2, e3, e4, e5⟩ | ⟨l, ws, Ts, e1, e2, e3, e4, e5⟩
      · exact ⟨l, ws, f, e1, e2, e3, e4, .inl ⟨e, e5⟩⟩
      · refine ⟨l, ws, fun _ => true, e1, e2, by rw [e3.len]; exact e4, fun j w H' hw s' => ?_, .inr ⟨fun _ => rfl, Ts, e3, e5⟩⟩
        rw [if_pos rfl]
        obtain ⟨y, hi, e, TA⟩ := (e3.same s').item hw
        exact ⟨y, _, e, TA⟩
    refine r_isiT (.base (.lst hl)) (b := true) (by decide +kernel) ?_
    walk_at "ss"
    intro D hD
    refine lc_listS (xs := ws) [some (.ref l), none, none] rfl (fun i H5 => H5 D = some (.lst (((List.range i).map f).map V.bl)) ∧ Same H H5) ⟨upd_same, same_new hD⟩ (fun i H5 _ hh => hh.2.seq (SqL.of hl)) ?_ ?_
    · rintro i x H5 hx ⟨h5, s5⟩
      have hi : i < ws.length := (List.getElem?_eq_some_iff.mp hx).1
      have fin : ∃ acc, H5 D = some (.lst acc) ∧ acc.length < sizeLine ∧ upd H5 D (.lst (acc ++ [.bl (f i)])) D = some (.lst (((List.range (i + 1)).map f).map V.bl)) ∧ Same H (upd H5 D (.lst (acc ++ [.bl (f i)]))) := by
        refine ⟨_, h5, by rw [List.length_map, List.length_map, List.length_range]; exact szl (by omega), ?_, fun b o e => ?_⟩
        · rw [upd_same, List.range_succ, List.map_append, List.map_append]
          rfl
        · rw [upd_ne (ne_of_none e hD)]
          exact s5 b o e
      have hw := hf i x H5 hx s5
      walk_at "ss"
      refine ⟨rfl, ?_⟩
      walk_at "ss"
      by_cases z : f i = true
      · rw [if_pos z] at hw
        rw [z] at fin
        obtain ⟨y, T, rfl, -, dx, pu, pf, pg, vu, vf, kvs, g1, -⟩ := hw
        refine r_isiC i_Turn g1 ?_
        exact fin
      · rw [if_neg z] at hw
        rw [Bool.eq_false_iff.mpr z] at fin
        obtain ⟨t, ty, kt⟩ := hw
        refine r_isi (.own _) ty kt ?_
        exact fin
    rintro H5 ⟨h5, s5⟩
    have hl5 := s5 _ _ hl
    walk_at "ss"
    refine r_all (SqL.of h5) ?_
    rcases more with ⟨rfl, j, hj, fj⟩ | ⟨ft, Ts, P, rfl⟩
    · rw [show ((List.range ws.length).map f).all id = false from List.all_eq_false.mpr ⟨false, List.mem_map.mpr ⟨j, List.mem_range.mpr hj, fj⟩, by decide⟩]
      walk_at "ss"
      exact q _ s5
    rw [take_map_bl (fun b hb => by obtain ⟨j, -, e⟩ := List.mem_map.mp hb; rw [← e]; exact ft j)]
    have hwl := P.len
    have P5 := P.same s5
    walk_at "ss"
    intro D2 hD2
    rw [hwl, show ((Ts.length : Int) - 1).toNat = Ts.length - 1 by omega]
    refine lc_rangeS [some (.ref l), none, none] rfl (fun i H6 => H6 D2 = some (.lst (((List.range i).map (stp Ts)).map V.bl)) ∧ Same H5 H6) ⟨upd_same, same_new hD2⟩ ?_ ?_
    · rintro i H6 hi ⟨h6, s6⟩
      have P6 := P5.same s6
      have hl6 := s6 _ _ hl5
      obtain ⟨t, a1, a2⟩ := P6.get (i := i) (by omega)
      obtain ⟨t2, c1, c2⟩ := P6.get (i := i + 1) (by omega)
      obtain ⟨z1, z2, z3, z4, z5⟩ := a2.fl
      obtain ⟨y1, y2, y3, y4, y5⟩ := c2.fl
      walk_at "ss"
      refine ⟨rfl, ?_⟩
      walk_at "ss"
      refine r_ixL (SqL.of hl6) (at_of (j := i) (by omega) a1) ?_
      walk_at "ss"
      refine ⟨t, _, rfl, a2, ?_⟩
      walk_at "ss"
      refine r_ixL (SqL.of hl6) (at_of (j := i + 1) (by omega) c1) ?_
      walk_at "ss"
      refine ⟨t2, _, rfl, c2, ?_⟩
      walk_at "ss"
      have es : decide ((Ts[i].u.length : Int) = (Ts[i + 1].a : Int)) = stp Ts i := by
        unfold stp
        rw [List.getElem?_eq_getElem (by omega), List.getElem?_eq_getElem (by omega)]
        show decide ((Ts[i].u.length : Int) = (Ts[i + 1].a : Int)) = decide (Ts[i].u.length = Ts[i + 1].a)
        by_cases y : Ts[i].u.length = Ts[i + 1].a
        · rw [decide_eq_true y, decide_eq_true (by omega)]
        · rw [decide_eq_false y, decide_eq_false (by omega)]
      rw [es]
      refine ⟨_, h6, by rw [List.length_map, List.length_map, List.length_range]; exact szl (by omega), ?_, fun b o e => ?_⟩
      · rw [upd_same, List.range_succ, List.map_append, List.map_append]
        rfl
      · rw [upd_ne (ne_of_none e hD2)]
        exact s6 b o e
    rintro H6 ⟨h6, s6⟩
    walk_at "ss"
    refine r_all (SqL.of h6) ?_
    exact q _ (s5.trans s6)
theorem ok_way__r {P : Program} {w : World} {K : PySem.W.Frag} {mg : Str → Option Value} {base : Heap} {f : Addr} {fd : FuncData} (F : FunD K "way" "way" (defArgs s_way__r) (defBody s_way__r) (defScope s_way__r) [] [] f fd) (c_Turn : Cls K (He.ga K "Turn")) (er_InvalidArgument : KrE.ErH P w K mg base CX0 1 "InvalidArgument" (He.ga K "InvalidArgument") ["self", "part"] (sp_InvalidArgument___init__ K)) (h_are_turns__r : Kr.FnH P w K mg base CX0 2 "are_turns" ["turns"] (sp_are_turns__r K)) (h_is_place__r : Kr.FnH P w K mg base CX0 2 "is_place" ["place"] (sp_is_place__r K)) (h_is_place_among__r : Kr.FnH P w K mg base CX0 3 "is_place_among" ["place", "many"] (sp_is_place_among__r K)) (m_Turn_ahead : Kr.MtH P w K mg base CX0 1 (He.ga K "Turn") "ahead" ["self"] (sp_Turn_ahead K)) : FnOk P w K mg base (L2.CX P w) 4 f fd ["turns", "place"] (sp_way__r K) := by
  refine F.ok sc_way__r (fun vs H Q E h => by first | (obtain ⟨rfl, _⟩ := h; rfl) | (obtain ⟨_, rfl, _⟩ := h; rfl) | (obtain ⟨_, _, rfl, _⟩ := h; rfl) | (obtain ⟨_, _, _, rfl, _⟩ := h; rfl) | (obtain ⟨_, _, _, _, rfl, _⟩ := h; rfl) | (obtain ⟨_, _, _, _, _, rfl, _⟩ := h; rfl) | (obtain ⟨_, _, _, _, _, _, rfl, _⟩ := h; rfl) | (obtain ⟨_, _, _, _, _, _, _, rfl, _⟩ := h; rfl) | (obtain ⟨_, _, _, _, _, _, _, _, rfl, _⟩ := h; rfl) | (obtain ⟨_, _, _, _, _, _, _, _, _, rfl, _⟩ := h; rfl) | (obtain ⟨_, _, _, _, _, _, _, _, _, _, rfl, _⟩ := h; rfl) | (obtain ⟨_, _, _, _, _, _, _, _, _, _, _, rfl, _⟩ := h; rfl) | (obtain ⟨_, _, _, _, _, _, _, _, _, _, _, _, rfl, _⟩ := h; rfl) | (obtain ⟨_, _, _, _, _, _, _, _, _, _, _, _, _, rfl, _⟩ := h; rfl) | (obtain ⟨_, _, _, _, _, _, _, _, _, _, _, _, _, _, rfl, _⟩ := h; rfl) | (obtain ⟨_, _, _, _, _, _, _, _, _, _, _, _, _, _, _, rfl, _⟩ := h; rfl) | (obtain ⟨_, _, _, _, _, _, _, _, _, _, _, _, _, _, _, _, rfl, _⟩ := h; rfl) | (obtain ⟨_, _, _, _, _, _, _, _, _, _, _, _, _, _, _, _, _, rfl, _⟩ := h; rfl)) (fun cdv A outer s H vs Q E hr h => ?_)
  · have hu := hu_of hr
    obtain ⟨v, w, rfl, h⟩ := h
    refine ⟨_, (pss_cons (ps_if (pt_not (pt_val (Kr.pe_cl h_are_turns__r (hr.mono (by decide)) (pa_cons (pv 0) pa_nil)))) (pss_one (ps_raise rfl (takes_of rfl rfl rfl rfl) (KrE.pmk_mk er_InvalidArgument (hr.mono (by decide)) (pa_cons pe_str pa_nil)))) pss_nil) (pss_cons (ps_if (PW.pt (pw_or (pt_not (pt_val (Kr.pe_cl h_is_place__r (hr.mono (by decide)) (pa_cons (pv 1) pa_nil)))) (pw_or1 (PW.pt (pw_and (Kr.p_truth (pv 0) (by intro _; rfl)) (pw_and1 (pt_not (pt_val (Kr.pe_cl h_is_place_among__r (hr.mono (by decide)) (pa_cons (pv 1) (pa_cons (Kr.pe_mt0 m_Turn_ahead c_Turn (hr.mono (by decide)) (pe_ix ix_list (pv 0) pe_int (fun _ _ => rfl))) pa_nil))))))))))) (pss_one (ps_raise rfl (takes_of rfl rfl rfl rfl) (KrE.pmk_mk er_InvalidArgument (hr.mono (by decide)) (pa_cons pe_str pa_nil)))) pss_nil) (pss_cons ps_never (pss_cons ps_never (pss_one ps_never))))), ?_⟩
    rw [st_way__r]
    walk_at "ss"
    rcases h with ⟨bad, er⟩ | ⟨l, ws, Ts, a, b, rfl, hl, P, ch, hz, er, bad⟩
    · refine ⟨v, false, rfl, bad, fun H1 s1 => ?_⟩
      walk_at "ss"
      refine KrE.r_mkE ?_
      walk_at "ss"
      exact rai_at (er.same s1)
    · refine ⟨_, true, rfl, .inr (.inr ⟨l, ws, Ts, rfl, hl, P, hz, (row_ch ch).symm⟩), fun H1 s1 => ?_⟩
      have hl1 := s1 _ _ hl
      have P1 := P.same s1
      walk_at "ss"
      rcases bad with no | ⟨ne0, t, k, rfl, ht, hk⟩
      · refine ⟨w, rfl, .inl ⟨no H1 s1, fun H2 s2 => ?_⟩⟩
        walk_at "ss"
        refine KrE.r_mkE ?_
        walk_at "ss"
        exact rai_at (er.same (s1.trans s2))
      · have hpos : 0 < Ts.length := List.length_pos_iff.mpr ne0
        refine ⟨_, rfl, .inr ⟨t, .use k, rfl, s1 _ _ ht, fun H2 s2 => ?_⟩⟩
        have hl2 := s2 _ _ hl1
        have P2 := P1.same s2
        have hwl := P.len
        obtain ⟨t0, a1, a2⟩ := P2.get (i := 0) hpos
        have ha0 : Ts[0].a = a := by
          obtain ⟨m, h1, h2, -⟩ := ch.at_ (i := 0) hpos
          rw [h2]
          exact h1.symm
        obtain ⟨dx, pu, pf, pg, h0⟩ := a2.fl
        have ee : ws.isEmpty = false := by
          cases ws with
          | nil => simp at hwl; omega
          | cons _ _ => rfl
        walk_at "ss"
        refine ⟨!ws.isEmpty, .inl ⟨ws, SqL.of hl2, rfl⟩, ?_⟩
        rw [ee]
        refine iteNf ?_
        walk_at "ss"
        refine r_ixL (SqL.of hl2) (at_of (j := 0) rfl a1) ?_
        walk_at "ss"
        refine ⟨t0, _, rfl, a2, ?_⟩
        walk_at "ss"
        refine ⟨_, _, rfl, .inr ⟨t, k, rfl, s2 _ _ (s1 _ _ ht), by rw [ha0]; exact hk⟩, fun H3 s3 => ?_⟩
        walk_at "ss"
        refine KrE.r_mkE ?_
        walk_at "ss"
        exact rai_at (er.same (s1.trans (s2.trans s3)))
theorem ok__law_refused_right {P : Program} {w : World} {K : PySem.W.Frag} {mg : Str → Option Value} {base : Heap} {f : Addr} {fd : FuncData} (F : FunD K "_law_refused_right" "_law_refused_right" (defArgs s__law_refused_right) (defBody s__law_refused_right) (defScope s__law_refused_right) [] [] f fd) (hcd : fd.code = .ref (He.cT K ("_law_refused_right", none)).1) (c_Turn : Cls K (He.ga K "Turn")) (h__law_next : Kr.FnH P w K mg base CX0 1 "_law_next" ["source", "many"] (sp__law_next K)) (h_still : Kr.FnH P w K mg base CX0 6 "still" ["many"] (sp_still K)) (h_way__r : Kr.FnH P w K mg base (L2.CX P w) 4 "way" ["turns", "place"] (sp_way__r K)) (i_Turn : Kr.InsI K (He.ga K "Turn")) (lm__law_part : KrL.LamH P w K mg base "_law_part" (tt__law_part K)) (m_Turn_ahead : Kr.MtH P w K mg base CX0 1 (He.ga K "Turn") "ahead" ["self"] (sp_Turn_ahead K)) (m_Turn_behind : Kr.MtH P w K mg base CX0 1 (He.ga K "Turn") "behind" ["self"] (sp_Turn_behind K)) (n_len : mg "len" = none) (n_tuple : mg "tuple" = none) (tb__law_refused_right : LamX.TabB base mg (He.cT K ("_law_refused_right", none)).1 (He.cT K ("_law_refused_right", none)).2) (x_kt_Turn : ∀ T ∈ ["NoneType", "int", "bool", "str", "tuple", "list", "dict"], PySem.W.kitOne K (.type T) (.ref (He.ga K "Turn")) = some false) (x_tbu__law_refused_right : ∀ p ∈ Tb K, p.1 = (He.cT K ("_law_refused_right", none)).2 → p.2 = (("_law_refused_right" : Str) ++ ".<locals>.") ++ "<lambda>") (x_tl_Turn : PySem.W.kitOne K (.ref (He.ga K "Turn")) (.type "list") = some false) : FnOk P w K mg base CX0 7 f fd ["source", "rows", "turns"] (sp__law_refused_right K) := by
  refine KrL.okC F hcd sc__law_refused_right (fun vs H Q E h => by first | (obtain ⟨rfl, _⟩ := h; rfl) | (obtain ⟨_, rfl, _⟩ := h; rfl) | (obtain ⟨_, _, rfl, _⟩ := h; rfl) | (obtain ⟨_, _, _, rfl, _⟩ := h; rfl) | (obtain ⟨_, _, _, _, rfl, _⟩ := h; rfl) | (obtain ⟨_, _, _, _, _, rfl, _⟩ := h; rfl) | (obtain ⟨_, _, _, _, _, _, rfl, _⟩ := h; rfl) | (obtain ⟨_, _, _, _, _, _, _, rfl, _⟩ := h; rfl) | (obtain ⟨_, _, _, _, _, _, _, _, rfl, _⟩ := h; rfl) | (obtain ⟨_, _, _, _, _, _, _, _, _, rfl, _⟩ := h; rfl) | (obtain ⟨_, _, _, _, _, _, _, _, _, _, rfl, _⟩ := h; rfl) | (obtain ⟨_, _, _, _, _, _, _, _, _, _, _, rfl, _⟩ := h; rfl) | (obtain ⟨_, _, _, _, _, _, _, _, _, _, _, _, rfl, _⟩ := h; rfl) | (obtain ⟨_, _, _, _, _, _, _, _, _, _, _, _, _, rfl, _⟩ := h; rfl) | (obtain ⟨_, _, _, _, _, _, _, _, _, _, _, _, _, _, rfl, _⟩ := h; rfl) | (obtain ⟨_, _, _, _, _, _, _, _, _, _, _, _, _, _, _, rfl, _⟩ := h; rfl) | (obtain ⟨_, _, _, _, _, _, _, _, _, _, _, _, _, _, _, _, rfl, _⟩ := h; rfl) | (obtain ⟨_, _, _, _, _, _, _, _, _, _, _, _, _, _, _, _, _, rfl, _⟩ := h; rfl)) (fun A outer s H vs Q E hr h => ?_)
  · have hu := hu_of hr
    obtain ⟨s, L, Z, ws, zs, Ts, Rs, a, b, rfl, sc, hL, RW, hZ, TN, ch, ne0, ne1, l8, a6, b60, tb, q⟩ := h
    have hpos : 0 < Rs.length := List.length_pos_iff.mpr ne0
    have hwl := TN.len
    obtain ⟨x9, f9, T9⟩ := TN.get (i := Rs.length - 1) (by omega)
    obtain ⟨x0, f0, T0⟩ := TN.get (i := 0) hpos
    obtain ⟨r0, fr, P0⟩ := RW.at_ 0 _ (List.getElem?_eq_getElem (List.length_pos_iff.mpr ne1))
    obtain ⟨pu, pf, vu, vf, hr0, -⟩ := P0.ex
    have eb := ch.lst hpos
    have ea : Rs[0].a = a := by
      obtain ⟨m, h1, h2, -⟩ := ch.at_ (i := 0) hpos
      rw [h2]
      exact h1.symm
    refine ⟨_, PSs.nox (pss_cons (ps_set (i := 3) sc__law_refused_right.nd rfl (.inl rfl) (Kr.pe_mt0 m_Turn_behind c_Turn (hr.mono (by decide)) (pe_ix ix_list (pv 2) (pe_un un_neg pe_int) (fun _ _ => rfl)))) (pss_cons (ps_set (i := 4) sc__law_refused_right.nd rfl (.inl rfl) (pe_lst (pa_cons pe_non (pa_cons pe_int (pa_cons (pe_callTy (T := "tuple") Kr.c_tuple rfl n_tuple (by decide +kernel) (pa_cons (pv 2) pa_nil)) (pa_cons (pe_ix ix_list (pv 2) pe_int (fun _ _ => rfl)) (pa_cons pe_dnewK (pa_cons pe_str (pa_cons (pe_op Kr.op_catS (pv 2) (pe_lst (pa_cons pe_non pa_nil))) (pa_cons (pe_op Kr.op_catS (pv 2) (pe_lst (pa_cons (pe_ix ix_list (pv 1) pe_int (fun _ _ => rfl)) pa_nil))) (pa_cons (pe_lst (pa_cons (pv 2) pa_nil)) (pa_cons (pe_lst (pa_cons (pe_ix ix_list (pv 2) pe_int (fun _ _ => rfl)) (pa_cons pe_int pa_nil))) pa_nil)))))))))))) (pss_cons (ps_set (i := 4) sc__law_refused_right.nd rfl (.inl rfl) (pe_op Kr.op_catS (pv 4) (pe_lst (pa_cons (pe_op Kr.op_catS (pv 2) (pe_lst (pa_cons (Kr.pe_cl h_still (hr.mono (by decide)) (pa_cons (pe_op op_add (pv 3) pe_int) pa_nil)) pa_nil))) (pa_cons (pe_op Kr.op_catS (pe_lst (pa_cons (Kr.pe_cl h_still (hr.mono (by decide)) (pa_cons (pe_op op_add (Kr.pe_mt0 m_Turn_ahead c_Turn (hr.mono (by decide)) (pe_ix ix_list (pv 2) pe_int (fun _ _ => rfl))) pe_int) pa_nil)) pa_nil)) (pv 2)) pa_nil))))) (pss_cons (ps_expr (pe_bm PySem.F.plainAttrs_list PySem.F.slot_list_append PySem.F.type_list_append mt_append (pv 4) (pa_cons (pe_lst (pa_cons (Kr.pe_cl h_still (hr.mono (by decide)) (pa_cons (pv 3) pa_nil)) (pa_cons (Kr.pe_cl h_still (hr.mono (by decide)) (pa_cons (pv 3) pa_nil)) (pa_cons (Kr.pe_cl h_still (hr.mono (by decide)) (pa_cons (pe_op op_add (pv 3) pe_int) pa_nil)) pa_nil)))) pa_nil))) (pss_cons (ps_set (i := 5) sc__law_refused_right.nd rfl (.inl rfl) (pe_lst (pa_cons pe_non (pa_cons pe_int (pa_cons pe_str (pa_cons (pe_tup pa_nil) (pa_cons (pe_tup (pa_cons pe_str pa_nil)) (pa_cons (pe_tup (pa_cons pe_str (pa_cons pe_int (pa_cons pe_int pa_nil)))) (pa_cons (pe_tup (pa_cons pe_str (pa_cons pe_int pa_nil))) (pa_cons (pe_lst (pa_cons pe_str (pa_cons pe_int pa_nil))) (pa_cons (pe_tup (pa_cons pe_str (pa_cons (pe_un un_neg pe_int) pa_nil))) (pa_cons (pe_tup (pa_cons pe_str (pa_cons pe_bl pa_nil))) (pa_cons pe_dnewK pa_nil))))))))))))) (pss_cons (ps_for PassesOwn.never rfl (pi_list (pv 4)) (pg_name (i := 6) sc__law_refused_right.nd rfl (.inr rfl)) (pss_cons (ps_set (i := 7) sc__law_refused_right.nd rfl (.inr rfl) (pe_ix ix_list (pe_op Kr.op_catS (pv 5) (pe_lst (pa_cons (pe_tup (pa_cons pe_str (pa_cons pe_int pa_nil))) (pa_cons (pe_tup (pa_cons pe_str (pa_cons pe_int pa_nil))) pa_nil)))) (Kr.pe_cl h__law_next (hr.mono (by decide)) (pa_cons (pv 0) (pa_cons (pe_op op_add (pe_callB (id := "len") Kr.c_len rfl n_len (by decide +kernel) (pa_cons (pv 5) pa_nil)) pe_int) pa_nil))) (fun _ _ => rfl))) (pss_one (ps_if (pt_cmpR op_ne (KrL.pe_lam (T := Tb K) (k := 4) lm__law_part tb__law_refused_right rfl (tbm__law_refused_right K) x_tbu__law_refused_right (hr.mono (by decide)) (LamX.lamS_by (sc := defScope s__law_refused_right) (by decide +kernel)) (fun _ _ _ _ _ _ _ hl => (Kr.pe_clE h_way__r (hl.mono (by decide)) (passes_call (takes_of rfl rfl rfl rfl) (fun _ _ _ _ h => h)) (pa_cons (pv 6) (pa_cons (pv 7) pa_nil))))) pe_str (nomark _)) (pss_one (ps_ret pe_bl)) pss_nil)))) (pss_cons (ps_for PassesOwn.never rfl (pi_list (pe_op Kr.op_catS (pv 5) (pe_lst (pa_cons (pe_tup (pa_cons pe_str (pa_cons (Kr.pe_mt0 m_Turn_ahead c_Turn (hr.mono (by decide)) (pe_ix ix_list (pv 2) pe_int (fun _ _ => rfl))) pa_nil))) pa_nil)))) (pg_name (i := 7) sc__law_refused_right.nd rfl (.inr rfl)) (pss_one (ps_if (pt_cmpR op_ne (KrL.pe_lam (T := Tb K) (k := 4) lm__law_part tb__law_refused_right rfl (tbm__law_refused_right K) x_tbu__law_refused_right (hr.mono (by decide)) (LamX.lamS_by (sc := defScope s__law_refused_right) (by decide +kernel)) (fun _ _ _ _ _ _ _ hl => (Kr.pe_clE h_way__r (hl.mono (by decide)) (passes_call (takes_of rfl rfl rfl rfl) (fun _ _ _ _ h => h)) (pa_cons (pv 2) (pa_cons (pv 7) pa_nil))))) pe_str (nomark _)) (pss_one (ps_ret pe_bl)) pss_nil))) (pss_cons (ps_for PassesOwn.never rfl (pi_list (pv 5)) (pg_name (i := 7) sc__law_refused_right.nd rfl (.inr rfl)) (pss_one (ps_if (pt_cmpR op_ne (KrL.pe_lam (T := Tb K) (k := 4) lm__law_part tb__law_refused_right rfl (tbm__law_refused_right K) x_tbu__law_refused_right (hr.mono (by decide)) (LamX.lamS_by (sc := defScope s__law_refused_right) (by decide +kernel)) (fun _ _ _ _ _ _ _ hl => (Kr.pe_clE h_way__r (hl.mono (by decide)) (passes_call (takes_of rfl rfl rfl rfl) (fun _ _ _ _ h => h)) (pa_cons (pe_lst pa_nil) (pa_cons (pv 7) pa_nil))))) pe_str (nomark _)) (pss_one (ps_ret pe_bl)) pss_nil))) (pss_one (ps_ret pe_bl)))))))))), ?_⟩
    rw [st__law_refused_right]
    walk_at "ss"
    refine r_ixL (SqL.of hZ) (at_neg1 (i := Rs.length - 1) (by omega) f9) ?_
    obtain ⟨y1, y2, y3, y4, y5⟩ := T9.fl
    walk_at "ss"
    refine ⟨x9, _, rfl, T9, ?_⟩
    rw [eb]
    walk_at "ss"
    refine r_newS fun g1 H1 n1 s1 e1 => ?_
    have Z1 := s1 _ _ hZ
    walk_at "ss"
    refine r_ixL (SqL.of Z1) (at_of (j := 0) rfl f0) ?_
    walk_at "ss"
    refine r_newS fun g2 H2 n2 s2 e2 => ?_
    have Z2 := s2 _ _ Z1
    walk_at "ss"
    refine r_newS fun g3 H3 n3 s3 e3 => ?_
    refine r_catS (SqL.of (s3 _ _ Z2)) (SqL.of e3) (by simp; omega) ?_
    refine r_newS fun g4 H4 n4 s4 e4 => ?_
    have s24 := s3.trans s4
    have Z4 := s24 _ _ Z2
    have L4 := s24 _ _ (s2 _ _ (s1 _ _ hL))
    walk_at "ss"
    refine r_ixL (SqL.of L4) (at_of (j := 0) rfl fr) ?_
    walk_at "ss"
    refine r_newS fun g5 H5 n5 s5 e5 => ?_
    refine r_catS (SqL.of (s5 _ _ Z4)) (SqL.of e5) (by simp; omega) ?_
    refine r_newS fun g6 H6 n6 s6 e6 => ?_
    have Z6 := s6 _ _ (s5 _ _ Z4)
    walk_at "ss"
    refine r_newS fun g7 H7 n7 s7 e7 => ?_
    have Z7 := s7 _ _ Z6
    walk_at "ss"
    refine r_ixL (SqL.of Z7) (at_of (j := 0) rfl f0) ?_
    walk_at "ss"
    refine r_newS fun g8 H8 n8 s8 e8 => ?_
    walk_at "ss"
    refine r_newS fun g9 H9 n9 s9 e9 => ?_
    have s79 := s8.trans s9
    have Z9 := s79 _ _ Z7
    have s09 : Same H H9 := s1.trans (s2.trans (s24.trans (s5.trans (s6.trans (s7.trans s79)))))
    have sc9 := sc.same s09
    walk_at "ss"
    refine ⟨b + 1, rfl, by omega, fun z1 R1 H10 s10 nz1 TZ1 ra1 ru1 _ _ _ => ?_⟩
    have Z10 := s10 _ _ Z9
    walk_at "ss"
    refine r_newS fun g10 H11 n11 s11 e11 => ?_
    refine r_catS (SqL.of (s11 _ _ Z10)) (SqL.of e11) (by simp; omega) ?_
    refine r_newS fun g11 H12 n12 s12 e12 => ?_
    have Z12 := s12 _ _ (s11 _ _ Z10)
    walk_at "ss"
    refine r_ixL (SqL.of Z12) (at_of (j := 0) rfl f0) ?_
    have s012 : Same H H12 := s09.trans (s10.trans (s11.trans s12))
    have T012 := T0.same s012
    obtain ⟨w1, w2, w3, w4, w5⟩ := T012.fl
    walk_at "ss"
    refine ⟨x0, _, rfl, T012, ?_⟩
    rw [ea]
    walk_at "ss"
    refine ⟨a + 1, rfl, by omega, fun z2 R2 H13 s13 nz2 TZ2 ra2 ru2 _ _ _ => ?_⟩
    have Z13 := s13 _ _ Z12
    walk_at "ss"
    refine r_newS fun g13 H14 n14 s14 e14 => ?_
    walk_at "ss"
    refine r_catS (SqL.of e14) (SqL.of (s14 _ _ Z13)) (by simp; omega) ?_
    refine r_newS fun g14 H15 n15 s15 e15 => ?_
    walk_at "ss"
    refine r_newS fun g15 H16 n16 s16 e16 => ?_
    have s916 : Same H9 H16 := s10.trans (s11.trans (s12.trans (s13.trans (s14.trans (s15.trans s16)))))
    refine r_catS (SqL.of (s916 _ _ e9)) (SqL.of e16) (by simp) ?_
    refine r_newS fun g16 H17 n17 s17 e17 => ?_
    walk_at "ss"
    refine ⟨b, rfl, by omega, fun z3 R3 H18 s18 nz3 TZ3 ra3 ru3 _ _ _ => ?_⟩
    walk_at "ss"
    refine ⟨b, rfl, by omega, fun z4 R4 H19 s19 nz4 TZ4 ra4 ru4 _ _ _ => ?_⟩
    walk_at "ss"
    refine ⟨b + 2, rfl, by omega, fun z5 R5 H20 s20 nz5 TZ5 ra5 ru5 _ _ _ => ?_⟩
    walk_at "ss"
    refine r_newS fun g17 H21 n21 s21 e21 => ?_
    have s1721 : Same H17 H21 := s18.trans (s19.trans (s20.trans s21))
    have e17' := s1721 _ _ e17
    walk_at "ss"
    refine r_append e17' (by simp) ?_
    have free16 : ∀ b o, H16 b = some o → H21 b = some o ∧ b ≠ g16 := fun b o e => ⟨s1721 _ _ (s17 _ _ e), ne_of_none e n17⟩
    have bt : But g16 H21 (upd H21 g16 (.lst (([.non, .int 5, .ref g1, .ref x0, .ref g2, .str "turns", .ref g4, .ref g6, .ref g7, .ref g8] ++ [.ref g11, .ref g14]) ++ [.ref g17]))) := (But.refl g16 H21).upd
    have eM : upd H21 g16 (.lst (([.non, .int 5, .ref g1, .ref x0, .ref g2, .str "turns", .ref g4, .ref g6, .ref g7, .ref g8] ++ [.ref g11, .ref g14]) ++ [.ref g17])) g16 = some (.lst [.non, .int 5, .ref g1, .ref x0, .ref g2, .str "turns", .ref g4, .ref g6, .ref g7, .ref g8, .ref g11, .ref g14, .ref g17]) := upd_same
    have e21M := bt _ _ (ne_of_none ((s18.trans (s19.trans s20)) _ _ e17) n21).symm e21
    have TZ3M := ((TZ3.same s19).same (s20.trans s21)).butN e17' bt
    have TZ4M := (TZ4.same (s20.trans s21)).butN e17' bt
    have TZ5M := (TZ5.same s21).butN e17' bt
    have s16M : Same H16 (upd H21 g16 (.lst (([.non, .int 5, .ref g1, .ref x0, .ref g2, .str "turns", .ref g4, .ref g6, .ref g7, .ref g8] ++ [.ref g11, .ref g14]) ++ [.ref g17]))) := fun b o e => bt b o (free16 b o e).2 (free16 b o e).1
    have ng16 : g16 ≠ s := by
      have := (sc9.same s916).ne_free n17
      exact this
    have ng17 : g17 ≠ s := (((sc9.same s916).same s17).same (s18.trans (s19.trans s20))).ne_free n21
    generalize upd H21 g16 (.lst (([.non, .int 5, .ref g1, .ref x0, .ref g2, .str "turns", .ref g4, .ref g6, .ref g7, .ref g8] ++ [.ref g11, .ref g14]) ++ [.ref g17])) = M at *
    clear bt free16
    walk_at "ss"
    refine r_newS fun r1 G1 nr1 u1 er1 => ?_
    walk_at "ss"
    refine r_newS fun r2 G2 nr2 u2 er2 => ?_
    walk_at "ss"
    refine r_newS fun r3 G3 nr3 u3 er3 => ?_
    walk_at "ss"
    refine r_newS fun r4 G4 nr4 u4 er4 => ?_
    walk_at "ss"
    refine r_newS fun r5 G5 nr5 u5 er5 => ?_
    walk_at "ss"
    refine r_newS fun r6 G6 nr6 u6 er6 => ?_
    walk_at "ss"
    refine r_newS fun r7 G7 nr7 u7 er7 => ?_
    walk_at "ss"
    refine r_newS fun r8 G8 nr8 u8 er8 => ?_
    walk_at "ss"
    refine r_newS fun lo N no9 u9 elo => ?_
    have v8 : Same G8 N := u9
    have v7 : Same G7 N := u8.trans v8
    have v6 : Same G6 N := u7.trans v7
    have v5 : Same G5 N := u6.trans v6
    have v4 : Same G4 N := u5.trans v5
    have v3 : Same G3 N := u4.trans v4
    have v2 : Same G2 N := u3.trans v3
    have v1 : Same G1 N := u2.trans v2
    have v0 : Same M N := u1.trans v1
    have od : OdF N r1 r2 r3 r4 r5 r6 r7 r8 := ⟨v1 _ _ er1, v2 _ _ er2, v3 _ _ er3, v4 _ _ er4, v5 _ _ er5, v6 _ _ er6, v7 _ _ er7, v8 _ _ er8⟩
    have eO : N lo = some (.lst (OdL r1 r2 r3 r4 r5 r6 r7 r8)) := elo
    clear u1 u2 u3 u4 u5 u6 u7 u8 u9 v1 v2 v3 v4 v5 v6 v7 v8 er1 er2 er3 er4 er5 er6 er7 er8
    have s16N := s16M.trans v0
    have sHN : Same H N := fun b o e => s16N _ _ (s916 _ _ (s09 b o e))
    have scN := sc.same sHN
    have tbN := tb.ext sHN
    have s9N : Same H9 N := fun b o e => s16N _ _ (s916 b o e)
    have s8N : Same H8 N := s9.trans s9N
    have s7N : Same H7 N := s8.trans s8N
    have s6N : Same H6 N := s7.trans s7N
    have s4N : Same H4 N := s5.trans (s6.trans s6N)
    have s2N : Same H2 N := s24.trans s4N
    have s1N : Same H1 N := s2.trans s2N
    have s15N : Same H15 N := s16.trans s16N
    have s13N : Same H13 N := s14.trans (s15.trans s15N)
    have s12N : Same H12 N := s13.trans s13N
    have s10N : Same H10 N := s11.trans (s12.trans s12N)
    have c1 := s1N _ _ e1
    have c2 := s2N _ _ e2
    have c4 := s4N _ _ e4
    have c6 := s6N _ _ e6
    have c7 := s7N _ _ e7
    have c8 := s8N _ _ e8
    have c11 := s12N _ _ e12
    have c14 := s15N _ _ e15
    have c17 := v0 _ _ e21M
    have c16 := v0 _ _ eM
    have Y1 := TZ1.same s10N
    have Y2 := TZ2.same s13N
    have Y3 := TZ3M.same v0
    have Y4 := TZ4M.same v0
    have Y5 := TZ5M.same v0
    have TNN := TN.same sHN
    have T0N := T0.same sHN
    have ZN := sHN _ _ hZ
    have r0N := sHN _ _ hr0
    have nlo : lo ≠ s := (scN.ne_ob eO (by intro d j z; cases z))
    have ng4 : g4 ≠ s := ((((sc.same s1).same s2).same s3).ne_free n4)
    have ng6 : g6 ≠ s := ((((sc.same s1).same s2).same s24).same s5).ne_free n6
    have ng7 : g7 ≠ s := (((((sc.same s1).same s2).same s24).same s5).same s6).ne_free n7
    have ng8 : g8 ≠ s := ((((((sc.same s1).same s2).same s24).same s5).same s6).same s7).ne_free n8
    have ng11 : g11 ≠ s := ((sc9.same s10).same s11).ne_free n12
    have ng14 : g14 ≠ s := ((((sc9.same s10).same s11).same s12).same (s13.trans s14)).ne_free n15
    have nZ : Z ≠ s := sc.ne_lst hZ TN.ref
    have kt := x_kt_Turn
    have bads : ∀ (i : Nat) (v : V), ([.non, .int 5, .ref g1, .ref x0, .ref g2, .str "turns", .ref g4, .ref g6, .ref g7, .ref g8, .ref g11, .ref g14, .ref g17] : List V)[i]? = some v → ∀ H', BuN s N H' → TsR K H' v false := fun i v hv H' bu => by
      have tb : ∀ (l : Addr) (xs : List V), l ≠ s → N l = some (.lst xs) → H' l = some (.lst xs) := fun l xs n e => bu l _ n e (fun _ z => by cases z)
      have tt : ∀ (l : Addr) (xs : List V), N l = some (.tup xs) → H' l = some (.tup xs) := fun l xs e => bu l _ (scN.ne_ob e (by intro d j z; cases z)) e (fun _ z => by cases z)
      have TN' := TNN.bn scN bu
      rcases i with _ | _ | _ | _ | _ | _ | _ | _ | _ | _ | _ | _ | _ | i
      · cases hv
        exact .inl ⟨rfl, _, .base .non, kit_ty (a := "NoneType") (b := "list") (by decide +kernel)⟩
      · cases hv
        exact .inl ⟨rfl, _, .base (.int _), kit_ty (a := "int") (b := "list") (by decide +kernel)⟩
      · cases hv
        exact .inl ⟨rfl, _, .base (.tup (tt _ _ c1)), kit_ty (a := "tuple") (b := "list") (by decide +kernel)⟩
      · cases hv
        obtain ⟨_, _, _, _, e⟩ := (T0N.bn scN bu).fl
        exact .inl ⟨rfl, _, i_Turn.ty e, x_tl_Turn⟩
      · cases hv
        exact .inl ⟨rfl, _, .base (.dK (bu _ _ (scN.ne_ob c2 (by intro d j z; cases z)) c2 (fun _ z => by cases z))), kit_ty (a := "dict") (b := "list") (by decide +kernel)⟩
      · cases hv
        exact .inl ⟨rfl, _, .base (.str _), kit_ty (a := "str") (b := "list") (by decide +kernel)⟩
      · cases hv
        exact tsr_snoc (tb _ _ ng4 c4) TN' (by omega) fun _ _ => ⟨_, .base .non, kt "NoneType" (by simp)⟩
      · cases hv
        exact tsr_snoc (tb _ _ ng6 c6) TN' (by omega) fun _ s' => ⟨_, .base (.tup (s' _ _ (tt _ _ r0N))), kt "tuple" (by simp)⟩
      · cases hv
        exact tsr_snoc (zs := []) (Rs := []) (tb _ _ ng7 c7) TnL.nil (by simp) fun _ s' => ⟨_, .base (.lst (s' _ _ (tb _ _ nZ ZN))), kt "list" (by simp)⟩
      · cases hv
        exact tsr_snoc (zs := [.ref x0]) (Rs := [_]) (tb _ _ ng8 c8) (TnL.one (T0N.bn scN bu)) (by simp) fun _ s' => ⟨_, .base (.int _), kt "int" (by simp)⟩
      · cases hv
        refine tsr_row (i := Rs.length - 1) (A := Rs[Rs.length - 1]) (B := R1) (tb _ _ ng11 c11) (TN'.app (TnL.one (Y1.bn scN bu))) (by simp; omega) ?_ ?_ (by rw [eb, ra1]; omega)
        · rw [List.getElem?_append_left (by omega)]
          exact List.getElem?_eq_getElem (by omega)
        · rw [List.getElem?_append_right (by omega), show Rs.length - 1 + 1 - Rs.length = 0 by omega]
          rfl
      · cases hv
        refine tsr_row (i := 0) (A := R2) (B := Rs[0]) (tb _ _ ng14 c14) ((TnL.one (Y2.bn scN bu)).app TN') (by simp; omega) rfl ?_ (by rw [ru2, ea]; omega)
        show Rs[0]? = _
        exact List.getElem?_eq_getElem hpos
      · cases hv
        refine tsr_row (i := 1) (A := R4) (B := R5) (Ts := [R3] ++ ([R4] ++ [R5])) (tb _ _ ng17 c17) ((TnL.one (Y3.bn scN bu)).app ((TnL.one (Y4.bn scN bu)).app (TnL.one (Y5.bn scN bu)))) (by simp) rfl rfl (by rw [ru4, ra5]; omega)
      · simp at hv
    clear c1 c2 c4 c6 c7 c8 c11 c14 c17 Y1 Y2 Y3 Y4 Y5
    walk_at "ss"
    refine r_forL (xs := [.non, .int 5, .ref g1, .ref x0, .ref g2, .str "turns", .ref g4, .ref g6, .ref g7, .ref g8, .ref g11, .ref g14, .ref g17]) (fun i σ H' => ∃ y6 y7 : Option V, σ = [some (.ref s), some (.ref L), some (.ref Z), some (.int b), some (.ref g16), some (.ref lo), y6, y7] ∧ BuN s N H' ∧ Sc H' s ∧ Tabs (Tb K) H')
      ⟨_, _, rfl, fun _ _ _ e _ => e, scN, tbN⟩ (fun i σ H' _ ⟨_, _, _, bu, _⟩ => SqL.of (bu _ _ ng16 c16 (fun _ z => by cases z))) ?_ ?_
    · rintro i v σ K1 hv ⟨y6, y7, rfl, bu, scK, tbK⟩
      have oK := bu _ _ nlo eO (fun _ z => by cases z)
      walk_at "ss"
      refine r_newS fun p1 K2 np1 t2 ep1 => ?_
      walk_at "ss"
      refine r_newS fun p2 K3 np2 t3 ep2 => ?_
      walk_at "ss"
      refine r_newS fun p3 K4 np3 t4 ep3 => ?_
      have t14 := t2.trans (t3.trans t4)
      refine r_catS (SqL.of (t14 _ _ oK)) (SqL.of ep3) (by simp [OdL]) ?_
      refine r_newS fun lq K5 nlq t5 elq => ?_
      have t15 := t14.trans t5
      have sc5 := scK.same t15
      have nq : lq ≠ s := (scK.same t14).ne_free nlq
      have bu5 := bu.xn (ExtN.of t15)
      have oK5 := t15 _ _ oK
      walk_at "ss"
      refine ⟨s, 13, rfl, sc5, by decide, by decide, fun c K6 hc x6 => ?_⟩
      obtain ⟨w, hw⟩ : ∃ w, atI (OdL r1 r2 r3 r4 r5 r6 r7 r8 ++ [V.ref p1, V.ref p2]) (c : Int) = some w := ⟨_, at_of rfl (List.getElem?_eq_getElem (show c < (OdL r1 r2 r3 r4 r5 r6 r7 r8 ++ [V.ref p1, V.ref p2]).length from hc))⟩
      refine r_ixL (SqL.of (x6.old _ _ nq elq)) hw ?_
      have bu6 : BuN s N K6 := bu5.trans (BuN.of_sx x6)
      have tb6 := tabs_sx (tbK.ext t15) sc5 x6
      walk_at "ss"
      refine KrL.r_lam tb6 fun N2 x2 tb2 => ?_
      refine tt_at fun E1 hE => ?_
      dsimp only
      walk_at "ss"
      refine ⟨v, w, rfl, .inl ⟨bads i v hv _ (bu6.xn x2), hE "turns" fun N3 s3 => ?_⟩⟩
      walk_at "ss"
      exact ⟨_, _, rfl, (bu6.xn x2).xn (ExtN.of s3), (x6.sc.xn x2).same s3, tb2.ext s3⟩
    clear bads
    rintro σ K1 ⟨y6, y7, rfl, bu, scK, tbK⟩
    have oK := bu _ _ nlo eO (fun _ z => by cases z)
    have ZK := bu _ _ nZ ZN (fun _ z => by cases z)
    have odK := od.bu scN bu
    have TNK := TNN.bn scN bu
    have T0K := T0N.bn scN bu
    obtain ⟨k1, k2, k3, k4, k5⟩ := T0K.fl
    walk_at "ss"
    refine r_ixL (SqL.of ZK) (at_of (j := 0) rfl f0) ?_
    walk_at "ss"
    refine ⟨x0, _, rfl, T0K, ?_⟩
    rw [ea]
    walk_at "ss"
    refine r_newS fun w1 I1 nw1 p1 ew1 => ?_
    walk_at "ss"
    refine r_newS fun l1 J1 nl1 q1 el1 => ?_
    refine r_catS (SqL.of (q1 _ _ (p1 _ _ oK))) (SqL.of el1) (by simp [OdL]) ?_
    refine r_newS fun m1 M1 nm1 t1 em1 => ?_
    have c1 := p1.trans (q1.trans t1)
    have od1 := odK.xn (ExtN.of c1)
    have TN1 := TNK.same c1
    have Z1 := c1 _ _ ZK
    have ew1' := t1 _ _ (q1 _ _ ew1)
    have eO1 := c1 _ _ oK
    have sc1 := scK.same c1
    have bu1 := bu.xn (ExtN.of c1)
    walk_at "ss"
    refine r_forL (xs := OdL r1 r2 r3 r4 r5 r6 r7 r8 ++ [.ref w1]) (fun i σ H' => ∃ y7 : Option V, σ = [some (.ref s), some (.ref L), some (.ref Z), some (.int b), some (.ref g16), some (.ref lo), y6, y7] ∧ ExtN M1 H' ∧ Tabs (Tb K) H')
      ⟨_, rfl, ExtN.refl _, tbK.ext c1⟩ (fun i σ H' _ ⟨_, _, x5, _⟩ => SqL.of (x5 _ _ em1 (fun _ z => by cases z))) ?_ ?_
    · rintro i v σ N1 hx ⟨z7, rfl, x1, tb1⟩
      have bad : ∀ H', ExtN M1 H' → (∀ H2, Same H' H2 → NoPl K H2 v) ∨ (Rs ≠ [] ∧ ∃ (t : Addr) (k : Nat), v = .ref t ∧ H' t = some (plO (.use k)) ∧ a ≤ k) := fun H' xx => by
        rcases Nat.lt_or_ge i 11 with z | z
        · rw [List.getElem?_append_left (by simpa [OdL] using z)] at hx
          exact .inl fun H2 s2 => (od1.xn (xx.trans (ExtN.of s2))).no hx
        · rw [List.getElem?_append_right (by simpa [OdL] using z)] at hx
          rcases Nat.eq_zero_or_pos (i - (OdL r1 r2 r3 r4 r5 r6 r7 r8).length) with y | y
          · rw [y] at hx
            cases hx
            exact .inr ⟨ne0, w1, a, rfl, xx _ _ ew1' (fun _ z => by cases z), Nat.le_refl _⟩
          · rw [List.getElem?_eq_none (by simp only [List.length_singleton]; omega)] at hx
            cases hx
      walk_at "ss"
      refine KrL.r_lam tb1 fun N2 x2 tb2 => ?_
      refine tt_at fun E1 hE => ?_
      have xx := x1.trans x2
      dsimp only
      walk_at "ss"
      refine ⟨.ref Z, v, rfl, .inr ⟨Z, zs, Rs, a, b, rfl, xx _ _ Z1 (fun _ z => by cases z), TN1.bn sc1 (fun b' o _ e nt => xx b' o e nt), ch, by omega, hE "place" fun N3 s3 => ?_, bad _ xx⟩⟩
      walk_at "ss"
      exact ⟨_, rfl, xx.trans (ExtN.of s3), tb2.ext s3⟩
    rintro σ N1 ⟨z7, rfl, x1, tb1⟩
    have eO2 := x1 _ _ eO1 (fun _ z => by cases z)
    have od2 := od1.xn x1
    walk_at "ss"
    refine r_forL (xs := OdL r1 r2 r3 r4 r5 r6 r7 r8) (fun i σ H' => ∃ y7 : Option V, σ = [some (.ref s), some (.ref L), some (.ref Z), some (.int b), some (.ref g16), some (.ref lo), y6, y7] ∧ ExtN N1 H' ∧ Tabs (Tb K) H')
      ⟨_, rfl, ExtN.refl _, tb1⟩ (fun i σ H' _ ⟨_, _, x5, _⟩ => SqL.of (x5 _ _ eO2 (fun _ z => by cases z))) ?_ ?_
    · rintro i v σ N2 hx ⟨y8, rfl, x2, tb2⟩
      walk_at "ss"
      refine KrL.r_lam tb2 fun N3 x3 tb3 => ?_
      refine tt_at fun E1 hE => ?_
      have xx := x2.trans x3
      dsimp only
      walk_at "ss"
      refine r_newS fun l4 N4 nl4 s4' el4 => ?_
      have xx4 := xx.trans (ExtN.of s4')
      walk_at "ss"
      refine ⟨.ref l4, v, rfl, .inr ⟨l4, [], [], 0, 0, rfl, el4, TnL.nil, rfl, by simp, (hE "place" fun N5 s5' => ?_).same s4', .inl fun H2 s2' => (od2.xn (xx4.trans (ExtN.of s2'))).no hx⟩⟩
      walk_at "ss"
      exact ⟨_, rfl, xx.trans (ExtN.of s5'), tb3.ext s5'⟩
    rintro σ N2 ⟨y8, rfl, x2, tb2⟩
    walk_at "ss"
    exact q N2 (((BuN.of_sx (Sx.of sc sHN)).trans bu1).xn (x1.trans x2)) (sc1.xn (x1.trans x2)) tb2
theorem ok_way__r2 {P : Program} {w : World} {K : PySem.W.Frag} {mg : Str → Option Value} {base : Heap} {f : Addr} {fd : FuncData} (F : FunD K "way" "way" (defArgs s_way__r2) (defBody s_way__r2) (defScope s_way__r2) [] [] f fd) (c_Turn : Cls K (He.ga K "Turn")) (h_are_turns__r : Kr.FnH P w K mg base CX0 2 "are_turns" ["turns"] (sp_are_turns__r K)) (h_is_place : Kr.FnH P w K mg base CX0 2 "is_place" ["place"] (sp_is_place K)) (h_is_place_among : Kr.FnH P w K mg base CX0 3 "is_place_among" ["place", "many"] (sp_is_place_among K)) (m_Turn_ahead : Kr.MtH P w K mg base CX0 1 (He.ga K "Turn") "ahead" ["self"] (sp_Turn_ahead K)) (m_Turn_goal : Kr.MtH P w K mg base CX0 4 (He.ga K "Turn") "goal" ["self", "place"] (sp_Turn_goal K)) : FnOk P w K mg base CX0 5 f fd ["turns", "place"] (sp_way__r2 K) := by
  refine F.ok sc_way__r2 (fun vs H Q E h => by first | (obtain ⟨rfl, _⟩ := h; rfl) | (obtain ⟨_, rfl, _⟩ := h; rfl) | (obtain ⟨_, _, rfl, _⟩ := h; rfl) | (obtain ⟨_, _, _, rfl, _⟩ := h; rfl) | (obtain ⟨_, _, _, _, rfl, _⟩ := h; rfl) | (obtain ⟨_, _, _, _, _, rfl, _⟩ := h; rfl) | (obtain ⟨_, _, _, _, _, _, rfl, _⟩ := h; rfl) | (obtain ⟨_, _, _, _, _, _, _, rfl, _⟩ := h; rfl) | (obtain ⟨_, _, _, _, _, _, _, _, rfl, _⟩ := h; rfl) | (obtain ⟨_, _, _, _, _, _, _, _, _, rfl, _⟩ := h; rfl) | (obtain ⟨_, _, _, _, _, _, _, _, _, _, rfl, _⟩ := h; rfl) | (obtain ⟨_, _, _, _, _, _, _, _, _, _, _, rfl, _⟩ := h; rfl) | (obtain ⟨_, _, _, _, _, _, _, _, _, _, _, _, rfl, _⟩ := h; rfl) | (obtain ⟨_, _, _, _, _, _, _, _, _, _, _, _, _, rfl, _⟩ := h; rfl) | (obtain ⟨_, _, _, _, _, _, _, _, _, _, _, _, _, _, rfl, _⟩ := h; rfl) | (obtain ⟨_, _, _, _, _, _, _, _, _, _, _, _, _, _, _, rfl, _⟩ := h; rfl) | (obtain ⟨_, _, _, _, _, _, _, _, _, _, _, _, _, _, _, _, rfl, _⟩ := h; rfl) | (obtain ⟨_, _, _, _, _, _, _, _, _, _, _, _, _, _, _, _, _, rfl, _⟩ := h; rfl)) (fun cdv A outer s H vs Q E hr h => ?_)
  · have hu := hu_of hr
    obtain ⟨l, t, ws, Ts, p, a, b, rfl, hl, P, ch, hz, ht, v, q⟩ := h
    have hwl := P.len
    refine ⟨_, PSs.nox (pss_cons (ps_if (pt_not (pt_val (Kr.pe_cl h_are_turns__r (hr.mono (by decide)) (pa_cons (pv 0) pa_nil)))) (pss_one ps_never) pss_nil) (pss_cons (ps_if (PW.pt (pw_or (pt_not (pt_val (Kr.pe_cl h_is_place (hr.mono (by decide)) (pa_cons (pv 1) pa_nil)))) (pw_or1 (PW.pt (pw_and (Kr.p_truth (pv 0) (by intro _; rfl)) (pw_and1 (pt_not (pt_val (Kr.pe_cl h_is_place_among (hr.mono (by decide)) (pa_cons (pv 1) (pa_cons (Kr.pe_mt0 m_Turn_ahead c_Turn (hr.mono (by decide)) (pe_ix ix_list (pv 0) pe_int (fun _ _ => rfl))) pa_nil))))))))))) (pss_one ps_never) pss_nil) (pss_cons (ps_set (i := 2) sc_way__r2.nd rfl (.inl rfl) (pe_lst (pa_cons (pv 1) pa_nil))) (pss_cons (ps_for PassesOwn.never rfl (pi_list (pv 0)) (pg_name (i := 3) sc_way__r2.nd rfl (.inl rfl)) (pss_one (ps_expr (pe_bm PySem.F.plainAttrs_list PySem.F.slot_list_append PySem.F.type_list_append mt_append (pv 2) (pa_cons (Kr.pe_mt m_Turn_goal c_Turn (hr.mono (by decide)) (pv 3) (pa_cons (pe_ix ix_list (pv 2) (pe_un un_neg pe_int) (fun _ _ => rfl)) pa_nil)) pa_nil))))) (pss_one (ps_ret (pv 2))))))), ?_⟩
    rw [st_way__r2]
    walk_at "ss"
    refine ⟨_, true, rfl, .inr (.inr ⟨l, ws, Ts, rfl, hl, P, hz, (row_ch ch).symm⟩), fun H1 s1 => ?_⟩
    have hl1 := s1 _ _ hl
    have ht1 := s1 _ _ ht
    have P1 := P.same s1
    walk_at "ss"
    refine ⟨t, p, rfl, ht1, fun H2 s2 => ?_⟩
    have hl2 := s2 _ _ hl1
    have ht2 := s2 _ _ ht1
    have P2 := P1.same s2
    walk_at "ss"
    refine ⟨!ws.isEmpty, .inl ⟨ws, SqL.of hl2, rfl⟩, ?_⟩
    have ee : ws.isEmpty = Ts.isEmpty := by
      cases ws <;> cases Ts <;> simp at hwl <;> rfl
    rw [ee]
    by_cases ne0 : Ts = []
    rw [show Ts.isEmpty = true by rw [ne0]; rfl]
    refine iteNt ?_
    walk_at "ss"
    obtain ⟨H3, eH⟩ : ∃ H3, H3 = H2 := ⟨_, rfl⟩
    have s3 : Same H2 H3 := by rw [eH]; exact fun _ _ e => e
    rw [← eH]
    clear eH
    have vd := v
    rotate_left
    have hpos : 0 < Ts.length := List.length_pos_iff.mpr ne0
    obtain ⟨t0, a1, a2⟩ := P2.get (i := 0) hpos
    have ha0 : Ts[0].a = a := by
      obtain ⟨m, h1, h2, -⟩ := ch.at_ (i := 0) hpos
      rw [h2]
      exact h1.symm
    obtain ⟨dx, pu, pf, pg, h0⟩ := a2.fl
    rw [show Ts.isEmpty = false by cases Ts with | nil => exact absurd rfl ne0 | cons _ _ => rfl]
    refine iteNf ?_
    walk_at "ss"
    refine r_ixL (SqL.of hl2) (at_of (j := 0) rfl a1) ?_
    walk_at "ss"
    refine ⟨t0, _, rfl, a2, ?_⟩
    walk_at "ss"
    refine ⟨t, p, _, rfl, ht2, ha0.symm ▸ v ne0, fun H3 s3 => ?_⟩
    walk_at "ss"
    have vd := v
    clear a1 a2 ha0 h0 hpos t0 dx pu pf pg
    all_goals
      have hl3 := s3 _ _ hl2
      have ht3 := s3 _ _ ht2
      have P3 := P2.same s3
      clear ne0
      walk_at "ss"
      refine r_newS fun r H4 hr s4 e4 => ?_
      have hr0 : H3 r = none := hr
      have hl4 := s4 _ _ hl3
      have ht4 := s4 _ _ ht3
      walk_at "ss"
      refine r_forL (xs := ws) (fun i σ H' => ∃ (us : List V) (qs : List Pl) (x3 : Option V), σ = [some (.ref l), some (.ref t), some (.ref r), x3] ∧ Same H3 H' ∧ H' r = some (.lst us) ∧ PlL H' us qs ∧ Wy (Ts.take i) p qs ∧ (i < Ts.length → ∀ q, qs[i]? = some q → ∃ m, Ch a (Ts.take i) m ∧ Vd m q))
        ⟨_, [p], _, rfl, s4, e4, PlL.nil.snoc (s4 _ _ ht3), ⟨rfl, rfl, fun i T q q' e1 => by simp at e1⟩, fun hpos q e => ?_⟩ (fun i σ H' hi ⟨us, qs, x3, _, s5, _⟩ => SqL.of (s5 _ _ hl3)) ?_ ?_
      · cases e
        exact ⟨a, rfl, vd (List.ne_nil_of_length_pos hpos)⟩
      · rintro i x σ H5 hx ⟨us, qs, x3, rfl, s5, e5, P5, wy, qi⟩
        obtain ⟨y, hi, rfl, TA⟩ := (P3.same s5).item hx
        obtain ⟨dy, yu, yf, yg, hy⟩ := TA.fl
        have lq : qs.length = i + 1 := by rw [wy.len, List.length_take]; omega
        have hiq : i < qs.length := by omega
        obtain ⟨w, b1, b2⟩ := P5.get hiq
        obtain ⟨m, m1, m2⟩ := qi hi _ (List.getElem?_eq_getElem hiq)
        obtain ⟨m', k1, k2, k3, k4⟩ := ch.at_ hi
        have em : m' = m := k1.eq m1
        subst em
        have lus : us.length = i + 1 := by rw [P5.len, lq]
        walk_at "ss"
        refine r_ixL (SqL.of e5) (at_neg1 lus b1) ?_
        walk_at "ss"
        refine ⟨y, w, _, _, rfl, TA, b2, k2.symm ▸ m2, fun t' q' H6 s6 v6 o6 e6 => ?_⟩
        have e56 := s6 _ _ e5
        walk_at "ss"
        refine r_append e56 (by omega) ?_
        walk_at "ss"
        have tk : Ts.take (i + 1) = Ts.take i ++ [Ts[i]] := by rw [List.take_add_one, List.getElem?_eq_getElem hi]; rfl
        have lt : (Ts.take i).length = i := by rw [List.length_take]; omega
        refine ⟨us ++ [.ref t'], qs ++ [q'], _, rfl, fun b o e => ?_, upd_same, ?_, ⟨?_, ?_, fun j T q1 q2 f1 f2 f3 => ?_⟩, fun hi1 q2 e => ?_⟩
        · rw [upd_ne (ne_of_none e hr0)]
          exact s6 _ _ (s5 b o e)
        · refine ((P5.same s6).snoc e6).keep (x := r) fun b xs h => ?_
          rw [upd_ne (ne_of h e56 (by intro z; cases z))]
          exact h
        · rw [tk, List.length_append, List.length_append, lq, lt]
          rfl
        · rw [List.getElem?_append_left (by omega)]
          exact wy.z
        · rw [tk] at f1
          rcases Nat.lt_or_ge j i with z | z
          · rw [List.getElem?_append_left (by omega)] at f1 f2 f3
            exact wy.st j T q1 q2 f1 f2 f3
          · have ej : j = i := by
              have := (List.getElem?_eq_some_iff.mp f1).1
              rw [List.length_append, lt, List.length_singleton] at this
              omega
            subst ej
            rw [List.getElem?_append_right (by omega), lt, Nat.sub_self] at f1
            rw [List.getElem?_append_left (by omega), List.getElem?_eq_getElem hiq] at f2
            rw [List.getElem?_append_right (by omega), show j + 1 - qs.length = 0 by omega] at f3
            cases f1
            cases f2
            cases f3
            exact ⟨v6, o6⟩
        · rw [List.getElem?_append_right (by omega), show i + 1 - qs.length = 0 by omega] at e
          cases e
          exact ⟨_, ch.to hi, v6⟩
      rintro σ H5 ⟨us, qs, x3, rfl, s5, e5, P5, wy, -⟩
      walk_at "ss"
      rw [hwl, List.take_length] at wy
      exact q r H5 us qs (fun b o e => s5 b o (s3 _ _ (s2 _ _ (s1 _ _ e)))) ((s1.trans (s2.trans s3)).free hr0) e5 P5 wy
theorem ok__law_drawn__r {P : Program} {w : World} {K : PySem.W.Frag} {mg : Str → Option Value} {base : Heap} {f : Addr} {fd : FuncData} (F : FunD K "_law_drawn" "_law_drawn" (defArgs s__law_drawn__r) (defBody s__law_drawn__r) (defScope s__law_drawn__r) [] [] f fd) (h__law_mixed : Kr.FnH P w K mg base CX0 2 "_law_mixed" ["source", "some"] (sp__law_mixed K)) (h__law_next : Kr.FnH P w K mg base CX0 1 "_law_next" ["source", "many"] (sp__law_next K)) (n_len : mg "len" = none) (n_range : mg "range" = none) : FnOk P w K mg base CX0 3 f fd ["source", "ahead"] (sp__law_drawn__r K) := by
  refine F.ok sc__law_drawn__r (fun vs H Q E h => by first | (obtain ⟨rfl, _⟩ := h; rfl) | (obtain ⟨_, rfl, _⟩ := h; rfl) | (obtain ⟨_, _, rfl, _⟩ := h; rfl) | (obtain ⟨_, _, _, rfl, _⟩ := h; rfl) | (obtain ⟨_, _, _, _, rfl, _⟩ := h; rfl) | (obtain ⟨_, _, _, _, _, rfl, _⟩ := h; rfl) | (obtain ⟨_, _, _, _, _, _, rfl, _⟩ := h; rfl) | (obtain ⟨_, _, _, _, _, _, _, rfl, _⟩ := h; rfl) | (obtain ⟨_, _, _, _, _, _, _, _, rfl, _⟩ := h; rfl) | (obtain ⟨_, _, _, _, _, _, _, _, _, rfl, _⟩ := h; rfl) | (obtain ⟨_, _, _, _, _, _, _, _, _, _, rfl, _⟩ := h; rfl) | (obtain ⟨_, _, _, _, _, _, _, _, _, _, _, rfl, _⟩ := h; rfl) | (obtain ⟨_, _, _, _, _, _, _, _, _, _, _, _, rfl, _⟩ := h; rfl) | (obtain ⟨_, _, _, _, _, _, _, _, _, _, _, _, _, rfl, _⟩ := h; rfl) | (obtain ⟨_, _, _, _, _, _, _, _, _, _, _, _, _, _, rfl, _⟩ := h; rfl) | (obtain ⟨_, _, _, _, _, _, _, _, _, _, _, _, _, _, _, rfl, _⟩ := h; rfl) | (obtain ⟨_, _, _, _, _, _, _, _, _, _, _, _, _, _, _, _, rfl, _⟩ := h; rfl) | (obtain ⟨_, _, _, _, _, _, _, _, _, _, _, _, _, _, _, _, _, rfl, _⟩ := h; rfl)) (fun cdv A outer s H vs Q E hr h => ?_)
  · have hu := hu_of hr
    obtain ⟨s, a, rfl, sc, ha, q⟩ := h
    refine ⟨_, PSs.nox (pss_cons (ps_set (i := 2) sc__law_drawn__r.nd rfl (.inl rfl) (Kr.pe_cl h__law_next (hr.mono (by decide)) (pa_cons (pv 0) (pa_cons pe_int pa_nil)))) (pss_cons (ps_set (i := 3) sc__law_drawn__r.nd rfl (.inl rfl) (Kr.pe_cl h__law_mixed (hr.mono (by decide)) (pa_cons (pv 0) (pa_cons (pe_op Kr.op_catS (pe_lc (own := [("k", 5)]) rfl sc__law_drawn__r.nd (pi_range1 rfl n_range (pa_cons (pv 1) pa_nil)) (blkOk_by (own := [("k", 5)]) (N := N__law_drawn__r) (sc := defScope s__law_drawn__r) (by decide +kernel)) (fun _ _ _ _ _ => (pg_name (i := 5) sc__law_drawn__r.nd rfl (.inl rfl))) (fun _ _ _ _ _ => pts_nil) (fun _ _ _ _ _ => (pe_tup (pa_cons pe_str (pa_cons (pv 5) pa_nil))))) (pe_lc (own := [("k", 5)]) rfl sc__law_drawn__r.nd (pi_range1 rfl n_range (pa_cons (pv 2) pa_nil)) (blkOk_by (own := [("k", 5)]) (N := N__law_drawn__r) (sc := defScope s__law_drawn__r) (by decide +kernel)) (fun _ _ _ _ _ => (pg_name (i := 5) sc__law_drawn__r.nd rfl (.inl rfl))) (fun _ _ _ _ _ => pts_nil) (fun _ _ _ _ _ => (pe_tup (pa_cons pe_str (pa_cons (pv 5) pa_nil)))))) pa_nil)))) (pss_cons (ps_set (i := 4) sc__law_drawn__r.nd rfl (.inl rfl) (Kr.pe_cl h__law_next (hr.mono (by decide)) (pa_cons (pv 0) (pa_cons (pe_op op_add (pe_callB (id := "len") Kr.c_len rfl n_len (by decide +kernel) (pa_cons (pv 3) pa_nil)) pe_int) pa_nil)))) (pss_one (ps_ret (pe_tup (pa_cons (pe_slice sl_list (pv 3) po_none (po_some (pv 4))) (pa_cons (pe_slice sl_list (pv 3) (po_some (pv 4)) po_none) (pa_cons (pv 2) pa_nil))))))))), ?_⟩
    rw [st__law_drawn__r]
    walk_at "ss"
    refine ⟨s, 7, rfl, sc, by decide, by decide, fun n H1 hn x1 => ?_⟩
    walk_at "ss"
    intro D hD
    rw [show ((a : Int)).toNat = a by omega]
    refine lc_rangeS [some (.ref s), some (.int a), some (.int n), none, none, none] rfl (fun i H5 => Same H1 H5 ∧ ∃ vs, H5 D = some (.lst vs) ∧ PlL H5 vs ((List.range i).map Pl.use)) ⟨same_new hD, [], upd_same, PlL.nil⟩ ?_ ?_
    · rintro i H5 hi ⟨s5, vs, e5, P5⟩
      walk_at "ss"
      refine ⟨rfl, ?_⟩
      walk_at "ss"
      refine r_newS fun w H6 hw s6 e6 => ?_
      have e6' : H6 w = some (plO (Pl.use i)) := by
        rw [e6]
        show some (HO.tup [V.str "use", V.int (0 + (i : Int))]) = _
        rw [Int.zero_add]
        rfl
      have e56 := s6 _ _ e5
      refine ⟨vs, e56, by rw [P5.len]; simp; exact szl (by omega), fun b o e => ?_, _, upd_same, ?_⟩
      · rw [upd_ne (ne_of_none e hD)]
        exact s6 _ _ (s5 b o e)
      · rw [List.range_succ, List.map_append]
        refine ((P5.same s6).snoc e6').keep (x := D) fun b xs h => ?_
        rw [upd_ne (ne_of h e56 (by intro z; cases z))]
        exact h
    rintro H2 ⟨s2, us, e2, P2⟩
    walk_at "ss"
    intro D2 hD2
    rw [show ((n : Int)).toNat = n by omega]
    refine lc_rangeS [some (.ref s), some (.int a), some (.int n), none, none, none] rfl (fun i H5 => Same H2 H5 ∧ ∃ vs, H5 D2 = some (.lst vs) ∧ PlL H5 vs ((List.range i).map Pl.lst)) ⟨same_new hD2, [], upd_same, PlL.nil⟩ ?_ ?_
    · rintro i H5 hi ⟨s5, vs, e5, P5⟩
      walk_at "ss"
      refine ⟨rfl, ?_⟩
      walk_at "ss"
      refine r_newS fun w H6 hw s6 e6 => ?_
      have e6' : H6 w = some (plO (Pl.lst i)) := by
        rw [e6]
        show some (HO.tup [V.str "list", V.int (0 + (i : Int))]) = _
        rw [Int.zero_add]
        rfl
      have e56 := s6 _ _ e5
      refine ⟨vs, e56, by rw [P5.len]; simp; exact szl (by omega), fun b o e => ?_, _, upd_same, ?_⟩
      · rw [upd_ne (ne_of_none e hD2)]
        exact s6 _ _ (s5 b o e)
      · rw [List.range_succ, List.map_append]
        refine ((P5.same s6).snoc e6').keep (x := D2) fun b xs h => ?_
        rw [upd_ne (ne_of h e56 (by intro z; cases z))]
        exact h
    rintro H3 ⟨s3, ls, e3, P3⟩
    have lu := P2.len
    have ll := P3.len
    rw [List.length_map, List.length_range] at lu ll
    refine r_catS (SqL.of (s3 _ _ e2)) (SqL.of e3) (by omega) ?_
    refine r_newS fun l H4 nl s4 e4 => ?_
    have x4 : Sx s H H4 := x1.same (s2.trans (s3.trans s4))
    walk_at "ss"
    refine ⟨s, l, us ++ ls, Tm.base a n, rfl, x4.sc, e4, (P2.same (s3.trans s4)).app (P3.same s4), by rw [base_len]; omega, fun r ms qs H5 x5 nr hr PQ pm => ?_⟩
    have lq := PQ.len
    have pl := pm.length_eq
    rw [base_len] at pl
    walk_at "ss"
    rw [lq, show ((qs.length : Int) + 1) = ((qs.length + 1 : Nat) : Int) by omega]
    refine ⟨s, qs.length + 1, rfl, x5.sc, by omega, by omega, fun m H6 hm x6 => ?_⟩
    have hr6 : H6 r = some (.lst ms) := x6.lst x5.sc hr PQ.rf
    have PQ6 := PQ.sx x5.sc x6
    walk_at "ss"
    rw [cut_to (by omega)]
    refine r_newS fun l1 H7 n7 s7 e7 => ?_
    have hr7 := s7 _ _ hr6
    walk_at "ss"
    rw [cut_from (by omega)]
    refine r_newS fun l2 H8 n8 s8 e8 => ?_
    walk_at "ss"
    refine r_newS fun t H9 n9 s9 e9 => ?_
    have s79 := s7.trans (s8.trans s9)
    have free : ∀ (G : Hp) (l : Addr), But s H G → G l = none → l ≠ s → H l = none := fun G l bu e n => by
      cases z : H l with
      | none => rfl
      | some o =>
        have := bu l o n z
        rw [e] at this
        cases this
    have nes : ∀ (G : Hp) (l : Addr), Sc G s → G l = none → l ≠ s := fun G l c e z => by
      obtain ⟨d, ds, j, h1, -⟩ := c.ex
      rw [z, h1] at e
      cases e
    have c6 := (x4.trans (x5.trans x6))
    have c7 := c6.same s7
    have fp : H l1 = none := free H6 l1 c6.old n7 (nes H6 l1 c6.sc n7)
    have fq : H l2 = none := free H7 l2 c7.old n8 (nes H7 l2 c7.sc n8)
    exact q t l1 l2 (ms.take m) (ms.drop m) ⟨qs.take m, qs.drop m, n, a⟩ H9 ((x4.trans (x5.trans x6)).same s79) e9 (s9 _ _ (s8 _ _ e7)) ((PQ6.same s79).take m) (s9 _ _ e8) ((PQ6.same s79).drop m) ⟨by rw [List.take_append_drop]; exact pm⟩ rfl (by show n ≤ 6; omega) fp fq
theorem ok__law_right {P : Program} {w : World} {K : PySem.W.Frag} {mg : Str → Option Value} {base : Heap} {f : Addr} {fd : FuncData} (F : FunD K "_law_right" "_law_right" (defArgs s__law_right) (defBody s__law_right) (defScope s__law_right) [] [] f fd) (h__law_drawn__r : Kr.FnH P w K mg base CX0 3 "_law_drawn" ["source", "ahead"] (sp__law_drawn__r K)) (h__law_next : Kr.FnH P w K mg base CX0 1 "_law_next" ["source", "many"] (sp__law_next K)) (h__law_path : Kr.FnH P w K mg base CX0 2 "_law_path" ["rows", "place"] (sp__law_path K)) (h__law_refused_right : Kr.FnH P w K mg base CX0 7 "_law_refused_right" ["source", "rows", "turns"] (sp__law_refused_right K)) (h__law_turn : Kr.FnH P w K mg base CX0 6 "_law_turn" ["parts"] (sp__law_turn K)) (h_way__r2 : Kr.FnH P w K mg base CX0 5 "way" ["turns", "place"] (sp_way__r2 K)) (n_isinstance : mg "isinstance" = none) (n_len : mg "len" = none) (n_list : mg "list" = none) (n_range : mg "range" = none) : FnOk P w K mg base CX0 8 f fd ["source"] (sp__law_right K) := by
  refine F.ok sc__law_right (fun vs H Q E h => by first | (obtain ⟨rfl, _⟩ := h; rfl) | (obtain ⟨_, rfl, _⟩ := h; rfl) | (obtain ⟨_, _, rfl, _⟩ := h; rfl) | (obtain ⟨_, _, _, rfl, _⟩ := h; rfl) | (obtain ⟨_, _, _, _, rfl, _⟩ := h; rfl) | (obtain ⟨_, _, _, _, _, rfl, _⟩ := h; rfl) | (obtain ⟨_, _, _, _, _, _, rfl, _⟩ := h; rfl) | (obtain ⟨_, _, _, _, _, _, _, rfl, _⟩ := h; rfl) | (obtain ⟨_, _, _, _, _, _, _, _, rfl, _⟩ := h; rfl) | (obtain ⟨_, _, _, _, _, _, _, _, _, rfl, _⟩ := h; rfl) | (obtain ⟨_, _, _, _, _, _, _, _, _, _, rfl, _⟩ := h; rfl) | (obtain ⟨_, _, _, _, _, _, _, _, _, _, _, rfl, _⟩ := h; rfl) | (obtain ⟨_, _, _, _, _, _, _, _, _, _, _, _, rfl, _⟩ := h; rfl) | (obtain ⟨_, _, _, _, _, _, _, _, _, _, _, _, _, rfl, _⟩ := h; rfl) | (obtain ⟨_, _, _, _, _, _, _, _, _, _, _, _, _, _, rfl, _⟩ := h; rfl) | (obtain ⟨_, _, _, _, _, _, _, _, _, _, _, _, _, _, _, rfl, _⟩ := h; rfl) | (obtain ⟨_, _, _, _, _, _, _, _, _, _, _, _, _, _, _, _, rfl, _⟩ := h; rfl) | (obtain ⟨_, _, _, _, _, _, _, _, _, _, _, _, _, _, _, _, _, rfl, _⟩ := h; rfl)) (fun cdv A outer s H vs Q E hr h => ?_)
  · have hu := hu_of hr
    obtain ⟨s, rfl, sc, tb, q0⟩ := h
    refine ⟨_, PSs.nox (pss_cons (ps_par3 (i := 1) (j := 2) (l := 3) rfl sc__law_right.nd rfl rfl rfl (by decide) (by decide) (by decide) rfl rfl rfl (pa_cons (pe_lst pa_nil) (pa_cons (pe_lst pa_nil) (pa_cons (Kr.pe_cl h__law_next (hr.mono (by decide)) (pa_cons (pv 0) (pa_cons pe_int pa_nil))) pa_nil))) (by rfl)) (pss_cons (ps_set (i := 4) sc__law_right.nd rfl (.inl rfl) (pv 3)) (pss_cons (ps_for PassesOwn.never rfl (pi_range1 rfl n_range (pa_cons (pe_op op_add pe_int (Kr.pe_cl h__law_next (hr.mono (by decide)) (pa_cons (pv 0) (pa_cons pe_int pa_nil)))) pa_nil)) (pg_name (i := 5) sc__law_right.nd rfl (.inl rfl)) (pss_cons (ps_expr (pe_bm PySem.F.plainAttrs_list PySem.F.slot_list_append PySem.F.type_list_append mt_append (pv 1) (pa_cons (Kr.pe_cl h__law_drawn__r (hr.mono (by decide)) (pa_cons (pv 0) (pa_cons (pv 3) pa_nil))) pa_nil))) (pss_cons (ps_expr (pe_bm PySem.F.plainAttrs_list PySem.F.slot_list_append PySem.F.type_list_append mt_append (pv 2) (pa_cons (Kr.pe_cl h__law_turn (hr.mono (by decide)) (pa_cons (pe_ix ix_list (pv 1) (pe_un un_neg pe_int) (fun _ _ => rfl)) pa_nil)) pa_nil))) (pss_one (ps_set (i := 3) sc__law_right.nd rfl (.inl rfl) (pe_callB (id := "len") Kr.c_len rfl n_len (by decide +kernel) (pa_cons (pe_ix ix_tup (pe_ix ix_list (pv 1) (pe_un un_neg pe_int) (fun _ _ => rfl)) pe_int (fun _ _ => rfl)) pa_nil))))))) (pss_cons (ps_set (i := 6) sc__law_right.nd rfl (.inl rfl) (pe_op op_add (pe_ix ix_list (pe_lst (pa_cons pe_int (pa_cons (pe_op op_pow pe_int pe_int) (pa_cons (pe_op op_pow pe_int pe_int) pa_nil)))) (Kr.pe_cl h__law_next (hr.mono (by decide)) (pa_cons (pv 0) (pa_cons pe_int pa_nil))) (fun _ _ => rfl)) (Kr.pe_cl h__law_next (hr.mono (by decide)) (pa_cons (pv 0) (pa_cons pe_int pa_nil))))) (pss_cons (ps_for PassesOwn.never rfl (pi_list (pe_op Kr.op_catS (pe_op Kr.op_catS (pe_lc (own := [("k", 5)]) rfl sc__law_right.nd (pi_range1 rfl n_range (pa_cons (pv 4) pa_nil)) (blkOk_by (own := [("k", 5)]) (N := N__law_right) (sc := defScope s__law_right) (by decide +kernel)) (fun _ _ _ _ _ => (pg_name (i := 5) sc__law_right.nd rfl (.inl rfl))) (fun _ _ _ _ _ => pts_nil) (fun _ _ _ _ _ => (pe_tup (pa_cons pe_str (pa_cons (pv 5) pa_nil))))) (pe_lc (own := [("k", 5)]) rfl sc__law_right.nd (pi_range1 rfl n_range (pa_cons pe_int pa_nil)) (blkOk_by (own := [("k", 5)]) (N := N__law_right) (sc := defScope s__law_right) (by decide +kernel)) (fun _ _ _ _ _ => (pg_name (i := 5) sc__law_right.nd rfl (.inl rfl))) (fun _ _ _ _ _ => pts_nil) (fun _ _ _ _ _ => (pe_tup (pa_cons pe_str (pa_cons (pv 5) pa_nil)))))) (pe_lst (pa_cons (pe_tup (pa_cons pe_str (pa_cons (pv 6) pa_nil))) pa_nil)))) (pg_name (i := 7) sc__law_right.nd rfl (.inl rfl)) (pss_cons (ps_set (i := 8) sc__law_right.nd rfl (.inl rfl) (Kr.pe_cl h_way__r2 (hr.mono (by decide)) (pa_cons (pv 2) (pa_cons (pv 7) pa_nil)))) (pss_cons (ps_if (PW.pt (pw_or (pt_not (pt_val (pe_callB (id := "isinstance") call_isi rfl n_isinstance (by decide +kernel) (pa_cons (pv 8) (pa_cons (Kr.pe_bty (T := "list") n_list) pa_nil))))) (pw_or1 (pt_cmpR (op_neD hr.units) (pv 8) (Kr.pe_cl h__law_path (hr.mono (by decide)) (pa_cons (pv 1) (pa_cons (pv 7) pa_nil))) (nomark _))))) (pss_one (ps_ret pe_bl)) pss_nil) (pss_cons (ps_expr (pe_bm0 PySem.F.plainAttrs_list PySem.F.slot_list_clear PySem.F.type_list_clear mt_clear (pv 8))) (pss_one (ps_if (PW.pt (pw_or (pt_cmpR (op_neD hr.units) (Kr.pe_cl h_way__r2 (hr.mono (by decide)) (pa_cons (pe_slice sl_list (pv 2) po_none (po_some pe_int)) (pa_cons (pv 7) pa_nil))) (Kr.pe_cl h__law_path (hr.mono (by decide)) (pa_cons (pe_slice sl_list (pv 1) po_none (po_some pe_int)) (pa_cons (pv 7) pa_nil))) (nomark _)) (pw_or1 (pt_cmpR (op_neD hr.units) (Kr.pe_cl h_way__r2 (hr.mono (by decide)) (pa_cons (pe_lst pa_nil) (pa_cons (pv 7) pa_nil))) (pe_lst (pa_cons (pv 7) pa_nil)) (nomark _))))) (pss_one (ps_ret pe_bl)) pss_nil)))))) (pss_cons (ps_if (pt_cmpR (op_neD hr.units) (Kr.pe_cl h_way__r2 (hr.mono (by decide)) (pa_cons (pe_lst pa_nil) (pa_cons (pe_tup (pa_cons pe_str (pa_cons (pe_op op_pow pe_int pe_int) pa_nil))) pa_nil))) (pe_lst (pa_cons (pe_tup (pa_cons pe_str (pa_cons (pe_op op_pow pe_int pe_int) pa_nil))) pa_nil)) (nomark _)) (pss_one (ps_ret pe_bl)) pss_nil) (pss_one (ps_ret (Kr.pe_cl h__law_refused_right (hr.mono (by decide)) (pa_cons (pv 0) (pa_cons (pv 1) (pa_cons (pv 2) pa_nil)))))))))))), ?_⟩
    rw [st__law_right]
    walk_at "ss"
    refine r_newS fun L H1 nL s1 eL => ?_
    walk_at "ss"
    refine r_newS fun Z H2 nZ s2 eZ => ?_
    have sc2 := (sc.same s1).same s2
    walk_at "ss"
    refine ⟨s, 7, rfl, sc2, by decide, by decide, fun a0 H3 ha0 x3 => ?_⟩
    have nLs : L ≠ s := by
      obtain ⟨d, ds, j, h1, -⟩ := sc.ex
      exact (ne_of_none h1 nL).symm
    have nZs : Z ≠ s := by
      obtain ⟨d, ds, j, h1, -⟩ := (sc.same s1).ex
      exact (ne_of_none h1 nZ).symm
    have nZL : Z ≠ L := (ne_of_none eL nZ).symm
    have L3 := x3.old _ _ nLs (s2 _ _ eL)
    have Z3 := x3.old _ _ nZs eZ
    have nZ0 : H Z = none := s1.free nZ
    walk_at "ss"
    refine ⟨s, 7, rfl, x3.sc, by decide, by decide, fun n0 H4 hn0 x4 => ?_⟩
    have L4 := x4.old _ _ nLs L3
    have Z4 := x4.old _ _ nZs Z3
    have xx4 : Sx s H H4 := (Sx.of sc (s1.trans s2)).trans (x3.trans x4)
    clear eL eZ L3 Z3
    walk_at "ss"
    rw [show (1 + (n0 : Int)).toNat = n0 + 1 by omega]
    refine r_forR (fun i σ H' => ∃ (m : Nat) (y5 : Option V) (ws zs : List V) (Ts Rs : List Tn), σ = [some (.ref s), some (.ref L), some (.ref Z), some (.int m), some (.int a0), y5, none, none, none] ∧ Sx s H H' ∧ H' L = some (.lst ws) ∧ RwL H' ws Ts ∧ H' Z = some (.lst zs) ∧ TnL K H' zs Rs ∧ Alk Ts Rs ∧ Ch a0 Rs m ∧ PCh a0 Ts ∧
        (m = if Ts.length = 0 then a0 else (Ts[Ts.length - 1]?.map (·.u.length)).getD 0) ∧ Ts.length = i ∧ m ≤ 6 + 6 * i)
      ⟨a0, _, [], [], [], [], rfl, xx4, L4, ⟨rfl, fun i T e => by simp at e⟩, Z4, TnL.nil, ⟨rfl, fun i T R e => by simp at e⟩, rfl, fun i T e => by simp at e, rfl, rfl, by omega⟩ ?_ ?_
    · rintro i σ H5 hi ⟨m, y5, ws, zs, Ts, Rs, rfl, x5, L5, RW5, Z5, TN5, al, ch, pc, me, lT, hm⟩
      have lal := al.len
      walk_at "ss"
      refine ⟨s, m, rfl, x5.sc, by omega, fun t pu pf vu vf T H6 x6 ht hu PU hf PF pm ta hn fpu fpf => ?_⟩
      have L6 := x6.lst x5.sc L5 RW5.rf
      have Z6 := x6.lst x5.sc Z5 TN5.ref
      have RW6 := RW5.sx x5.sc x6
      have TN6 := TN5.sx x5.sc x6
      have puL : pu ≠ L := (ne_of_none L5 fpu).symm
      have pfL : pf ≠ L := (ne_of_none L5 fpf).symm
      have puZ : pu ≠ Z := (ne_of_none Z5 fpu).symm
      have pfZ : pf ≠ Z := (ne_of_none Z5 fpf).symm
      have x06 := x5.trans x6
      have tl := pm.len
      have lws := RW6.len
      have lzs := TN6.len
      have RsT : Rs ≠ [] → Ts ≠ [] := fun n z => n (List.eq_nil_of_length_eq_zero (by rw [← lal, z]; rfl))
      have TsR : Ts ≠ [] → Rs ≠ [] := fun n z => n (List.eq_nil_of_length_eq_zero (by rw [lal, z]; rfl))
      clear x5 x6 L5 Z5 RW5 TN5
      walk_at "ss"
      refine r_append L6 (by omega) ?_
      have b7 : But L H6 (upd H6 L (.lst (ws ++ [.ref t]))) := (But.refl L H6).upd
      have RW7 := RW6.but L6 (fun n => RW6.fst n) b7
      have TN7 := TN6.but L6 (fun n => RW6.fst (RsT n)) b7
      have tp7 : ∀ c xs, H6 c = some (.tup xs) → upd H6 L (.lst (ws ++ [.ref t])) c = some (.tup xs) := fun c xs e => b7 c _ (ne_of e L6 (by intro z; cases z)) e
      have ht7 := tp7 _ _ ht
      have hu7 := b7 _ _ puL hu
      have hf7 := b7 _ _ pfL hf
      have PU7 := PU.keep (x := t) tp7
      have PF7 := PF.keep (x := t) tp7
      have x7 : Sx s H (upd H6 L (.lst (ws ++ [.ref t]))) := ⟨x06.sc.upd L6 RW6.rf, fun c o n e => by rw [upd_ne (ne_of_none e nL)]; exact x06.old _ _ n e⟩
      have L7 : upd H6 L (.lst (ws ++ [.ref t])) L = some (.lst (ws ++ [.ref t])) := upd_same
      have Z7 := b7 _ _ nZL Z6
      clear b7 tp7 RW6 TN6 L6 Z6 ht hu hf PU PF x06
      generalize upd H6 L (.lst (ws ++ [.ref t])) = H7 at *
      have gt : (ws ++ [V.ref t])[i]? = some (.ref t) := by rw [List.getElem?_append_right (by omega), show i - ws.length = 0 by omega]; rfl
      have lt : (ws ++ [V.ref t]).length = i + 1 := by simp; omega
      walk_at "ss"
      refine r_ixL (SqL.of L7) (at_neg1 lt gt) ?_
      walk_at "ss"
      refine ⟨t, pu, pf, vu, vf, T, rfl, ht7, hu7, PU7, hf7, PF7, pm, by omega, by omega, fun z R H8 okR ru ra ro rf rn s8 nz TR av => ?_⟩
      have L8 := s8 _ _ L7
      have Z8 := s8 _ _ Z7
      have TN8 := TN7.same s8
      have RW8 := RW7.same s8
      have ht8 := s8 _ _ ht7
      have hu8 := s8 _ _ hu7
      have hf8 := s8 _ _ hf7
      have PU8 := PU7.same s8
      have PF8 := PF7.same s8
      have x8 := x7.same s8
      walk_at "ss"
      refine r_append Z8 (by omega) ?_
      have b9 : But Z H8 (upd H8 Z (.lst (zs ++ [.ref z]))) := (But.refl Z H8).upd
      have TN9 := (TN8.but Z8 (fun n => TN8.fst n) b9).app (TnL.one (av Z zs Z7 _ b9))
      have RW9 := (RW8.but Z8 (fun n => TN8.fst (TsR n)) b9).app (RwL.one (PtA.but ht8 hu8 PU8 hf8 PF8 Z8 puZ pfZ b9))
      have x9 : Sx s H (upd H8 Z (.lst (zs ++ [.ref z]))) := ⟨x8.sc.upd Z8 TN8.ref, fun c o n e => by rw [upd_ne (ne_of_none e nZ0)]; exact x8.old _ _ n e⟩
      have L9 := b9 _ _ nZL.symm L8
      have Z9 : upd H8 Z (.lst (zs ++ [.ref z])) Z = some (.lst (zs ++ [.ref z])) := upd_same
      have ht9 := b9 _ _ (ne_of ht8 Z8 (by intro z; cases z)) ht8
      have hu9 := b9 _ _ puZ hu8
      have lu := PU8.len
      clear b9 TN8 RW8 L8 Z8 ht8 hu8 hf8 PU8 PF8 x8 TN7 RW7 L7 Z7 ht7 hu7 hf7 PU7 PF7 x7 av
      generalize upd H8 Z (.lst (zs ++ [.ref z])) = H9 at *
      walk_at "ss"
      refine r_ixL (SqL.of L9) (at_neg1 lt gt) ?_
      walk_at "ss"
      rw [lu]
      refine ⟨T.u.length, _, ws ++ [.ref t], zs ++ [.ref z], Ts ++ [T], Rs ++ [R], rfl, x9, L9, RW9, Z9, TN9, al.snoc ru ra ro, Ch.app.mpr ⟨m, ch, show R.Ok ∧ R.a = m ∧ R.u.length = _ from ⟨okR, by omega, by rw [ru]⟩⟩, pc.snoc pm (ta.trans me), ?_, by simp [lT], by omega⟩
      rw [List.length_append, List.length_singleton, if_neg (by omega), Nat.add_sub_cancel, List.getElem?_append_right (Nat.le_refl _), Nat.sub_self]
      rfl
    rintro σ H5 ⟨m, y5, ws, zs, Ts, Rs, rfl, x5, L5, RW5, Z5, TN5, al, ch, pc, me, lT, hm⟩
    have lal := al.len
    have lws := RW5.len
    have lzs := TN5.len
    walk_at "ss"
    refine r_newS fun l6 H6 n6 s6 e6 => ?_
    have x6 := x5.same s6
    have nl6 : l6 ≠ s := fun z => by
      obtain ⟨d, ds, j, h1, -⟩ := x5.sc.ex
      rw [z, h1] at n6
      cases n6
    walk_at "ss"
    refine ⟨s, 3, rfl, x6.sc, by decide, by decide, fun c7 H7 hc7 x7 => ?_⟩
    have e7 := x7.old _ _ nl6 e6
    obtain ⟨F1, f1⟩ : ∃ F1 : Nat, atI [V.int 25, V.int (10 ^ Int.toNat 9), V.int (10 ^ Int.toNat 30)] (c7 : Int) = some (.int (F1 : Int)) := by
      rcases (show c7 = 0 ∨ c7 = 1 ∨ c7 = 2 by omega) with rfl | rfl | rfl
      · exact ⟨25, rfl⟩
      · exact ⟨10 ^ 9, rfl⟩
      · exact ⟨10 ^ 30, rfl⟩
    refine r_ixL (SqL.of e7) f1 ?_
    walk_at "ss"
    refine ⟨s, 1009, rfl, x7.sc, by decide, by decide, fun c8 H8 hc8 x8 => ?_⟩
    have L8 := x8.lst x7.sc (x7.lst x6.sc (s6 _ _ L5) RW5.rf) RW5.rf
    have Z8 := x8.lst x7.sc (x7.lst x6.sc (s6 _ _ Z5) TN5.ref) TN5.ref
    have RW8 := ((RW5.same s6).sx x6.sc x7).sx x7.sc x8
    have TN8 := ((TN5.same s6).sx x6.sc x7).sx x7.sc x8
    have x08 := x6.trans (x7.trans x8)
    clear RW5 TN5 L5 Z5 e6 e7
    walk_at "ss"
    intro D hD
    rw [show ((a0 : Int)).toNat = a0 by omega]
    refine lc_rangeS [some (.ref s), some (.ref L), some (.ref Z), some (.int m), some (.int a0), none, some (.int ((F1 : Int) + (c8 : Int))), none, none] rfl (fun i H9 => Same H8 H9 ∧ ∃ vs, H9 D = some (.lst vs) ∧ PlL H9 vs ((List.range i).map Pl.use)) ⟨same_new hD, [], upd_same, PlL.nil⟩ ?_ ?_
    · rintro i H9 hi ⟨s9, vs, e9, P9⟩
      walk_at "ss"
      refine ⟨rfl, ?_⟩
      walk_at "ss"
      refine r_newS fun w H10 hw s10 e10 => ?_
      have e10' : H10 w = some (plO (Pl.use i)) := by
        rw [e10]
        show some (HO.tup [V.str "use", V.int (0 + (i : Int))]) = _
        rw [Int.zero_add]
        rfl
      have e910 := s10 _ _ e9
      refine ⟨vs, e910, by rw [P9.len]; simp; exact szl (by omega), fun b o e => ?_, _, upd_same, ?_⟩
      · rw [upd_ne (ne_of_none e hD)]
        exact s10 _ _ (s9 b o e)
      · rw [List.range_succ, List.map_append]
        refine ((P9.same s10).snoc e10').keep (x := D) fun b xs h => ?_
        rw [upd_ne (ne_of h e910 (by intro z; cases z))]
        exact h
    rintro H9 ⟨s9, us, e9, P9⟩
    walk_at "ss"
    intro D2 hD2
    refine lc_rangeS (n := 16) [some (.ref s), some (.ref L), some (.ref Z), some (.int m), some (.int a0), none, some (.int ((F1 : Int) + (c8 : Int))), none, none] rfl (fun i H10 => Same H9 H10 ∧ ∃ vs, H10 D2 = some (.lst vs) ∧ PlL H10 vs ((List.range i).map Pl.lst)) ⟨same_new hD2, [], upd_same, PlL.nil⟩ ?_ ?_
    · rintro i H10 hi ⟨s10, vs, e10, P10⟩
      walk_at "ss"
      refine ⟨rfl, ?_⟩
      walk_at "ss"
      refine r_newS fun w H11 hw s11 e11 => ?_
      have e11' : H11 w = some (plO (Pl.lst i)) := by
        rw [e11]
        show some (HO.tup [V.str "list", V.int (0 + (i : Int))]) = _
        rw [Int.zero_add]
        rfl
      have e1011 := s11 _ _ e10
      refine ⟨vs, e1011, by rw [P10.len]; simp; exact szl (by omega), fun b o e => ?_, _, upd_same, ?_⟩
      · rw [upd_ne (ne_of_none e hD2)]
        exact s11 _ _ (s10 b o e)
      · rw [List.range_succ, List.map_append]
        refine ((P10.same s11).snoc e11').keep (x := D2) fun b xs h => ?_
        rw [upd_ne (ne_of h e1011 (by intro z; cases z))]
        exact h
    rintro H10 ⟨s10, us2, e10, P10⟩
    have lu1 := P9.len
    have lu2 := P10.len
    rw [List.length_map, List.length_range] at lu1 lu2
    refine r_catS (SqL.of (s10 _ _ e9)) (SqL.of e10) (by omega) ?_
    refine r_newS fun l11 H11 n11 s11 e11 => ?_
    have P11 := ((P9.same s10).app P10).same s11
    walk_at "ss"
    refine r_newS fun t12 H12 n12 s12 e12 => ?_
    walk_at "ss"
    refine r_newS fun l13 H13 n13 s13 e13 => ?_
    have e12' : H13 t12 = some (plO (Pl.lst (F1 + c8))) := by
      rw [s13 _ _ e12]
      show some (HO.tup [V.str "list", V.int ((F1 : Int) + (c8 : Int))]) = some (HO.tup [V.str "list", V.int ((F1 + c8 : Nat) : Int)])
      rw [Int.natCast_add]
    have P13 : PlL H13 (us ++ us2 ++ [.ref t12]) ((List.range a0).map Pl.use ++ (List.range 16).map Pl.lst ++ [Pl.lst (F1 + c8)]) := ((P11.same (s12.trans s13)).app (PlL.nil.snoc e12'))
    refine r_catS (SqL.of (s13 _ _ (s12 _ _ e11))) (SqL.of e13) (by simp; omega) ?_
    refine r_newS fun l14 H14 n14 s14 e14 => ?_
    have P14 := P13.same s14
    have vds : ∀ p ∈ (List.range a0).map Pl.use ++ (List.range 16).map Pl.lst ++ [Pl.lst (F1 + c8)], Vd a0 p := fun p hp => by
      rcases List.mem_append.mp hp with hp | hp
      · rcases List.mem_append.mp hp with hp | hp
        · obtain ⟨k, hk, rfl⟩ := List.mem_map.mp hp
          exact List.mem_range.mp hk
        · obtain ⟨k, hk, rfl⟩ := List.mem_map.mp hp
          exact trivial
      · rw [List.mem_singleton.mp hp]
        exact trivial
    generalize (List.range a0).map Pl.use ++ (List.range 16).map Pl.lst ++ [Pl.lst (F1 + c8)] = ps at P14 vds
    generalize us ++ us2 ++ [V.ref t12] = vps at P14 e14
    have s814 : Same H8 H14 := s9.trans (s10.trans (s11.trans (s12.trans (s13.trans s14))))
    have x14 := x08.same s814
    have L14 := s814 _ _ L8
    have Z14 := s814 _ _ Z8
    have RW14 := RW8.same s814
    have TN14 := TN8.same s814
    clear P9 P10 P11 P13 e9 e10 e11 e12 e12' e13 L8 Z8 RW8 TN8 s9 s10 s11 s12 s13 s14
    have neR : Rs ≠ [] := List.ne_nil_of_length_pos (by omega)
    have neT : Ts ≠ [] := List.ne_nil_of_length_pos (by omega)
    have pmR := ch_pm ch
    have cz : cutV zs none (some 1) = zs.take 1 := cut_to (m := 1) (by omega)
    have cw : cutV ws none (some 1) = ws.take 1 := cut_to (m := 1) (by omega)
    have chT : Ch a0 (Rs.take 1) (Rs[0]'(by omega)).u.length := ch.to (i := 0) (by omega)
    have lone : ∀ (p : Pl) (qs : List Pl), Wy [] p qs → qs = [p] := fun p qs w => by
      have h1 := w.len
      have h2 := w.z
      cases qs with
      | nil => simp at h1
      | cons x r =>
        cases r with
        | nil => cases h2; rfl
        | cons _ _ => simp at h1
    walk_at "ss"
    refine r_forL (xs := vps) (fun i σ H' => ∃ y7 y8 : Option V, σ = [some (.ref s), some (.ref L), some (.ref Z), some (.int m), some (.int a0), y5, some (.int ((F1 : Int) + (c8 : Int))), y7, y8] ∧ Same H14 H') ⟨_, _, rfl, fun _ _ e => e⟩ (fun i σ H' _ ⟨_, _, _, x5⟩ => SqL.of (x5 _ _ e14)) ?_ ?_
    · rintro i x σ H15 hx ⟨y7, y8, rfl, s15⟩
      obtain ⟨t, hi, rfl, ht⟩ := (P14.same s15).item hx
      have vd : Vd a0 ps[i] := vds _ (List.getElem_mem hi)
      generalize ps[i] = p at ht vd
      have L15 := s15 _ _ L14
      have Z15 := s15 _ _ Z14
      have RW15 := RW14.same s15
      have TN15 := TN14.same s15
      walk_at "ss"
      refine ⟨Z, t, zs, Rs, p, a0, m, rfl, Z15, TN15, ch, by omega, ht, fun _ => vd, fun r H16 ws1 qs1 s16 nr16 er16 PR16 wy1 => ?_⟩
      walk_at "ss"
      refine r_isiT (.base (.lst er16)) (b := true) (by decide +kernel) ?_
      walk_at "ss"
      refine ⟨L, t, ws, Ts, p, a0, rfl, s16 _ _ L15, RW15.same s16, pc, by omega, s16 _ _ ht, fun _ => vd, fun r2 H17 ws2 qs2 s17 er17 PR17 wy2 => ?_⟩
      walk_at "ss"
      refine r_nePls (s17 _ _ er16) (PR16.same s17) er17 PR17 ?_
      rw [decide_eq_true (Wy.uniq pmR wy1 (wy2.alk al))]
      have er17' := s17 _ _ er16
      walk_at "ss"
      refine KrL.r_clear er17' ?_
      have s18 : Same H15 (upd H17 r (.lst [])) := fun b o e => by
        rw [upd_ne (ne_of_none e nr16)]
        exact s17 _ _ (s16 _ _ e)
      generalize upd H17 r (.lst []) = H18 at s18 ⊢
      have Z18 := s18 _ _ Z15
      have L18 := s18 _ _ L15
      have ht18 := s18 _ _ ht
      walk_at "ss"
      rw [cz]
      refine r_newS fun l19 H19 n19 s19 e19 => ?_
      have ht19 := s19 _ _ ht18
      walk_at "ss"
      refine ⟨l19, t, zs.take 1, Rs.take 1, p, a0, _, rfl, e19, ((TN15.same s18).same s19).take 1, chT, by rw [List.length_take]; omega, ht19, fun _ => vd, fun r20 H20 ws20 qs20 s20 nr20 er20 PR20 wy20 => ?_⟩
      have L20 := s20 _ _ (s19 _ _ L18)
      walk_at "ss"
      rw [cw]
      refine r_newS fun l21 H21 n21 s21 e21 => ?_
      walk_at "ss"
      refine ⟨l21, t, ws.take 1, Ts.take 1, p, a0, rfl, e21, (((RW15.same s18).same s19).same (s20.trans s21)).take 1, pc.take 1, by rw [List.length_take]; omega, s21 _ _ (s20 _ _ ht19), fun _ => vd, fun r22 H22 ws22 qs22 s22 er22 PR22 wy22 => ?_⟩
      have s2022 := s21.trans s22
      walk_at "ss"
      refine r_nePls (s2022 _ _ er20) (PR20.same s2022) er22 PR22 ?_
      rw [decide_eq_true (Wy.uniq (ch_pm chT) wy20 (wy22.alk (al.take 1)))]
      walk_at "ss"
      refine r_newS fun l23 H23 n23 s23 e23 => ?_
      have s1923 := s20.trans (s2022.trans s23)
      have ht23 := s1923 _ _ ht19
      walk_at "ss"
      refine ⟨l23, t, [], [], p, a0, a0, rfl, e23, TnL.nil, rfl, by simp, ht23, fun z => absurd rfl z, fun r24 H24 ws24 qs24 s24 nr24 er24 PR24 wy24 => ?_⟩
      walk_at "ss"
      refine r_newS fun l25 H25 n25 s25 e25 => ?_
      refine r_nePls (s25 _ _ er24) (PR24.same s25) e25 (PlL.nil.snoc (s25 _ _ (s24 _ _ ht23))) ?_
      rw [lone _ _ wy24, List.nil_append, decide_eq_true rfl]
      walk_at "ss"
      exact ⟨_, _, rfl, s15.trans (s18.trans (s19.trans (s1923.trans (s24.trans s25))))⟩
    rintro σ H15 ⟨y7, y8, rfl, s15⟩
    walk_at "ss"
    refine r_newS fun l16 H16 n16 s16 e16 => ?_
    walk_at "ss"
    refine r_newS fun t17 H17 n17 s17 e17 => ?_
    have e17' : H17 t17 = some (plO (Pl.use (10 ^ 30))) := e17
    walk_at "ss"
    refine ⟨l16, t17, [], [], Pl.use (10 ^ 30), 0, 0, rfl, s17 _ _ e16, TnL.nil, rfl, by simp, e17', fun z => absurd rfl z, fun r18 H18 ws18 qs18 s18 nr18 er18 PR18 wy18 => ?_⟩
    walk_at "ss"
    refine r_newS fun t19 H19 n19 s19 e19 => ?_
    have e19' : H19 t19 = some (plO (Pl.use (10 ^ 30))) := e19
    walk_at "ss"
    refine r_newS fun l20 H20 n20 s20 e20 => ?_
    refine r_nePls (s20 _ _ (s19 _ _ er18)) ((PR18.same s19).same s20) e20 (PlL.nil.snoc (s20 _ _ e19')) ?_
    rw [lone _ _ wy18, List.nil_append, decide_eq_true rfl]
    have s1420 : Same H14 H20 := s15.trans (s16.trans (s17.trans (s18.trans (s19.trans s20))))
    have x20 := x14.same s1420
    walk_at "ss"
    exact ⟨s, L, Z, ws, zs, Ts, Rs, a0, m, rfl, x20.sc, s1420 _ _ L14, RW14.same s1420, s1420 _ _ Z14, TN14.same s1420, ch, neR, neT, by omega, by omega, by omega, tabs_sx tb sc x20, fun H' b' sc' tb' => q0 H' ((BuN.of_sx x20).trans b') sc' tb'⟩
theorem ok_law {P : Program} {w : World} {K : PySem.W.Frag} {mg : Str → Option Value} {base : Heap} {f : Addr} {fd : FuncData} (F : FunD K "law" "law" (defArgs s_law) (defBody s_law) (defScope s_law) [] [] f fd) (h__law_digits : Kr.FnH P w K mg base CX0 1 "_law_digits" ["cell", "many"] (sp__law_digits K)) (h__law_right : Kr.FnH P w K mg base CX0 8 "_law_right" ["source"] (sp__law_right K)) (n_len : mg "len" = none) (n_range : mg "range" = none) : FnOk P w K mg base CX0 9 f fd ["script"] (sp_law K) := by
  refine F.ok sc_law (fun vs H Q E h => by first | (obtain ⟨rfl, _⟩ := h; rfl) | (obtain ⟨_, rfl, _⟩ := h; rfl) | (obtain ⟨_, _, rfl, _⟩ := h; rfl) | (obtain ⟨_, _, _, rfl, _⟩ := h; rfl) | (obtain ⟨_, _, _, _, rfl, _⟩ := h; rfl) | (obtain ⟨_, _, _, _, _, rfl, _⟩ := h; rfl) | (obtain ⟨_, _, _, _, _, _, rfl, _⟩ := h; rfl) | (obtain ⟨_, _, _, _, _, _, _, rfl, _⟩ := h; rfl) | (obtain ⟨_, _, _, _, _, _, _, _, rfl, _⟩ := h; rfl) | (obtain ⟨_, _, _, _, _, _, _, _, _, rfl, _⟩ := h; rfl) | (obtain ⟨_, _, _, _, _, _, _, _, _, _, rfl, _⟩ := h; rfl) | (obtain ⟨_, _, _, _, _, _, _, _, _, _, _, rfl, _⟩ := h; rfl) | (obtain ⟨_, _, _, _, _, _, _, _, _, _, _, _, rfl, _⟩ := h; rfl) | (obtain ⟨_, _, _, _, _, _, _, _, _, _, _, _, _, rfl, _⟩ := h; rfl) | (obtain ⟨_, _, _, _, _, _, _, _, _, _, _, _, _, _, rfl, _⟩ := h; rfl) | (obtain ⟨_, _, _, _, _, _, _, _, _, _, _, _, _, _, _, rfl, _⟩ := h; rfl) | (obtain ⟨_, _, _, _, _, _, _, _, _, _, _, _, _, _, _, _, rfl, _⟩ := h; rfl) | (obtain ⟨_, _, _, _, _, _, _, _, _, _, _, _, _, _, _, _, _, rfl, _⟩ := h; rfl)) (fun cdv A outer s H vs Q E hr h => ?_)
  · have hu := hu_of hr
    obtain ⟨a, ns, rfl, hS, hl, tb, q0⟩ := h
    refine ⟨_, PSs.nox (pss_cons (ps_for PassesOwn.never rfl (pi_list (pe_op Kr.op_catS (pe_slice sl_list (pv 0) po_none (po_some pe_int)) (pe_slice sl_list (pe_lst (pa_cons pe_int pa_nil)) (po_some (pe_callB (id := "len") Kr.c_len rfl n_len (by decide +kernel) (pa_cons (pv 0) pa_nil))) po_none))) (pg_name (i := 1) sc_law.nd rfl (.inl rfl)) (pss_cons (ps_set (i := 2) sc_law.nd rfl (.inl rfl) (pe_lst (pa_cons (Kr.pe_cl h__law_digits (hr.mono (by decide)) (pa_cons (pv 1) (pa_cons pe_int pa_nil))) (pa_cons pe_int pa_nil)))) (pss_one (ps_for PassesOwn.never rfl (pi_range1 rfl n_range (pa_cons pe_int pa_nil)) (pg_name (i := 3) sc_law.nd rfl (.inl rfl)) (pss_one (ps_if (pt_not (pt_val (Kr.pe_cl h__law_right (hr.mono (by decide)) (pa_cons (pv 2) pa_nil)))) (pss_one (ps_ret pe_bl)) pss_nil)))))) (pss_one (ps_ret pe_bl))), ?_⟩
    rw [st_law]
    walk_at "ss"
    refine r_newS fun l1 H1 n1 s1 e1 => ?_
    have hS1 := s1.seq hS
    walk_at "ss"
    refine r_newS fun l2 H2 n2 s2 e2 => ?_
    have hS2 := s2.seq hS1
    walk_at "ss"
    refine r_newS fun l3 H3 n3 s3 e3 => ?_
    refine r_catS (SqL.of (s3 _ _ (s2 _ _ e1))) (SqL.of e3) (Nat.le_trans (Nat.add_le_add (cut_len _ _ _) (cut_len _ _ _)) (by rw [List.length_map]; simp; omega)) ?_
    refine r_newS fun l4 H4 n4 s4 e4 => ?_
    generalize hxs : cutV (ns.map V.int) _ _ ++ cutV [V.int 19] _ _ = xs at e4
    have allI : ∀ x ∈ xs, ∃ c : Int, x = V.int c := fun x hx => by
      rw [← hxs] at hx
      rcases List.mem_append.mp hx with hx | hx
      · obtain ⟨c, _, e⟩ := List.mem_map.mp (cut_mem hx)
        exact ⟨c, e.symm⟩
      · exact ⟨19, List.mem_singleton.mp (cut_mem hx)⟩
    have tb4 := tb.ext (s1.trans (s2.trans (s3.trans s4)))
    walk_at "ss"
    refine r_forL (xs := xs) (fun i σ H' => ∃ y1 y2 y3 : Option V, σ = [some (.ref a), y1, y2, y3] ∧ ExtN H4 H' ∧ Tabs (Tb K) H') ⟨_, _, _, rfl, ExtN.refl _, tb4⟩ (fun i σ H' hi ⟨y1, y2, y3, _, x5, _⟩ => SqL.of (x5 _ _ e4 (fun _ z => by cases z))) ?_ ?_
    · rintro i x σ H5 hx ⟨y1, y2, y3, rfl, x5, tb5⟩
      obtain ⟨c, rfl⟩ := allI x (List.mem_of_getElem? hx)
      walk_at "ss"
      refine ⟨c, 300, rfl, by decide, fun p H6 ds s6 n6 e6 h6 b6 => ?_⟩
      walk_at "ss"
      refine r_newS fun t H7 n7 s7 e7 => ?_
      have sc7 : Sc H7 t := ⟨p, ds, 0, e7, s7 _ _ e6, by omega, by omega, b6⟩
      walk_at "ss"
      refine r_forR (fun i σ H' => ∃ y3 : Option V, σ = [some (.ref a), some (.int c), some (.ref t), y3] ∧ Sc H' t ∧ Tabs (Tb K) H' ∧ BuN t H7 H') ⟨_, rfl, sc7, tb5.ext (s6.trans s7), fun _ _ _ e _ => e⟩ ?_ ?_
      · rintro i σ H8 hi ⟨y3, rfl, sc8, tb8, k8⟩
        walk_at "ss"
        refine ⟨t, rfl, sc8, tb8, fun H9 b9 sc9 tb9 => ?_⟩
        walk_at "ss"
        exact ⟨_, rfl, sc9, tb9, k8.trans b9⟩
      rintro σ H8 ⟨y3, rfl, sc8, tb8, k8⟩
      walk_at "ss"
      exact ⟨_, _, _, rfl, fun b o e z => k8 b o (ne_of_none (s6 _ _ (x5 b o e z)) n7) (s7 _ _ (s6 _ _ (x5 b o e z))) z, tb8⟩
    · rintro σ H5 ⟨y1, y2, y3, rfl, x5, tb5⟩
      walk_at "ss"
      exact q0 _
theorem ok_is_within__r {P : Program} {w : World} {K : PySem.W.Frag} {mg : Str → Option Value} {base : Heap} {f : Addr} {fd : FuncData} (F : FunD K "is_within" "is_within" (defArgs s_is_within__r) (defBody s_is_within__r) (defScope s_is_within__r) [] [] f fd) (h_is_from__r : Kr.FnH P w K mg base CX0 1 "is_from" ["number", "least"] (sp_is_from__r K)) : FnOk P w K mg base CX0 2 f fd ["number", "least", "most"] (sp_is_within__r K) := by
  refine F.ok sc_is_within__r (fun vs H Q E h => by first | (obtain ⟨rfl, _⟩ := h; rfl) | (obtain ⟨_, rfl, _⟩ := h; rfl) | (obtain ⟨_, _, rfl, _⟩ := h; rfl) | (obtain ⟨_, _, _, rfl, _⟩ := h; rfl) | (obtain ⟨_, _, _, _, rfl, _⟩ := h; rfl) | (obtain ⟨_, _, _, _, _, rfl, _⟩ := h; rfl) | (obtain ⟨_, _, _, _, _, _, rfl, _⟩ := h; rfl) | (obtain ⟨_, _, _, _, _, _, _, rfl, _⟩ := h; rfl) | (obtain ⟨_, _, _, _, _, _, _, _, rfl, _⟩ := h; rfl) | (obtain ⟨_, _, _, _, _, _, _, _, _, rfl, _⟩ := h; rfl) | (obtain ⟨_, _, _, _, _, _, _, _, _, _, rfl, _⟩ := h; rfl) | (obtain ⟨_, _, _, _, _, _, _, _, _, _, _, rfl, _⟩ := h; rfl) | (obtain ⟨_, _, _, _, _, _, _, _, _, _, _, _, rfl, _⟩ := h; rfl) | (obtain ⟨_, _, _, _, _, _, _, _, _, _, _, _, _, rfl, _⟩ := h; rfl) | (obtain ⟨_, _, _, _, _, _, _, _, _, _, _, _, _, _, rfl, _⟩ := h; rfl) | (obtain ⟨_, _, _, _, _, _, _, _, _, _, _, _, _, _, _, rfl, _⟩ := h; rfl) | (obtain ⟨_, _, _, _, _, _, _, _, _, _, _, _, _, _, _, _, rfl, _⟩ := h; rfl) | (obtain ⟨_, _, _, _, _, _, _, _, _, _, _, _, _, _, _, _, _, rfl, _⟩ := h; rfl)) (fun cdv A outer s H vs Q E hr h => ?_)
  · have hu := hu_of hr
    obtain ⟨v, a, b, r, rfl, h, q⟩ := h
    refine ⟨_, PSs.nox (pss_one (ps_ret (pe_and (Kr.pe_cl h_is_from__r (hr.mono (by decide)) (pa_cons (pv 0) (pa_cons (pv 1) pa_nil))) (pe_one (pe_cmpR op_le (pv 0) (pv 2) (nomark _)))))), ?_⟩
    rw [st_is_within__r]
    walk_at "ss"
    rcases h with ⟨n, rfl, rfl⟩ | ⟨no, rfl⟩
    · refine ⟨_, _, _, rfl, .inl ⟨n, rfl, rfl⟩, ?_⟩
      walk_at "ss"
      refine r_dec (fun h1 => ?_) fun h1 => ?_
      · walk_at "ss"
        have e : decide (n ≤ b) = decide (a ≤ n ∧ n ≤ b) := by simp [h1]
        rw [e]
        exact q
      · have e : false = decide (a ≤ n ∧ n ≤ b) := by simp [h1]
        rw [e]
        exact q
    · refine ⟨_, _, _, rfl, .inr ⟨no, rfl⟩, ?_⟩
      walk_at "ss"
      exact q
theorem ok_Turn_origin__r {P : Program} {w : World} {K : PySem.W.Frag} {mg : Str → Option Value} {base : Heap} {f : Addr} {fd : FuncData} (F : FunD K "origin" "Turn.origin" (defArgs s_Turn_origin__r) (defBody s_Turn_origin__r) (defScope s_Turn_origin__r) [] [] f fd) (a_Turn__used : NoAttr K (He.ga K "Turn") "_used") (c_Turn : Cls K (He.ga K "Turn")) (er_InvalidArgument : KrE.ErH P w K mg base CX0 1 "InvalidArgument" (He.ga K "InvalidArgument") ["self", "part"] (sp_InvalidArgument___init__ K)) (h_is_place_among__r : Kr.FnH P w K mg base CX0 3 "is_place_among" ["place", "many"] (sp_is_place_among__r K)) (n_len : mg "len" = none) : FnOk P w K mg base (L2.CX P w) 4 f fd ["self", "place"] (sp_Turn_origin__r K) := by
  refine F.ok sc_Turn_origin__r (fun vs H Q E h => by first | (obtain ⟨rfl, _⟩ := h; rfl) | (obtain ⟨_, rfl, _⟩ := h; rfl) | (obtain ⟨_, _, rfl, _⟩ := h; rfl) | (obtain ⟨_, _, _, rfl, _⟩ := h; rfl) | (obtain ⟨_, _, _, _, rfl, _⟩ := h; rfl) | (obtain ⟨_, _, _, _, _, rfl, _⟩ := h; rfl) | (obtain ⟨_, _, _, _, _, _, rfl, _⟩ := h; rfl) | (obtain ⟨_, _, _, _, _, _, _, rfl, _⟩ := h; rfl) | (obtain ⟨_, _, _, _, _, _, _, _, rfl, _⟩ := h; rfl) | (obtain ⟨_, _, _, _, _, _, _, _, _, rfl, _⟩ := h; rfl) | (obtain ⟨_, _, _, _, _, _, _, _, _, _, rfl, _⟩ := h; rfl) | (obtain ⟨_, _, _, _, _, _, _, _, _, _, _, rfl, _⟩ := h; rfl) | (obtain ⟨_, _, _, _, _, _, _, _, _, _, _, _, rfl, _⟩ := h; rfl) | (obtain ⟨_, _, _, _, _, _, _, _, _, _, _, _, _, rfl, _⟩ := h; rfl) | (obtain ⟨_, _, _, _, _, _, _, _, _, _, _, _, _, _, rfl, _⟩ := h; rfl) | (obtain ⟨_, _, _, _, _, _, _, _, _, _, _, _, _, _, _, rfl, _⟩ := h; rfl) | (obtain ⟨_, _, _, _, _, _, _, _, _, _, _, _, _, _, _, _, rfl, _⟩ := h; rfl) | (obtain ⟨_, _, _, _, _, _, _, _, _, _, _, _, _, _, _, _, _, rfl, _⟩ := h; rfl)) (fun cdv A outer s H vs Q E hr h => ?_)
  · have hu := hu_of hr
    obtain ⟨x, v, T, rfl, ⟨-, dx, pu, pf, pg, vu, vf, kvs, h1, h2, h3, h4, h5, h6, h7⟩, bad, er⟩ := h
    have cc := c_Turn
    have n2 := a_Turn__used
    refine ⟨_, (pss_cons (ps_if (pt_not (pt_val (Kr.pe_cl h_is_place_among__r (hr.mono (by decide)) (pa_cons (pv 1) (pa_cons (pe_callB (id := "len") Kr.c_len rfl n_len (by decide +kernel) (pa_cons (pe_fld (pv 0) rfl) pa_nil)) pa_nil))))) (pss_one (ps_raise rfl (takes_of rfl rfl rfl rfl) (KrE.pmk_mk er_InvalidArgument (hr.mono (by decide)) (pa_cons pe_str pa_nil)))) pss_nil) (pss_cons ps_never (pss_cons ps_never (pss_cons ps_never (pss_one ps_never))))), ?_⟩
    rw [st_Turn_origin__r]
    walk_at "ss"
    rw [h3.len]
    refine ⟨v, _, rfl, bad, fun H1 s1 => ?_⟩
    walk_at "ss"
    refine KrE.r_mkE ?_
    walk_at "ss"
    exact rai_at (er.same s1)
theorem ok_Turn_goal__r {P : Program} {w : World} {K : PySem.W.Frag} {mg : Str → Option Value} {base : Heap} {f : Addr} {fd : FuncData} (F : FunD K "goal" "Turn.goal" (defArgs s_Turn_goal__r) (defBody s_Turn_goal__r) (defScope s_Turn_goal__r) [] [] f fd) (a_Turn__ahead : NoAttr K (He.ga K "Turn") "_ahead") (c_Turn : Cls K (He.ga K "Turn")) (er_InvalidArgument : KrE.ErH P w K mg base CX0 1 "InvalidArgument" (He.ga K "InvalidArgument") ["self", "part"] (sp_InvalidArgument___init__ K)) (h_is_place_among__r : Kr.FnH P w K mg base CX0 3 "is_place_among" ["place", "many"] (sp_is_place_among__r K)) : FnOk P w K mg base (L2.CX P w) 4 f fd ["self", "place"] (sp_Turn_goal__r K) := by
  refine F.ok sc_Turn_goal__r (fun vs H Q E h => by first | (obtain ⟨rfl, _⟩ := h; rfl) | (obtain ⟨_, rfl, _⟩ := h; rfl) | (obtain ⟨_, _, rfl, _⟩ := h; rfl) | (obtain ⟨_, _, _, rfl, _⟩ := h; rfl) | (obtain ⟨_, _, _, _, rfl, _⟩ := h; rfl) | (obtain ⟨_, _, _, _, _, rfl, _⟩ := h; rfl) | (obtain ⟨_, _, _, _, _, _, rfl, _⟩ := h; rfl) | (obtain ⟨_, _, _, _, _, _, _, rfl, _⟩ := h; rfl) | (obtain ⟨_, _, _, _, _, _, _, _, rfl, _⟩ := h; rfl) | (obtain ⟨_, _, _, _, _, _, _, _, _, rfl, _⟩ := h; rfl) | (obtain ⟨_, _, _, _, _, _, _, _, _, _, rfl, _⟩ := h; rfl) | (obtain ⟨_, _, _, _, _, _, _, _, _, _, _, rfl, _⟩ := h; rfl) | (obtain ⟨_, _, _, _, _, _, _, _, _, _, _, _, rfl, _⟩ := h; rfl) | (obtain ⟨_, _, _, _, _, _, _, _, _, _, _, _, _, rfl, _⟩ := h; rfl) | (obtain ⟨_, _, _, _, _, _, _, _, _, _, _, _, _, _, rfl, _⟩ := h; rfl) | (obtain ⟨_, _, _, _, _, _, _, _, _, _, _, _, _, _, _, rfl, _⟩ := h; rfl) | (obtain ⟨_, _, _, _, _, _, _, _, _, _, _, _, _, _, _, _, rfl, _⟩ := h; rfl) | (obtain ⟨_, _, _, _, _, _, _, _, _, _, _, _, _, _, _, _, _, rfl, _⟩ := h; rfl)) (fun cdv A outer s H vs Q E hr h => ?_)
  · have hu := hu_of hr
    obtain ⟨x, v, T, rfl, ⟨-, dx, pu, pf, pg, vu, vf, kvs, h1, h2, h3, h4, h5, h6, h7⟩, bad, er⟩ := h
    have cc := c_Turn
    have n2 := a_Turn__ahead
    refine ⟨_, (pss_cons (ps_if (pt_not (pt_val (Kr.pe_cl h_is_place_among__r (hr.mono (by decide)) (pa_cons (pv 1) (pa_cons (pe_fld (pv 0) rfl) pa_nil))))) (pss_one (ps_raise rfl (takes_of rfl rfl rfl rfl) (KrE.pmk_mk er_InvalidArgument (hr.mono (by decide)) (pa_cons pe_str pa_nil)))) pss_nil) (pss_cons ps_never (pss_one ps_never))), ?_⟩
    rw [st_Turn_goal__r]
    walk_at "ss"
    refine ⟨v, _, rfl, bad, fun H1 s1 => ?_⟩
    walk_at "ss"
    refine KrE.r_mkE ?_
    walk_at "ss"
    exact rai_at (er.same s1)
theorem ok_still__r {P : Program} {w : World} {K : PySem.W.Frag} {mg : Str → Option Value} {base : Heap} {f : Addr} {fd : FuncData} (F : FunD K "still" "still" (defArgs s_still__r) (defBody s_still__r) (defScope s_still__r) [] [] f fd) (er_InvalidArgument : KrE.ErH P w K mg base CX0 1 "InvalidArgument" (He.ga K "InvalidArgument") ["self", "part"] (sp_InvalidArgument___init__ K)) (g_MOST_STILL : ∃ t, mg "MOST_STILL" = some (.int 1000 t)) (h_is_within__r : Kr.FnH P w K mg base CX0 2 "is_within" ["number", "least", "most"] (sp_is_within__r K)) : FnOk P w K mg base (L2.CX P w) 3 f fd ["many"] (sp_still__r K) := by
  refine F.ok sc_still__r (fun vs H Q E h => by first | (obtain ⟨rfl, _⟩ := h; rfl) | (obtain ⟨_, rfl, _⟩ := h; rfl) | (obtain ⟨_, _, rfl, _⟩ := h; rfl) | (obtain ⟨_, _, _, rfl, _⟩ := h; rfl) | (obtain ⟨_, _, _, _, rfl, _⟩ := h; rfl) | (obtain ⟨_, _, _, _, _, rfl, _⟩ := h; rfl) | (obtain ⟨_, _, _, _, _, _, rfl, _⟩ := h; rfl) | (obtain ⟨_, _, _, _, _, _, _, rfl, _⟩ := h; rfl) | (obtain ⟨_, _, _, _, _, _, _, _, rfl, _⟩ := h; rfl) | (obtain ⟨_, _, _, _, _, _, _, _, _, rfl, _⟩ := h; rfl) | (obtain ⟨_, _, _, _, _, _, _, _, _, _, rfl, _⟩ := h; rfl) | (obtain ⟨_, _, _, _, _, _, _, _, _, _, _, rfl, _⟩ := h; rfl) | (obtain ⟨_, _, _, _, _, _, _, _, _, _, _, _, rfl, _⟩ := h; rfl) | (obtain ⟨_, _, _, _, _, _, _, _, _, _, _, _, _, rfl, _⟩ := h; rfl) | (obtain ⟨_, _, _, _, _, _, _, _, _, _, _, _, _, _, rfl, _⟩ := h; rfl) | (obtain ⟨_, _, _, _, _, _, _, _, _, _, _, _, _, _, _, rfl, _⟩ := h; rfl) | (obtain ⟨_, _, _, _, _, _, _, _, _, _, _, _, _, _, _, _, rfl, _⟩ := h; rfl) | (obtain ⟨_, _, _, _, _, _, _, _, _, _, _, _, _, _, _, _, _, rfl, _⟩ := h; rfl)) (fun cdv A outer s H vs Q E hr h => ?_)
  · have hu := hu_of hr
    obtain ⟨v, rfl, bad, er⟩ := h
    refine ⟨_, (pss_cons (ps_if (pt_not (pt_val (Kr.pe_cl h_is_within__r (hr.mono (by decide)) (pa_cons (pv 0) (pa_cons pe_int (pa_cons (Kr.pe_gint g_MOST_STILL) pa_nil)))))) (pss_one (ps_raise rfl (takes_of rfl rfl rfl rfl) (KrE.pmk_mk er_InvalidArgument (hr.mono (by decide)) (pa_cons pe_str pa_nil)))) pss_nil) (pss_one ps_never)), ?_⟩
    rw [st_still__r]
    walk_at "ss"
    refine ⟨v, _, _, _, rfl, bad, ?_⟩
    walk_at "ss"
    refine KrE.r_mkE ?_
    walk_at "ss"
    exact rai_at er
def d_InvalidArgument___init__ : He.DefD := ⟨("InvalidArgument", some "__init__"), "__init__", "InvalidArgument.__init__", defArgs s_InvalidArgument___init__, defBody s_InvalidArgument___init__, defScope s_InvalidArgument___init__, [], []⟩
def d_is_from : He.DefD := ⟨("is_from", none), "is_from", "is_from", defArgs s_is_from, defBody s_is_from, defScope s_is_from, [], []⟩
def d_is_within : He.DefD := ⟨("is_within", none), "is_within", "is_within", defArgs s_is_within, defBody s_is_within, defScope s_is_within, [], []⟩
def d_is_place : He.DefD := ⟨("is_place", none), "is_place", "is_place", defArgs s_is_place, defBody s_is_place, defScope s_is_place, [], []⟩
def d_is_place_among : He.DefD := ⟨("is_place_among", none), "is_place_among", "is_place_among", defArgs s_is_place_among, defBody s_is_place_among, defScope s_is_place_among, [], []⟩
def d_are_places : He.DefD := ⟨("are_places", none), "are_places", "are_places", defArgs s_are_places, defBody s_are_places, defScope s_are_places, [], []⟩
def d_are_once : He.DefD := ⟨("are_once", none), "are_once", "are_once", defArgs s_are_once, defBody s_are_once, defScope s_are_once, [], []⟩
def d_Turn___init__ : He.DefD := ⟨("Turn", some "__init__"), "__init__", "Turn.__init__", defArgs s_Turn___init__, defBody s_Turn___init__, defScope s_Turn___init__, [], []⟩
def d_Turn___eq__ : He.DefD := ⟨("Turn", some "__eq__"), "__eq__", "Turn.__eq__", defArgs s_Turn___eq__, defBody s_Turn___eq__, defScope s_Turn___eq__, [], []⟩
def d_Turn_used : He.DefD := ⟨("Turn", some "used"), "used", "Turn.used", defArgs s_Turn_used, defBody s_Turn_used, defScope s_Turn_used, [], []⟩
def d_Turn_front : He.DefD := ⟨("Turn", some "front"), "front", "Turn.front", defArgs s_Turn_front, defBody s_Turn_front, defScope s_Turn_front, [], []⟩
def d_Turn_fresh : He.DefD := ⟨("Turn", some "fresh"), "fresh", "Turn.fresh", defArgs s_Turn_fresh, defBody s_Turn_fresh, defScope s_Turn_fresh, [], []⟩
def d_Turn_ahead : He.DefD := ⟨("Turn", some "ahead"), "ahead", "Turn.ahead", defArgs s_Turn_ahead, defBody s_Turn_ahead, defScope s_Turn_ahead, [], []⟩
def d_Turn_behind : He.DefD := ⟨("Turn", some "behind"), "behind", "Turn.behind", defArgs s_Turn_behind, defBody s_Turn_behind, defScope s_Turn_behind, [], []⟩
def d_Turn_origin : He.DefD := ⟨("Turn", some "origin"), "origin", "Turn.origin", defArgs s_Turn_origin, defBody s_Turn_origin, defScope s_Turn_origin, [], []⟩
def d_Turn_goal : He.DefD := ⟨("Turn", some "goal"), "goal", "Turn.goal", defArgs s_Turn_goal, defBody s_Turn_goal, defScope s_Turn_goal, [], []⟩
def d_Turn_then : He.DefD := ⟨("Turn", some "then"), "then", "Turn.then", defArgs s_Turn_then, defBody s_Turn_then, defScope s_Turn_then, [], []⟩
def d_still : He.DefD := ⟨("still", none), "still", "still", defArgs s_still, defBody s_still, defScope s_still, [], []⟩
def d_are_turns : He.DefD := ⟨("are_turns", none), "are_turns", "are_turns", defArgs s_are_turns, defBody s_are_turns, defScope s_are_turns, [], []⟩
def d_way : He.DefD := ⟨("way", none), "way", "way", defArgs s_way, defBody s_way, defScope s_way, [], []⟩
def d__law_digits : He.DefD := ⟨("_law_digits", none), "_law_digits", "_law_digits", defArgs s__law_digits, defBody s__law_digits, defScope s__law_digits, [], []⟩
def d__law_next : He.DefD := ⟨("_law_next", none), "_law_next", "_law_next", defArgs s__law_next, defBody s__law_next, defScope s__law_next, [], []⟩
def d__law_mixed : He.DefD := ⟨("_law_mixed", none), "_law_mixed", "_law_mixed", defArgs s__law_mixed, defBody s__law_mixed, defScope s__law_mixed, [], []⟩
def d__law_drawn : He.DefD := ⟨("_law_drawn", none), "_law_drawn", "_law_drawn", defArgs s__law_drawn, defBody s__law_drawn, defScope s__law_drawn, [], []⟩
def d__law_turn : He.DefD := ⟨("_law_turn", none), "_law_turn", "_law_turn", defArgs s__law_turn, defBody s__law_turn, defScope s__law_turn, [], []⟩
def d__law_origin : He.DefD := ⟨("_law_origin", none), "_law_origin", "_law_origin", defArgs s__law_origin, defBody s__law_origin, defScope s__law_origin, [], []⟩
def d__law_part : He.DefD := ⟨("_law_part", none), "_law_part", "_law_part", defArgs s__law_part, defBody s__law_part, defScope s__law_part, [], []⟩
def d__law_goal : He.DefD := ⟨("_law_goal", none), "_law_goal", "_law_goal", defArgs s__law_goal, defBody s__law_goal, defScope s__law_goal, [], []⟩
def d__law_path : He.DefD := ⟨("_law_path", none), "_law_path", "_law_path", defArgs s__law_path, defBody s__law_path, defScope s__law_path, [], []⟩
def d_is_from__r : He.DefD := ⟨("is_from", none), "is_from", "is_from", defArgs s_is_from__r, defBody s_is_from__r, defScope s_is_from__r, [], []⟩
def d_is_place__r : He.DefD := ⟨("is_place", none), "is_place", "is_place", defArgs s_is_place__r, defBody s_is_place__r, defScope s_is_place__r, [], []⟩
def d_is_place_among__r : He.DefD := ⟨("is_place_among", none), "is_place_among", "is_place_among", defArgs s_is_place_among__r, defBody s_is_place_among__r, defScope s_is_place_among__r, [], []⟩
def d_are_turns__r : He.DefD := ⟨("are_turns", none), "are_turns", "are_turns", defArgs s_are_turns__r, defBody s_are_turns__r, defScope s_are_turns__r, [], []⟩
def d_way__r : He.DefD := ⟨("way", none), "way", "way", defArgs s_way__r, defBody s_way__r, defScope s_way__r, [], []⟩
def d__law_refused_right : He.DefD := ⟨("_law_refused_right", none), "_law_refused_right", "_law_refused_right", defArgs s__law_refused_right, defBody s__law_refused_right, defScope s__law_refused_right, [], []⟩
def d_way__r2 : He.DefD := ⟨("way", none), "way", "way", defArgs s_way__r2, defBody s_way__r2, defScope s_way__r2, [], []⟩
def d__law_drawn__r : He.DefD := ⟨("_law_drawn", none), "_law_drawn", "_law_drawn", defArgs s__law_drawn__r, defBody s__law_drawn__r, defScope s__law_drawn__r, [], []⟩
def d__law_right : He.DefD := ⟨("_law_right", none), "_law_right", "_law_right", defArgs s__law_right, defBody s__law_right, defScope s__law_right, [], []⟩
def d_law : He.DefD := ⟨("law", none), "law", "law", defArgs s_law, defBody s_law, defScope s_law, [], []⟩
def d_is_within__r : He.DefD := ⟨("is_within", none), "is_within", "is_within", defArgs s_is_within__r, defBody s_is_within__r, defScope s_is_within__r, [], []⟩
def d_Turn_origin__r : He.DefD := ⟨("Turn", some "origin"), "origin", "Turn.origin", defArgs s_Turn_origin__r, defBody s_Turn_origin__r, defScope s_Turn_origin__r, [], []⟩
def d_Turn_goal__r : He.DefD := ⟨("Turn", some "goal"), "goal", "Turn.goal", defArgs s_Turn_goal__r, defBody s_Turn_goal__r, defScope s_Turn_goal__r, [], []⟩
def d_still__r : He.DefD := ⟨("still", none), "still", "still", defArgs s_still__r, defBody s_still__r, defScope s_still__r, [], []⟩
def fn : List He.DefD := [d_InvalidArgument___init__, d_is_from, d_is_within, d_is_place, d_is_place_among, d_are_places, d_are_once, d_Turn___init__, d_Turn___eq__, d_Turn_used, d_Turn_front, d_Turn_fresh, d_Turn_ahead, d_Turn_behind, d_Turn_origin, d_Turn_goal, d_Turn_then, d_still, d_are_turns, d_way, d__law_digits, d__law_next, d__law_mixed, d__law_drawn, d__law_turn, d__law_origin, d__law_part, d__law_goal, d__law_path, d_is_from__r, d_is_place__r, d_is_place_among__r, d_are_turns__r, d_way__r, d__law_refused_right, d_way__r2, d__law_drawn__r, d__law_right, d_law, d_is_within__r, d_Turn_origin__r, d_Turn_goal__r, d_still__r]
def fa : List He.Fa := [.noat "Turn" "_ahead", .noat "Turn" "_fresh", .noat "Turn" "_front", .noat "Turn" "_goals", .noat "Turn" "_used", .cls "Turn", .int "MOST_STILL" 1000, .glo "InvalidArgument", .glo "Turn", .free "all", .free "bool", .free "enumerate", .free "int", .free "isinstance", .free "len", .free "list", .free "max", .free "range", .free "sorted", .free "str", .free "tuple", .meth "InvalidArgument" "__init__", .glo "is_from", .glo "is_within", .glo "is_place", .glo "is_place_among", .glo "are_places", .glo "are_once", .mkr "Turn", .meth "Turn" "__eq__", .meth "Turn" "used", .meth "Turn" "front", .meth "Turn" "fresh", .meth "Turn" "ahead", .meth "Turn" "behind", .meth "Turn" "origin", .meth "Turn" "goal", .meth "Turn" "then", .glo "still", .glo "are_turns", .glo "way", .glo "_law_digits", .glo "_law_next", .glo "_law_mixed", .glo "_law_drawn", .glo "_law_turn", .glo "_law_origin", .glo "_law_part", .glo "_law_goal", .glo "_law_path", .glo "_law_refused_right", .glo "_law_right", .glo "law"]
def exs : List (PySem.W.Frag → Bool) := [fun K => Kr.insB K (He.ga K "Turn"), fun K => decide (PySem.W.exmOne K (.ref (He.ga K "InvalidArgument")) (.ref (He.ga K "InvalidArgument")) = some true), fun K => KrE.errB K (He.ga K "InvalidArgument"), fun K => (["NoneType", "int", "bool", "str", "tuple", "list", "dict"].all fun T => decide (PySem.W.kitOne K (.type T) (.ref (He.ga K "Turn")) = some false)), fun K => decide (PySem.W.findIn K (.ref (He.ga K "InvalidArgument")) "part" = some none), fun K => (Tb K).all fun p => !decide (p.1 = (He.cT K ("_law_refused_right", none)).2) || decide (p.2 = (("_law_refused_right" : Str) ++ ".<locals>.") ++ "<lambda>"), fun K => decide (PySem.W.takerIn K (He.ga K "InvalidArgument") "part" = some none), fun K => decide (PySem.W.kitOne K (.ref (He.ga K "Turn")) (.type "list") = some false), fun K => xfB K (He.ga K "InvalidArgument")]
def ex (K : PySem.W.Frag) : Bool := exs.all fun e => e K
theorem ex_at {K : PySem.W.Frag} (i : Nat) (h : ex K = true) {e : PySem.W.Frag → Bool} (hi : exs[i]? = some e := by rfl) : e K = true := Kr.ex_all h i hi
def tf : List He.Defn := [("_law_refused_right", none)]
abbrev hk : PySem.W.Hook := He.hookX 8 fa fn [] tf ex
def ob (s : PySem.W.SharedT) : He.AlX := He.obsX 8 fa fn [] tf ex (HandSHeadRun.getT s)
theorem ob_eq (s : PySem.W.SharedT) : ob s = hk.obs s.abs := He.obsX_eq (HandSHeadRun.getT_eq s)
abbrev R0 : PySem.W.OpenRow := PySem.W.OpenLaw.row PySem.Challenge.rw_keeprows_k25_ways_of_pages
def loose : List Str := ["StoreError", "InvalidArgument", "is_from", "is_within", "MOST_STILL", "is_place", "is_place_among", "are_places", "are_once", "Turn", "still", "are_turns", "way", "_law_digits", "_law_next", "_law_mixed", "_law_drawn", "_law_turn", "_law_origin", "_law_part", "_law_goal", "_law_path", "_law_refused_right", "_law_right"]
theorem runs (w : World) : HandSHeadRun.RunEq R0 (PySem.W.view R0.prog [28]) hk ob 6000 loose w := by
  intro os
  kernel_rfl
theorem facts {P : Program} {w : World} {K : PySem.W.Frag} {h : Heap} {mg : Str → Option Value} {f : Addr} (X : K.In h) (G : h.Ns mainGlobals mg) (hfa : mg ("law" : Str) = some (.ref f)) (c : He.SaysD fa fn K) (e : ex K = true) :
    ∃ fd : FuncData, (∀ (s : Shared) (v : Value), BindsTo s fd ⟨[v], []⟩ [("script", v)]) ∧ ∀ base : Heap, K.In base → base.Ns mainGlobals mg → (∀ p ∈ tf.map (He.cT K), LamX.TabB base mg p.1 p.2) → FnOk P w K mg base CX0 9 f fd ["script"] (sp_law K) := by
  have a_Turn__ahead : NoAttr K (He.ga K "Turn") "_ahead" := He.noat_ok (c.fact 0 (f := .noat "Turn" "_ahead") rfl)
  have a_Turn__fresh : NoAttr K (He.ga K "Turn") "_fresh" := He.noat_ok (c.fact 1 (f := .noat "Turn" "_fresh") rfl)
  have a_Turn__front : NoAttr K (He.ga K "Turn") "_front" := He.noat_ok (c.fact 2 (f := .noat "Turn" "_front") rfl)
  have a_Turn__goals : NoAttr K (He.ga K "Turn") "_goals" := He.noat_ok (c.fact 3 (f := .noat "Turn" "_goals") rfl)
  have a_Turn__used : NoAttr K (He.ga K "Turn") "_used" := He.noat_ok (c.fact 4 (f := .noat "Turn" "_used") rfl)
  have c_Turn : Cls K (He.ga K "Turn") := He.cls_ok (c.fact 5 (f := .cls "Turn") rfl)
  have g_MOST_STILL : ∃ t, mg "MOST_STILL" = some (.int 1000 t) := He.int_ok X G (c.fact 6 (f := .int "MOST_STILL" 1000) rfl)
  have i_Turn : Kr.InsI K (He.ga K "Turn") := Kr.insB_ok (He.cls_ok (c.fact 5 (f := .cls "Turn") rfl)) (ex_at 0 e)
  have k_InvalidArgument : mg "InvalidArgument" = some (.ref (He.ga K "InvalidArgument")) := He.glo_ok X G (c.fact 7 (f := .glo "InvalidArgument") rfl)
  have k_Turn : mg "Turn" = some (.ref (He.ga K "Turn")) := He.glo_ok X G (c.fact 8 (f := .glo "Turn") rfl)
  have n_all : mg "all" = none := He.free_ok X G (c.fact 9 (f := .free "all") rfl)
  have n_bool : mg "bool" = none := He.free_ok X G (c.fact 10 (f := .free "bool") rfl)
  have n_enumerate : mg "enumerate" = none := He.free_ok X G (c.fact 11 (f := .free "enumerate") rfl)
  have n_int : mg "int" = none := He.free_ok X G (c.fact 12 (f := .free "int") rfl)
  have n_isinstance : mg "isinstance" = none := He.free_ok X G (c.fact 13 (f := .free "isinstance") rfl)
  have n_len : mg "len" = none := He.free_ok X G (c.fact 14 (f := .free "len") rfl)
  have n_list : mg "list" = none := He.free_ok X G (c.fact 15 (f := .free "list") rfl)
  have n_max : mg "max" = none := He.free_ok X G (c.fact 16 (f := .free "max") rfl)
  have n_range : mg "range" = none := He.free_ok X G (c.fact 17 (f := .free "range") rfl)
  have n_sorted : mg "sorted" = none := He.free_ok X G (c.fact 18 (f := .free "sorted") rfl)
  have n_str : mg "str" = none := He.free_ok X G (c.fact 19 (f := .free "str") rfl)
  have n_tuple : mg "tuple" = none := He.free_ok X G (c.fact 20 (f := .free "tuple") rfl)
  have x_em_InvalidArgument : PySem.W.exmOne K (.ref (He.ga K "InvalidArgument")) (.ref (He.ga K "InvalidArgument")) = some true := of_decide_eq_true (ex_at 1 e)
  have x_err_InvalidArgument : KrE.ErrC K (He.ga K "InvalidArgument") := KrE.errB_ok (ex_at 2 e)
  have x_kt_Turn : ∀ T ∈ ["NoneType", "int", "bool", "str", "tuple", "list", "dict"], PySem.W.kitOne K (.type T) (.ref (He.ga K "Turn")) = some false := fun T hT => of_decide_eq_true (List.all_eq_true.mp (ex_at 3 e) T hT)
  have x_no_InvalidArgument : PySem.W.findIn K (.ref (He.ga K "InvalidArgument")) "part" = some none := of_decide_eq_true (ex_at 4 e)
  have x_tbu__law_refused_right : ∀ p ∈ Tb K, p.1 = (He.cT K ("_law_refused_right", none)).2 → p.2 = (("_law_refused_right" : Str) ++ ".<locals>.") ++ "<lambda>" := KrL.tbu_ok (ex_at 5 e)
  have x_tk_InvalidArgument : PySem.W.takerIn K (He.ga K "InvalidArgument") "part" = some none := of_decide_eq_true (ex_at 6 e)
  have x_tl_Turn : PySem.W.kitOne K (.ref (He.ga K "Turn")) (.type "list") = some false := of_decide_eq_true (ex_at 7 e)
  have x_xf_InvalidArgument : XfC K (He.ga K "InvalidArgument") := xfB_ok (ex_at 8 e)
  obtain ⟨fd0, F0⟩ := c.def_ 0 (d := d_InvalidArgument___init__) rfl
  obtain ⟨fd1, F1⟩ := c.def_ 1 (d := d_is_from) rfl
  obtain ⟨fd2, F2⟩ := c.def_ 2 (d := d_is_within) rfl
  obtain ⟨fd3, F3⟩ := c.def_ 3 (d := d_is_place) rfl
  obtain ⟨fd4, F4⟩ := c.def_ 4 (d := d_is_place_among) rfl
  obtain ⟨fd5, F5⟩ := c.def_ 5 (d := d_are_places) rfl
  obtain ⟨fd6, F6⟩ := c.def_ 6 (d := d_are_once) rfl
  obtain ⟨fd7, F7⟩ := c.def_ 7 (d := d_Turn___init__) rfl
  obtain ⟨fd8, F8⟩ := c.def_ 8 (d := d_Turn___eq__) rfl
  obtain ⟨fd9, F9⟩ := c.def_ 9 (d := d_Turn_used) rfl
  obtain ⟨fd10, F10⟩ := c.def_ 10 (d := d_Turn_front) rfl
  obtain ⟨fd11, F11⟩ := c.def_ 11 (d := d_Turn_fresh) rfl
  obtain ⟨fd12, F12⟩ := c.def_ 12 (d := d_Turn_ahead) rfl
  obtain ⟨fd13, F13⟩ := c.def_ 13 (d := d_Turn_behind) rfl
  obtain ⟨fd14, F14⟩ := c.def_ 14 (d := d_Turn_origin) rfl
  obtain ⟨fd15, F15⟩ := c.def_ 15 (d := d_Turn_goal) rfl
  obtain ⟨fd16, F16⟩ := c.def_ 16 (d := d_Turn_then) rfl
  obtain ⟨fd17, F17⟩ := c.def_ 17 (d := d_still) rfl
  obtain ⟨fd18, F18⟩ := c.def_ 18 (d := d_are_turns) rfl
  obtain ⟨fd19, F19⟩ := c.def_ 19 (d := d_way) rfl
  obtain ⟨fd20, F20⟩ := c.def_ 20 (d := d__law_digits) rfl
  obtain ⟨fd21, F21⟩ := c.def_ 21 (d := d__law_next) rfl
  obtain ⟨fd22, F22⟩ := c.def_ 22 (d := d__law_mixed) rfl
  obtain ⟨fd23, F23⟩ := c.def_ 23 (d := d__law_drawn) rfl
  obtain ⟨fd24, F24⟩ := c.def_ 24 (d := d__law_turn) rfl
  obtain ⟨fd25, F25⟩ := c.def_ 25 (d := d__law_origin) rfl
  obtain ⟨fd26, F26⟩ := c.def_ 26 (d := d__law_part) rfl
  obtain ⟨fd27, F27⟩ := c.def_ 27 (d := d__law_goal) rfl
  obtain ⟨fd28, F28⟩ := c.def_ 28 (d := d__law_path) rfl
  obtain ⟨fd29, F29⟩ := c.def_ 29 (d := d_is_from__r) rfl
  obtain ⟨fd30, F30⟩ := c.def_ 30 (d := d_is_place__r) rfl
  obtain ⟨fd31, F31⟩ := c.def_ 31 (d := d_is_place_among__r) rfl
  obtain ⟨fd32, F32⟩ := c.def_ 32 (d := d_are_turns__r) rfl
  obtain ⟨fd33, F33⟩ := c.def_ 33 (d := d_way__r) rfl
  obtain ⟨fd34, F34⟩ := c.def_ 34 (d := d__law_refused_right) rfl
  obtain ⟨fd35, F35⟩ := c.def_ 35 (d := d_way__r2) rfl
  obtain ⟨fd36, F36⟩ := c.def_ 36 (d := d__law_drawn__r) rfl
  obtain ⟨fd37, F37⟩ := c.def_ 37 (d := d__law_right) rfl
  obtain ⟨fd38, F38⟩ := c.def_ 38 (d := d_law) rfl
  obtain ⟨fd39, F39⟩ := c.def_ 39 (d := d_is_within__r) rfl
  obtain ⟨fd40, F40⟩ := c.def_ 40 (d := d_Turn_origin__r) rfl
  obtain ⟨fd41, F41⟩ := c.def_ 41 (d := d_Turn_goal__r) rfl
  obtain ⟨fd42, F42⟩ := c.def_ 42 (d := d_still__r) rfl
  have eq := hfa.symm.trans (He.glo_ok X G (c.fact 52 (f := .glo "law") rfl))
  cases eq
  have bl := FunD.bindsA (ps := ["script"]) F38 fun _ _ _ _ _ _ us hl => match us, hl with | [_], _ => rfl
  refine ⟨fd38, fun s v => bl s [v] rfl, fun base _ _ TB => ?_⟩
  have tb__law_refused_right : LamX.TabB base mg (He.cT K ("_law_refused_right", none)).1 (He.cT K ("_law_refused_right", none)).2 := TB _ (List.mem_map.mpr ⟨("_law_refused_right", none), by simp [tf], rfl⟩)
  have er_InvalidArgument : KrE.ErH P w K mg base CX0 1 "InvalidArgument" (He.ga K "InvalidArgument") ["self", "part"] (sp_InvalidArgument___init__ K) := ⟨_, _, He.glo_ok X G (c.fact 7 (f := .glo "InvalidArgument") rfl), x_err_InvalidArgument, (He.meth_ok (c.fact 21 (f := .meth "InvalidArgument" "__init__") rfl)).at_, beq_iff_eq.mp (He.meth_ok (c.fact 21 (f := .meth "InvalidArgument" "__init__") rfl)).fn, (F0.bindsN fun _ _ _ _ _ _ us hl => match us, hl with | [_, _], _ => rfl), (ok_InvalidArgument___init__ F0 x_err_InvalidArgument x_tk_InvalidArgument)⟩
  have h_is_from : Kr.FnH P w K mg base CX0 1 "is_from" ["number", "least"] (sp_is_from K) := Kr.FnH.of F1 (He.glo_ok X G (c.fact 22 (f := .glo "is_from") rfl)) (F1.bindsN fun _ _ _ _ _ _ us hl => match us, hl with | [_, _], _ => rfl) (ok_is_from F1 n_bool n_int n_isinstance)
  have h_is_within : Kr.FnH P w K mg base CX0 2 "is_within" ["number", "least", "most"] (sp_is_within K) := Kr.FnH.of F2 (He.glo_ok X G (c.fact 23 (f := .glo "is_within") rfl)) (F2.bindsN fun _ _ _ _ _ _ us hl => match us, hl with | [_, _, _], _ => rfl) (ok_is_within F2 h_is_from)
  have h_is_place : Kr.FnH P w K mg base CX0 2 "is_place" ["place"] (sp_is_place K) := Kr.FnH.of F3 (He.glo_ok X G (c.fact 24 (f := .glo "is_place") rfl)) (F3.bindsN fun _ _ _ _ _ _ us hl => match us, hl with | [_], _ => rfl) (ok_is_place F3 h_is_from n_isinstance n_len n_str n_tuple)
  have h_is_place_among : Kr.FnH P w K mg base CX0 3 "is_place_among" ["place", "many"] (sp_is_place_among K) := Kr.FnH.of F4 (He.glo_ok X G (c.fact 25 (f := .glo "is_place_among") rfl)) (F4.bindsN fun _ _ _ _ _ _ us hl => match us, hl with | [_, _], _ => rfl) (ok_is_place_among F4 h_is_place)
  have h_are_places : Kr.FnH P w K mg base CX0 3 "are_places" ["places"] (sp_are_places K) := Kr.FnH.of F5 (He.glo_ok X G (c.fact 26 (f := .glo "are_places") rfl)) (F5.bindsN fun _ _ _ _ _ _ us hl => match us, hl with | [_], _ => rfl) (ok_are_places F5 h_is_place n_all n_isinstance n_list)
  have h_are_once : Kr.FnH P w K mg base CX0 1 "are_once" ["places", "fresh"] (sp_are_once K) := Kr.FnH.of F6 (He.glo_ok X G (c.fact 27 (f := .glo "are_once") rfl)) (F6.bindsN fun _ _ _ _ _ _ us hl => match us, hl with | [_, _], _ => rfl) (ok_are_once F6 n_len n_list n_range n_sorted)
  have mk_Turn : Kr.MkH P w K mg base CX0 4 "Turn" (He.ga K "Turn") ["self", "used", "front", "fresh"] (sp_Turn___init__ K) := Kr.MkH.of (He.glo_ok X G (c.fact 8 (f := .glo "Turn") rfl)) (He.mkr_ok (c.fact 28 (f := .mkr "Turn") rfl)) (F7.bindsN fun _ _ _ _ _ _ us hl => match us, hl with | [_, _, _, _], _ => rfl) (ok_Turn___init__ F7 a_Turn__ahead a_Turn__fresh a_Turn__front a_Turn__goals a_Turn__used c_Turn h_are_once h_are_places h_is_from n_enumerate n_len n_list)
  have m_Turn___eq__ : Kr.MtH P w K mg base CX0 1 (He.ga K "Turn") "__eq__" ["self", "other"] (sp_Turn___eq__ K) := Kr.MtH.of (He.meth_ok (c.fact 29 (f := .meth "Turn" "__eq__") rfl)) (F8.bindsN fun _ _ _ _ _ _ us hl => match us, hl with | [_, _], _ => rfl) (ok_Turn___eq__ F8 a_Turn__fresh a_Turn__front a_Turn__used c_Turn i_Turn k_Turn n_isinstance)
  have m_Turn_used : Kr.MtH P w K mg base CX0 1 (He.ga K "Turn") "used" ["self"] (sp_Turn_used K) := Kr.MtH.of (He.meth_ok (c.fact 30 (f := .meth "Turn" "used") rfl)) (F9.bindsN fun _ _ _ _ _ _ us hl => match us, hl with | [_], _ => rfl) (ok_Turn_used F9 a_Turn__used c_Turn n_list)
  have m_Turn_front : Kr.MtH P w K mg base CX0 1 (He.ga K "Turn") "front" ["self"] (sp_Turn_front K) := Kr.MtH.of (He.meth_ok (c.fact 31 (f := .meth "Turn" "front") rfl)) (F10.bindsN fun _ _ _ _ _ _ us hl => match us, hl with | [_], _ => rfl) (ok_Turn_front F10 a_Turn__front c_Turn n_list)
  have m_Turn_fresh : Kr.MtH P w K mg base CX0 1 (He.ga K "Turn") "fresh" ["self"] (sp_Turn_fresh K) := Kr.MtH.of (He.meth_ok (c.fact 32 (f := .meth "Turn" "fresh") rfl)) (F11.bindsN fun _ _ _ _ _ _ us hl => match us, hl with | [_], _ => rfl) (ok_Turn_fresh F11 a_Turn__fresh c_Turn)
  have m_Turn_ahead : Kr.MtH P w K mg base CX0 1 (He.ga K "Turn") "ahead" ["self"] (sp_Turn_ahead K) := Kr.MtH.of (He.meth_ok (c.fact 33 (f := .meth "Turn" "ahead") rfl)) (F12.bindsN fun _ _ _ _ _ _ us hl => match us, hl with | [_], _ => rfl) (ok_Turn_ahead F12 a_Turn__ahead c_Turn)
  have m_Turn_behind : Kr.MtH P w K mg base CX0 1 (He.ga K "Turn") "behind" ["self"] (sp_Turn_behind K) := Kr.MtH.of (He.meth_ok (c.fact 34 (f := .meth "Turn" "behind") rfl)) (F13.bindsN fun _ _ _ _ _ _ us hl => match us, hl with | [_], _ => rfl) (ok_Turn_behind F13 a_Turn__used c_Turn n_len)
  have m_Turn_origin : Kr.MtH P w K mg base CX0 4 (He.ga K "Turn") "origin" ["self", "place"] (sp_Turn_origin K) := Kr.MtH.of (He.meth_ok (c.fact 35 (f := .meth "Turn" "origin") rfl)) (F14.bindsN fun _ _ _ _ _ _ us hl => match us, hl with | [_, _], _ => rfl) (ok_Turn_origin F14 a_Turn__fresh a_Turn__front a_Turn__used c_Turn h_is_place_among n_len)
  have m_Turn_goal : Kr.MtH P w K mg base CX0 4 (He.ga K "Turn") "goal" ["self", "place"] (sp_Turn_goal K) := Kr.MtH.of (He.meth_ok (c.fact 36 (f := .meth "Turn" "goal") rfl)) (F15.bindsN fun _ _ _ _ _ _ us hl => match us, hl with | [_, _], _ => rfl) (ok_Turn_goal F15 a_Turn__ahead a_Turn__fresh a_Turn__front a_Turn__goals c_Turn h_is_place_among n_len)
  have m_Turn_then : Kr.MtH P w K mg base CX0 6 (He.ga K "Turn") "then" ["self", "later"] (sp_Turn_then K) := Kr.MtH.of (He.meth_ok (c.fact 37 (f := .meth "Turn" "then") rfl)) (F16.bindsN fun _ _ _ _ _ _ us hl => match us, hl with | [_, _], _ => rfl) (ok_Turn_then F16 a_Turn__fresh a_Turn__front a_Turn__used c_Turn i_Turn k_Turn m_Turn_ahead m_Turn_fresh m_Turn_front m_Turn_origin m_Turn_used mk_Turn n_isinstance n_len n_max n_range)
  have h_still : Kr.FnH P w K mg base CX0 6 "still" ["many"] (sp_still K) := Kr.FnH.of F17 (He.glo_ok X G (c.fact 38 (f := .glo "still") rfl)) (F17.bindsN fun _ _ _ _ _ _ us hl => match us, hl with | [_], _ => rfl) (ok_still F17 g_MOST_STILL h_is_within mk_Turn n_range)
  have h_are_turns : Kr.FnH P w K mg base CX0 2 "are_turns" ["turns"] (sp_are_turns K) := Kr.FnH.of F18 (He.glo_ok X G (c.fact 39 (f := .glo "are_turns") rfl)) (F18.bindsN fun _ _ _ _ _ _ us hl => match us, hl with | [_], _ => rfl) (ok_are_turns F18 c_Turn i_Turn k_Turn m_Turn_ahead m_Turn_behind n_all n_isinstance n_len n_list n_range)
  have h_way : Kr.FnH P w K mg base CX0 5 "way" ["turns", "place"] (sp_way K) := Kr.FnH.of F19 (He.glo_ok X G (c.fact 40 (f := .glo "way") rfl)) (F19.bindsN fun _ _ _ _ _ _ us hl => match us, hl with | [_, _], _ => rfl) (ok_way F19 c_Turn h_are_turns h_is_place h_is_place_among m_Turn_ahead m_Turn_goal)
  have h__law_digits : Kr.FnH P w K mg base CX0 1 "_law_digits" ["cell", "many"] (sp__law_digits K) := Kr.FnH.of F20 (He.glo_ok X G (c.fact 41 (f := .glo "_law_digits") rfl)) (F20.bindsN fun _ _ _ _ _ _ us hl => match us, hl with | [_, _], _ => rfl) (ok__law_digits F20 n_int n_range)
  have h__law_next : Kr.FnH P w K mg base CX0 1 "_law_next" ["source", "many"] (sp__law_next K) := Kr.FnH.of F21 (He.glo_ok X G (c.fact 42 (f := .glo "_law_next") rfl)) (F21.bindsN fun _ _ _ _ _ _ us hl => match us, hl with | [_, _], _ => rfl) (ok__law_next F21 n_int n_len)
  have h__law_mixed : Kr.FnH P w K mg base CX0 2 "_law_mixed" ["source", "some"] (sp__law_mixed K) := Kr.FnH.of F22 (He.glo_ok X G (c.fact 43 (f := .glo "_law_mixed") rfl)) (F22.bindsN fun _ _ _ _ _ _ us hl => match us, hl with | [_, _], _ => rfl) (ok__law_mixed F22 h__law_next n_len n_list)
  have h__law_drawn : Kr.FnH P w K mg base CX0 3 "_law_drawn" ["source", "ahead"] (sp__law_drawn K) := Kr.FnH.of F23 (He.glo_ok X G (c.fact 44 (f := .glo "_law_drawn") rfl)) (F23.bindsN fun _ _ _ _ _ _ us hl => match us, hl with | [_, _], _ => rfl) (ok__law_drawn F23 h__law_mixed h__law_next n_len n_range)
  have h__law_turn : Kr.FnH P w K mg base CX0 6 "_law_turn" ["parts"] (sp__law_turn K) := Kr.FnH.of F24 (He.glo_ok X G (c.fact 45 (f := .glo "_law_turn") rfl)) (F24.bindsN fun _ _ _ _ _ _ us hl => match us, hl with | [_], _ => rfl) (ok__law_turn F24 mk_Turn n_list)
  have h__law_origin : Kr.FnH P w K mg base CX0 1 "_law_origin" ["parts", "place"] (sp__law_origin K) := Kr.FnH.of F25 (He.glo_ok X G (c.fact 46 (f := .glo "_law_origin") rfl)) (F25.bindsN fun _ _ _ _ _ _ us hl => match us, hl with | [_, _], _ => rfl) (ok__law_origin F25 n_len)
  have lm__law_part : KrL.LamH P w K mg base "_law_part" (tt__law_part K) := lt__law_part F26 (He.glo_ok X G (c.fact 47 (f := .glo "_law_part") rfl)) (F26.bindsN fun _ _ _ _ _ _ us hl => match us, hl with | [_], _ => rfl) k_InvalidArgument x_em_InvalidArgument x_no_InvalidArgument x_xf_InvalidArgument
  have h__law_goal : Kr.FnH P w K mg base CX0 1 "_law_goal" ["parts", "place"] (sp__law_goal K) := Kr.FnH.of F27 (He.glo_ok X G (c.fact 48 (f := .glo "_law_goal") rfl)) (F27.bindsN fun _ _ _ _ _ _ us hl => match us, hl with | [_, _], _ => rfl) (ok__law_goal F27 n_len)
  have h__law_path : Kr.FnH P w K mg base CX0 2 "_law_path" ["rows", "place"] (sp__law_path K) := Kr.FnH.of F28 (He.glo_ok X G (c.fact 49 (f := .glo "_law_path") rfl)) (F28.bindsN fun _ _ _ _ _ _ us hl => match us, hl with | [_, _], _ => rfl) (ok__law_path F28 h__law_goal)
  have h_is_from__r : Kr.FnH P w K mg base CX0 1 "is_from" ["number", "least"] (sp_is_from__r K) := Kr.FnH.of F29 (He.glo_ok X G (c.fact 22 (f := .glo "is_from") rfl)) (F29.bindsN fun _ _ _ _ _ _ us hl => match us, hl with | [_, _], _ => rfl) (ok_is_from__r F29 n_bool n_int n_isinstance)
  have h_is_place__r : Kr.FnH P w K mg base CX0 2 "is_place" ["place"] (sp_is_place__r K) := Kr.FnH.of F30 (He.glo_ok X G (c.fact 24 (f := .glo "is_place") rfl)) (F30.bindsN fun _ _ _ _ _ _ us hl => match us, hl with | [_], _ => rfl) (ok_is_place__r F30 h_is_from__r n_isinstance n_len n_str n_tuple)
  have h_is_place_among__r : Kr.FnH P w K mg base CX0 3 "is_place_among" ["place", "many"] (sp_is_place_among__r K) := Kr.FnH.of F31 (He.glo_ok X G (c.fact 25 (f := .glo "is_place_among") rfl)) (F31.bindsN fun _ _ _ _ _ _ us hl => match us, hl with | [_, _], _ => rfl) (ok_is_place_among__r F31 h_is_place__r)
  have h_are_turns__r : Kr.FnH P w K mg base CX0 2 "are_turns" ["turns"] (sp_are_turns__r K) := Kr.FnH.of F32 (He.glo_ok X G (c.fact 39 (f := .glo "are_turns") rfl)) (F32.bindsN fun _ _ _ _ _ _ us hl => match us, hl with | [_], _ => rfl) (ok_are_turns__r F32 c_Turn i_Turn k_Turn m_Turn_ahead m_Turn_behind n_all n_isinstance n_len n_list n_range)
  have h_way__r : Kr.FnH P w K mg base (L2.CX P w) 4 "way" ["turns", "place"] (sp_way__r K) := Kr.FnH.of F33 (He.glo_ok X G (c.fact 40 (f := .glo "way") rfl)) (F33.bindsN fun _ _ _ _ _ _ us hl => match us, hl with | [_, _], _ => rfl) (ok_way__r F33 c_Turn er_InvalidArgument h_are_turns__r h_is_place__r h_is_place_among__r m_Turn_ahead)
  have h__law_refused_right : Kr.FnH P w K mg base CX0 7 "_law_refused_right" ["source", "rows", "turns"] (sp__law_refused_right K) := Kr.FnH.of F34 (He.glo_ok X G (c.fact 50 (f := .glo "_law_refused_right") rfl)) (F34.bindsN fun _ _ _ _ _ _ us hl => match us, hl with | [_, _, _], _ => rfl) (ok__law_refused_right F34 (KrL.code_cT F34) c_Turn h__law_next h_still h_way__r i_Turn lm__law_part m_Turn_ahead m_Turn_behind n_len n_tuple tb__law_refused_right x_kt_Turn x_tbu__law_refused_right x_tl_Turn)
  have h_way__r2 : Kr.FnH P w K mg base CX0 5 "way" ["turns", "place"] (sp_way__r2 K) := Kr.FnH.of F35 (He.glo_ok X G (c.fact 40 (f := .glo "way") rfl)) (F35.bindsN fun _ _ _ _ _ _ us hl => match us, hl with | [_, _], _ => rfl) (ok_way__r2 F35 c_Turn h_are_turns__r h_is_place h_is_place_among m_Turn_ahead m_Turn_goal)
  have h__law_drawn__r : Kr.FnH P w K mg base CX0 3 "_law_drawn" ["source", "ahead"] (sp__law_drawn__r K) := Kr.FnH.of F36 (He.glo_ok X G (c.fact 44 (f := .glo "_law_drawn") rfl)) (F36.bindsN fun _ _ _ _ _ _ us hl => match us, hl with | [_, _], _ => rfl) (ok__law_drawn__r F36 h__law_mixed h__law_next n_len n_range)
  have h__law_right : Kr.FnH P w K mg base CX0 8 "_law_right" ["source"] (sp__law_right K) := Kr.FnH.of F37 (He.glo_ok X G (c.fact 51 (f := .glo "_law_right") rfl)) (F37.bindsN fun _ _ _ _ _ _ us hl => match us, hl with | [_], _ => rfl) (ok__law_right F37 h__law_drawn__r h__law_next h__law_path h__law_refused_right h__law_turn h_way__r2 n_isinstance n_len n_list n_range)
  have h_is_within__r : Kr.FnH P w K mg base CX0 2 "is_within" ["number", "least", "most"] (sp_is_within__r K) := Kr.FnH.of F39 (He.glo_ok X G (c.fact 23 (f := .glo "is_within") rfl)) (F39.bindsN fun _ _ _ _ _ _ us hl => match us, hl with | [_, _, _], _ => rfl) (ok_is_within__r F39 h_is_from__r)
  have m_Turn_origin__r : Kr.MtH P w K mg base (L2.CX P w) 4 (He.ga K "Turn") "origin" ["self", "place"] (sp_Turn_origin__r K) := Kr.MtH.of (He.meth_ok (c.fact 35 (f := .meth "Turn" "origin") rfl)) (F40.bindsN fun _ _ _ _ _ _ us hl => match us, hl with | [_, _], _ => rfl) (ok_Turn_origin__r F40 a_Turn__used c_Turn er_InvalidArgument h_is_place_among__r n_len)
  have m_Turn_goal__r : Kr.MtH P w K mg base (L2.CX P w) 4 (He.ga K "Turn") "goal" ["self", "place"] (sp_Turn_goal__r K) := Kr.MtH.of (He.meth_ok (c.fact 36 (f := .meth "Turn" "goal") rfl)) (F41.bindsN fun _ _ _ _ _ _ us hl => match us, hl with | [_, _], _ => rfl) (ok_Turn_goal__r F41 a_Turn__ahead c_Turn er_InvalidArgument h_is_place_among__r)
  have h_still__r : Kr.FnH P w K mg base (L2.CX P w) 3 "still" ["many"] (sp_still__r K) := Kr.FnH.of F42 (He.glo_ok X G (c.fact 38 (f := .glo "still") rfl)) (F42.bindsN fun _ _ _ _ _ _ us hl => match us, hl with | [_], _ => rfl) (ok_still__r F42 er_InvalidArgument g_MOST_STILL h_is_within__r)
  exact ok_law F38 h__law_digits h__law_right n_len n_range
end Kw
section
open PyProof.Rows PySem PySem.Calls PySem.W
theorem PySem.Challenge.cw_keeprows_k25_ways_of_pages_holds : PySem.Challenge.rw_keeprows_k25_ways_of_pages.Holds := by
  w_on; o_law
  refine HandSHeadRun.head_any (r := Kw.R0) (q := view Kw.R0.prog [28]) (H := Kw.hk) (ob := Kw.ob) (M := 6000) (loose := Kw.loose) (d := HandSHeadRun.topDef Kw.R0.prog 28) (kwd := []) Kw.ob_eq
    (by kernel_rfl) (fun s => by kernel_rfl) Kw.runs (by kernel_rfl) (by kernel_rfl) (by kernel_rfl) (by rfl) (by first | assumption | decide +kernel) (by decide +kernel) ⟨rfl, rfl, rfl, rfl, rfl, by decide +kernel⟩ ?hw ?hc
  case hw =>
    w_witness2
  case hc =>
    refine LamX.walk_ofTsE (l := PySem.Challenge.rw_keeprows_k25_ways_of_pages) (n := 63) (k := 9) (x := "script") (CX := fun _ => L2.CX0) rfl (by decide) (by kernel_rfl) ⟨rfl, by decide, by decide⟩ ?F (fun _ _ _ _ _ z => z)
    intro w mg fa h Y G hmg0
    obtain ⟨K, KX, c⟩ := Y
    have hmg : mg ("law" : PySem.Str) = some (.ref fa) := by
      have en : (HandSHeadRun.topDef Kw.R0.prog 28).name = ("law" : PySem.Str) := by kernel_rfl
      rw [← en]
      exact hmg0
    obtain ⟨fd, hb, hF⟩ := Kw.facts (P := (PySem.Challenge.rw_keeprows_k25_ways_of_pages).prog) (w := w) KX G hmg c.t.d c.more
    refine ⟨K, KX, fd, Kw.tf.map (He.cT K), Kw.sp_law K, fun p hp => ?_, fun p hp => ?_, fun p hp => ?_, hb, fun H a ns hl _ hT hS => ⟨a, ns, rfl, hS, hl, ?_, fun _ => rfl⟩, hF⟩
    · obtain ⟨q, hq, rfl⟩ := List.mem_map.mp hp
      exact c.empty q hq
    · obtain ⟨q, hq, rfl⟩ := List.mem_map.mp hp
      exact c.out q hq
    · obtain ⟨q, hq, rfl⟩ := List.mem_map.mp hp
      exact PySem.W.codeHd_of_K KX (c.hd q hq)
    · exact Kw.tb0 hT
end

