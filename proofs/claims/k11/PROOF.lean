import PyProof.Rows.All
import Wide.All
import OpenK.AllK
import Wide.FinOn
import HandS.Base
import HandS.Call
import HandS.List
import HandS.Comp
import HandS.Dict
import HandS.Iter
import HandS.Ends
import HandS.Words
import HandS.WordsList
import HandS.WordsDict
import HandS.Wide
import HandS.IsInst
import HandS.Defaults
import HandS.MakeKw
import HandS.MakeKwOnly
import HandS.Head0
import HandS.Head1
import HandS.Head2
import HandS.HeadEnd
import HandS.HeadHook1
import HandS.HeadHook2
import HandS.Style
import HandS.Conv
import PyProof.Rows.SeqMore
import HandS.TryOnly
import KE.KDictList
import HandS.ExcInit
import HandS.TryMany
import HandS.ExcIs
import HandS.ExcField
import KE.KExcInit
import HandS.ExcOwn
import HandS.Lambda
import HandS.EndTab
import HandS.HeadHook4
import KE.KNestM
import HandS.HeadWalk
import PyProof.ReprRoads
import PyProof.CallFns
import HandS.WordsExc
import PySem.Challenge.RW_keeprows_k11_heap_pages_refused
set_option Elab.async false
set_option linter.all false
set_option maxRecDepth 100000
set_option maxHeartbeats 8000000

namespace Kr
open L2 PySem PySem.Spec PyProof.Rows

/-! ### a def of the text, called by its name -/
section
variable (P : Program) (w : World) (K : PySem.W.Frag) (mg : Str → Option Value) (base : Heap) (CX : CXT) (k : Nat)
def FnH (x : Str) (ps : List Str) (sp : Sp) : Prop := ∃ (f : Addr) (fd : FuncData), mg x = some (.ref f) ∧ PySem.W.keepIn K (.ref f) = true ∧ Binds K fd ps [] ∧ FnOk P w K mg base CX k f fd ps sp
def MtH (C : Addr) (m : Str) (ps : List Str) (sp : Sp) : Prop := ∃ (f : Addr) (fd : FuncData), Meth K C m f ∧ Binds K fd ps [] ∧ FnOk P w K mg base CX k f fd ps sp
/-- the class of the module's name x is made by positional values -/
def MkH (x : Str) (C : Addr) (ps : List Str) (sp : Sp) : Prop := ∃ (f : Addr) (fd : FuncData), mg x = some (.ref C) ∧ Mk K C f ∧ Binds K fd ps [] ∧ FnOk P w K mg base CX k f fd ps sp
/-- the class is made by n positional values (self counted) and keywords ks -/
def MkK (x : Str) (C : Addr) (ps : List Str) (n : Nat) (ks : List Str) (sp : Sp) : Prop := ∃ (f : Addr) (fd : FuncData), mg x = some (.ref C) ∧ Mk K C f ∧ KBn K fd ps n ks (fun us ws => us ++ ws) (fun vs zs => vs ++ zs) ∧ FnOk P w K mg base CX k f fd ps sp
end
section
variable {X : Cx} {CX : CXT} {k n : Nat} {C : Addr} {ps ks : List Str} {sp : Sp} {E : XK} {x m : Str} {p pos apos : Pos} {e o : Expr} {es : List Expr} {kws : List Keyword} {t tk : TA} {ta : TE}
theorem pe_clE (h : FnH X.prog X.w X.K X.mg X.base CX k x ps sp) (hr : Room k X.A) (hx : Passes CX X E) (ha : PA X (e :: es) t) (hg : Gl X x := by rfl) (hdb : (x == ("__debug__" : Str)) = false := by decide)
    (he : starEach (e :: es) X.env = (false, eval e X.env) :: starEach es X.env := by rfl) (hpl : (backTo pos (starEach es X.env)).any (·.1) = false := by rfl) : PE X (.Call (.Name x p) (e :: es) [] pos) (tCall sp [] E t) := by
  obtain ⟨f, fd, hm, hk, hb, F⟩ := h
  exact pe_call F hr hg hm hk hb .nil hx ha hdb he hpl
theorem pe_cl (h : FnH X.prog X.w X.K X.mg X.base CX0 k x ps sp) (hr : Room k X.A) (ha : PA X (e :: es) t) (hg : Gl X x := by rfl) (hdb : (x == ("__debug__" : Str)) = false := by decide)
    (he : starEach (e :: es) X.env = (false, eval e X.env) :: starEach es X.env := by rfl) (hpl : (backTo pos (starEach es X.env)).any (·.1) = false := by rfl) : PE X (.Call (.Name x p) (e :: es) [] pos) (tCall sp [] E0 t) :=
  pe_clE h hr pass0 ha hg hdb he hpl
theorem pe_mt (h : MtH X.prog X.w X.K X.mg X.base CX0 k C m ps sp) (c : Cls X.K C) (hr : Room k X.A) (he : PE X o ta) (ha : PA X (e :: es) t) {pl : Sem Bool}
    (hst : starEach (e :: es) X.env = (false, eval e X.env) :: starEach es X.env := by rfl) (hpl : (backTo pos (starEach es X.env)).any (·.1) = false := by rfl)
    (ht : eval (.Call (.Attribute o m apos) (e :: es) [] pos) X.env = (do
      let ov ← eval o X.env
      standAt apos.atName
      let (f, first) ← holding [ov] (getMethod ov m pl)
      callWith pos f first (backTo pos (starEach (e :: es) X.env)) (backToKw pos (keywordEach [] X.env))) := by rfl) :
    PE X (.Call (.Attribute o m apos) (e :: es) [] pos) (tMeth C m sp [] E0 ta t) := by
  obtain ⟨f, fd, hm, hb, F⟩ := h
  exact pe_meth he c hm F hr hb .nil pass0 ha hst hpl ht
theorem pe_mt0 (h : MtH X.prog X.w X.K X.mg X.base CX0 k C m ps sp) (c : Cls X.K C) (hr : Room k X.A) (he : PE X o ta) {pl : Sem Bool}
    (ht : eval (.Call (.Attribute o m apos) [] [] pos) X.env = (do
      let ov ← eval o X.env
      standAt apos.atName
      let (f, first) ← holding [ov] (getMethod ov m pl)
      callWith pos f first (backTo pos (starEach [] X.env)) (backToKw pos (keywordEach [] X.env))) := by rfl) :
    PE X (.Call (.Attribute o m apos) [] [] pos) (tMeth C m sp [] E0 ta tNil) := by
  obtain ⟨f, fd, hm, hb, F⟩ := h
  exact pe_meth0 he c hm F hr hb .nil pass0 ht
theorem pe_mk (h : MkH X.prog X.w X.K X.mg X.base CX0 k x C ps sp) (hr : Room (k + 1) X.A) (ha : PA X (e :: es) t) (hg : Gl X x := by rfl) (hdb : (x == ("__debug__" : Str)) = false := by decide)
    (he : starEach (e :: es) X.env = (false, eval e X.env) :: starEach es X.env := by rfl) (hpl : (backTo pos (starEach es X.env)).any (·.1) = false := by rfl) : PE X (.Call (.Name x p) (e :: es) [] pos) (tMake C sp [] E0 t) := by
  obtain ⟨f, fd, hm, M, hb, F⟩ := h
  exact pe_make M F hr hg hm hb .nil pass0 ha hdb he hpl
theorem pe_mkE (h : MkK X.prog X.w X.K X.mg X.base CX k x C ps (n + 1) ks sp) (hr : Room (k + 1) X.A) (hx : Passes CX X E) (ha : PA X (e :: es) t) (hkw : PK X kws tk) (hg : Gl X x := by rfl)
    (hall : (backToKw pos (keywordEach kws X.env)).all (·.1.isSome) = true := by rfl) (hks : (backToKw pos (keywordEach kws X.env)).filterMap (·.1) = ks := by rfl) (hdb : (x == ("__debug__" : Str)) = false := by decide)
    (he : starEach (e :: es) X.env = (false, eval e X.env) :: starEach es X.env := by rfl) (hpl : ((backTo pos (starEach (e :: es) X.env)).any (·.1) || (backToKw pos (keywordEach kws X.env)).any (·.1.isNone)) = false := by rfl) :
    PE X (.Call (.Name x p) (e :: es) kws pos) (tMakeK C n ks.length sp (fun vs zs => vs ++ zs) E t tk) := by
  obtain ⟨f, fd, hm, M, hb, F⟩ := h
  exact pe_makeK M F hr hg hm hb hx ha hkw hall hks hdb he hpl
theorem pe_gint {i : Int} (h : ∃ t, X.mg x = some (.int i t)) (hg : Gl X x := by rfl) (hd : (x == ("__debug__" : Str)) = false := by decide) : PE X (.Name x pos) (tC (.int i)) := by
  obtain ⟨t, ht⟩ := h
  exact pe_glob hg ht ⟨t, rfl⟩ hd
theorem pe_gcls (h : X.mg x = some (.ref C)) (hg : Gl X x := by rfl) (hd : (x == ("__debug__" : Str)) = false := by decide) : PE X (.Name x pos) (tC (.ref C)) := pe_glob hg h rfl hd
theorem pe_bty {T : String} (hm : X.mg x = none) (hv : bootBuiltins x = some (.type T) := by decide +kernel) (hg : Gl X x := by rfl) (hn : x ≠ "__name__" := by decide) (hd : (x == ("__debug__" : Str)) = false := by decide) : PE X (.Name x pos) (tC (.ty T)) := pe_bltn hg hm hv rfl hn hd
end

/-! ### from the head's facts -/
section
variable {P : Program} {w : World} {K : PySem.W.Frag} {mg : Str → Option Value} {base : Heap} {CX : CXT} {k : Nat} {x : Str} {fd : FuncData} {params : Arguments} {body : List Stmt} {scope : Scope} {ps : List Str} {sp : Sp} {qual : Str}
theorem FnH.of (F : FunD K x qual params body scope [] [] (He.ga K x) fd) (g : mg x = some (.ref (He.ga K x))) (b : Binds K fd ps []) (ok : FnOk P w K mg base CX k (He.ga K x) fd ps sp) : FnH P w K mg base CX k x ps sp := ⟨_, _, g, F.kp, b, ok⟩
theorem MtH.of {C f : Addr} {m : Str} (M : Meth K C m f) (b : Binds K fd ps []) (ok : FnOk P w K mg base CX k f fd ps sp) : MtH P w K mg base CX k C m ps sp := ⟨_, _, M, b, ok⟩
theorem MkH.of {C f : Addr} (g : mg x = some (.ref C)) (M : Mk K C f) (b : Binds K fd ps []) (ok : FnOk P w K mg base CX k f fd ps sp) : MkH P w K mg base CX k x C ps sp := ⟨_, _, g, M, b, ok⟩
theorem MkK.of {C f : Addr} {n : Nat} {ks : List Str} (g : mg x = some (.ref C)) (M : Mk K C f) (b : KBn K fd ps n ks (fun us ws => us ++ ws) (fun vs zs => vs ++ zs)) (ok : FnOk P w K mg base CX k f fd ps sp) : MkK P w K mg base CX k x C ps n ks sp := ⟨_, _, g, M, b, ok⟩
/-- n positional values and keywords, every parameter given, in the parameters' order -/
theorem kbn_all {f : Addr} {m : Str} (F : FunD K m qual params body scope [] [] f fd) (n : Nat) (ks : List Str)
    (h : ∀ (kV doc pm : Value) (an : Option Addr) (cdv ct : Value) (us ws : List Value), us.length = n → ws.length = ks.length → bindArgs (PySem.W.fnOf m qual params body scope .none kV doc pm an cdv ct) ⟨us, ks.zip ws⟩ = pure (ps.zip (us ++ ws))) :
    KBn K fd ps n ks (fun us ws => us ++ ws) (fun vs zs => vs ++ zs) := by
  obtain ⟨oc, od, dV, kV, doc, pm, an, cdv, ct, osl, rfl, lk, hcd, hD, hK⟩ := F.ex
  rcases hD with ⟨_, rfl⟩ | ⟨e, _⟩
  · exact ⟨fun s us ws _ h1 h2 => .of_eq (h kV doc pm an cdv ct us ws h1 h2), fun a b => a.append b⟩
  · exact absurd rfl e
end

/-! ### the head with one more Bool -/
abbrev AlM : Type := He.AlD × Bool
def obsM (n : Nat) (fa : List He.Fa) (fn : List He.DefD) (ex : PySem.W.Frag → Bool) (g : Addr → Option Obj) : AlM := (He.obsDG n fa fn g, ex (He.frG g (He.asD g n)))
def hookM (n : Nat) (fa : List He.Fa) (fn : List He.DefD) (ex : PySem.W.Frag → Bool) : PySem.W.Hook where
  α := AlM
  obs := fun s => obsM n fa fn ex s.heap.get?
  val := fun _ => (He.valD fn, true)
  says := fun _ h => ∃ K : PySem.W.Frag, K.In h ∧ He.SaysD fa fn K ∧ ex K = true
  of := fun _ _ e => ⟨_, He.frG_in, congrArg (fun z : AlM => z.1) e, congrArg (fun z : AlM => z.2) e⟩
  keeps := fun _ _ _ ⟨K, hK, c, d⟩ k => ⟨K, PySem.W.Frag.In.keeps hK k, c, d⟩
theorem obsM_eq {n : Nat} {fa : List He.Fa} {fn : List He.DefD} {ex : PySem.W.Frag → Bool} {g : Addr → Option Obj} {s : Shared} (h : ∀ a, g a = s.heap.get? a) : obsM n fa fn ex g = (hookM n fa fn ex).obs s := by
  have e : g = s.heap.get? := funext h
  rw [e] <;> rfl
theorem ex_all {es : List (PySem.W.Frag → Bool)} {K : PySem.W.Frag} (h : (es.all fun e => e K) = true) (i : Nat) {e : PySem.W.Frag → Bool} (hi : es[i]? = some e := by rfl) : e K = true := List.all_eq_true.mp h e (List.mem_of_getElem? hi)

/-! ### heaps -/
theorem upd_free {H : Hp} {a p : Addr} {o u : HO} (h : H a = some u) (hp : H p = none) : upd H p o a = some u := by
  rw [upd_ne (ne_of_none h hp)]
  exact h
theorem same_new {H : Hp} {p : Addr} {o : HO} (h : H p = none) : Same H (upd H p o) := fun b x e => upd_free e h
/-- all but a stands as it was -/
def But (a : Addr) (H H' : Hp) : Prop := ∀ b o, b ≠ a → H b = some o → H' b = some o
theorem But.refl (a : Addr) (H : Hp) : But a H H := fun _ _ _ h => h
theorem But.trans {a : Addr} {H H1 H2 : Hp} (x : But a H H1) (y : But a H1 H2) : But a H H2 := fun b o n h => y b o n (x b o n h)
theorem But.of_same {a : Addr} {H H' : Hp} (x : Same H H') : But a H H' := fun b o _ h => x b o h
theorem But.upd {a : Addr} {H H' : Hp} {o : HO} (x : But a H H') : But a H (upd H' a o) := fun b u n h => by
  rw [upd_ne n]
  exact x b u n h
theorem But.new {a p : Addr} {H H' : Hp} {o : HO} (x : But a H H') (hp : H' p = none) : But a H (L2.upd H' p o) := fun b u n h => upd_free (x b u n h) hp
/-- where a list of three ints stands that draws change -/
def Src (H : Hp) (a : Addr) : Prop := ∃ c0 c1 c2 : Int, H a = some (.lst [.int c0, .int c1, .int c2])
/-- draws from a: all else stands -/
structure Dr (a : Addr) (H H' : Hp) : Prop where
  src : Src H' a
  old : But a H H'
theorem Src.set {H : Hp} {a : Addr} (c0 c1 c2 : Int) : Src (L2.upd H a (.lst [.int c0, .int c1, .int c2])) a := ⟨c0, c1, c2, upd_same⟩
theorem Src.new {H : Hp} {a p : Addr} {o : HO} (x : Src H a) (hp : H p = none) : Src (L2.upd H p o) a := by
  obtain ⟨c0, c1, c2, h⟩ := x
  exact ⟨c0, c1, c2, upd_free h hp⟩
theorem Src.ne {H : Hp} {a p : Addr} (x : Src H a) (hp : H p = none) : p ≠ a := by
  obtain ⟨c0, c1, c2, h⟩ := x
  intro e
  rw [e, h] at hp
  cases hp
theorem Dr.refl {a : Addr} {H : Hp} (x : Src H a) : Dr a H H := ⟨x, But.refl a H⟩
theorem Dr.trans {a : Addr} {H H1 H2 : Hp} (x : Dr a H H1) (y : Dr a H1 H2) : Dr a H H2 := ⟨y.src, x.old.trans y.old⟩
theorem Dr.new {a p : Addr} {H H' : Hp} {o : HO} (x : Dr a H H') (hp : H' p = none) : Dr a H (L2.upd H' p o) := ⟨x.src.new hp, x.old.new hp⟩
theorem Dr.free {a p : Addr} {H H' : Hp} (x : Dr a H H') (hp : H' p = none) : H p = none := by
  cases q : H p with
  | none => rfl
  | some o =>
    have ne := x.src.ne hp
    rw [x.old p o ne q] at hp
    cases hp
theorem But.seq {K : PySem.W.Frag} {H H' : Hp} {a b : Addr} {xs : List V} (e : But a H H') (n : b ≠ a) (h : SqL K H b xs) : SqL K H' b xs := by
  rcases h with (h | ⟨o, h⟩) | h
  · exact .inl (.inl (e _ _ n h))
  · exact .inl (.inr ⟨o, e _ _ n h⟩)
  · exact .inr h
theorem sz {n : Nat} (h : n ≤ 100000) : n ≤ sizeLine := Nat.le_trans h (by decide)
theorem szl {n : Nat} (h : n < 100000) : n < sizeLine := Nat.lt_of_lt_of_le h (by decide)

/-! ### list + list, where both are readable -/
def rCatS (K : PySem.W.Frag) : R2 := fun x y H Q => ∃ l b xs zs, x = .ref l ∧ y = .ref b ∧ SqL K H l xs ∧ SqL K H b zs ∧ xs.length + zs.length ≤ sizeLine ∧ ∀ p, H p = none → Q (.ref p) (upd H p (.lst (xs ++ zs)))
theorem op_catS {X : Cx} : OpR X (binaryOp .Add) (rCatS X.K) := by
  intro pins s σ H x y v u Q I rx ry h
  obtain ⟨l, b, xs, zs, rfl, rfl, hL, hB, hz, q⟩ := h
  cases rx
  cases ry
  obtain ⟨i1, r1, ⟨o1, n1, e1, c1, d1, t1⟩, z1⟩ := I.list hL
  obtain ⟨i2, r2, ⟨o2, n2, e2, c2, d2, t2⟩, z2⟩ := I.list hB
  obtain ⟨oc1, od1, dt1, sl1⟩ := o1
  obtain ⟨oc2, od2, dt2, sl2⟩ := o2
  simp only at c1 d1 t1 c2 d2 t2
  subst c1 d1 t1 c2 d2 t2
  have l1 := r1.length
  have l2 := r2.length
  refine concat_meets ⟨_, e1, rfl⟩ ⟨_, e2, rfl⟩ noFill_list_add seq_list_add PySem.F.slot_list_add
    PySem.F.entry_list_add (PySem.F.args_list_add_2 _ _)
    (list_addW l b i1.toArray i2.toArray n1 n2 none none sl1 sl2 (by rw [List.size_toArray, List.size_toArray]; omega)) ⟨e1, e2, ?_⟩
  have ea : i1.toArray ++ i2.toArray = (i1 ++ i2).toArray := by simp
  rw [ea]
  exact ⟨.ref _, _, I.lnew (t' := s.toks) (r1.append r2) (by rw [List.length_append]; omega), rfl, q _ I.fresh⟩

/-! ### readings by names, for rules whose reading is a lambda -/
section
variable {X : Cx}
def rInt1 : List V → Hp → VK → Prop := fun xs H Q => (∃ i, xs = [.int i] ∧ Q (.int i) H) ∨ ∃ k, xs = [.bl k] ∧ Q (.int (if k then 1 else 0)) H
theorem c_int1 : CallR X (.type "int") rInt1 := call_int1
def rMax2 : List V → Hp → VK → Prop := fun xs H Q => ∃ i j, xs = [.int i, .int j] ∧ Q (.int (if j > i then j else i)) H
def rMin2 : List V → Hp → VK → Prop := fun xs H Q => ∃ i j, xs = [.int i, .int j] ∧ Q (.int (if j < i then j else i)) H
theorem c_max2 (hc : X.calm = true) : CallR X (.builtin "max") rMax2 := call_max2 hc
theorem c_min2 (hc : X.calm = true) : CallR X (.builtin "min") rMin2 := call_min2 hc
def rLenL (K : PySem.W.Frag) : List V → Hp → VK → Prop := fun xs H Q => ∃ p ys, xs = [.ref p] ∧ (SqL K H p ys ∨ SqT K H p ys) ∧ Q (.int ys.length) H
theorem c_len : CallR X (.builtin "len") (rLenL X.K) := call_len_seq
def rTupOf (K : PySem.W.Frag) : List V → Hp → VK → Prop := fun xs H Q => ∃ p ys, xs = [.ref p] ∧ ((SqL K H p ys ∧ ∀ l, H l = none → Q (.ref l) (upd H l (.tup ys))) ∨ (SqT K H p ys ∧ Q (.ref p) H))
theorem c_tuple : CallR X (.type "tuple") (rTupOf X.K) := call_tuple_of
def rListOf (K : PySem.W.Frag) : List V → Hp → VK → Prop := fun xs H Q => ∃ p ys, xs = [.ref p] ∧ (SqL K H p ys ∨ SqT K H p ys) ∧ ∀ l, H l = none → Q (.ref l) (upd H l (.lst ys))
theorem c_list : CallR X (.type "list") (rListOf X.K) := call_list_of
def rAddS : R2 := fun x y H Q => ∃ i j, x = .str i ∧ y = .str j ∧ i.length + j.length ≤ sizeLine ∧ Q (.str (i ++ j)) H
theorem o_adds : OpR X (binaryOp .Add) rAddS := op_add_str
def rIsN : R2 := fun x y H Q => y = .non ∧ Q (.bl (decide (x = .non))) H
def rNotN : R2 := fun x y H Q => y = .non ∧ Q (.bl (!decide (x = .non))) H
theorem o_isN : OpR X (compareOp .Is) rIsN := op_isN
theorem o_notN : OpR X (compareOp .IsNot) rNotN := op_notN
def tTru (K : PySem.W.Frag) (ta : TE) : TT := fun σ H Q => ta σ H fun x H' => ∃ k, TruV K x H' k ∧ Q k H'
theorem p_truth {a : Expr} {ta : TE} (ha : PE X a ta) (he : ∀ whole, isTrue a X.env whole = (do let v ← whole; standAt a.pos; holding [v] (truthy v))) : PT X a (tTru X.K ta) := pt_truth ha he
end

/-! ### the readings, step by step -/
section
variable {K : PySem.W.Frag} {σ : L2.St} {H : Hp} {Q : VK} {QT : Bool → Hp → Prop} {QA : List V → Hp → Prop} {QG : L2.St → Hp → Prop} {D : Ends} {ta tb tc te : TE} {t u c : TT} {tr : TA} {ts us : TS} {g : TG} {gs : TGs} {v x y : V} {r r' : R2} {tl th : TO} {ti to : TE}
def rNew (o : HO) (H : Hp) (Q : VK) : Prop := ∀ p, H p = none → Q (.ref p) (upd H p o)
def rSz (n : Nat) (R : Prop) : Prop := n ≤ sizeLine ∧ R
theorem r_sz {n : Nat} {R : Prop} (h : n ≤ 100000) (q : R) : rSz n R := ⟨sz h, q⟩
theorem r_new {o : HO} (q : ∀ p, H p = none → Q (.ref p) (upd H p o)) : rNew o H Q := q
theorem r_tup (q : tr σ H fun xs H1 => rSz xs.length (rNew (.tup xs) H1 Q)) : tTup tr σ H Q := q
theorem r_lst (q : tr σ H fun xs H1 => rSz xs.length (rNew (.lst xs) H1 Q)) : tLst tr σ H Q := q
theorem r_catS {l b : Addr} {xs zs : List V} (h : SqL K H l xs) (h' : SqL K H b zs) (hz : xs.length + zs.length ≤ 100000) (q : rNew (.lst (xs ++ zs)) H Q) : rCatS K (.ref l) (.ref b) H Q := ⟨l, b, xs, zs, rfl, rfl, h, h', sz hz, q⟩
theorem r_tupOf {p : Addr} {ys : List V} (h : SqL K H p ys) (q : rNew (.tup ys) H Q) : rTupOf K [.ref p] H Q := ⟨p, ys, rfl, .inl ⟨h, q⟩⟩
theorem r_listOf {p : Addr} {ys : List V} (h : SqL K H p ys) (q : rNew (.lst ys) H Q) : rListOf K [.ref p] H Q := ⟨p, ys, rfl, .inl h, q⟩
theorem r_slL {a : Addr} {xs : List V} {lo hi : Option Int} (h : SqL K H a xs) (q : rNew (.lst (cutV xs lo hi)) H Q) : rSlL K (.ref a) lo hi H Q := ⟨a, xs, rfl, h, q⟩
def rOb (C : Addr) (m : Str) (x : V) (H : Hp) (R : Prop) : Prop := ∃ a dx fs, x = .ref a ∧ H a = some (.ins C dx fs) ∧ fs.lookup m = none ∧ R
theorem r_meth {C : Addr} {m : Str} {sp : Sp} {E : XK} (q : ta σ H fun x H1 => rOb C m x H1 (tr σ H1 fun vs H2 => sp (x :: vs) H2 Q E)) : tMeth C m sp [] E ta tr σ H Q := by
  have e : (fun (x : V) (H1 : Hp) => rOb C m x H1 (tr σ H1 fun vs H2 => sp (x :: vs) H2 Q E)) = fun x H1 => rOb C m x H1 (tr σ H1 fun vs H2 => sp (x :: (vs ++ [])) H2 Q E) := by
    simp only [List.append_nil]
  show ta σ H fun x H1 => rOb C m x H1 (tr σ H1 fun vs H2 => sp (x :: (vs ++ [])) H2 Q E)
  rw [← e]
  exact q
theorem r_obj {C a dx : Addr} {m : Str} {fs : List (Str × V)} {R : Prop} (h : H a = some (.ins C dx fs)) (l : fs.lookup m = none) (q : R) : rOb C m (.ref a) H R := ⟨a, dx, fs, rfl, h, l, q⟩
def rFd (K : PySem.W.Frag) (f : Str) (x : V) (H : Hp) (Q : VK) : Prop := ∃ a C dx fs v, x = .ref a ∧ H a = some (.ins C dx fs) ∧ Cls K C ∧ NoAttr K C f ∧ fs.lookup f = some v ∧ Q v H
theorem r_fld {f : Str} (q : ta σ H fun x H1 => rFd K f x H1 Q) : tFld K ta f σ H Q := q
theorem r_fd {a C dx : Addr} {f : Str} {fs : List (Str × V)} (h : H a = some (.ins C dx fs)) (c : Cls K C) (n : NoAttr K C f) (l : fs.lookup f = some v) (q : Q v H) : rFd K f (.ref a) H Q := ⟨a, C, dx, fs, v, rfl, h, c, n, l, q⟩
def rSt (K : PySem.W.Frag) (f : Str) (y x : V) (H : Hp) (Qn : Hp → Prop) : Prop := ∃ a C dx fs, x = .ref a ∧ H a = some (.ins C dx fs) ∧ Cls K C ∧ NoAttr K C f ∧ fs.length < 1000 ∧ Qn (upd H a (.ins C dx (putF f y fs)))
theorem r_sFld {f : Str} (q : tb σ H fun y H1 => ta σ H1 fun x H2 => rSt K f y x H2 fun H3 => D.nx σ H3) : sFld K ta tb f D σ H := q
theorem r_st {a C dx : Addr} {f : Str} {fs gs : List (Str × V)} {Qn : Hp → Prop} (h : H a = some (.ins C dx fs)) (c : Cls K C) (n : NoAttr K C f) (l : fs.length < 1000) (e : putF f y fs = gs) (q : Qn (upd H a (.ins C dx gs))) : rSt K f y (.ref a) H Qn := by
  subst e
  exact ⟨a, C, dx, fs, rfl, h, c, n, l, q⟩
def rPo (x : V) (R : Option Int → Prop) : Prop := ∃ i, x = .int i ∧ R (some i)
theorem r_part {QO : Option Int → Hp → Prop} (q : ta σ H fun x H1 => rPo x fun o => QO o H1) : tPart ta σ H QO := q
theorem r_po {i : Int} {R : Option Int → Prop} (q : R (some i)) : rPo (.int i) R := ⟨i, rfl, q⟩
def rTy (K : PySem.W.Frag) (T : String) (x : V) (H : Hp) (R : Prop) : Prop := tyV K T x H ∧ R
theorem r_BM {T : String} {rm : V → List V → Hp → VK → Prop} (q : to σ H fun x H1 => rTy K T x H1 (tr σ H1 fun xs H2 => rm x xs H2 Q)) : tBM K T rm to tr σ H Q := q
theorem r_tyL {p : Addr} {xs : List V} {R : Prop} (h : SqL K H p xs) (q : R) : rTy K "list" (.ref p) H R := ⟨.inl ⟨rfl, xs, h⟩, q⟩
def rBl (x : V) (R : Bool → Prop) : Prop := ∃ k, x = .bl k ∧ R k
theorem r_bl {k : Bool} {R : Bool → Prop} (q : R k) : rBl (.bl k) R := ⟨k, rfl, q⟩
theorem r_test (q : te σ H fun x H' => rBl x fun k => QT k H') : tTest te σ H QT := q
theorem r_tB (q : te σ H fun x H' => rBl x fun k => QT k H') : tB te σ H QT := q
theorem r_andV (q : ta σ H fun x H1 => rBl x fun c => if c = true then tb σ H1 Q else Q (.bl false) H1) : tAndV ta tb σ H Q := q
theorem r_orV (q : ta σ H fun x H1 => rBl x fun c => if c = true then Q (.bl true) H1 else tb σ H1 Q) : tOrV ta tb σ H Q := q
theorem r_notV (q : ta σ H fun x H1 => rBl x fun c => Q (.bl (!c)) H1) : tNotV ta σ H Q := q
theorem r_chain (q : ta σ H fun x H1 => tb σ H1 fun y H2 => r x y H2 fun z H3 => rBl z fun k => if k = true then tc σ H3 fun w' H4 => r' y w' H4 Q else Q (.bl false) H3) : tChain r r' ta tb tc σ H Q := q
def rTr (K : PySem.W.Frag) (x : V) (H : Hp) (R : Bool → Prop) : Prop := ∃ k, TruV K x H k ∧ R k
theorem r_tru (q : ta σ H fun x H' => rTr K x H' fun k => QT k H') : tTru K ta σ H QT := q
def rSq (K : PySem.W.Frag) (x : V) (H : Hp) (R : Addr → Prop) : Prop := ∃ a, x = .ref a ∧ (∃ xs, SqL K H a xs) ∧ R a
theorem r_list {R : It → Hp → Prop} (q : te σ H fun x H1 => rSq K x H1 fun a => R (Itl K a) H1) : iList K te σ H R := q
theorem r_sq {a : Addr} {xs : List V} {R : Addr → Prop} (h : SqL K H a xs) (q : R a) : rSq K (.ref a) H R := ⟨a, rfl, ⟨xs, h⟩, q⟩
def rSqT (K : PySem.W.Frag) (x : V) (H : Hp) (R : Addr → Prop) : Prop := ∃ a, x = .ref a ∧ (∃ xs, SqT K H a xs) ∧ R a
theorem r_tupI {R : It → Hp → Prop} (q : te σ H fun x H1 => rSqT K x H1 fun a => R (Itt K a) H1) : iTup K te σ H R := q
theorem r_sqT {a : Addr} {xs : List V} {R : Addr → Prop} (h : SqT K H a xs) (q : R a) : rSqT K (.ref a) H R := ⟨a, rfl, ⟨xs, h⟩, q⟩
def rRg1 (vs : List V) (R : Int → Prop) : Prop := ∃ j : Int, vs = [.int j] ∧ -(2 ^ 62) ≤ j ∧ j < 2 ^ 62 ∧ R j
def rRg2 (vs : List V) (R : Int → Int → Prop) : Prop := ∃ i j : Int, vs = [.int i, .int j] ∧ (-(2 ^ 62) ≤ i ∧ i < 2 ^ 62 ∧ -(2 ^ 62) ≤ j ∧ j < 2 ^ 62) ∧ R i j
theorem r_rng1 {R : It → Hp → Prop} (q : tr σ H fun vs H1 => rRg1 vs fun j => R (Itr 0 j.toNat) H1) : iRng1 tr σ H R := q
theorem r_rng2 {R : It → Hp → Prop} (q : tr σ H fun vs H1 => rRg2 vs fun i j => R (Itr i (j - i).toNat) H1) : iRng2 tr σ H R := q
theorem r_rg1 {j : Int} {R : Int → Prop} (h : -(2 ^ 62) ≤ j ∧ j < 2 ^ 62) (q : R j) : rRg1 [.int j] R := ⟨j, rfl, h.1, h.2, q⟩
theorem r_rg2 {i j : Int} {R : Int → Int → Prop} (h : -(2 ^ 62) ≤ i ∧ i < 2 ^ 62 ∧ -(2 ^ 62) ≤ j ∧ j < 2 ^ 62) (q : R i j) : rRg2 [.int i, .int j] R := ⟨i, j, rfl, h, q⟩
def rTwo (vs : List V) (R : V → V → Prop) : Prop := ∃ v w, vs = [v, w] ∧ R v w
theorem r_par {i j : Nat} (q : tr σ H fun vs H1 => rTwo vs fun v w => gName i v σ H1 fun σ' H' => gName j w σ' H' D.nx) : tPar i j tr D σ H := q
theorem r_two {v w : V} {R : V → V → Prop} (q : R v w) : rTwo [v, w] R := ⟨v, w, rfl, q⟩
def rMk (C : Addr) (sp : Sp) (E : XK) (f : V → List V) (H : Hp) (Q : VK) : Prop := ∀ x dx, H x = none → H dx = none → dx ≠ x → sp (f (.ref x)) (upd (upd H dx (.own x)) x (.ins C dx [])) (fun v H3 => v = .non ∧ Q (.ref x) H3) E
theorem r_mkK {C : Addr} {n m : Nat} {sp : Sp} {E : XK} {tk : TA} (q : tr σ H fun vs H1 => tk σ H1 fun zs H2 => vs.length = n ∧ zs.length = m ∧ rMk C sp E (fun s => s :: vs ++ zs) H2 Q) : tMakeK C n m sp (fun vs zs => vs ++ zs) E tr tk σ H Q := q
theorem r_mk {C : Addr} {sp : Sp} {E : XK} (q : tr σ H fun vs H1 => rMk C sp E (fun s => s :: vs) H1 Q) : tMake C sp [] E tr σ H Q := by
  have e : (fun (vs : List V) (H1 : Hp) => rMk C sp E (fun s => s :: vs) H1 Q) = fun vs H1 => rMk C sp E (fun s => s :: (vs ++ [])) H1 Q := by
    simp only [List.append_nil]
  show tr σ H fun vs H1 => rMk C sp E (fun s => s :: (vs ++ [])) H1 Q
  rw [← e]
  exact q
theorem r_tC (q : Q v H) : tC v σ H Q := q
theorem r_op (q : ta σ H fun x H1 => tb σ H1 fun y H2 => r x y H2 Q) : tOp r ta tb σ H Q := q
theorem r_un {r1 : V → Hp → VK → Prop} (q : ta σ H fun x H1 => r1 x H1 Q) : tUn r1 ta σ H Q := q
theorem r_I0 {f : Int → Int → V} {i j : Int} (q : Q (f i j) H) : rI0 f (.int i) (.int j) H Q := ⟨i, j, rfl, rfl, q⟩
theorem r_I {C : Int → Int → Prop} {f : Int → Int → V} {i j : Int} (c : C i j) (q : Q (f i j) H) : rI C f (.int i) (.int j) H Q := ⟨i, j, rfl, rfl, c, q⟩
theorem r_U {f : Int → V} {i : Int} (q : Q (f i) H) : rU f (.int i) H Q := ⟨i, rfl, q⟩
theorem r_eq (h : scal x y = true) (q : Q (.bl (decide (x = y))) H) : rEq x y H Q := ⟨h, q⟩
theorem r_ne (h : scal x y = true) (q : Q (.bl (!decide (x = y))) H) : rNe x y H Q := ⟨h, q⟩
theorem r_eqI {i j : Int} (q : Q (.bl (decide (i = j))) H) : rEq (.int i) (.int j) H Q := ⟨rfl, by simpa using q⟩
theorem r_neI {i j : Int} (q : Q (.bl (!decide (i = j))) H) : rNe (.int i) (.int j) H Q := ⟨rfl, by simpa using q⟩
theorem r_eqS {i j : Str} (q : Q (.bl (decide (i = j))) H) : rEq (.str i) (.str j) H Q := ⟨rfl, by simpa using q⟩
theorem r_neS {i j : Str} (q : Q (.bl (!decide (i = j))) H) : rNe (.str i) (.str j) H Q := ⟨rfl, by simpa using q⟩
theorem r_ixL {p : Addr} {xs : List V} {i : Int} (h : SqL K H p xs) (a : atI xs i = some v) (q : Q v H) : rIxL K (.ref p) (.int i) H Q := ⟨p, xs, i, v, rfl, rfl, h, a, q⟩
theorem r_ixT {p : Addr} {xs : List V} {i : Int} (h : SqT K H p xs) (a : atI xs i = some v) (q : Q v H) : rIxT K (.ref p) (.int i) H Q := ⟨p, xs, i, v, rfl, rfl, h, a, q⟩
theorem r_setL {p : Addr} {xs : List V} {k : Int} {j : Nat} {QH : Hp → Prop} (h : H p = some (.lst xs)) (e : ixN xs.length k = some j) (q : QH (upd H p (.lst (xs.set j v)))) : rSetL (.ref p) (.int k) v H QH := ⟨p, xs, k, j, rfl, rfl, h, e, q⟩
theorem r_CB {rc : List V → Hp → VK → Prop} (q : tr σ H fun vs H1 => rc vs H1 Q) : tCB rc tr σ H Q := q
theorem r_cons (q : ta σ H fun x H1 => tr σ H1 fun xs H2 => QA (x :: xs) H2) : tCons ta tr σ H QA := q
theorem r_nil (q : QA [] H) : tNil σ H QA := q
theorem r_int1 {i : Int} (q : Q (.int i) H) : rInt1 [.int i] H Q := .inl ⟨i, rfl, q⟩
theorem r_max2 {i j : Int} (q : Q (.int (if j > i then j else i)) H) : rMax2 [.int i, .int j] H Q := ⟨i, j, rfl, q⟩
theorem r_min2 {i j : Int} (q : Q (.int (if j < i then j else i)) H) : rMin2 [.int i, .int j] H Q := ⟨i, j, rfl, q⟩
theorem r_lenL {p : Addr} {ys : List V} (h : SqL K H p ys) (q : Q (.int ys.length) H) : rLenL K [.ref p] H Q := ⟨p, ys, rfl, .inl h, q⟩
theorem r_lenT {p : Addr} {ys : List V} (h : SqT K H p ys) (q : Q (.int ys.length) H) : rLenL K [.ref p] H Q := ⟨p, ys, rfl, .inr h, q⟩
theorem r_sum {a : Addr} {ns : List Int} (h : SqL K H a (ns.map V.int)) (q : Q (.int ns.sum) H) : rSum K [.ref a] H Q := ⟨a, ns, rfl, h, q⟩
theorem r_max {a : Addr} {ns : List Int} (h : SqL K H a (ns.map V.int)) (h0 : 0 < ns.length) (q : ∀ m, m ∈ ns → (∀ y, y ∈ ns → y ≤ m) → Q (.int m) H) : rMax K [.ref a] H Q := ⟨a, ns, rfl, h, h0, q⟩
theorem r_all {a : Addr} {bs : List Bool} (h : SqL K H a (bs.map V.bl)) (q : Q (.bl (bs.all id)) H) : rAll K [.ref a] H Q := ⟨a, bs, rfl, h, q⟩
theorem r_call {sp : Sp} {E : XK} (q : tr σ H fun vs H1 => sp vs H1 Q E) : tCall sp [] E tr σ H Q := by
  have e : (fun (vs : List V) (H1 : Hp) => sp vs H1 Q E) = fun vs H1 => sp (vs ++ []) H1 Q E := by
    funext vs H1
    rw [List.append_nil]
  show tr σ H fun vs H1 => sp (vs ++ []) H1 Q E
  rw [← e]
  exact q
theorem r_sl {rs : V → Option Int → Option Int → Hp → VK → Prop} (q : ta σ H fun x H1 => tl σ H1 fun l H2 => th σ H2 fun u H3 => rs x l u H3 Q) : L2.tSl rs ta tl th σ H Q := q
theorem r_nopart {QO : Option Int → Hp → Prop} (q : QO none H) : tNoPart σ H QO := q
theorem r_append {l : Addr} {xs : List V} (h : H l = some (.lst xs)) (hz : xs.length < 100000) (q : Q .non (upd H l (.lst (xs ++ [y])))) : rAppend (.ref l) [y] H Q := ⟨l, xs, y, rfl, rfl, h, szl hz, q⟩
-- tests
theorem r_and (q : t σ H fun c H1 => if c = true then u σ H1 QT else QT false H1) : tAnd t u σ H QT := q
theorem r_or (q : t σ H fun c H1 => if c = true then QT true H1 else u σ H1 QT) : tOr t u σ H QT := q
theorem r_not (q : t σ H fun c H1 => QT (!c) H1) : tNot t σ H QT := q
theorem r_if (q : t σ H fun c H1 => if c = true then ta σ H1 Q else tb σ H1 Q) : tIf t ta tb σ H Q := q
-- statements
theorem r_seq (q : ts { D with nx := us D } σ H) : tSeq ts us D σ H := q
theorem r_asg (q : te σ H fun x H1 => g x σ H1 D.nx) : tAsg te g D σ H := q
theorem r_ret (q : te σ H D.rt) : tRet te D σ H := q
theorem r_drop (q : te σ H fun _ H1 => D.nx σ H1) : tDrop te D σ H := q
theorem r_next (q : D.nx σ H) : tNext D σ H := q
theorem r_ifS (q : t σ H fun b H1 => if b = true then ts D σ H1 else us D σ H1) : tIfS t ts us D σ H := q
theorem r_gSub {ts : TSet} (q : to σ H fun o H1 => ti σ H1 fun i H2 => ts o i v H2 fun H3 => QG σ H3) : gSub to ti ts v σ H QG := q
theorem r_gTup {a : Addr} {xs : List V} {n : Nat} (h : SqT K H a xs) (e : xs.length = n) (q : gs xs σ H QG) : gTup K n gs (.ref a) σ H QG := ⟨a, xs, rfl, h, e, q⟩
theorem r_gCons {w : V} {ws : List V} (q : g w σ H fun σ' H' => gs ws σ' H' QG) : gCons g gs (w :: ws) σ H QG := ⟨w, ws, rfl, q⟩
theorem r_gNil (q : QG σ H) : gNil [] σ H QG := ⟨rfl, q⟩
theorem r_dec {p : Prop} [Decidable p] {A B : Prop} (h1 : p → A) (h2 : ¬ p → B) : if decide p = true then A else B := by
  by_cases h : p
  · rw [decide_eq_true h]
    exact h1 h
  · rw [decide_eq_false h]
    exact iteF (h2 h)
theorem r_decN {p : Prop} [Decidable p] {A B : Prop} (h1 : ¬ p → A) (h2 : p → B) : if (!decide p) = true then A else B := by
  by_cases h : p
  · rw [decide_eq_true h]
    exact iteF (h2 h)
  · rw [decide_eq_false h]
    exact h1 h
theorem r_isi {x c : V} {t u : Value} {b : Bool} (k : ClsV c u) (ty : TyX K H x t) (e : PySem.W.kitOne K t u = some b) (q : Q (.bl b) H) : rIsi K [x, c] H Q := ⟨x, c, t, u, b, rfl, k, ty, e, q⟩
theorem r_lc {wi : TI} {n : List Nat} (q : wi σ H fun J H1 => ∀ D, H1 D = none → ∃ W : Nat → Nat → Hp → Prop, (∃ m, W 0 m (upd H1 D (.lst []))) ∧ ∀ i m H, W i m H →
  (J.stop i H ∧ Q (.ref D) H) ∨ (J.go i H ∧ ∃ Nx : Hp → Prop, (∀ H', Nx H' → ∃ m', m' < m ∧ W (i + 1) m' H') ∧ ∀ x H', J.yld i H x H' → g x (wipe σ n) H' fun σ2 H2 => wipe σ2 n = wipe σ n ∧ t σ2 H2 fun b H3 =>
    if b = true then te σ2 H3 fun y H4 => ∃ acc, H4 D = some (.lst acc) ∧ acc.length < sizeLine ∧ Nx (upd H4 D (.lst (acc ++ [y]))) else Nx H3)) : tLc wi g t te n σ H Q := q
theorem r_yes (q : QT true H) : tYes σ H QT := q
theorem r_v0 {z : L2.St} (q : Q v H) : tVar 0 (some v :: z) H Q := ⟨v, rfl, q⟩
theorem r_v1 {a0 : Option V} {z : L2.St} (q : Q v H) : tVar 1 (a0 :: some v :: z) H Q := ⟨v, rfl, q⟩
theorem r_v2 {a0 a1 : Option V} {z : L2.St} (q : Q v H) : tVar 2 (a0 :: a1 :: some v :: z) H Q := ⟨v, rfl, q⟩
theorem r_v3 {a0 a1 a2 : Option V} {z : L2.St} (q : Q v H) : tVar 3 (a0 :: a1 :: a2 :: some v :: z) H Q := ⟨v, rfl, q⟩
theorem r_v4 {a0 a1 a2 a3 : Option V} {z : L2.St} (q : Q v H) : tVar 4 (a0 :: a1 :: a2 :: a3 :: some v :: z) H Q := ⟨v, rfl, q⟩
theorem r_v5 {a0 a1 a2 a3 a4 : Option V} {z : L2.St} (q : Q v H) : tVar 5 (a0 :: a1 :: a2 :: a3 :: a4 :: some v :: z) H Q := ⟨v, rfl, q⟩
theorem r_v6 {a0 a1 a2 a3 a4 a5 : Option V} {z : L2.St} (q : Q v H) : tVar 6 (a0 :: a1 :: a2 :: a3 :: a4 :: a5 :: some v :: z) H Q := ⟨v, rfl, q⟩
theorem r_v7 {a0 a1 a2 a3 a4 a5 a6 : Option V} {z : L2.St} (q : Q v H) : tVar 7 (a0 :: a1 :: a2 :: a3 :: a4 :: a5 :: a6 :: some v :: z) H Q := ⟨v, rfl, q⟩
theorem r_v8 {a0 a1 a2 a3 a4 a5 a6 a7 : Option V} {z : L2.St} (q : Q v H) : tVar 8 (a0 :: a1 :: a2 :: a3 :: a4 :: a5 :: a6 :: a7 :: some v :: z) H Q := ⟨v, rfl, q⟩
theorem r_v9 {a0 a1 a2 a3 a4 a5 a6 a7 a8 : Option V} {z : L2.St} (q : Q v H) : tVar 9 (a0 :: a1 :: a2 :: a3 :: a4 :: a5 :: a6 :: a7 :: a8 :: some v :: z) H Q := ⟨v, rfl, q⟩
theorem r_v10 {a0 a1 a2 a3 a4 a5 a6 a7 a8 a9 : Option V} {z : L2.St} (q : Q v H) : tVar 10 (a0 :: a1 :: a2 :: a3 :: a4 :: a5 :: a6 :: a7 :: a8 :: a9 :: some v :: z) H Q := ⟨v, rfl, q⟩
theorem r_v11 {a0 a1 a2 a3 a4 a5 a6 a7 a8 a9 a10 : Option V} {z : L2.St} (q : Q v H) : tVar 11 (a0 :: a1 :: a2 :: a3 :: a4 :: a5 :: a6 :: a7 :: a8 :: a9 :: a10 :: some v :: z) H Q := ⟨v, rfl, q⟩
theorem r_v12 {a0 a1 a2 a3 a4 a5 a6 a7 a8 a9 a10 a11 : Option V} {z : L2.St} (q : Q v H) : tVar 12 (a0 :: a1 :: a2 :: a3 :: a4 :: a5 :: a6 :: a7 :: a8 :: a9 :: a10 :: a11 :: some v :: z) H Q := ⟨v, rfl, q⟩
theorem r_v13 {a0 a1 a2 a3 a4 a5 a6 a7 a8 a9 a10 a11 a12 : Option V} {z : L2.St} (q : Q v H) : tVar 13 (a0 :: a1 :: a2 :: a3 :: a4 :: a5 :: a6 :: a7 :: a8 :: a9 :: a10 :: a11 :: a12 :: some v :: z) H Q := ⟨v, rfl, q⟩
theorem r_v14 {a0 a1 a2 a3 a4 a5 a6 a7 a8 a9 a10 a11 a12 a13 : Option V} {z : L2.St} (q : Q v H) : tVar 14 (a0 :: a1 :: a2 :: a3 :: a4 :: a5 :: a6 :: a7 :: a8 :: a9 :: a10 :: a11 :: a12 :: a13 :: some v :: z) H Q := ⟨v, rfl, q⟩
theorem r_v15 {a0 a1 a2 a3 a4 a5 a6 a7 a8 a9 a10 a11 a12 a13 a14 : Option V} {z : L2.St} (q : Q v H) : tVar 15 (a0 :: a1 :: a2 :: a3 :: a4 :: a5 :: a6 :: a7 :: a8 :: a9 :: a10 :: a11 :: a12 :: a13 :: a14 :: some v :: z) H Q := ⟨v, rfl, q⟩
theorem r_v16 {a0 a1 a2 a3 a4 a5 a6 a7 a8 a9 a10 a11 a12 a13 a14 a15 : Option V} {z : L2.St} (q : Q v H) : tVar 16 (a0 :: a1 :: a2 :: a3 :: a4 :: a5 :: a6 :: a7 :: a8 :: a9 :: a10 :: a11 :: a12 :: a13 :: a14 :: a15 :: some v :: z) H Q := ⟨v, rfl, q⟩
theorem r_v17 {a0 a1 a2 a3 a4 a5 a6 a7 a8 a9 a10 a11 a12 a13 a14 a15 a16 : Option V} {z : L2.St} (q : Q v H) : tVar 17 (a0 :: a1 :: a2 :: a3 :: a4 :: a5 :: a6 :: a7 :: a8 :: a9 :: a10 :: a11 :: a12 :: a13 :: a14 :: a15 :: a16 :: some v :: z) H Q := ⟨v, rfl, q⟩
theorem r_v18 {a0 a1 a2 a3 a4 a5 a6 a7 a8 a9 a10 a11 a12 a13 a14 a15 a16 a17 : Option V} {z : L2.St} (q : Q v H) : tVar 18 (a0 :: a1 :: a2 :: a3 :: a4 :: a5 :: a6 :: a7 :: a8 :: a9 :: a10 :: a11 :: a12 :: a13 :: a14 :: a15 :: a16 :: a17 :: some v :: z) H Q := ⟨v, rfl, q⟩
theorem r_v19 {a0 a1 a2 a3 a4 a5 a6 a7 a8 a9 a10 a11 a12 a13 a14 a15 a16 a17 a18 : Option V} {z : L2.St} (q : Q v H) : tVar 19 (a0 :: a1 :: a2 :: a3 :: a4 :: a5 :: a6 :: a7 :: a8 :: a9 :: a10 :: a11 :: a12 :: a13 :: a14 :: a15 :: a16 :: a17 :: a18 :: some v :: z) H Q := ⟨v, rfl, q⟩
theorem r_v20 {a0 a1 a2 a3 a4 a5 a6 a7 a8 a9 a10 a11 a12 a13 a14 a15 a16 a17 a18 a19 : Option V} {z : L2.St} (q : Q v H) : tVar 20 (a0 :: a1 :: a2 :: a3 :: a4 :: a5 :: a6 :: a7 :: a8 :: a9 :: a10 :: a11 :: a12 :: a13 :: a14 :: a15 :: a16 :: a17 :: a18 :: a19 :: some v :: z) H Q := ⟨v, rfl, q⟩
theorem r_v21 {a0 a1 a2 a3 a4 a5 a6 a7 a8 a9 a10 a11 a12 a13 a14 a15 a16 a17 a18 a19 a20 : Option V} {z : L2.St} (q : Q v H) : tVar 21 (a0 :: a1 :: a2 :: a3 :: a4 :: a5 :: a6 :: a7 :: a8 :: a9 :: a10 :: a11 :: a12 :: a13 :: a14 :: a15 :: a16 :: a17 :: a18 :: a19 :: a20 :: some v :: z) H Q := ⟨v, rfl, q⟩
theorem r_g0 {b : Option V} {z : L2.St} (q : QG (some v :: z) H) : gName 0 v (b :: z) H QG := q
theorem r_g1 {a0 b : Option V} {z : L2.St} (q : QG (a0 :: some v :: z) H) : gName 1 v (a0 :: b :: z) H QG := q
theorem r_g2 {a0 a1 b : Option V} {z : L2.St} (q : QG (a0 :: a1 :: some v :: z) H) : gName 2 v (a0 :: a1 :: b :: z) H QG := q
theorem r_g3 {a0 a1 a2 b : Option V} {z : L2.St} (q : QG (a0 :: a1 :: a2 :: some v :: z) H) : gName 3 v (a0 :: a1 :: a2 :: b :: z) H QG := q
theorem r_g4 {a0 a1 a2 a3 b : Option V} {z : L2.St} (q : QG (a0 :: a1 :: a2 :: a3 :: some v :: z) H) : gName 4 v (a0 :: a1 :: a2 :: a3 :: b :: z) H QG := q
theorem r_g5 {a0 a1 a2 a3 a4 b : Option V} {z : L2.St} (q : QG (a0 :: a1 :: a2 :: a3 :: a4 :: some v :: z) H) : gName 5 v (a0 :: a1 :: a2 :: a3 :: a4 :: b :: z) H QG := q
theorem r_g6 {a0 a1 a2 a3 a4 a5 b : Option V} {z : L2.St} (q : QG (a0 :: a1 :: a2 :: a3 :: a4 :: a5 :: some v :: z) H) : gName 6 v (a0 :: a1 :: a2 :: a3 :: a4 :: a5 :: b :: z) H QG := q
theorem r_g7 {a0 a1 a2 a3 a4 a5 a6 b : Option V} {z : L2.St} (q : QG (a0 :: a1 :: a2 :: a3 :: a4 :: a5 :: a6 :: some v :: z) H) : gName 7 v (a0 :: a1 :: a2 :: a3 :: a4 :: a5 :: a6 :: b :: z) H QG := q
theorem r_g8 {a0 a1 a2 a3 a4 a5 a6 a7 b : Option V} {z : L2.St} (q : QG (a0 :: a1 :: a2 :: a3 :: a4 :: a5 :: a6 :: a7 :: some v :: z) H) : gName 8 v (a0 :: a1 :: a2 :: a3 :: a4 :: a5 :: a6 :: a7 :: b :: z) H QG := q
theorem r_g9 {a0 a1 a2 a3 a4 a5 a6 a7 a8 b : Option V} {z : L2.St} (q : QG (a0 :: a1 :: a2 :: a3 :: a4 :: a5 :: a6 :: a7 :: a8 :: some v :: z) H) : gName 9 v (a0 :: a1 :: a2 :: a3 :: a4 :: a5 :: a6 :: a7 :: a8 :: b :: z) H QG := q
theorem r_g10 {a0 a1 a2 a3 a4 a5 a6 a7 a8 a9 b : Option V} {z : L2.St} (q : QG (a0 :: a1 :: a2 :: a3 :: a4 :: a5 :: a6 :: a7 :: a8 :: a9 :: some v :: z) H) : gName 10 v (a0 :: a1 :: a2 :: a3 :: a4 :: a5 :: a6 :: a7 :: a8 :: a9 :: b :: z) H QG := q
theorem r_g11 {a0 a1 a2 a3 a4 a5 a6 a7 a8 a9 a10 b : Option V} {z : L2.St} (q : QG (a0 :: a1 :: a2 :: a3 :: a4 :: a5 :: a6 :: a7 :: a8 :: a9 :: a10 :: some v :: z) H) : gName 11 v (a0 :: a1 :: a2 :: a3 :: a4 :: a5 :: a6 :: a7 :: a8 :: a9 :: a10 :: b :: z) H QG := q
theorem r_g12 {a0 a1 a2 a3 a4 a5 a6 a7 a8 a9 a10 a11 b : Option V} {z : L2.St} (q : QG (a0 :: a1 :: a2 :: a3 :: a4 :: a5 :: a6 :: a7 :: a8 :: a9 :: a10 :: a11 :: some v :: z) H) : gName 12 v (a0 :: a1 :: a2 :: a3 :: a4 :: a5 :: a6 :: a7 :: a8 :: a9 :: a10 :: a11 :: b :: z) H QG := q
theorem r_g13 {a0 a1 a2 a3 a4 a5 a6 a7 a8 a9 a10 a11 a12 b : Option V} {z : L2.St} (q : QG (a0 :: a1 :: a2 :: a3 :: a4 :: a5 :: a6 :: a7 :: a8 :: a9 :: a10 :: a11 :: a12 :: some v :: z) H) : gName 13 v (a0 :: a1 :: a2 :: a3 :: a4 :: a5 :: a6 :: a7 :: a8 :: a9 :: a10 :: a11 :: a12 :: b :: z) H QG := q
theorem r_g14 {a0 a1 a2 a3 a4 a5 a6 a7 a8 a9 a10 a11 a12 a13 b : Option V} {z : L2.St} (q : QG (a0 :: a1 :: a2 :: a3 :: a4 :: a5 :: a6 :: a7 :: a8 :: a9 :: a10 :: a11 :: a12 :: a13 :: some v :: z) H) : gName 14 v (a0 :: a1 :: a2 :: a3 :: a4 :: a5 :: a6 :: a7 :: a8 :: a9 :: a10 :: a11 :: a12 :: a13 :: b :: z) H QG := q
theorem r_g15 {a0 a1 a2 a3 a4 a5 a6 a7 a8 a9 a10 a11 a12 a13 a14 b : Option V} {z : L2.St} (q : QG (a0 :: a1 :: a2 :: a3 :: a4 :: a5 :: a6 :: a7 :: a8 :: a9 :: a10 :: a11 :: a12 :: a13 :: a14 :: some v :: z) H) : gName 15 v (a0 :: a1 :: a2 :: a3 :: a4 :: a5 :: a6 :: a7 :: a8 :: a9 :: a10 :: a11 :: a12 :: a13 :: a14 :: b :: z) H QG := q
theorem r_g16 {a0 a1 a2 a3 a4 a5 a6 a7 a8 a9 a10 a11 a12 a13 a14 a15 b : Option V} {z : L2.St} (q : QG (a0 :: a1 :: a2 :: a3 :: a4 :: a5 :: a6 :: a7 :: a8 :: a9 :: a10 :: a11 :: a12 :: a13 :: a14 :: a15 :: some v :: z) H) : gName 16 v (a0 :: a1 :: a2 :: a3 :: a4 :: a5 :: a6 :: a7 :: a8 :: a9 :: a10 :: a11 :: a12 :: a13 :: a14 :: a15 :: b :: z) H QG := q
theorem r_g17 {a0 a1 a2 a3 a4 a5 a6 a7 a8 a9 a10 a11 a12 a13 a14 a15 a16 b : Option V} {z : L2.St} (q : QG (a0 :: a1 :: a2 :: a3 :: a4 :: a5 :: a6 :: a7 :: a8 :: a9 :: a10 :: a11 :: a12 :: a13 :: a14 :: a15 :: a16 :: some v :: z) H) : gName 17 v (a0 :: a1 :: a2 :: a3 :: a4 :: a5 :: a6 :: a7 :: a8 :: a9 :: a10 :: a11 :: a12 :: a13 :: a14 :: a15 :: a16 :: b :: z) H QG := q
theorem r_g18 {a0 a1 a2 a3 a4 a5 a6 a7 a8 a9 a10 a11 a12 a13 a14 a15 a16 a17 b : Option V} {z : L2.St} (q : QG (a0 :: a1 :: a2 :: a3 :: a4 :: a5 :: a6 :: a7 :: a8 :: a9 :: a10 :: a11 :: a12 :: a13 :: a14 :: a15 :: a16 :: a17 :: some v :: z) H) : gName 18 v (a0 :: a1 :: a2 :: a3 :: a4 :: a5 :: a6 :: a7 :: a8 :: a9 :: a10 :: a11 :: a12 :: a13 :: a14 :: a15 :: a16 :: a17 :: b :: z) H QG := q
theorem r_g19 {a0 a1 a2 a3 a4 a5 a6 a7 a8 a9 a10 a11 a12 a13 a14 a15 a16 a17 a18 b : Option V} {z : L2.St} (q : QG (a0 :: a1 :: a2 :: a3 :: a4 :: a5 :: a6 :: a7 :: a8 :: a9 :: a10 :: a11 :: a12 :: a13 :: a14 :: a15 :: a16 :: a17 :: a18 :: some v :: z) H) : gName 19 v (a0 :: a1 :: a2 :: a3 :: a4 :: a5 :: a6 :: a7 :: a8 :: a9 :: a10 :: a11 :: a12 :: a13 :: a14 :: a15 :: a16 :: a17 :: a18 :: b :: z) H QG := q
theorem r_g20 {a0 a1 a2 a3 a4 a5 a6 a7 a8 a9 a10 a11 a12 a13 a14 a15 a16 a17 a18 a19 b : Option V} {z : L2.St} (q : QG (a0 :: a1 :: a2 :: a3 :: a4 :: a5 :: a6 :: a7 :: a8 :: a9 :: a10 :: a11 :: a12 :: a13 :: a14 :: a15 :: a16 :: a17 :: a18 :: a19 :: some v :: z) H) : gName 20 v (a0 :: a1 :: a2 :: a3 :: a4 :: a5 :: a6 :: a7 :: a8 :: a9 :: a10 :: a11 :: a12 :: a13 :: a14 :: a15 :: a16 :: a17 :: a18 :: a19 :: b :: z) H QG := q
theorem r_g21 {a0 a1 a2 a3 a4 a5 a6 a7 a8 a9 a10 a11 a12 a13 a14 a15 a16 a17 a18 a19 a20 b : Option V} {z : L2.St} (q : QG (a0 :: a1 :: a2 :: a3 :: a4 :: a5 :: a6 :: a7 :: a8 :: a9 :: a10 :: a11 :: a12 :: a13 :: a14 :: a15 :: a16 :: a17 :: a18 :: a19 :: a20 :: some v :: z) H) : gName 21 v (a0 :: a1 :: a2 :: a3 :: a4 :: a5 :: a6 :: a7 :: a8 :: a9 :: a10 :: a11 :: a12 :: a13 :: a14 :: a15 :: a16 :: a17 :: a18 :: a19 :: a20 :: b :: z) H QG := q
theorem r_aug0 {z : L2.St} {tp : TIp} (q : te (some v :: z) H fun y H1 => tp v y H1 fun w H2 => D.nx (some w :: z) H2) : tAug 0 te tp D (some v :: z) H := ⟨v, rfl, q⟩
theorem r_aug1 {a0 : Option V} {z : L2.St} {tp : TIp} (q : te (a0 :: some v :: z) H fun y H1 => tp v y H1 fun w H2 => D.nx (a0 :: some w :: z) H2) : tAug 1 te tp D (a0 :: some v :: z) H := ⟨v, rfl, q⟩
theorem r_aug2 {a0 a1 : Option V} {z : L2.St} {tp : TIp} (q : te (a0 :: a1 :: some v :: z) H fun y H1 => tp v y H1 fun w H2 => D.nx (a0 :: a1 :: some w :: z) H2) : tAug 2 te tp D (a0 :: a1 :: some v :: z) H := ⟨v, rfl, q⟩
theorem r_aug3 {a0 a1 a2 : Option V} {z : L2.St} {tp : TIp} (q : te (a0 :: a1 :: a2 :: some v :: z) H fun y H1 => tp v y H1 fun w H2 => D.nx (a0 :: a1 :: a2 :: some w :: z) H2) : tAug 3 te tp D (a0 :: a1 :: a2 :: some v :: z) H := ⟨v, rfl, q⟩
theorem r_aug4 {a0 a1 a2 a3 : Option V} {z : L2.St} {tp : TIp} (q : te (a0 :: a1 :: a2 :: a3 :: some v :: z) H fun y H1 => tp v y H1 fun w H2 => D.nx (a0 :: a1 :: a2 :: a3 :: some w :: z) H2) : tAug 4 te tp D (a0 :: a1 :: a2 :: a3 :: some v :: z) H := ⟨v, rfl, q⟩
theorem r_aug5 {a0 a1 a2 a3 a4 : Option V} {z : L2.St} {tp : TIp} (q : te (a0 :: a1 :: a2 :: a3 :: a4 :: some v :: z) H fun y H1 => tp v y H1 fun w H2 => D.nx (a0 :: a1 :: a2 :: a3 :: a4 :: some w :: z) H2) : tAug 5 te tp D (a0 :: a1 :: a2 :: a3 :: a4 :: some v :: z) H := ⟨v, rfl, q⟩
theorem r_aug6 {a0 a1 a2 a3 a4 a5 : Option V} {z : L2.St} {tp : TIp} (q : te (a0 :: a1 :: a2 :: a3 :: a4 :: a5 :: some v :: z) H fun y H1 => tp v y H1 fun w H2 => D.nx (a0 :: a1 :: a2 :: a3 :: a4 :: a5 :: some w :: z) H2) : tAug 6 te tp D (a0 :: a1 :: a2 :: a3 :: a4 :: a5 :: some v :: z) H := ⟨v, rfl, q⟩
theorem r_aug7 {a0 a1 a2 a3 a4 a5 a6 : Option V} {z : L2.St} {tp : TIp} (q : te (a0 :: a1 :: a2 :: a3 :: a4 :: a5 :: a6 :: some v :: z) H fun y H1 => tp v y H1 fun w H2 => D.nx (a0 :: a1 :: a2 :: a3 :: a4 :: a5 :: a6 :: some w :: z) H2) : tAug 7 te tp D (a0 :: a1 :: a2 :: a3 :: a4 :: a5 :: a6 :: some v :: z) H := ⟨v, rfl, q⟩
theorem r_aug8 {a0 a1 a2 a3 a4 a5 a6 a7 : Option V} {z : L2.St} {tp : TIp} (q : te (a0 :: a1 :: a2 :: a3 :: a4 :: a5 :: a6 :: a7 :: some v :: z) H fun y H1 => tp v y H1 fun w H2 => D.nx (a0 :: a1 :: a2 :: a3 :: a4 :: a5 :: a6 :: a7 :: some w :: z) H2) : tAug 8 te tp D (a0 :: a1 :: a2 :: a3 :: a4 :: a5 :: a6 :: a7 :: some v :: z) H := ⟨v, rfl, q⟩
theorem r_aug9 {a0 a1 a2 a3 a4 a5 a6 a7 a8 : Option V} {z : L2.St} {tp : TIp} (q : te (a0 :: a1 :: a2 :: a3 :: a4 :: a5 :: a6 :: a7 :: a8 :: some v :: z) H fun y H1 => tp v y H1 fun w H2 => D.nx (a0 :: a1 :: a2 :: a3 :: a4 :: a5 :: a6 :: a7 :: a8 :: some w :: z) H2) : tAug 9 te tp D (a0 :: a1 :: a2 :: a3 :: a4 :: a5 :: a6 :: a7 :: a8 :: some v :: z) H := ⟨v, rfl, q⟩
theorem r_aug10 {a0 a1 a2 a3 a4 a5 a6 a7 a8 a9 : Option V} {z : L2.St} {tp : TIp} (q : te (a0 :: a1 :: a2 :: a3 :: a4 :: a5 :: a6 :: a7 :: a8 :: a9 :: some v :: z) H fun y H1 => tp v y H1 fun w H2 => D.nx (a0 :: a1 :: a2 :: a3 :: a4 :: a5 :: a6 :: a7 :: a8 :: a9 :: some w :: z) H2) : tAug 10 te tp D (a0 :: a1 :: a2 :: a3 :: a4 :: a5 :: a6 :: a7 :: a8 :: a9 :: some v :: z) H := ⟨v, rfl, q⟩
theorem r_aug11 {a0 a1 a2 a3 a4 a5 a6 a7 a8 a9 a10 : Option V} {z : L2.St} {tp : TIp} (q : te (a0 :: a1 :: a2 :: a3 :: a4 :: a5 :: a6 :: a7 :: a8 :: a9 :: a10 :: some v :: z) H fun y H1 => tp v y H1 fun w H2 => D.nx (a0 :: a1 :: a2 :: a3 :: a4 :: a5 :: a6 :: a7 :: a8 :: a9 :: a10 :: some w :: z) H2) : tAug 11 te tp D (a0 :: a1 :: a2 :: a3 :: a4 :: a5 :: a6 :: a7 :: a8 :: a9 :: a10 :: some v :: z) H := ⟨v, rfl, q⟩
theorem r_aug12 {a0 a1 a2 a3 a4 a5 a6 a7 a8 a9 a10 a11 : Option V} {z : L2.St} {tp : TIp} (q : te (a0 :: a1 :: a2 :: a3 :: a4 :: a5 :: a6 :: a7 :: a8 :: a9 :: a10 :: a11 :: some v :: z) H fun y H1 => tp v y H1 fun w H2 => D.nx (a0 :: a1 :: a2 :: a3 :: a4 :: a5 :: a6 :: a7 :: a8 :: a9 :: a10 :: a11 :: some w :: z) H2) : tAug 12 te tp D (a0 :: a1 :: a2 :: a3 :: a4 :: a5 :: a6 :: a7 :: a8 :: a9 :: a10 :: a11 :: some v :: z) H := ⟨v, rfl, q⟩
theorem r_aug13 {a0 a1 a2 a3 a4 a5 a6 a7 a8 a9 a10 a11 a12 : Option V} {z : L2.St} {tp : TIp} (q : te (a0 :: a1 :: a2 :: a3 :: a4 :: a5 :: a6 :: a7 :: a8 :: a9 :: a10 :: a11 :: a12 :: some v :: z) H fun y H1 => tp v y H1 fun w H2 => D.nx (a0 :: a1 :: a2 :: a3 :: a4 :: a5 :: a6 :: a7 :: a8 :: a9 :: a10 :: a11 :: a12 :: some w :: z) H2) : tAug 13 te tp D (a0 :: a1 :: a2 :: a3 :: a4 :: a5 :: a6 :: a7 :: a8 :: a9 :: a10 :: a11 :: a12 :: some v :: z) H := ⟨v, rfl, q⟩
theorem r_aug14 {a0 a1 a2 a3 a4 a5 a6 a7 a8 a9 a10 a11 a12 a13 : Option V} {z : L2.St} {tp : TIp} (q : te (a0 :: a1 :: a2 :: a3 :: a4 :: a5 :: a6 :: a7 :: a8 :: a9 :: a10 :: a11 :: a12 :: a13 :: some v :: z) H fun y H1 => tp v y H1 fun w H2 => D.nx (a0 :: a1 :: a2 :: a3 :: a4 :: a5 :: a6 :: a7 :: a8 :: a9 :: a10 :: a11 :: a12 :: a13 :: some w :: z) H2) : tAug 14 te tp D (a0 :: a1 :: a2 :: a3 :: a4 :: a5 :: a6 :: a7 :: a8 :: a9 :: a10 :: a11 :: a12 :: a13 :: some v :: z) H := ⟨v, rfl, q⟩
theorem r_aug15 {a0 a1 a2 a3 a4 a5 a6 a7 a8 a9 a10 a11 a12 a13 a14 : Option V} {z : L2.St} {tp : TIp} (q : te (a0 :: a1 :: a2 :: a3 :: a4 :: a5 :: a6 :: a7 :: a8 :: a9 :: a10 :: a11 :: a12 :: a13 :: a14 :: some v :: z) H fun y H1 => tp v y H1 fun w H2 => D.nx (a0 :: a1 :: a2 :: a3 :: a4 :: a5 :: a6 :: a7 :: a8 :: a9 :: a10 :: a11 :: a12 :: a13 :: a14 :: some w :: z) H2) : tAug 15 te tp D (a0 :: a1 :: a2 :: a3 :: a4 :: a5 :: a6 :: a7 :: a8 :: a9 :: a10 :: a11 :: a12 :: a13 :: a14 :: some v :: z) H := ⟨v, rfl, q⟩
theorem r_aug16 {a0 a1 a2 a3 a4 a5 a6 a7 a8 a9 a10 a11 a12 a13 a14 a15 : Option V} {z : L2.St} {tp : TIp} (q : te (a0 :: a1 :: a2 :: a3 :: a4 :: a5 :: a6 :: a7 :: a8 :: a9 :: a10 :: a11 :: a12 :: a13 :: a14 :: a15 :: some v :: z) H fun y H1 => tp v y H1 fun w H2 => D.nx (a0 :: a1 :: a2 :: a3 :: a4 :: a5 :: a6 :: a7 :: a8 :: a9 :: a10 :: a11 :: a12 :: a13 :: a14 :: a15 :: some w :: z) H2) : tAug 16 te tp D (a0 :: a1 :: a2 :: a3 :: a4 :: a5 :: a6 :: a7 :: a8 :: a9 :: a10 :: a11 :: a12 :: a13 :: a14 :: a15 :: some v :: z) H := ⟨v, rfl, q⟩
theorem r_aug17 {a0 a1 a2 a3 a4 a5 a6 a7 a8 a9 a10 a11 a12 a13 a14 a15 a16 : Option V} {z : L2.St} {tp : TIp} (q : te (a0 :: a1 :: a2 :: a3 :: a4 :: a5 :: a6 :: a7 :: a8 :: a9 :: a10 :: a11 :: a12 :: a13 :: a14 :: a15 :: a16 :: some v :: z) H fun y H1 => tp v y H1 fun w H2 => D.nx (a0 :: a1 :: a2 :: a3 :: a4 :: a5 :: a6 :: a7 :: a8 :: a9 :: a10 :: a11 :: a12 :: a13 :: a14 :: a15 :: a16 :: some w :: z) H2) : tAug 17 te tp D (a0 :: a1 :: a2 :: a3 :: a4 :: a5 :: a6 :: a7 :: a8 :: a9 :: a10 :: a11 :: a12 :: a13 :: a14 :: a15 :: a16 :: some v :: z) H := ⟨v, rfl, q⟩
theorem r_aug18 {a0 a1 a2 a3 a4 a5 a6 a7 a8 a9 a10 a11 a12 a13 a14 a15 a16 a17 : Option V} {z : L2.St} {tp : TIp} (q : te (a0 :: a1 :: a2 :: a3 :: a4 :: a5 :: a6 :: a7 :: a8 :: a9 :: a10 :: a11 :: a12 :: a13 :: a14 :: a15 :: a16 :: a17 :: some v :: z) H fun y H1 => tp v y H1 fun w H2 => D.nx (a0 :: a1 :: a2 :: a3 :: a4 :: a5 :: a6 :: a7 :: a8 :: a9 :: a10 :: a11 :: a12 :: a13 :: a14 :: a15 :: a16 :: a17 :: some w :: z) H2) : tAug 18 te tp D (a0 :: a1 :: a2 :: a3 :: a4 :: a5 :: a6 :: a7 :: a8 :: a9 :: a10 :: a11 :: a12 :: a13 :: a14 :: a15 :: a16 :: a17 :: some v :: z) H := ⟨v, rfl, q⟩
theorem r_aug19 {a0 a1 a2 a3 a4 a5 a6 a7 a8 a9 a10 a11 a12 a13 a14 a15 a16 a17 a18 : Option V} {z : L2.St} {tp : TIp} (q : te (a0 :: a1 :: a2 :: a3 :: a4 :: a5 :: a6 :: a7 :: a8 :: a9 :: a10 :: a11 :: a12 :: a13 :: a14 :: a15 :: a16 :: a17 :: a18 :: some v :: z) H fun y H1 => tp v y H1 fun w H2 => D.nx (a0 :: a1 :: a2 :: a3 :: a4 :: a5 :: a6 :: a7 :: a8 :: a9 :: a10 :: a11 :: a12 :: a13 :: a14 :: a15 :: a16 :: a17 :: a18 :: some w :: z) H2) : tAug 19 te tp D (a0 :: a1 :: a2 :: a3 :: a4 :: a5 :: a6 :: a7 :: a8 :: a9 :: a10 :: a11 :: a12 :: a13 :: a14 :: a15 :: a16 :: a17 :: a18 :: some v :: z) H := ⟨v, rfl, q⟩
theorem r_aug20 {a0 a1 a2 a3 a4 a5 a6 a7 a8 a9 a10 a11 a12 a13 a14 a15 a16 a17 a18 a19 : Option V} {z : L2.St} {tp : TIp} (q : te (a0 :: a1 :: a2 :: a3 :: a4 :: a5 :: a6 :: a7 :: a8 :: a9 :: a10 :: a11 :: a12 :: a13 :: a14 :: a15 :: a16 :: a17 :: a18 :: a19 :: some v :: z) H fun y H1 => tp v y H1 fun w H2 => D.nx (a0 :: a1 :: a2 :: a3 :: a4 :: a5 :: a6 :: a7 :: a8 :: a9 :: a10 :: a11 :: a12 :: a13 :: a14 :: a15 :: a16 :: a17 :: a18 :: a19 :: some w :: z) H2) : tAug 20 te tp D (a0 :: a1 :: a2 :: a3 :: a4 :: a5 :: a6 :: a7 :: a8 :: a9 :: a10 :: a11 :: a12 :: a13 :: a14 :: a15 :: a16 :: a17 :: a18 :: a19 :: some v :: z) H := ⟨v, rfl, q⟩
theorem r_aug21 {a0 a1 a2 a3 a4 a5 a6 a7 a8 a9 a10 a11 a12 a13 a14 a15 a16 a17 a18 a19 a20 : Option V} {z : L2.St} {tp : TIp} (q : te (a0 :: a1 :: a2 :: a3 :: a4 :: a5 :: a6 :: a7 :: a8 :: a9 :: a10 :: a11 :: a12 :: a13 :: a14 :: a15 :: a16 :: a17 :: a18 :: a19 :: a20 :: some v :: z) H fun y H1 => tp v y H1 fun w H2 => D.nx (a0 :: a1 :: a2 :: a3 :: a4 :: a5 :: a6 :: a7 :: a8 :: a9 :: a10 :: a11 :: a12 :: a13 :: a14 :: a15 :: a16 :: a17 :: a18 :: a19 :: a20 :: some w :: z) H2) : tAug 21 te tp D (a0 :: a1 :: a2 :: a3 :: a4 :: a5 :: a6 :: a7 :: a8 :: a9 :: a10 :: a11 :: a12 :: a13 :: a14 :: a15 :: a16 :: a17 :: a18 :: a19 :: a20 :: some v :: z) H := ⟨v, rfl, q⟩
theorem r_ip {f : Int → Int → Int} {i j : Int} (q : Q (.int (f i j)) H) : ipI f (.int i) (.int j) H Q := ⟨i, j, rfl, rfl, q⟩
end

/-! ### instances in isinstance -/
structure InsI (K : PySem.W.Frag) (C : Addr) : Prop where
  cl : Cls K C
  ha : PySem.W.findIn K (.ref C) "__class__" = some (some (.builtin "object.__class__"))
  hn : PySem.W.specialIn K (.builtin "object.__class__") "__get__" = some (some (.builtin "getset_descriptor.__get__"))
  htk : PySem.W.takesIn K (.builtin "object.__class__") = some true
  hm : PySem.W.mroIn K C (.type "object") = some true
  own : PySem.W.kitOne K (.ref C) (.ref C) = some true
def insB (K : PySem.W.Frag) (C : Addr) : Bool := decide (PySem.W.findIn K (.ref C) "__class__" = some (some (.builtin "object.__class__"))) && (decide (PySem.W.specialIn K (.builtin "object.__class__") "__get__" = some (some (.builtin "getset_descriptor.__get__"))) &&
  (decide (PySem.W.takesIn K (.builtin "object.__class__") = some true) && (decide (PySem.W.mroIn K C (.type "object") = some true) && decide (PySem.W.kitOne K (.ref C) (.ref C) = some true))))
theorem insB_ok {K : PySem.W.Frag} {C : Addr} (cl : Cls K C) (h : insB K C = true) : InsI K C := by
  obtain ⟨h1, h⟩ := Bool.and_eq_true_iff.mp h
  obtain ⟨h2, h⟩ := Bool.and_eq_true_iff.mp h
  obtain ⟨h3, h⟩ := Bool.and_eq_true_iff.mp h
  obtain ⟨h4, h5⟩ := Bool.and_eq_true_iff.mp h
  exact ⟨cl, of_decide_eq_true h1, of_decide_eq_true h2, of_decide_eq_true h3, of_decide_eq_true h4, of_decide_eq_true h5⟩
theorem InsI.ty {K : PySem.W.Frag} {C a dx : Addr} {H : Hp} {fs : List (Str × V)} (I : InsI K C) (e : H a = some (.ins C dx fs)) : TyX K H (.ref a) (.ref C) := .base (.ins e I.cl I.ha I.hn I.htk I.hm)
/-! ### comprehensions and loops with the slots written out -/
section
variable {K : PySem.W.Frag} {g : TG} {tt : TT} {te : TE} {vs : List Nat} {σ : L2.St} {H1 : Hp} {D : Addr} {Qd : Hp → Prop}
theorem lc_rangeS {lo : Int} {n : Nat} (σ' : L2.St) (hσ : wipe σ vs = σ') (Pv : Nat → Hp → Prop) (h0 : Pv 0 (upd H1 D (.lst [])))
    (hs : ∀ i H, i < n → Pv i H → g (.int (lo + i)) σ' H fun σ2 H2 => wipe σ2 vs = σ' ∧ tt σ2 H2 fun b H3 =>
      if b = true then te σ2 H3 fun y H4 => ∃ acc, H4 D = some (.lst acc) ∧ acc.length < sizeLine ∧ Pv (i + 1) (upd H4 D (.lst (acc ++ [y]))) else Pv (i + 1) H3) (hd : ∀ H, Pv n H → Qd H) :
    ∃ W : Nat → Nat → Hp → Prop, (∃ m, W 0 m (upd H1 D (.lst []))) ∧ ∀ i m H, W i m H →
      ((Itr lo n).stop i H ∧ Qd H) ∨ ((Itr lo n).go i H ∧ ∃ Nx : Hp → Prop, (∀ H', Nx H' → ∃ m', m' < m ∧ W (i + 1) m' H') ∧ ∀ x H', (Itr lo n).yld i H x H' → g x (wipe σ vs) H' fun σ2 H2 => wipe σ2 vs = wipe σ vs ∧ tt σ2 H2 fun b H3 =>
        if b = true then te σ2 H3 fun y H4 => ∃ acc, H4 D = some (.lst acc) ∧ acc.length < sizeLine ∧ Nx (upd H4 D (.lst (acc ++ [y]))) else Nx H3) := by
  subst hσ
  exact lc_range Pv h0 hs hd
theorem lc_listS {a : Addr} {xs : List V} (σ' : L2.St) (hσ : wipe σ vs = σ') (Pv : Nat → Hp → Prop) (h0 : Pv 0 (upd H1 D (.lst []))) (hl : ∀ i H, i ≤ xs.length → Pv i H → SqL K H a xs)
    (hs : ∀ i x H, xs[i]? = some x → Pv i H → g x σ' H fun σ2 H2 => wipe σ2 vs = σ' ∧ tt σ2 H2 fun b H3 =>
      if b = true then te σ2 H3 fun y H4 => ∃ acc, H4 D = some (.lst acc) ∧ acc.length < sizeLine ∧ Pv (i + 1) (upd H4 D (.lst (acc ++ [y]))) else Pv (i + 1) H3) (hd : ∀ H, Pv xs.length H → Qd H) :
    ∃ W : Nat → Nat → Hp → Prop, (∃ m, W 0 m (upd H1 D (.lst []))) ∧ ∀ i m H, W i m H →
      ((Itl K a).stop i H ∧ Qd H) ∨ ((Itl K a).go i H ∧ ∃ Nx : Hp → Prop, (∀ H', Nx H' → ∃ m', m' < m ∧ W (i + 1) m' H') ∧ ∀ x H', (Itl K a).yld i H x H' → g x (wipe σ vs) H' fun σ2 H2 => wipe σ2 vs = wipe σ vs ∧ tt σ2 H2 fun b H3 =>
        if b = true then te σ2 H3 fun y H4 => ∃ acc, H4 D = some (.lst acc) ∧ acc.length < sizeLine ∧ Nx (upd H4 D (.lst (acc ++ [y]))) else Nx H3) := by
  subst hσ
  exact lc_list Pv h0 hl hs hd
end
/-- the reading of a for loop, its iterator told by its end -/
def rFor (g : TG) (tb : TS) (D : Ends) (σ : L2.St) (J : It) (H1 : Hp) : Prop := ∃ W : Nat → Nat → L2.St → Hp → Prop, (∃ m, W 0 m σ H1) ∧ ∀ i m σ H, W i m σ H →
  (J.stop i H ∧ D.nx σ H) ∨ (J.go i H ∧ ∃ N : L2.St → Hp → Prop, (∀ σ' H', N σ' H' → ∃ m', m' < m ∧ W (i + 1) m' σ' H') ∧ ∀ x H', J.yld i H x H' → g x σ H' fun σ2 H2 => tb { D with nx := N, ct := N, bk := D.nx } σ2 H2)
theorem r_for {wi : TI} {g : TG} {tb : TS} {D : Ends} {σ : L2.St} {H : Hp} (q : wi σ H fun J H1 => rFor g tb D σ J H1) : tFor wi g tb D σ H := q
theorem r_forR {lo : Int} {n : Nat} {g : TG} {tb : TS} {D : Ends} {σ : L2.St} {H : Hp} (Pv : Nat → L2.St → Hp → Prop) (h0 : Pv 0 σ H)
    (hs : ∀ i σ H, i < n → Pv i σ H → g (.int (lo + i)) σ H fun σ2 H2 => tb { D with nx := Pv (i + 1), ct := Pv (i + 1), bk := D.nx } σ2 H2) (hd : ∀ σ H, Pv n σ H → D.nx σ H) : rFor g tb D σ (Itr lo n) H := for_range Pv h0 hs hd
theorem r_forL {K : PySem.W.Frag} {a : Addr} {xs : List V} {g : TG} {tb : TS} {D : Ends} {σ : L2.St} {H : Hp} (Pv : Nat → L2.St → Hp → Prop) (h0 : Pv 0 σ H) (hl : ∀ i σ H, i ≤ xs.length → Pv i σ H → SqL K H a xs)
    (hs : ∀ i x σ H, xs[i]? = some x → Pv i σ H → g x σ H fun σ2 H2 => tb { D with nx := Pv (i + 1), ct := Pv (i + 1), bk := D.nx } σ2 H2) (hd : ∀ σ H, Pv xs.length σ H → D.nx σ H) : rFor g tb D σ (Itl K a) H := for_list Pv h0 hl hs hd
theorem Dr.mut {a p : Addr} {H H' : Hp} {o : HO} (x : Dr a H H') (hp : H p = none) (n : p ≠ a) : Dr a H (L2.upd H' p o) := by
  obtain ⟨c0, c1, c2, h⟩ := x.src
  refine ⟨⟨c0, c1, c2, by rw [upd_ne (Ne.symm n)]; exact h⟩, fun b u nb e => ?_⟩
  rw [upd_ne (ne_of_none e hp)]
  exact x.old b u nb e
/-- all that stands of a list stands, a draw's source apart -/
theorem Dr.keep {a b : Addr} {H H' : Hp} {o : HO} (x : Dr a H H') (n : b ≠ a) (h : H b = some o) : H' b = some o := x.old b o n h
theorem Src.ne_ins {H : Hp} {a b C dx : Addr} {fs : List (Str × V)} (x : Src H a) (h : H b = some (.ins C dx fs)) : b ≠ a := by
  obtain ⟨c0, c1, c2, e⟩ := x
  exact ne_of h e (by intro z; cases z)
theorem Src.ne_tup {H : Hp} {a b : Addr} {xs : List V} (x : Src H a) (h : H b = some (.tup xs)) : b ≠ a := by
  obtain ⟨c0, c1, c2, e⟩ := x
  exact ne_of h e (by intro z; cases z)
theorem Src.ne_lst4 {H : Hp} {a b : Addr} {xs : List V} (x : Src H a) (h : H b = some (.lst xs)) (n : xs.length ≠ 3 := by simp) : b ≠ a := by
  obtain ⟨c0, c1, c2, e⟩ := x
  refine ne_of h e fun z => n ?_
  cases z
  rfl
theorem r_isiT {K : PySem.W.Frag} {H : Hp} {Q : VK} {x : V} {T T' : String} {b : Bool} (ty : TyX K H x (.type T)) (e : kitB T T' = some b) (q : Q (.bl b) H) : rIsi K [x, .ty T'] H Q := r_isi (.ty T') ty (kit_ty e) q
theorem r_isiC {K : PySem.W.Frag} {H : Hp} {Q : VK} {a C dx : Addr} {fs : List (Str × V)} (I : InsI K C) (e : H a = some (.ins C dx fs)) (q : Q (.bl true) H) : rIsi K [.ref a, .ref C] H Q := r_isi (.own C) (I.ty e) I.own q
theorem max_le {ns : List Int} {m b : Int} (hm : m ∈ ns) (h : ∀ n ∈ ns, n ≤ b) : m ≤ b := h m hm
theorem take_map_bl {bs : List Bool} (h : ∀ b ∈ bs, b = true) : bs.all id = true := by
  rw [List.all_eq_true]
  intro b hb
  rw [h b hb]
  rfl
theorem iteNt {A B : Prop} (h : B) : if (!true) = true then A else B := iteF h
theorem iteNf {A B : Prop} (h : A) : if (!false) = true then A else B := iteT h
theorem r_newS {o : HO} {H : Hp} {Q : VK} (q : ∀ (p : Addr) (H' : Hp), H p = none → Same H H' → H' p = some o → Q (.ref p) H') : rNew o H Q := fun p hp => q p _ hp (same_new hp) upd_same
theorem Src.same {H H' : Hp} {a : Addr} (x : Src H a) (s : Same H H') : Src H' a := by
  obtain ⟨c0, c1, c2, h⟩ := x
  exact ⟨c0, c1, c2, s _ _ h⟩
theorem Dr.same {a : Addr} {H H1 H2 : Hp} (x : Dr a H H1) (s : Same H1 H2) : Dr a H H2 := ⟨x.src.same s, fun b o n h => s b o (x.old b o n h)⟩
theorem Dr.ofSame {a : Addr} {H H1 : Hp} (x : Src H a) (s : Same H H1) : Dr a H H1 := ⟨x.same s, fun b o _ h => s b o h⟩
/-! ### sum of a tuple of ints -/
def rSumT (K : PySem.W.Frag) : List V → Hp → VK → Prop := fun vs H Q => ∃ (a : Addr) (ns : List Int), vs = [V.ref a] ∧ SqT K H a (ns.map V.int) ∧ Q (.int ns.sum) H
theorem preSum_list (ns : List Int) : ∀ j, PySem.preSum (fun i => ns.getD i 0) j = (ns.take j).sum
  | 0 => rfl
  | j + 1 => by
    show PySem.preSum (fun i => ns.getD i 0) j + ns.getD j 0 = _
    rw [preSum_list ns j, List.getD_eq_getElem?_getD, List.take_add_one, List.sum_append]
    cases ns[j]? with
    | none => rfl
    | some z =>
      show (ns.take j).sum + z = (ns.take j).sum + ([z] : List Int).sum
      rw [List.sum_cons]
      show _ = _ + (z + 0)
      rw [Int.add_zero]
theorem c_sumT {X : Cx} (hc : X.calm = true) : CallR X (.builtin "sum") (rSumT X.K) := by
  intro pins s σ H vs us Q I r h
  obtain ⟨a, ns, rfl, hs, q⟩ := h
  obtain ⟨its, rv, hl, _⟩ := I.tuple hs
  rw [Vals.ref1 r]
  have hh : X.A.in1.handled = none := by
    have := I.ok.hd hc
    simpa using this
  obtain ⟨o, ho, hrest⟩ := id hl
  have hlt : a < s.heap.objs.size := Heap.lt_size ho
  have hlen : its.length = ns.length := by rw [← rv.length, List.length_map]
  refine PySem.call_sum_walkG (wpAny_pyIter_tuple (show s.heap.IsTuple a its.toArray from hl) ?_)
  refine ⟨s.heap.objs.size, _, [s.heap.objs.size], _, _, _, fun i => ns.getD i 0, rfl, Walks.tuple (A := X.A.in1) hh s.heap.objs.size a (Nat.ne_of_lt hlt) its.toArray, ⟨⟨_, Heap.get?_push_size _ rfl, rfl, rfl⟩, IsTup.push hl _⟩, fun b hb => ?_, fun i v hv => ?_, fun h' tk t' hk => ?_⟩
  · rw [Heap.size_push]
    simp only [List.mem_cons, List.not_mem_nil, or_false] at hb
    rcases hb with rfl | rfl
    · exact Nat.lt_succ_self _
    · exact Nat.lt_succ_of_lt hlt
  · have hv2 : its[i]? = some v := by simpa using hv
    have hi : i < its.length := (List.getElem?_eq_some_iff.mp hv2).1
    obtain ⟨u, hu, ru⟩ := rv.get (i := i) (x := V.int (ns.getD i 0)) (by
      rw [List.getElem?_map, List.getD_eq_getElem?_getD, List.getElem?_eq_getElem (by omega : i < ns.length)]
      rfl)
    rw [hv2] at hu
    obtain ⟨t, e⟩ := ru
    exact ⟨t, by rw [Option.some.inj hu, e]⟩
  · have e : PySem.preSum (fun i => ns.getD i 0) its.toArray.size = ns.sum := by
      rw [preSum_list, List.size_toArray, List.take_of_length_le (by omega)]
    rw [e]
    exact ⟨.int ns.sum, H, I.kept (t' := tk) (fun b o e => hk b o (fun z => by
      rw [List.mem_singleton] at z
      rw [z] at e
      exact absurd (Heap.lt_size e) (Nat.lt_irrefl _)) (Heap.get?_push_of_some _ e)), ⟨_, rfl⟩, q⟩
theorem r_sumT {K : PySem.W.Frag} {H : Hp} {Q : VK} {a : Addr} {ns : List Int} (h : SqT K H a (ns.map V.int)) (q : Q (.int ns.sum) H) : rSumT K [.ref a] H Q := ⟨a, ns, rfl, h, q⟩
/-! ### while -/
def rWh (tb : TS) (D : Ends) (Pv : Nat → L2.St → Hp → Prop) (m : Nat) (σ : L2.St) (b : Bool) (H1 : Hp) : Prop :=
  if b = true then ∃ N : L2.St → Hp → Prop, (∀ σ' H', N σ' H' → ∃ m', m' < m ∧ Pv m' σ' H') ∧ tb { D with nx := N, ct := N, bk := D.nx } σ H1 else D.nx σ H1
theorem r_while {c : TT} {tb : TS} {D : Ends} {σ : L2.St} {H : Hp} (Pv : Nat → L2.St → Hp → Prop) (m0 : Nat) (h0 : Pv m0 σ H) (hs : ∀ m σ H, Pv m σ H → c σ H fun b H1 => rWh tb D Pv m σ b H1) : tWhile c tb D σ H := ⟨Pv, ⟨m0, h0⟩, hs⟩
theorem r_whT {tb : TS} {D : Ends} {Pv : Nat → L2.St → Hp → Prop} {m : Nat} {σ : L2.St} {H1 : Hp} (q : tb { D with nx := fun σ' H' => ∃ m', m' < m ∧ Pv m' σ' H', ct := fun σ' H' => ∃ m', m' < m ∧ Pv m' σ' H', bk := D.nx } σ H1) : rWh tb D Pv m σ true H1 := by
  unfold rWh
  rw [if_pos rfl]
  exact ⟨_, fun _ _ h => h, q⟩
theorem r_whF {tb : TS} {D : Ends} {Pv : Nat → L2.St → Hp → Prop} {m : Nat} {σ : L2.St} {H1 : Hp} (q : D.nx σ H1) : rWh tb D Pv m σ false H1 := by
  unfold rWh
  rw [if_neg Bool.false_ne_true]
  exact q
theorem r_whD {tb : TS} {D : Ends} {Pv : Nat → L2.St → Hp → Prop} {m : Nat} {σ : L2.St} {H1 : Hp} {p : Prop} [Decidable p] (h1 : p → tb { D with nx := fun σ' H' => ∃ m', m' < m ∧ Pv m' σ' H', ct := fun σ' H' => ∃ m', m' < m ∧ Pv m' σ' H', bk := D.nx } σ H1) (h2 : ¬ p → D.nx σ H1) : rWh tb D Pv m σ (decide p) H1 := by
  by_cases h : p
  · rw [decide_eq_true h]
    exact r_whT (h1 h)
  · rw [decide_eq_false h]
    exact r_whF (h2 h)
theorem ix_mod {xs : List V} {z : Int} {r n : Nat} {v : V} (e : z = ((r % n : Nat) : Int)) (h : xs[r % n]? = some v) : atI xs z = some v := at_of e h
/-! ### dicts with int keys -/
section
variable {σ : L2.St} {H : Hp} {Q : VK} {D : Ends} {ty td tv : TE} {v : V}
def rDk (x y : V) (H : Hp) (R : Option V → Prop) : Prop := ∃ a o, x = .ref a ∧ DGet H a y o ∧ R o
theorem r_dnotin (q : ty σ H fun y H1 => td σ H1 fun x H2 => rDk x y H2 fun o => Q (.bl (!o.isSome)) H2) : tDNotIn ty td σ H Q := q
theorem r_din (q : ty σ H fun y H1 => td σ H1 fun x H2 => rDk x y H2 fun o => Q (.bl o.isSome) H2) : tDIn ty td σ H Q := q
theorem r_dk {a : Addr} {kvs : List (Key × V)} {k : Int} {R : Option V → Prop} (h : H a = some (.dK kvs)) (q : R (valV kvs (Sum.inl k))) : rDk (.ref a) (.int k) H R := ⟨a, _, rfl, DGet.k (k := Sum.inl k) h, q⟩
def rDg (x y : V) (H : Hp) (Q : VK) : Prop := ∃ a v, x = .ref a ∧ DGet H a y (some v) ∧ Q v H
theorem r_dget (q : td σ H fun x H1 => ty σ H1 fun y H2 => rDg x y H2 Q) : tDGet td ty σ H Q := q
theorem r_dg {a : Addr} {kvs : List (Key × V)} {k : Int} (h : H a = some (.dK kvs)) (e : valV kvs (Sum.inl k) = some v) (q : Q v H) : rDg (.ref a) (.int k) H Q := ⟨a, v, rfl, by rw [← e]; exact DGet.k (k := Sum.inl k) h, q⟩
def rDp (x y v : V) (H : Hp) (Qn : Hp → Prop) : Prop := ∃ a H4, x = .ref a ∧ DPut H a y v H4 ∧ Qn H4
theorem r_dput (q : tv σ H fun v H1 => td σ H1 fun x H2 => ty σ H2 fun y H3 => rDp x y v H3 fun H4 => D.nx σ H4) : sDPut td ty tv D σ H := q
theorem r_dp {a : Addr} {kvs : List (Key × V)} {k : Int} {Qn : Hp → Prop} (h : H a = some (.dK kvs)) (hl : kvs.length < 100000) (q : Qn (upd H a (.dK (putK kvs (Sum.inl k) v)))) : rDp (.ref a) (.int k) v H Qn := ⟨a, _, rfl, DPut.k (k := Sum.inl k) h (szl hl), q⟩
theorem r_dnew (q : rNew (.dK []) H Q) : tDNewK σ H Q := q
end
/-- the list of f 0 .. f (n - 1) -/
def tabL (f : Nat → V) (n : Nat) : List V := (List.range n).map f
theorem tabL_len (f : Nat → V) (n : Nat) : (tabL f n).length = n := by simp [tabL]
theorem tabL_get (f : Nat → V) {n i : Nat} (h : i < n) : (tabL f n)[i]? = some (f i) := by
  unfold tabL
  rw [List.getElem?_map, List.getElem?_range h]
  rfl
theorem tabL_succ (f : Nat → V) (n : Nat) : tabL f (n + 1) = tabL f n ++ [f n] := by
  unfold tabL
  rw [List.range_succ, List.map_append]
  rfl
theorem tabL_last (f : Nat → V) (n : Nat) : atI (tabL f (n + 1)) (-1) = some (f n) := by
  rw [tabL_succ]
  exact atI_last _ _
theorem tabL_at (f : Nat → V) {n i : Nat} {z : Int} (e : z = (i : Int)) (h : i < n) : atI (tabL f n) z = some (f i) := at_of e (tabL_get f h)
/-! == and != of rows of ints -/
theorem dpInts {K : PySem.W.Frag} {H : Hp} : ∀ is : List Int, DpAll K H (is.map V.int) (is.map PyData.int)
  | [] => .nil
  | i :: is => .cons (.int i) (dpInts is)
theorem eqvInts : ∀ is js : List Int, PyData.eqvAll (is.map PyData.int) (js.map PyData.int) = decide (is = js)
  | [], [] => by simp [PyData.eqvAll]
  | [], _ :: _ => by simp [PyData.eqvAll]
  | _ :: _, [] => by simp [PyData.eqvAll]
  | a :: is, b :: js => by
    show (PyData.eqv (.int a) (.int b) && PyData.eqvAll (is.map PyData.int) (js.map PyData.int)) = _
    rw [eqvInts is js]
    show ((a == b) && decide (is = js)) = decide (a :: is = b :: js)
    by_cases h : a = b <;> by_cases h2 : is = js <;> simp [h, h2]
theorem layInts : ∀ is : List Int, PyData.canLayAll0 (is.map PyData.int) = true ∧ PyData.depthAll (is.map PyData.int) = 0
  | [] => ⟨rfl, rfl⟩
  | _ :: is => by simp [PyData.canLayAll0, PyData.canLay0, PyData.depthAll, PyData.depth, layInts is]
theorem shL (is : List Int) : SeqAt.shaped (.list (is.map PyData.int)) = true := by simp [SeqAt.shaped, PyData.canLay0, PyData.depth, layInts is]
theorem shT (is : List Int) : SeqAt.shaped (.tuple (is.map PyData.int)) = true := by simp [SeqAt.shaped, PyData.canLay0, PyData.depth, layInts is]
section
variable {K : PySem.W.Frag} {H : Hp} {Q : VK} {a b : Addr} {is js : List Int}
theorem r_eqTT (h : SqT K H a (is.map V.int)) (g : SqT K H b (js.map V.int)) (q : Q (.bl (decide (is = js))) H) : rEqD K (.ref a) (.ref b) H Q :=
  ⟨_, _, .tup h (dpInts is), .tup g (dpInts js), shT is, shT js, by rw [show PyData.eqv (.tuple (is.map PyData.int)) (.tuple (js.map PyData.int)) = decide (is = js) from eqvInts is js]; exact q⟩
theorem r_neTT (h : SqT K H a (is.map V.int)) (g : SqT K H b (js.map V.int)) (q : Q (.bl (!decide (is = js))) H) : rNeD K (.ref a) (.ref b) H Q :=
  ⟨_, _, .tup h (dpInts is), .tup g (dpInts js), shT is, shT js, by rw [show PyData.eqv (.tuple (is.map PyData.int)) (.tuple (js.map PyData.int)) = decide (is = js) from eqvInts is js]; exact q⟩
theorem r_eqLL (h : SqL K H a (is.map V.int)) (g : SqL K H b (js.map V.int)) (q : Q (.bl (decide (is = js))) H) : rEqD K (.ref a) (.ref b) H Q :=
  ⟨_, _, .lst h (dpInts is), .lst g (dpInts js), shL is, shL js, by rw [show PyData.eqv (.list (is.map PyData.int)) (.list (js.map PyData.int)) = decide (is = js) from eqvInts is js]; exact q⟩
theorem r_neLL (h : SqL K H a (is.map V.int)) (g : SqL K H b (js.map V.int)) (q : Q (.bl (!decide (is = js))) H) : rNeD K (.ref a) (.ref b) H Q :=
  ⟨_, _, .lst h (dpInts is), .lst g (dpInts js), shL is, shL js, by rw [show PyData.eqv (.list (is.map PyData.int)) (.list (js.map PyData.int)) = decide (is = js) from eqvInts is js]; exact q⟩
end
/-- another cell than one that was free -/
theorem Same.ne_free {H H' : Hp} {a b : Addr} {o : HO} (h : H a = some o) (f : H b = none) : a ≠ b := ne_of_none h f
def rTri (vs : List V) (R : V → V → V → Prop) : Prop := ∃ u v w, vs = [u, v, w] ∧ R u v w
theorem r_par3 {tr : TA} {D : Ends} {σ : L2.St} {H : Hp} {i j l : Nat} (q : tr σ H fun vs H1 => rTri vs fun u v w => gName i u σ H1 fun σ' H' => gName j v σ' H' fun σ2 H2 => gName l w σ2 H2 D.nx) : tPar3 i j l tr D σ H := q
theorem r_tri {u v w : V} {R : V → V → V → Prop} (q : R u v w) : rTri [u, v, w] R := ⟨u, v, w, rfl, q⟩
theorem ix_listK {X : Cx} {K : PySem.W.Frag} (h : X.K = K) : IxR X (rIxL K) := h ▸ ix_list
theorem ix_tupK {X : Cx} {K : PySem.W.Frag} (h : X.K = K) : IxR X (rIxT K) := h ▸ ix_tup
theorem c_lenK {X : Cx} {K : PySem.W.Frag} (h : X.K = K) : CallR X (.builtin "len") (rLenL K) := h ▸ c_len
theorem r_slT {K : PySem.W.Frag} {H : Hp} {Q : VK} {a : Addr} {xs : List V} {k : Nat} (h : SqT K H a xs) (hk : k < xs.length) (q : rNew (.tup (xs.take k)) H Q) : rSlT K (.ref a) none (some (k : Int)) H Q := by
  have e : HT.sIx xs.length xs.length (some (k : Int)) = k := by
    rw [HT.sIx_nat]
    exact Nat.min_eq_left (Nat.le_of_lt hk)
  have e0 : cutV xs none (some (k : Int)) = xs.take k := by
    show (xs.drop 0).take (HT.sIx xs.length xs.length (some (k : Int)) - 0) = _
    rw [e]
    rfl
  refine ⟨a, xs, rfl, h, fun z => ?_, ?_⟩
  · have := z.2
    rw [e] at this
    omega
  · rw [e0]
    exact q
theorem But.mut {a p : Addr} {H H' : Hp} {o : HO} (x : But a H H') (hp : H p = none) : But a H (L2.upd H' p o) := fun b u n e => by
  rw [upd_ne (ne_of_none e hp)]
  exact x b u n e
theorem But.same {a : Addr} {H H1 H2 : Hp} (x : But a H H1) (s : Same H1 H2) : But a H H2 := fun b o n h => s b o (x b o n h)
theorem Src.upd_ne {H : Hp} {a p : Addr} {o : HO} (x : Src H a) (n : p ≠ a) : Src (L2.upd H p o) a := by
  obtain ⟨c0, c1, c2, h⟩ := x
  exact ⟨c0, c1, c2, by rw [L2.upd_ne (Ne.symm n)]; exact h⟩
theorem tabL_atA (f : Nat → V) {n i : Nat} {z : Int} {zs : List V} (e : z = (i : Int)) (h : i < n) : atI (tabL f n ++ zs) z = some (f i) := by
  refine at_of e ?_
  rw [List.getElem?_append_left (by rw [tabL_len]; exact h)]
  exact tabL_get f h
/-! for i, x in enumerate(xs) -/
def rEn (K : PySem.W.Frag) (vs : List V) (H : Hp) (R : Addr → Prop) : Prop := ∃ a xs, vs = [V.ref a] ∧ SqL K H a xs ∧ R a
theorem r_enum {K : PySem.W.Frag} {tr : TA} {σ : L2.St} {H : Hp} {R : It → Hp → Prop} (q : tr σ H fun vs H1 => rEn K vs H1 fun a => R (Ite K a) H1) : iEnum K tr σ H R := q
theorem r_en {K : PySem.W.Frag} {H : Hp} {a : Addr} {xs : List V} {R : Addr → Prop} (h : SqL K H a xs) (q : R a) : rEn K [.ref a] H R := ⟨a, xs, rfl, h, q⟩
theorem r_forE {K : PySem.W.Frag} {a : Addr} {xs : List V} {g : TG} {tb : TS} {D : Ends} {σ : L2.St} {H : Hp} (Pv : Nat → L2.St → Hp → Prop) (h0 : Pv 0 σ H) (hl : ∀ i σ H, i ≤ xs.length → Pv i σ H → SqL K H a xs)
    (hs : ∀ i x σ H T H', xs[i]? = some x → Pv i σ H → H T = none → Same H H' → H' T = some (.tup [.int (i : Nat), x]) → g (.ref T) σ H' fun σ2 H2 => tb { D with nx := Pv (i + 1), ct := Pv (i + 1), bk := D.nx } σ2 H2) (hd : ∀ σ H, Pv xs.length σ H → D.nx σ H) : rFor g tb D σ (Ite K a) H := by
  refine ⟨fun i m σ H => m = xs.length - i ∧ i ≤ xs.length ∧ Pv i σ H, ⟨_, rfl, Nat.zero_le _, h0⟩, ?_⟩
  rintro i m σ H ⟨rfl, hi, h⟩
  rcases Nat.lt_or_ge i xs.length with z | z
  · refine .inr ⟨⟨xs, xs[i], hl i σ H hi h, List.getElem?_eq_getElem z⟩, Pv (i + 1), fun σ' H' p => ⟨_, ?_, rfl, z, p⟩, ?_⟩
    · omega
    · rintro v H' ⟨T, x, rfl, hT, rfl, hx⟩
      exact hs i x σ H T _ (hx xs (hl i σ H hi h)) h hT (same_new hT) upd_same
  · have e : i = xs.length := by omega
    subst e
    exact .inl ⟨⟨xs, hl _ σ H hi h, Nat.le_refl _⟩, hd σ H h⟩
/-- the way past a test that may be left out: first what follows, then the test's own way to it -/
theorem r_decK {p : Prop} [Decidable p] {A B : Prop} (q : B) (h1 : B → p → A) : if decide p = true then A else B := by
  by_cases h : p
  · rw [decide_eq_true h]
    exact h1 q h
  · rw [decide_eq_false h]
    exact q
theorem r_neB {i j : Bool} {H : Hp} {Q : VK} (q : Q (.bl (!decide (i = j))) H) : rNe (.bl i) (.bl j) H Q := ⟨rfl, by simpa using q⟩
theorem r_eqB {i j : Bool} {H : Hp} {Q : VK} (q : Q (.bl (decide (i = j))) H) : rEq (.bl i) (.bl j) H Q := ⟨rfl, by simpa using q⟩
theorem r_BM0 {K : PySem.W.Frag} {to : TE} {σ : L2.St} {H : Hp} {Q : VK} {T : String} {rm : V → List V → Hp → VK → Prop} (q : to σ H fun x H1 => rTy K T x H1 (rm x [] H1 Q)) : tBM0 K T rm to σ H Q := q
theorem r_reverse {l : Addr} {xs : List V} {H : Hp} {Q : VK} (h : H l = some (.lst xs)) (q : Q .non (upd H l (.lst xs.reverse))) : rReverse (.ref l) [] H Q := ⟨l, xs, rfl, rfl, h, q⟩
def rRgA (x : V) (R : Int → Int → Prop) : Prop := ∃ n, x = .int n ∧ R 0 n
def rRgL (a b : Int) (H : Hp) (Q : VK) : Prop := RgOk a b ∧ ∀ q, H q = none → Q (.ref q) (upd H q (.lst (rgV a b)))
theorem r_lstRg {ta : TE} {σ : L2.St} {H : Hp} {Q : VK} (q : ta σ H fun x H1 => rRgA x fun a b => rRgL a b H1 Q) : tLstRg (tRg1 ta) σ H Q := q
theorem r_rgA {n : Int} {R : Int → Int → Prop} (q : R 0 n) : rRgA (.int n) R := ⟨n, rfl, q⟩
theorem r_rgL {b : Int} {H : Hp} {Q : VK} (h0 : 0 ≤ b) (h1 : b ≤ 16777216) (q : rNew (.lst (rgV 0 b)) H Q) : rRgL 0 b H Q := ⟨RgOk.of_le (Int.le_refl 0) h1 (by decide) h0, q⟩
/-! == of a list of a row of ints and ints -/
theorem eqvHT (A B I J : List Int) : PyData.eqv (.list (.tuple (A.map PyData.int) :: I.map PyData.int)) (.list (.tuple (B.map PyData.int) :: J.map PyData.int)) = (decide (A = B) && decide (I = J)) := by
  show (PyData.eqvAll (A.map PyData.int) (B.map PyData.int) && PyData.eqvAll (I.map PyData.int) (J.map PyData.int)) = _
  rw [eqvInts, eqvInts]
theorem eqvHL (A B I J : List Int) : PyData.eqv (.list (.list (A.map PyData.int) :: I.map PyData.int)) (.list (.list (B.map PyData.int) :: J.map PyData.int)) = (decide (A = B) && decide (I = J)) := by
  show (PyData.eqvAll (A.map PyData.int) (B.map PyData.int) && PyData.eqvAll (I.map PyData.int) (J.map PyData.int)) = _
  rw [eqvInts, eqvInts]
theorem shHT (A I : List Int) : SeqAt.shaped (.list (.tuple (A.map PyData.int) :: I.map PyData.int)) = true := by simp [SeqAt.shaped, PyData.canLay0, PyData.depth, PyData.canLayAll0, PyData.depthAll, layInts]
theorem shHL (A I : List Int) : SeqAt.shaped (.list (.list (A.map PyData.int) :: I.map PyData.int)) = true := by simp [SeqAt.shaped, PyData.canLay0, PyData.depth, PyData.canLayAll0, PyData.depthAll, layInts]
theorem r_neHT {K : PySem.W.Frag} {H : Hp} {Q : VK} {a b t u : Addr} {A B I J : List Int} (h : SqL K H a (.ref t :: I.map V.int)) (ht : SqT K H t (A.map V.int)) (g : SqL K H b (.ref u :: J.map V.int)) (gu : SqT K H u (B.map V.int))
    (q : Q (.bl (!(decide (A = B) && decide (I = J)))) H) : rNeD K (.ref a) (.ref b) H Q :=
  ⟨_, _, .lst h (.cons (.tup ht (dpInts A)) (dpInts I)), .lst g (.cons (.tup gu (dpInts B)) (dpInts J)), shHT A I, shHT B J, by rw [eqvHT]; exact q⟩
theorem r_eqHL {K : PySem.W.Frag} {H : Hp} {Q : VK} {a b t u : Addr} {A B I J : List Int} (h : SqL K H a (.ref t :: I.map V.int)) (ht : SqL K H t (A.map V.int)) (g : SqL K H b (.ref u :: J.map V.int)) (gu : SqL K H u (B.map V.int))
    (q : Q (.bl (decide (A = B) && decide (I = J))) H) : rEqD K (.ref a) (.ref b) H Q :=
  ⟨_, _, .lst h (.cons (.lst ht (dpInts A)) (dpInts I)), .lst g (.cons (.lst gu (dpInts B)) (dpInts J)), shHL A I, shHL B J, by rw [eqvHL]; exact q⟩
theorem mem_rgV {a b : Int} {v : V} (h : v ∈ rgV a b) : ∃ i : Int, v = .int i ∧ a ≤ i ∧ i < b := by
  unfold rgV at h
  obtain ⟨n, hn, rfl⟩ := List.mem_map.mp h
  have := List.mem_range.mp hn
  exact ⟨_, rfl, by omega, by omega⟩
end Kr

/-! Packing rows into heap pages: the plain mathematics (no Python here). -/
namespace Pk
/-- the length of a row -/
def lenAt (ls : List Int) (r : Nat) : Int := ls.getD (r % ls.length) 0
/-- how many units k rows from row r on have -/
def pre (ls : List Int) (r : Nat) : Nat → Int
  | 0 => 0
  | k + 1 => pre ls r k + lenAt ls (r + k)
/-- lengths that may be packed -/
structure Ok (ls : List Int) (sz : Int) : Prop where
  l1 : 1 ≤ ls.length
  l6 : ls.length ≤ 12
  all : ∀ l ∈ ls, 1 ≤ l ∧ l ≤ sz
  s64 : sz ≤ 1000
section
variable {ls : List Int} {sz : Int}
theorem len_pos (o : Ok ls sz) (r : Nat) : 1 ≤ lenAt ls r ∧ lenAt ls r ≤ sz := by
  have h : r % ls.length < ls.length := Nat.mod_lt _ o.l1
  unfold lenAt
  rw [List.getD_eq_getElem?_getD, List.getElem?_eq_getElem h]
  exact o.all _ (List.getElem_mem h)
theorem len_at (o : Ok ls sz) (r : Nat) : ls[r % ls.length]? = some (lenAt ls r) := by
  have h : r % ls.length < ls.length := Nat.mod_lt _ o.l1
  unfold lenAt
  rw [List.getD_eq_getElem?_getD, List.getElem?_eq_getElem h]
  rfl
theorem len_mod {r s : Nat} (h : r % ls.length = s % ls.length) : lenAt ls r = lenAt ls s := by
  unfold lenAt
  rw [h]
theorem add_mod_eq {n r s k : Nat} (h : r % n = s % n) : (r + k) % n = (s + k) % n := by
  rw [Nat.add_mod, h, ← Nat.add_mod]
theorem pre_mod {r s : Nat} (h : r % ls.length = s % ls.length) : ∀ k, pre ls r k = pre ls s k
  | 0 => rfl
  | k + 1 => by
    show pre ls r k + lenAt ls (r + k) = pre ls s k + lenAt ls (s + k)
    rw [pre_mod h k, len_mod (add_mod_eq h)]
theorem pre_add (r : Nat) (a : Nat) : ∀ b, pre ls r (a + b) = pre ls r a + pre ls (r + a) b
  | 0 => by
    show pre ls r a = pre ls r a + 0
    omega
  | b + 1 => by
    show pre ls r (a + b) + lenAt ls (r + (a + b)) = pre ls r a + (pre ls (r + a) b + lenAt ls (r + a + b))
    rw [pre_add r a b, Nat.add_assoc r a b]
    omega
theorem pre_mono (o : Ok ls sz) (r : Nat) {a b : Nat} (h : a ≤ b) : pre ls r a + ((b : Int) - a) ≤ pre ls r b := by
  induction b with
  | zero =>
    have : a = 0 := by omega
    subst this
    simp
  | succ b ih =>
    have l := (len_pos o (r + b)).1
    by_cases e : a = b + 1
    · subst e
      omega
    · have := ih (by omega)
      show pre ls r a + (((b + 1 : Nat) : Int) - a) ≤ pre ls r b + lenAt ls (r + b)
      omega
theorem pre_ge (o : Ok ls sz) (r k : Nat) : (k : Int) ≤ pre ls r k := by
  have := pre_mono o r (Nat.zero_le k)
  have e : pre ls r 0 = 0 := rfl
  omega
/-- k rows from r on fit, one more does not -/
def Fill (ls : List Int) (sz : Int) (r k : Nat) : Prop := pre ls r k ≤ sz ∧ sz < pre ls r (k + 1)
theorem Fill.inj (o : Ok ls sz) {r k j : Nat} (h : Fill ls sz r k) (g : Fill ls sz r j) : k = j := by
  rcases Nat.lt_trichotomy k j with z | z | z
  · have := pre_mono o r (show k + 1 ≤ j from z)
    have h2 := h.2
    have g1 := g.1
    omega
  · exact z
  · have := pre_mono o r (show j + 1 ≤ k from z)
    have h1 := h.1
    have g2 := g.2
    omega
theorem Fill.le (o : Ok ls sz) {r k : Nat} (h : Fill ls sz r k) : (k : Int) ≤ sz := by
  have := pre_ge o r k
  have := h.1
  omega
theorem Fill.pos (o : Ok ls sz) {r k : Nat} (h : Fill ls sz r k) : 1 ≤ k := by
  rcases k with _ | k
  · have h2 : sz < pre ls r 1 := h.2
    have e : pre ls r 1 = 0 + lenAt ls (r + 0) := rfl
    have := (len_pos o (r + 0)).2
    omega
  · omega
theorem Fill.mod {r s k : Nat} (h : r % ls.length = s % ls.length) (f : Fill ls sz r k) : Fill ls sz s k := by
  unfold Fill
  rw [← pre_mod h, ← pre_mod h]
  exact f
/-- the greedy count, with fuel -/
def cntF (ls : List Int) (r : Nat) (left : Int) : Nat → Nat
  | 0 => 0
  | f + 1 => if lenAt ls r ≤ left then cntF ls (r + 1) (left - lenAt ls r) f + 1 else 0
theorem pre_one (r : Nat) (k : Nat) : pre ls r (k + 1) = lenAt ls r + pre ls (r + 1) k := by
  have e := pre_add (ls := ls) r 1 k
  rw [Nat.add_comm k 1, e]
  show (0 + lenAt ls (r + 0)) + pre ls (r + 1) k = lenAt ls r + pre ls (r + 1) k
  rw [Nat.add_zero]
  omega
theorem cntF_fill (o : Ok ls sz) : ∀ (f r : Nat) (left : Int), 0 ≤ left → left < f → pre ls r (cntF ls r left f) ≤ left ∧ left < pre ls r (cntF ls r left f + 1)
  | 0, r, left, h0, h1 => by omega
  | f + 1, r, left, h0, h1 => by
    have lp := (len_pos o r).1
    unfold cntF
    split
    · rename_i h
      have ih := cntF_fill o f (r + 1) (left - lenAt ls r) (by omega) (by omega)
      rw [pre_one, pre_one]
      omega
    · rename_i h
      have e : pre ls r 1 = lenAt ls r := by
        rw [pre_one]
        show lenAt ls r + 0 = _
        omega
      exact ⟨h0, by rw [e]; omega⟩
def cnt (ls : List Int) (sz : Int) (r : Nat) : Nat := cntF ls r sz (sz.toNat + 1)
theorem cnt_fill (o : Ok ls sz) (r : Nat) : Fill ls sz r (cnt ls sz r) := by
  have := (len_pos o r).1
  have := (len_pos o r).2
  exact cntF_fill o _ r sz (by omega) (by omega)
theorem cnt_is (o : Ok ls sz) {r k : Nat} (h : Fill ls sz r k) : cnt ls sz r = k := (cnt_fill o r).inj o h
theorem cnt_mod (o : Ok ls sz) {r s : Nat} (h : r % ls.length = s % ls.length) : cnt ls sz r = cnt ls sz s := cnt_is o ((cnt_fill o s).mod h.symm)
theorem cnt_pos (o : Ok ls sz) (r : Nat) : 1 ≤ cnt ls sz r := (cnt_fill o r).pos o
theorem cnt_le (o : Ok ls sz) (r : Nat) : (cnt ls sz r : Int) ≤ sz := (cnt_fill o r).le o
/-- the first row of each heap page -/
def st (ls : List Int) (sz : Int) : Nat → Nat
  | 0 => 0
  | m + 1 => st ls sz m + cnt ls sz (st ls sz m)
theorem st_succ (m : Nat) : st ls sz (m + 1) = st ls sz m + cnt ls sz (st ls sz m) := rfl
theorem st_lt (o : Ok ls sz) (m : Nat) : st ls sz m < st ls sz (m + 1) := by
  have := cnt_pos o (st ls sz m)
  rw [st_succ]
  omega
theorem st_mono (o : Ok ls sz) {a b : Nat} (h : a < b) : st ls sz a < st ls sz b := by
  induction b with
  | zero => omega
  | succ b ih =>
    have l := st_lt o b
    rcases Nat.lt_or_ge a b with z | z
    · have := ih z
      omega
    · have : a = b := by omega
      subst this
      exact l
theorem st_le (o : Ok ls sz) {a b : Nat} (h : a ≤ b) : st ls sz a ≤ st ls sz b := by
  rcases Nat.lt_or_ge a b with z | z
  · exact Nat.le_of_lt (st_mono o z)
  · have : a = b := by omega
    subst this
    exact Nat.le_refl _
theorem st_ge (o : Ok ls sz) (m : Nat) : m ≤ st ls sz m := by
  induction m with
  | zero => exact Nat.zero_le _
  | succ m ih =>
    have := st_lt o m
    omega
theorem st_up (o : Ok ls sz) (m : Nat) : (st ls sz m : Int) ≤ m * sz := by
  induction m with
  | zero => simp [st]
  | succ m ih =>
    have := cnt_le o (st ls sz m)
    have e : ((m + 1 : Nat) : Int) * sz = m * sz + sz := by
      rw [Int.natCast_add, Int.add_mul]
      simp
    rw [st_succ, e, Int.natCast_add]
    omega
/-- places that are equal lead on alike -/
theorem st_alike (o : Ok ls sz) {a b : Nat} (h : st ls sz a % ls.length = st ls sz b % ls.length) : ∀ t, st ls sz (a + t) % ls.length = st ls sz (b + t) % ls.length ∧ st ls sz (a + t) - st ls sz a = st ls sz (b + t) - st ls sz b
  | 0 => ⟨h, by simp⟩
  | t + 1 => by
    obtain ⟨h1, h2⟩ := st_alike o h t
    have e := cnt_mod (sz := sz) o h1
    have g1 : st ls sz (a + (t + 1)) = st ls sz (a + t) + cnt ls sz (st ls sz (a + t)) := rfl
    have g2 : st ls sz (b + (t + 1)) = st ls sz (b + t) + cnt ls sz (st ls sz (b + t)) := rfl
    have k1 := st_le o (show a ≤ a + t by omega)
    have k2 := st_le o (show b ≤ b + t by omega)
    rw [g1, g2, e]
    exact ⟨add_mod_eq h1, by omega⟩
/-- a cycle: from page j on all comes again k - j pages and so many rows later -/
structure Cyc (ls : List Int) (sz : Int) (j k : Nat) : Prop where
  lt : j < k
  eq : st ls sz j % ls.length = st ls sz k % ls.length
  dis : ∀ a b, a < b → b < k → st ls sz a % ls.length ≠ st ls sz b % ls.length
/-- how many rows a cycle has -/
def rws (ls : List Int) (sz : Int) (j k : Nat) : Nat := st ls sz k - st ls sz j
theorem Cyc.rows (c : Cyc ls sz j k) (o : Ok ls sz) : 1 ≤ rws ls sz j k := by
  have := st_mono o c.lt
  unfold rws
  omega
theorem Cyc.step (c : Cyc ls sz j k) (o : Ok ls sz) {m : Nat} (h : j ≤ m) : st ls sz (m + (k - j)) = st ls sz m + rws ls sz j k := by
  obtain ⟨t, rfl⟩ := Nat.exists_eq_add_of_le h
  have := (st_alike o c.eq t).2
  have k1 := st_le o (show j ≤ j + t by omega)
  have k2 := st_le o (show k ≤ k + t by omega)
  have k3 := st_mono o c.lt
  have lt := c.lt
  have e : j + t + (k - j) = k + t := by omega
  rw [e]
  unfold rws
  omega
theorem Cyc.steps (c : Cyc ls sz j k) (o : Ok ls sz) {m : Nat} (h : j ≤ m) : ∀ t, st ls sz (m + t * (k - j)) = st ls sz m + t * rws ls sz j k
  | 0 => by simp
  | t + 1 => by
    have ih := Cyc.steps c o h t
    have e : m + (t + 1) * (k - j) = (m + t * (k - j)) + (k - j) := by
      rw [Nat.succ_mul]
      omega
    rw [e, c.step o (show j ≤ m + t * (k - j) by omega), ih, Nat.succ_mul]
    omega
theorem Cyc.place (c : Cyc ls sz j k) (o : Ok ls sz) {m : Nat} (h : j ≤ m) (t : Nat) : st ls sz (m + t * (k - j)) % ls.length = st ls sz m % ls.length := by
  induction t with
  | zero => simp
  | succ t ih =>
    have lt := c.lt
    have h1 : j ≤ m + t * (k - j) := by omega
    obtain ⟨u, hu⟩ := Nat.exists_eq_add_of_le h1
    have al := (st_alike o c.eq u).1
    have e : m + (t + 1) * (k - j) = k + u := by
      rw [Nat.succ_mul]
      omega
    rw [e, ← al, ← hu, ih]
/-- different places are no more than the lengths -/
theorem dis_le (o : Ok ls sz) {k : Nat} (dis : ∀ a b, a < b → b < k → st ls sz a % ls.length ≠ st ls sz b % ls.length) : k ≤ ls.length := by
  have key : ∀ (n k : Nat) (f : Nat → Nat), (∀ a, a < k → f a < n) → (∀ a b, a < b → b < k → f a ≠ f b) → k ≤ n := by
    intro n
    induction n with
    | zero =>
      intro k f h _
      rcases k with _ | k
      · exact Nat.le_refl _
      · exact absurd (h 0 (by omega)) (by omega)
    | succ n ih =>
      intro k f h d
      rcases k with _ | k
      · omega
      · -- move the value n out of the way
        have := ih k (fun a => if f a = n then f k else f a) (fun a ha => by
          show (if f a = n then f k else f a) < n
          have h1 := h a (by omega)
          have h2 := h k (by omega)
          have h3 := d a k ha (by omega)
          split <;> omega) (fun a b hab hb => by
          show (if f a = n then f k else f a) ≠ (if f b = n then f k else f b)
          have h3 := d a k (by omega) (by omega)
          have h4 := d b k hb (by omega)
          have h5 := d a b hab (by omega)
          split <;> split <;> omega)
        omega
  exact key ls.length k (fun a => st ls sz a % ls.length) (fun a _ => Nat.mod_lt _ o.l1) dis
theorem Cyc.le (c : Cyc ls sz j k) (o : Ok ls sz) : k ≤ ls.length := dis_le o c.dis
/-- how many whole cycles off a row is -/
theorem Cyc.turns (c : Cyc ls sz j k) (o : Ok ls sz) (r : Nat) : ∃ t : Nat, (if ((r : Int) - (st ls sz j : Nat)) / (rws ls sz j k : Nat) > 0 then ((r : Int) - (st ls sz j : Nat)) / (rws ls sz j k : Nat) else 0) = (t : Int) ∧
    t * rws ls sz j k ≤ r ∧ (t = 0 ∨ st ls sz j + t * rws ls sz j k ≤ r) ∧ r - t * rws ls sz j k < st ls sz k ∧ t ≤ r := by
  have hR := c.rows o
  have hk := st_mono o c.lt
  have hRd : st ls sz j + rws ls sz j k = st ls sz k := by unfold rws; omega
  generalize rws ls sz j k = R at *
  generalize hsj : st ls sz j = S at *
  have hdm := Int.emod_add_mul_ediv ((r : Int) - (S : Nat)) (R : Nat)
  have hm0 := Int.emod_nonneg ((r : Int) - (S : Nat)) (show ((R : Nat) : Int) ≠ 0 by omega)
  have hm1 := Int.emod_lt_of_pos ((r : Int) - (S : Nat)) (show (0 : Int) < ((R : Nat) : Int) by omega)
  generalize ((r : Int) - (S : Nat)) / ((R : Nat) : Int) = D at *
  generalize ((r : Int) - (S : Nat)) % ((R : Nat) : Int) = M at *
  by_cases h : D > 0
  · rw [if_pos h]
    obtain ⟨t, rfl⟩ := Int.eq_ofNat_of_zero_le (show 0 ≤ D by omega)
    have e : ((t * R : Nat) : Int) = (R : Int) * t := by rw [Int.natCast_mul, Int.mul_comm]
    have hle : t ≤ t * R := Nat.le_mul_of_pos_right t hR
    refine ⟨t, rfl, ?_, .inr ?_, ?_, ?_⟩ <;> omega
  · rw [if_neg h]
    refine ⟨0, rfl, by simp, .inl rfl, ?_, by omega⟩
    have : (R : Int) * D ≤ 0 := Int.mul_nonpos_of_nonneg_of_nonpos (by omega) (by omega)
    simp
    omega
/-- the page of a row, by the cycle: t whole cycles off -/
theorem Cyc.on (c : Cyc ls sz j k) (o : Ok ls sz) {r t m : Nat} (h1 : t * rws ls sz j k ≤ r) (h2 : t = 0 ∨ st ls sz j + t * rws ls sz j k ≤ r) (hm : st ls sz m ≤ r - t * rws ls sz j k ∧ r - t * rws ls sz j k < st ls sz (m + 1)) :
    st ls sz (m + t * (k - j)) ≤ r ∧ r < st ls sz (m + t * (k - j) + 1) := by
  rcases h2 with rfl | h2
  · simpa using hm
  · have hj : j ≤ m := by
      rcases Nat.lt_or_ge m j with z | z
      · have := st_le o (show m + 1 ≤ j from z)
        omega
      · exact z
    have e1 := c.steps o hj t
    have e2 := c.steps o (show j ≤ m + 1 by omega) t
    have e3 : m + 1 + t * (k - j) = m + t * (k - j) + 1 := by omega
    rw [e3] at e2
    omega
/-- the page of a row -/
def On (ls : List Int) (sz : Int) (m r : Nat) : Prop := st ls sz m ≤ r ∧ r < st ls sz (m + 1)
theorem On.inj (o : Ok ls sz) {m n r : Nat} (h : On ls sz m r) (g : On ls sz n r) : m = n := by
  rcases Nat.lt_trichotomy m n with z | z | z
  · have := st_le o (show m + 1 ≤ n from z)
    have h2 := h.2
    have g1 := g.1
    omega
  · exact z
  · have := st_le o (show n + 1 ≤ m from z)
    have h1 := h.1
    have g2 := g.2
    omega
theorem on_ex (o : Ok ls sz) (r : Nat) : ∃ m, On ls sz m r := by
  induction r with
  | zero =>
    exact ⟨0, Nat.le_refl _, by have := st_lt o 0; have e : st ls sz 0 = 0 := rfl; omega⟩
  | succ r ih =>
    obtain ⟨m, h1, h2⟩ := ih
    by_cases z : r + 1 < st ls sz (m + 1)
    · exact ⟨m, by omega, z⟩
    · exact ⟨m + 1, by omega, by have := st_lt o (m + 1); omega⟩
theorem On.mono (o : Ok ls sz) {m n r s : Nat} (h : On ls sz m r) (g : On ls sz n s) (l : r ≤ s) : m ≤ n := by
  rcases Nat.lt_or_ge n m with z | z
  · have := st_le o (show n + 1 ≤ m from z)
    have := h.1
    have := g.2
    omega
  · exact z
theorem fit_le (o : Ok ls sz) {r e : Nat} (h : pre ls r e ≤ sz) : e ≤ cnt ls sz r := by
  rcases Nat.lt_or_ge (cnt ls sz r) e with z | z
  · have := pre_mono o r (show cnt ls sz r + 1 ≤ e from z)
    have h2 := (cnt_fill o r).2
    omega
  · exact z
/-- places of a cycle come again -/
theorem Cyc.again (c : Cyc ls sz j k) (o : Ok ls sz) {m : Nat} (h : j ≤ m) : st ls sz (m + (k - j)) % ls.length = st ls sz m % ls.length := by
  have := c.place o h 1
  rwa [Nat.one_mul] at this
/-- every page's place is that of one of the first pages -/
theorem Cyc.near (c : Cyc ls sz j k) (o : Ok ls sz) : ∀ m, j ≤ m → ∃ i, j ≤ i ∧ i < k ∧ st ls sz m % ls.length = st ls sz i % ls.length := by
  intro m
  induction m using Nat.strongRecOn with
  | _ m ih =>
    intro h
    rcases Nat.lt_or_ge m k with z | z
    · exact ⟨m, h, z, rfl⟩
    · have lt := c.lt
      obtain ⟨i, h1, h2, h3⟩ := ih (m - (k - j)) (by omega) (by omega)
      refine ⟨i, h1, h2, ?_⟩
      rw [← h3]
      have := c.again o (show j ≤ m - (k - j) by omega)
      rwa [show m - (k - j) + (k - j) = m by omega] at this
/-- a search by first page, then by pages, ends at the cycle -/
theorem Cyc.only (c : Cyc ls sz j k) (o : Ok ls sz) {f p : Nat} (hf : f ≤ j) (hp : 1 ≤ p) (hs : f = j → p ≤ k - j) (e : st ls sz f % ls.length = st ls sz (f + p) % ls.length) : f = j ∧ p = k - j := by
  have lt := c.lt
  rcases Nat.lt_or_ge f j with z | z
  · exfalso
    rcases Nat.lt_or_ge (f + p) k with y | y
    · exact c.dis f (f + p) (by omega) y e
    · obtain ⟨i, h1, h2, h3⟩ := c.near o (f + p) (by omega)
      exact c.dis f i (by omega) h2 (e.trans h3)
  · have hj : f = j := by omega
    have := hs hj
    refine ⟨hj, ?_⟩
    rcases Nat.lt_or_ge (f + p) k with y | y
    · exact absurd e (c.dis f (f + p) (by omega) y)
    · omega
/-- how many whole cycles off a page is -/
theorem Cyc.pturns (c : Cyc ls sz j k) (m : Nat) : ∃ t : Nat, (if ((m : Int) - (j : Nat)) / ((k - j : Nat) : Int) > 0 then ((m : Int) - (j : Nat)) / ((k - j : Nat) : Int) else 0) = (t : Int) ∧
    t * (k - j) ≤ m ∧ (t = 0 ∨ j ≤ m - t * (k - j)) ∧ m - t * (k - j) < k ∧ t ≤ m := by
  have lt := c.lt
  have hR : 0 < k - j := by omega
  have hjk : j + (k - j) = k := by omega
  generalize k - j = R at *
  have hdm := Int.emod_add_mul_ediv ((m : Int) - (j : Nat)) (R : Nat)
  have hm0 := Int.emod_nonneg ((m : Int) - (j : Nat)) (show ((R : Nat) : Int) ≠ 0 by omega)
  have hm1 := Int.emod_lt_of_pos ((m : Int) - (j : Nat)) (show (0 : Int) < ((R : Nat) : Int) by omega)
  generalize ((m : Int) - (j : Nat)) / ((R : Nat) : Int) = D at *
  generalize ((m : Int) - (j : Nat)) % ((R : Nat) : Int) = M at *
  by_cases h : D > 0
  · rw [if_pos h]
    obtain ⟨t, rfl⟩ := Int.eq_ofNat_of_zero_le (show 0 ≤ D by omega)
    have e : ((t * R : Nat) : Int) = (R : Int) * t := by rw [Int.natCast_mul, Int.mul_comm]
    have hle : t ≤ t * R := Nat.le_mul_of_pos_right t hR
    refine ⟨t, rfl, ?_, .inr ?_, ?_, ?_⟩ <;> omega
  · rw [if_neg h]
    refine ⟨0, rfl, by simp, .inl rfl, ?_, by omega⟩
    have : (R : Int) * D ≤ 0 := Int.mul_nonpos_of_nonneg_of_nonpos (by omega) (by omega)
    simp
    omega
/-- the first row of a page, by the cycle: t whole cycles off -/
theorem Cyc.start (c : Cyc ls sz j k) (o : Ok ls sz) {m t : Nat} (h1 : t * (k - j) ≤ m) (h2 : t = 0 ∨ j ≤ m - t * (k - j)) : st ls sz m = st ls sz (m - t * (k - j)) + t * rws ls sz j k := by
  rcases h2 with rfl | h2
  · simp
  · have := c.steps o h2 t
    rwa [Nat.sub_add_cancel h1] at this
/-! settings that pack alike -/
theorem lenAt_scale (ls : List Int) (t : Int) (r : Nat) : lenAt (ls.map fun l => l * t) r = lenAt ls r * t := by
  unfold lenAt
  rw [List.length_map, List.getD_eq_getElem?_getD, List.getD_eq_getElem?_getD, List.getElem?_map]
  cases ls[r % ls.length]? with
  | none => simp
  | some v => rfl
theorem pre_scale (ls : List Int) (t : Int) (r : Nat) : ∀ k, pre (ls.map fun l => l * t) r k = pre ls r k * t
  | 0 => by simp [pre]
  | k + 1 => by
    show pre (ls.map fun l => l * t) r k + lenAt (ls.map fun l => l * t) (r + k) = (pre ls r k + lenAt ls (r + k)) * t
    rw [pre_scale ls t r k, lenAt_scale, Int.add_mul]
theorem cnt_scale {ls2 : List Int} {sz2 t d : Int} (o : Ok ls sz) (o2 : Ok ls2 sz2) (hp : ∀ r k, pre ls2 r k = pre ls r k * t) (hs : sz2 = sz * t + d) (d0 : 0 ≤ d) (d1 : d < t) (r : Nat) : cnt ls2 sz2 r = cnt ls sz r := by
  have f := cnt_fill o r
  have h1 : pre ls r (cnt ls sz r) * t ≤ sz * t := Int.mul_le_mul_of_nonneg_right f.1 (by omega)
  have h2 : (sz + 1) * t ≤ pre ls r (cnt ls sz r + 1) * t := Int.mul_le_mul_of_nonneg_right (by have := f.2; omega) (by omega)
  rw [Int.add_mul, Int.one_mul] at h2
  refine cnt_is o2 ⟨?_, ?_⟩
  · rw [hp]
    omega
  · rw [hp]
    omega
theorem st_like {ls2 : List Int} {sz2 : Int} (h : ∀ r, cnt ls2 sz2 r = cnt ls sz r) : ∀ m, st ls2 sz2 m = st ls sz m
  | 0 => rfl
  | m + 1 => by rw [st_succ, st_succ, st_like h m, h]
theorem lenAt_twice (ls : List Int) (r : Nat) : lenAt (ls ++ ls) r = lenAt ls r := by
  unfold lenAt
  rcases Nat.eq_zero_or_pos ls.length with z | z
  · have e : ls = [] := List.eq_nil_of_length_eq_zero z
    subst e
    rfl
  · have hm : r % (ls.length + ls.length) % ls.length = r % ls.length := Nat.mod_mod_of_dvd r ⟨2, by omega⟩
    have hlt : r % (ls.length + ls.length) < ls.length + ls.length := Nat.mod_lt _ (by omega)
    rw [List.length_append, List.getD_eq_getElem?_getD, List.getD_eq_getElem?_getD, ← hm]
    generalize r % (ls.length + ls.length) = i at hlt
    rcases Nat.lt_or_ge i ls.length with y | y
    · rw [List.getElem?_append_left y, Nat.mod_eq_of_lt y]
    · have e : i % ls.length = i - ls.length := by
        rw [Nat.mod_eq_sub_mod y, Nat.mod_eq_of_lt (by omega)]
      rw [List.getElem?_append_right y, e]
theorem pre_twice (ls : List Int) (r : Nat) : ∀ k, pre (ls ++ ls) r k = pre ls r k
  | 0 => rfl
  | k + 1 => by
    show pre (ls ++ ls) r k + lenAt (ls ++ ls) (r + k) = pre ls r k + lenAt ls (r + k)
    rw [pre_twice ls r k, lenAt_twice]
theorem cnt_same {ls2 : List Int} (o : Ok ls sz) (o2 : Ok ls2 sz) (hp : ∀ r k, pre ls2 r k = pre ls r k) (r : Nat) : cnt ls2 sz r = cnt ls sz r := by
  have f := cnt_fill o r
  refine cnt_is o2 ⟨?_, ?_⟩
  · rw [hp]
    exact f.1
  · rw [hp]
    exact f.2
theorem Cyc.uniq {ls2 : List Int} {sz2 : Int} {j2 k2 : Nat} (c : Cyc ls sz j k) (c2 : Cyc ls2 sz2 j2 k2) (hl : ls2.length = ls.length) (hs : ∀ m, st ls2 sz2 m = st ls sz m) : j2 = j ∧ k2 = k := by
  have e1 := c.eq
  have e2 := c2.eq
  have d2 := c2.dis
  rw [hl, hs, hs] at e2
  simp only [hl, hs] at d2
  have l1 := c.lt
  have l2 := c2.lt
  have hk : k2 = k := by
    rcases Nat.lt_trichotomy k2 k with z | z | z
    · exact absurd e2 (c.dis j2 k2 l2 z)
    · exact z
    · exact absurd e1 (d2 j k l1 z)
  subst hk
  refine ⟨?_, rfl⟩
  rcases Nat.lt_trichotomy j2 j with z | z | z
  · exact absurd (e2.trans e1.symm) (c.dis j2 j z l1)
  · exact z
  · exact absurd (e1.trans e2.symm) (c.dis j j2 z l2)
theorem Cyc.twice {ls2 : List Int} {sz2 : Int} {j2 k2 : Nat} (o : Ok ls sz) (o2 : Ok ls2 sz2) (c : Cyc ls sz j k) (c2 : Cyc ls2 sz2 j2 k2) (hl : ls2.length = ls.length + ls.length) (hs : ∀ m, st ls2 sz2 m = st ls sz m) :
    j2 = j ∧ ∃ u, k2 - j2 = u * (k - j) ∧ rws ls2 sz2 j2 k2 = u * rws ls sz j k := by
  have l1 := c.lt
  have l2 := c2.lt
  have down : ∀ {a b : Nat}, a % (ls.length + ls.length) = b % (ls.length + ls.length) → a % ls.length = b % ls.length := fun {a b} h => by
    have h1 : a % (ls.length + ls.length) % ls.length = a % ls.length := Nat.mod_mod_of_dvd a ⟨2, by omega⟩
    have h2 : b % (ls.length + ls.length) % ls.length = b % ls.length := Nat.mod_mod_of_dvd b ⟨2, by omega⟩
    rw [← h1, ← h2, h]
  have e2 := c2.eq
  rw [hl, hs, hs] at e2
  have q2 := down e2
  have d2 := c2.dis
  simp only [hl, hs] at d2
  have mono := st_mono o l1
  -- the rows of a cycle are a multiple of the lengths
  have hR : ls.length ∣ rws ls sz j k := by
    have e := c.eq
    have er : st ls sz k = st ls sz j + rws ls sz j k := by unfold rws; omega
    rw [er] at e
    have a1 := Nat.div_add_mod (st ls sz j) ls.length
    have a2 := Nat.div_add_mod (st ls sz j + rws ls sz j k) ls.length
    rw [← e] at a2
    refine ⟨(st ls sz j + rws ls sz j k) / ls.length - st ls sz j / ls.length, ?_⟩
    rw [Nat.mul_sub]
    omega
  have hj1 : j ≤ j2 := by
    rcases Nat.lt_or_ge j2 j with z | z
    · exfalso
      rcases Nat.lt_or_ge k2 k with y | y
      · exact c.dis j2 k2 l2 y q2
      · obtain ⟨i, h1, h2, h3⟩ := c.near o k2 (by omega)
        exact c.dis j2 i (by omega) h2 (q2.trans h3)
    · exact z
  have hj2 : j2 ≤ j := by
    rcases Nat.lt_or_ge j j2 with z | z
    · exfalso
      have hm : j2 ≤ j + (2 * j2) * (k - j) := by
        have : 2 * j2 * 1 ≤ 2 * j2 * (k - j) := Nat.mul_le_mul_left _ (by omega)
        omega
      obtain ⟨i, h1, h2, h3⟩ := c2.near o2 (j + (2 * j2) * (k - j)) hm
      rw [hl, hs, hs, c.steps o (Nat.le_refl j)] at h3
      obtain ⟨g, hg⟩ := hR
      have e4 : 2 * j2 * rws ls sz j k = (ls.length + ls.length) * (j2 * g) := by
        rw [hg]
        have a1 : (ls.length + ls.length) = 2 * ls.length := by omega
        rw [a1, Nat.mul_assoc, Nat.mul_assoc, Nat.mul_left_comm j2 ls.length g]
      rw [e4, Nat.add_mul_mod_self_left] at h3
      exact d2 j i (by omega) h2 h3
    · exact z
  have ej : j2 = j := by omega
  subst ej
  refine ⟨rfl, (k2 - j2) / (k - j2), ?_⟩
  have hdm := Nat.div_add_mod (k2 - j2) (k - j2)
  have hv : (k2 - j2) % (k - j2) < k - j2 := Nat.mod_lt _ (by omega)
  generalize (k2 - j2) / (k - j2) = u at *
  generalize (k2 - j2) % (k - j2) = v at *
  have v0 : v = 0 := by
    rcases Nat.eq_zero_or_pos v with z | z
    · exact z
    · exfalso
      have ek : k2 = (j2 + v) + u * (k - j2) := by
        rw [Nat.mul_comm u]
        omega
      rw [ek, c.place o (by omega) u] at q2
      exact c.dis j2 (j2 + v) (by omega) (by omega) q2
  subst v0
  have ed : k2 - j2 = u * (k - j2) := by
    rw [Nat.mul_comm u]
    omega
  refine ⟨ed, ?_⟩
  have ek : k2 = j2 + u * (k - j2) := by omega
  have es := c.steps o (Nat.le_refl j2) u
  rw [← ek] at es
  unfold rws at es ⊢
  rw [hs, hs, es]
  omega
end
end Pk

namespace Kr
open L2 PySem PySem.Spec PyProof.Rows
/-! ### x *= y -/
def ipM : TIp := fun x y H Q => ∃ i j : Int, x = .int i ∧ y = .int j ∧ CMulW i j ∧ Q (.int (i * j)) H
theorem ip_mul {X : Cx} : PIp X .Mult ipM := by
  intro pins s0 st0 H x y v u Q I r1 r2 h
  obtain ⟨i, j, rfl, rfl, hm, q⟩ := h
  obtain ⟨t, rfl⟩ := r1
  obtain ⟨t', rfl⟩ := r2
  exact imul_int ⟨.int _, H, I.tok _, ⟨_, rfl⟩, q⟩ hm.ok
theorem r_ipM {i j : Int} {H : Hp} {Q : VK} (h : CMulW i j) (q : Q (.int (i * j)) H) : ipM (.int i) (.int j) H Q := ⟨i, j, rfl, rfl, h, q⟩
/-! ### a, b = xs for a list -/
theorem r_gLst {K : PySem.W.Frag} {n : Nat} {gs : TGs} {a : Addr} {xs : List V} {st0 : L2.St} {H : Hp} {QG : L2.St → Hp → Prop} (h : SqL K H a xs) (e : xs.length = n) (q : gs xs st0 H QG) : gLst K n gs (.ref a) st0 H QG := ⟨a, xs, rfl, h, e, q⟩
theorem pg_tupK {X : Cx} {K : PySem.W.Frag} {pos : Pos} {es : List Expr} {k : Nat} {t : TGs} {n : Nat} (hK : X.K = K) (hc : X.calm = true) (h : PGs X es t)
    (hn : (assignEach es X.env).length = n := by rfl) (hst : (assignEach es X.env).findIdx? (·.1) = none := by rfl) : PG X (.Tuple es k pos) (gTup K n t) := hK ▸ pg_tup hc h hn hst
/-! ### dicts with texts as keys -/
section
variable {H : Hp} {Q : VK} {v : V} {st0 : L2.St}
theorem r_dgS {a : Addr} {kvs : List (Key × V)} {k : Str} (h : H a = some (.dK kvs)) (e : valV kvs (Sum.inr k) = some v) (q : Q v H) : rDg (.ref a) (.str k) H Q := ⟨a, v, rfl, by rw [← e]; exact DGet.k (k := Sum.inr k) h, q⟩
theorem r_dpS {a : Addr} {kvs : List (Key × V)} {k : Str} {Qn : Hp → Prop} (h : H a = some (.dK kvs)) (hl : kvs.length < 100000) (q : Qn (upd H a (.dK (putK kvs (Sum.inr k) v)))) : rDp (.ref a) (.str k) v H Qn := ⟨a, _, rfl, DPut.k (k := Sum.inr k) h (szl hl), q⟩
def rDispE (p : Addr) (ps : List (V × V)) (H2 : Hp) (Q : VK) : Prop := H2 p = some (.dK []) ∧ ∃ kvs : List (Key × V), ps = kvs.map (fun kv => (kV kv.1, kv.2)) ∧ kvs.length ≤ 15 ∧ Q (.ref p) (upd H2 p (.dK (mergeK [] kvs)))
theorem r_disp {trs : List (TE × TE)} (q : ∀ p, H p = none → tPairs trs st0 (upd H p (.dK [])) fun ps H2 => rDispE p ps H2 Q) : tDisp trs st0 H Q := q
theorem r_pairs {tk tv : TE} {r : List (TE × TE)} {QP : List (V × V) → Hp → Prop} (q : tk st0 H fun x H1 => tv st0 H1 fun y H2 => tPairs r st0 H2 fun ps H3 => QP ((x, y) :: ps) H3) : tPairs ((tk, tv) :: r) st0 H QP := q
theorem r_pairs0 {QP : List (V × V) → Hp → Prop} (q : QP [] H) : tPairs [] st0 H QP := q
theorem r_dispE {p : Addr} {ps : List (V × V)} (kvs : List (Key × V)) (h : H p = some (.dK [])) (e : ps = kvs.map (fun kv => (kV kv.1, kv.2))) (hl : kvs.length ≤ 15) (q : Q (.ref p) (upd H p (.dK (mergeK [] kvs)))) : rDispE p ps H Q := ⟨h, kvs, e, hl, q⟩
end
/-! ### list(range(a, b)), whatever its ends -/
section
variable {prog : Program} {w : World} {A : Around} {E : Value → Shared → Prop} {s : Shared}
/-- what a walk over an iterator at the heap's end makes of an empty list at S -/
theorem long_loop {R : Result → Shared → Prop} {n : Nat} {lo : Int} (hh : A.handled = none) (hz : n ≤ sizeLine) (it S : Addr) (ne : S ≠ it) (out : Value) (c0 : Nat) (s1 : Shared)
    (hit : IsLongIter s1.heap it (lo + ((0 : Nat) : Int) * 1) ((n : Int) - ((0 : Nat) : Int)) 1) (hS : s1.heap.get? S = some { cls := .type "list", data := .seq #[] c0 })
    (hR : ∀ h2 tk2 items c2, (∀ b o, b ≠ S → b ≠ it → s1.heap.get? b = some o → h2.get? b = some o) → h2.get? S = some { cls := .type "list", dict := none, data := .seq items c2, slots := #[] } →
      ItemsOf (fun i v => ∃ t, v = .int (lo + i * 1) t) items n → R (.ok (.ret out)) { s1 with heap := h2, toks := tk2 }) :
    codeAny (model prog w) A (.builtin "list.extend.loop" ⟨[.ref S, .ref it, out], []⟩) R s1 := by
  have ws := (Walks.longrange (prog := prog) (w := w) (A := A.in1) hh it lo 1 n).toS
  refine codeAny_extend_loopS ws hz S (fun m => ne (List.mem_singleton.mp m)) out n 0 s1 #[] c0 rfl (Nat.zero_le n) hit hS (ItemsOf.nil _) ?_
  intro s2 items c2 mv hS2 got
  rw [Moved.eq_with mv]
  refine hR s2.heap s2.toks items c2 (fun b o n1 n2 e => mv.heap b o (fun m => ?_) e) hS2 got
  rcases List.mem_cons.mp m with z | z
  · exact n1 z
  · exact n2 (List.mem_singleton.mp z)
theorem long_extend {R : Result → Shared → Prop} {r : Addr} {a b : Int} {t u v : Tok} {n : Nat} (hh : A.handled = none) (hr : IsRange s.heap r a b 1 t u v) (big : Builtin.Range.small a b 1 = false)
    (hn : Builtin.Range.rangeSize a b 1 = n) (hz : n ≤ 2 ^ 24) (S : Addr) (out : Value) (c0 : Nat) (hS : s.heap.get? S = some { cls := .type "list", data := .seq #[] c0 })
    (hR : ∀ h2 tk2 items c2, (∀ b o, b ≠ S → s.heap.get? b = some o → h2.get? b = some o) → h2.get? S = some { cls := .type "list", dict := none, data := .seq items c2, slots := #[] } →
      ItemsOf (fun i v => ∃ t, v = .int (a + i * 1) t) items n → R (.ok (.ret out)) { s with heap := h2, toks := tk2 }) :
    wpAny (model prog w) A.in1 (Builtin.List.listExtendWith (.ref S) (.ref r) out)
      (fun z s2 => match z with | .done f => R (.ok f) s2 | .again c2 => c2.quiet = true ∧ codeAny (model prog w) A c2 R s2) (fun x s2 => R (.error x) s2) s := by
  have nr : S ≠ r := fun z => by
    rw [z, hr] at hS
    simp at hS
  have lt : S < s.heap.objs.size := Heap.lt_size hS
  have nI : S ≠ s.heap.objs.size := Nat.ne_of_lt lt
  have loop : ∀ (h1 : Heap) (c1 tk1 : Nat), IsLongIter h1 s.heap.objs.size (a + ((0 : Nat) : Int) * 1) ((n : Int) - ((0 : Nat) : Int)) 1 → (∀ b o, b ≠ S → s.heap.get? b = some o → h1.get? b = some o) → h1.get? S = some { cls := .type "list", data := .seq #[] c1 } →
      codeAny (model prog w) A (.builtin "list.extend.loop" ⟨[.ref S, .ref s.heap.objs.size, out], []⟩) R { s with heap := h1, toks := tk1 } := fun h1 c1 tk1 x1 x2 x3 =>
    long_loop hh (by rw [sizeLine_eq]; omega) _ S nI out c1 _ x1 x3 fun h2 tk2 items c2 y1 y2 y3 => hR h2 tk2 items c2 (fun b o nb e => y1 b o nb (Nat.ne_of_lt (Heap.lt_size e)) (x2 b o nb e)) y2 y3
  unfold Builtin.List.listExtendWith
  refine wpAny_bind (wpAny_typeOf (T := "range") ⟨_, hr, rfl⟩ ?_)
  have k1 : Builtin.List.listSameRef (.ref S) (.ref r) = false := by simp [Builtin.List.listSameRef, nr]
  have k2 : (Value.type "range" == Value.type "tuple") = false := by decide
  have k3 : (Value.type "range" == Value.type "list") = false := by decide
  simp only [k1, k3, k2, Bool.or_false, Bool.false_eq_true, if_false]
  refine wpAny_bind (wpAny_pyIter_longrange hr big ?_)
  refine wpAny_bind (wpAny_holding (wpAny_hint_range (n := n) (Heap.get?_push_of_some _ hr) hn hz ?_))
  have i1 : IsLongIter (s.heap.push { cls := .type "longrange_iterator", data := .fields #[rawInt a, rawInt (Builtin.Range.rangeSize a b 1), rawInt 1] }) s.heap.objs.size (a + ((0 : Nat) : Int) * 1) ((n : Int) - ((0 : Nat) : Int)) 1 := by
    show IsLongIter _ _ _ _ _
    rw [hn]
    simpa using Heap.get?_push_size _ rfl
  have g1 := Heap.get?_push_of_some { cls := .type "longrange_iterator", data := .fields #[rawInt a, rawInt (Builtin.Range.rangeSize a b 1), rawInt 1] } hS
  refine wpAny_ite_split (fun _ => ?_) fun _ => wpAny_pure ⟨plainId_quiet F.plain_extend_loop _, loop _ c0 _ i1 (fun b o _ e => Heap.get?_push_of_some _ e) g1⟩
  refine wpAny_bind (wpAny_rule (wpAny_bind ?_))
  show wpAny _ _ (updateSeq S (·.push .none) >>= fun _ => updateSeq S (·.pop)) _ _ _
  refine wpAny_bind (wpAny_updateSeq g1 rfl ?_)
  have g2 := Heap.get?_update_self (Obj.mapSeq (·.push Value.none)) g1 rfl
  refine wpAny_updateSeq (hz := by seq_fits) g2 rfl ?_
  have g3 := Heap.get?_update_self (Obj.mapSeq (·.pop)) g2 rfl
  refine wpAny_pure ⟨plainId_quiet F.plain_extend_loop _, loop _ _ _ ?_ (fun b o nb e => ?_) g3⟩
  · exact (Heap.get?_update_other _ _ nI).trans ((Heap.get?_update_other _ _ nI).trans i1)
  · exact (Heap.get?_update_other _ _ (Ne.symm nb)).trans ((Heap.get?_update_other _ _ (Ne.symm nb)).trans (Heap.get?_push_of_some _ e))
theorem long_init {R : Result → Shared → Prop} {r : Addr} {a b : Int} {t u v : Tok} {n : Nat} (hh : A.handled = none) (hr : IsRange s.heap r a b 1 t u v) (big : Builtin.Range.small a b 1 = false)
    (hn : Builtin.Range.rangeSize a b 1 = n) (hz : n ≤ 2 ^ 24) (S : Addr) (hS : s.heap.get? S = some { cls := .type "list", data := .seq #[] })
    (hR : ∀ h2 tk2 items c2, (∀ b o, b ≠ S → s.heap.get? b = some o → h2.get? b = some o) → h2.get? S = some { cls := .type "list", dict := none, data := .seq items c2, slots := #[] } →
      ItemsOf (fun i v => ∃ t, v = .int (a + i * 1) t) items n → R (.ok (.ret .none)) { s with heap := h2, toks := tk2 }) :
    wpAny (model prog w) A.in1 (Builtin.«list.__init__» ⟨[.ref S, .ref r], []⟩)
      (fun z s2 => match z with | .done f => R (.ok f) s2 | .again c2 => c2.quiet = true ∧ codeAny (model prog w) A c2 R s2) (fun x s2 => R (.error x) s2) s := by
  have nr : S ≠ r := fun z => by
    rw [z, hr] at hS
    simp at hS
  show wpAny _ _ (do
    let old ← Builtin.List.listItems (.ref S)
    Builtin.List.listUpdate (.ref S) (fun _ => #[])
    letGo old.toList.reverse
    Builtin.List.listExtendWith (.ref S) (.ref r) .none) _ _ s
  refine wpAny_bind ?_
  unfold Builtin.List.listItems
  refine wpAny_bind (wpAny_seqItems hS rfl (wpAny_pure ?_))
  show wpAny _ _ (updateSeq S (fun _ => #[]) >>= fun _ => letGo (#[] : Array Value).toList.reverse >>= fun _ =>
    Builtin.List.listExtendWith (.ref S) (.ref r) .none) _ _ s
  refine wpAny_bind (wpAny_updateSeq hS rfl ?_)
  have g2 := Heap.get?_update_self (Obj.mapSeq (fun _ => (#[] : Array Value))) hS rfl
  have els : ∀ b o, b ≠ S → s.heap.get? b = some o → (s.heap.update S (Obj.mapSeq (fun _ => (#[] : Array Value)))).get? b = some o :=
    fun b o nb e => (Heap.get?_update_other _ _ (Ne.symm nb)).trans e
  refine wpAny_bind (wpAny_letGo ?_)
  exact long_extend hh (els r _ (Ne.symm nr) hr) big hn hz S .none _ g2 fun h2 tk2 items c2 x1 x2 x3 => hR h2 tk2 items c2 (fun b o nb e => x1 b o nb (els b o nb e)) x2 x3
theorem long_list {Q : Value → Shared → Prop} {r : Addr} {a b : Int} {t u v : Tok} {n : Nat} (hh : A.handled = none) (hr : IsRange s.heap r a b 1 t u v) (big : Builtin.Range.small a b 1 = false)
    (hn : Builtin.Range.rangeSize a b 1 = n) (hz : n ≤ 2 ^ 24)
    (hQ : ∀ h2 tk2 items c2, (∀ b o, s.heap.get? b = some o → h2.get? b = some o) → h2.get? s.heap.objs.size = some { cls := .type "list", dict := none, data := .seq items c2, slots := #[] } →
      ItemsOf (fun i v => ∃ t, v = .int (a + i * 1) t) items n → Q (.ref s.heap.objs.size) { s with heap := h2, toks := tk2 }) :
    wpAny (model prog w) A (call (.type "list") [.ref r]) Q E s := by
  refine callType_codes (Q₁ := fun x s1 => x = .ref s.heap.objs.size ∧ s1 = { s with heap := s.heap.push { cls := .type "list", data := .seq #[] } }) F.called_list (F.typeCall_list_1 _) F.entry_list_init (code_list_new _ ⟨rfl, rfl⟩) ?_
  rintro _ _ ⟨rfl, rfl⟩
  have g : (s.heap.push { cls := .type "list", data := .seq #[] }).get? s.heap.objs.size = some { cls := .type "list", data := .seq #[] } := Heap.get?_push_size _ rfl
  refine ⟨⟨_, g, rfl⟩, F.args_list_init_2 _ _, ?_⟩
  refine long_init (A := A.in1) hh (Heap.get?_push_of_some _ hr) big hn hz _ g fun h2 tk2 items c2 x1 x2 x3 => ⟨rfl, ?_⟩
  exact hQ h2 tk2 items c2 (fun b o e => x1 b o (Nat.ne_of_lt (Heap.lt_size e)) (Heap.get?_push_of_some _ e)) x2 x3
end
section
variable {X : Cx} {e : Expr} {te : L2.St → Hp → (Int → Int → Hp → Prop) → Prop}
def rRgW2 (a b : Int) (H : Hp) (Q : VK) : Prop := (b - a).toNat ≤ 2 ^ 24 ∧ ∀ q, H q = none → Q (.ref q) (upd H q (.lst (rgV a b)))
def tLstRgW (te : L2.St → Hp → (Int → Int → Hp → Prop) → Prop) : TE := fun st0 H Q => te st0 H fun a b H1 => rRgW2 a b H1 Q
theorem pe_listRgW {p pos : Pos} (hc : X.calm = true) (hg : Gl X "list") (hm : X.mg "list" = none) (he : PRg X e te) (na : starEach [e] X.env = (false, eval e X.env) :: starEach [] X.env := by rfl) : PE X (.Call (.Name "list" p) [e] [] pos) (tLstRgW te) := by
  refine ⟨fun pins s0 st0 H Q I h => ?_⟩
  refine Call_ (ld_blt I hg hm boot_list (PyProof.Rows.callWith_type1 (args_cons (thn (he pins s0 st0 H _ I h) fun x s1 ⟨r, a, b, t, u, v, H1, ex, hr, I1, hz, q⟩ => args_nil ?_) na) na))
  subst ex
  have fin : ∀ h2 tk2 items c2, (∀ b o, s1.heap.get? b = some o → h2.get? b = some o) → h2.get? s1.heap.objs.size = some { cls := .type "list", dict := none, data := .seq items c2, slots := #[] } →
      ItemsOf (fun i v => ∃ t, v = .int (a + i * 1) t) items (b - a).toNat → EP X pins st0 Q (.ref s1.heap.objs.size) { s1 with heap := h2, toks := tk2 } := fun h2 tk2 items c2 keep at2 got => by
    refine ⟨.ref s1.heap.objs.size, upd H1 s1.heap.objs.size (.lst (rgV a b)), I1.laid keep (Nat.le_refl _) (show ObjOk X.prog X.w _ _ _ (.lst (rgV a b)) from ⟨?_, items.toList, c2, vals_rg got, ?_⟩), rfl, q _ (I1.hok.fresh (Nat.le_refl _))⟩
    · rw [rgV_length, sizeLine_eq]
      omega
    · rw [Array.toArray_toList]
      exact at2
  cases hsm : Builtin.Range.small a b 1 with
  | true => exact call_list_range (n := (b - a).toNat) (I1.ok.hd hc) hr hsm (rangeSize_nat a b) hz fin
  | false => exact long_list (n := (b - a).toNat) (I1.ok.hd hc) hr hsm (rangeSize_nat a b) hz fin
end
section
variable {st0 : L2.St} {H : Hp} {Q : VK}
theorem r_lstRgW {te : L2.St → Hp → (Int → Int → Hp → Prop) → Prop} (q : te st0 H fun a b H1 => rRgW2 a b H1 Q) : tLstRgW te st0 H Q := q
def rRg2P (x y : V) (R : Int → Int → Prop) : Prop := ∃ i j, x = .int i ∧ y = .int j ∧ R i j
theorem r_tRg2 {ta tb : TE} {R : Int → Int → Hp → Prop} (q : ta st0 H fun x H1 => tb st0 H1 fun y H2 => rRg2P x y fun i j => R i j H2) : tRg2 ta tb st0 H R := q
theorem r_rg2P {i j : Int} {R : Int → Int → Prop} (q : R i j) : rRg2P (.int i) (.int j) R := ⟨i, j, rfl, rfl, q⟩
theorem r_rgW2 {a b : Int} (h : (b - a).toNat ≤ 2 ^ 24) (q : rNew (.lst (rgV a b)) H Q) : rRgW2 a b H Q := ⟨h, q⟩
end
/-! ### == of a row of ints, or None -/
section
variable {K : PySem.W.Frag} {H : Hp} {Q : VK} {a b : Addr} {is js : List Int}
theorem r_eqNN (q : Q (.bl true) H) : rEqD K .non .non H Q := ⟨_, _, .non, .non, rfl, rfl, q⟩
theorem r_neNN (q : Q (.bl false) H) : rNeD K .non .non H Q := ⟨_, _, .non, .non, rfl, rfl, q⟩
end
theorem rgV_get {a b : Int} {i : Nat} (h : i < (b - a).toNat) : (rgV a b)[i]? = some (.int (a + (i : Nat))) := by
  unfold rgV
  rw [List.getElem?_map, List.getElem?_range h]
  rfl
end Kr

namespace KrE
open Kr L2 PySem PySem.Spec PyProof.Rows
open PySem.HandSPX PySem.W Builtin Builtin.ObjectAttr
section
variable {prog : Program} {w : World} {A : Around} {E : Value → Shared → Prop} {R : Result → Shared → Prop} {hp : Heap} {g : Array GenState} {d : Drawn} {t : Nat} {os : OsState} {B : String} {bmB : List Value}
/-- the first field of an exception in the making, whatever built-in class it rests on -/
theorem first_field {K : W.Frag} {name : Str} {tk : Tok} {v : Value} {x C : Addr} {fv : Array Value} {cd : ClassData} (SF : StoreFacts B bmB "object.__setattr__" "object")
    (X : K.In hp) (hx : hp.get? x = some { cls := .ref C, data := .fields fv }) (hcd : W.clsIn K C = some cd) (ho : excOver K C bmB = true) (hh : cd.hasDict = true) (ht : takerIn K C name = some none)
    (hq : ∀ h' tk' dx, (∀ b o, b ≠ x → hp.get? b = some o → h'.get? b = some o) → hp.objs.size ≤ dx → dx ≠ x → h'.get? x = some { cls := .ref C, dict := some dx, data := .fields fv } →
      h'.Ns1 dx (fun y => if y = name then some v else none) → R (.ok (.ret .none)) ⟨h', g, d, tk', os⟩) :
    codeAny (model prog w) A (.call (.builtin "object.__setattr__") ⟨[.ref x, .str name tk, v], []⟩) R ⟨hp, g, d, t, os⟩ := by
  refine osa_openX (C := C) (od := none) (r := none) SF X (show InstAt hp x _ C none from ⟨hx, rfl, rfl, trivial⟩) ho ht fun b => ?_
  have hcls : W.Looks (model prog w) hp (classData C) cd := W.looks_clsIn X hcd
  have hxs : x ≠ hp.objs.size := Nat.ne_of_lt (Heap.lt_size hx)
  show wpAny _ _ (storeInOwnDict (.ref x) (.ref C) (.str name tk) name v b) _ _ _
  obtain ⟨nm, bs, mro, ns, qn, hd, sn, sb, ab, col, del⟩ := cd
  dsimp only at hh
  subst hh
  unfold storeInOwnDict ownDictForStores
  repeat (first | with_reducible refine store_in_new ?_ ?_ | with_reducible refine wpAny_loadPart_at hx ?_ | with_reducible refine hcls.at ?_ | wp_step)
  · exact ⟨_, #[], _, (Heap.get?_update_ne _ _ _ _ hxs.symm).trans (Heap.get?_push_at rfl rfl), rfl, fun e he => absurd he (by simp), fun _ => rfl⟩
  · intro h' tk' hn' hs
    have hx1 : (hp.push { cls := .type "dict", data := .dict #[] }).get? x = some { cls := .ref C, data := .fields fv } := Heap.get?_push_of_some _ hx
    refine hq h' tk' hp.objs.size (fun b o hb e => ?_) (Nat.le_refl _) hxs.symm ?_ hn'
    · exact (hs.2 b (Nat.ne_of_lt (Heap.lt_size e))).trans ((Heap.get?_update_ne _ _ _ _ hb).trans (Heap.get?_push_of_some _ e))
    · exact (hs.2 x hxs).trans (Heap.get?_update_self _ hx1 rfl)
end
/-- the built-in classes above -/
def lkTail : List Value := [.type "LookupError", .type "Exception", .type "BaseException", .type "object"]
/-- an own class over LookupError: what the written part says of it -/
structure ErrC (K : PySem.W.Frag) (C : Addr) : Prop where
  ini : PySem.W.excInitIn K C lkTail "LookupError.__new__" = true
  ov : PySem.W.excOver K C lkTail = true
  dc : PySem.W.hasDictIn K C = true
  sa : PySem.W.findIn K (.ref C) "__setattr__" = some (some (.builtin "object.__setattr__"))
  exC : PySem.W.subIn K (.ref C) (.type "BaseException") = some true
  tyC : PySem.W.typeIn K (.ref C) = some (.type "type")
  kC : PySem.W.keepIn K (.ref C) = true
section
variable {X : Cx} {pins : List (Addr × Obj)} {σ : L2.St} {H : Hp} {s : Shared} {a C : Addr} {f : Str} {y : V} {u : Value} {Q : Unit → Shared → Prop} {E : Value → Shared → Prop} {A : Around}
theorem put_first (T : ErrC X.K C) (I : Inv X pins σ H s) (e : H a = some (exo a C none)) (ht : PySem.W.takerIn X.K C f = some none) (ry : RelV y u)
    (h : ∀ dx s', H dx = none → dx ≠ a → Inv X pins σ (upd (upd H dx (exd dx [(f, y)])) a (exo a C (some dx))) s' → Q () s') : wpAny (model X.prog X.w) A (setAttr (.ref a) f u) Q E s := by
  obtain ⟨cd, hcl, hdc⟩ := any_some T.dc
  obtain ⟨t1, ho⟩ := exo_at I.hok e
  obtain ⟨hp, g, d, t, os⟩ := s
  refine PySem.W.set_plain I.kIn (od := none) (show PySem.W.InstAt hp a _ C none from ⟨ho, rfl, rfl, trivial⟩) T.sa ?_
  refine first_field PySem.F.store_LookupError I.kIn ho hcl T.ov hdc ht fun h' tk' dx k dn dne hx hn => ?_
  have free : H dx = none := I.hok.fresh dn
  have old : ∀ {b : Addr} {o : Obj}, hp.get? b = some o → b ≠ dx := fun q z => absurd (Heap.lt_size q) (by rw [z]; exact Nat.not_lt.mpr dn)
  have off : ∀ {b : Addr}, H b = none → b ≠ a := fun n z => by rw [z, e] at n; cases n
  have fix : ∀ {b : Addr} {o : HO}, H b = some o → o ≠ exo a C none → upd (upd H dx (exd dx [(f, y)])) a (exo a C (some dx)) b = some o := fun {b o} q z => by
    have n1 : b ≠ a := fun w => z (by rw [w, e] at q; exact (Option.some.inj q).symm)
    rw [upd_ne n1, upd_ne (ne_of_none q free)]
    exact q
  have un : Un X.fs [] H (upd (upd H dx (exd dx [(f, y)])) a (exo a C (some dx))) hp h' := by
    refine ⟨fun b o q n _ _ => k b o (off n) q, fun b o q n _ _ => ⟨o.slots, k b o (off n) q⟩, fun b o q n _ => by rw [upd_ne (off n), upd_ne (old q)]; exact n, fun b o q _ => ?_, fun b xs q => fix q (Ne.symm exo_tup), fun b o v q => fix q (Ne.symm exo_frz), fun b ps q => ⟨#[], by rw [fix q (Ne.symm exo_tbl)]; simp⟩⟩
    by_cases hb : b = a
    · exact ⟨_, by rw [hb]; exact hx⟩
    · exact ⟨o, k b o hb q⟩
  refine h dx _ free dne (I.un (t' := tk') un fun b o q => ?_)
  by_cases hb : b = a
  · subst hb
    rw [upd_same] at q
    obtain rfl := Option.some.inj q
    exact exo_ok hx
  rw [upd_ne hb] at q
  by_cases hd : b = dx
  · subst hd
    rw [upd_same] at q
    obtain rfl := Option.some.inj q
    exact exd_ok hn (relO_put (fs := []) ry fun _ => True.intro)
  rw [upd_ne hd] at q
  refine (I.hok b o q).stay (fun c v hc z => k c v ?_ z) (fun c hc => fix hc (Ne.symm exo_own)) fun c xs hc => fix hc (Ne.symm exo_tup)
  rcases hc with rfl | hc
  · exact hb
  · intro w
    rw [w, e] at hc
    exact exo_own (Option.some.inj hc)
end
/-- self.f = y, the first field of an exception in the making -/
def tErs (K : PySem.W.Frag) (f : Str) (to te : TE) : TS := fun D σ H => te σ H fun y H1 => to σ H1 fun x H2 => ∃ a C : Addr, x = .ref a ∧ ErrC K C ∧ PySem.W.takerIn K C f = some none ∧ H2 a = some (exo a C none) ∧
  ∀ dx, H2 dx = none → dx ≠ a → D.nx σ (upd (upd H2 dx (exd dx [(f, y)])) a (exo a C (some dx)))
section
variable {X : Cx} {o e : Expr} {es : List Expr} {to te : TE} {ta : TA} {f : Str} {p p' pos : Pos}
theorem ps_ers (ho : PE X o to) (he : PE X e te) (hs : swapsWith e (some (.Attribute o f p')) pos.line X.env = pure false := by rfl) : PS X (.Assign [.Attribute o f p'] e pos) (tErs X.K f to te) := by
  refine ⟨fun pins s0 st0 H D I h => ?_⟩
  refine plainObj_wpAny_Assign_Attribute (thn (he.run pins s0 st0 H _ I h) fun v s1 ⟨y, H1, I1, r1, q1⟩ => thn (ho.run pins s1 st0 H1 _ I1 q1) fun u s2 ⟨x, H2, I2, r2, a, C, ex, T, ht, ea, q⟩ => ?_) hs
  subst ex
  obtain rfl : u = Value.ref a := r2
  exact put_first T I2 ea ht r1 fun dx s' n1 n2 J => ⟨st0, _, J, q dx n1 n2⟩
theorem pmk_err {CX : CXT} {x : Str} {C fI : Addr} {k : Nat} {fd : FuncData} {ps : List Str} {sp : Sp} (T : ErrC X.K C) (iC : PySem.W.findIn X.K (.ref C) "__init__" = some (some (.ref fI))) (tI : PySem.W.typeIn X.K (.ref fI) = some (.type "function"))
    (F1 : FnOk X.prog X.w X.K X.mg X.base CX k fI fd ps sp) (hr : Room (k + 1) X.A) (hb : Binds X.K fd ps []) (hx : Passes CX X (fun _ _ _ => False)) (hg : Gl X x) (hm : X.mg x = some (.ref C)) (ha : PA X (e :: es) ta)
    (hdb : (x == ("__debug__" : Str)) = false := by decide) (he : starEach (e :: es) X.env = (false, eval e X.env) :: starEach es X.env := by rfl) (hpl : (backTo pos (starEach es X.env)).any (·.1) = false := by rfl) :
    PMk X (.Call (.Name x p) (e :: es) [] pos) (tMkO C sp [] ta) := by
  intro pins s0 st0 H Q I h
  refine wpAny_Call_Name_kw (ld_glob I hg hm ?_ hdb)
  refine PySem.W.callWith_K (h₀ := X.base) I.ok.mod.kin T.kC (thn (ha.run pos pins s0 st0 H _ I h) fun us s1 ⟨vs, H1, I1, r1, hz, q1⟩ => ⟨I1.kIn, ?_⟩) he hpl
  show wpAny _ _ (call (.ref C) us) _ _ _
  obtain ⟨nm, N, qn, bs, bm, hdct, sn, sub, ab, col, dd, k0, k1, k2, k3, k5, hC, hT⟩ := PySem.W.excInit_of I1.kIn T.ini
  obtain ⟨hp, g, dr, tk, os⟩ := s1
  have le1 : hp.objs.size ≤ hp.objs.size + 1 := Nat.le_succ _
  have free := I1.hok.fresh le1
  have hq := q1 _ free
  have grown : ∀ b o, hp.get? b = some o → ((hp.push (PySem.W.kdv_tup us)).push (PySem.HandSPX.excO C hp.objs.size)).get? b = some o := fun b o z => Heap.get?_push_of_some _ (Heap.get?_push_of_some _ z)
  have made : ((hp.push (PySem.W.kdv_tup us)).push (PySem.HandSPX.excO C hp.objs.size)).get? (hp.objs.size + 1) = some (PySem.HandSPX.excO C hp.objs.size) := by heap_get
  have I2 : Inv X pins st0 (upd H1 (hp.objs.size + 1) (exo (hp.objs.size + 1) C none)) ⟨(hp.push (PySem.W.kdv_tup us)).push (PySem.HandSPX.excO C hp.objs.size), g, dr, tk, os⟩ := I1.laid (t' := tk) (a := hp.objs.size + 1) (o := exo (hp.objs.size + 1) C none) (h' := (hp.push (PySem.W.kdv_tup us)).push (PySem.HandSPX.excO C hp.objs.size)) grown le1 (exo_ok made)
  have r2 : Vals (V.ref (hp.objs.size + 1) :: (vs ++ [])) (Value.ref (hp.objs.size + 1) :: (us ++ [])) := .cons rfl (r1.append .nil)
  have hl : (Value.ref (hp.objs.size + 1) :: us ++ []).length = ps.length := r2.length.symm.trans (F1.len _ _ _ _ hq)
  have few : us.length ≤ sizeLine := by
    have := Paired.length r1
    rw [sizeLine_eq]
    omega
  have bound : BindsTo ⟨(hp.push (PySem.W.kdv_tup us)).push (PySem.HandSPX.excO C hp.objs.size), g, dr, tk, os⟩ fd ⟨Value.ref (hp.objs.size + 1) :: us, []⟩ (ps.zip (Value.ref (hp.objs.size + 1) :: (us ++ []))) := hb _ (Value.ref (hp.objs.size + 1) :: us) I2.kIn hl
  refine wpAny_call (PySem.HandSPX.call_own PySem.F.excBase_LookupError hT hC (PySem.W.looks_findIn I1.kIn iC) (fun self => PySem.W.bind_fn I1.kIn self tI) few
    (codeAny_mono (F1.run _ X.stack _ _ ⟨Value.ref (hp.objs.size + 1) :: us, []⟩ (Value.ref (hp.objs.size + 1) :: (us ++ [])) _ _ (fun _ _ _ => False) (hr.make C us []) (I2.env0.make C us []) bound r2 hq) fun r s' z => ?_))
  cases r with
  | error er => exact hx pins st0 _ _ er s' I2 z
  | ok fl =>
    cases fl with
    | ret u =>
      obtain ⟨v, H2, os2, bare2, un2, hok2, rv, ev, d, fs, ea, ed, hd1, q2⟩ := z
      subst ev
      obtain ⟨h2, g2, d2, t2, os'⟩ := s'
      exact ⟨rv, mk_end (raises_own T.exC T.tyC) I1 le1 grown un2 hok2 os2 bare2 ea ed hd1 q2⟩
    | next => exact False.elim z
    | brk => exact False.elim z
    | cont => exact False.elim z
end
/-- the error class of the module's name x, its __init__ keeping sp -/
def ErH (P : Program) (w : World) (K : PySem.W.Frag) (mg : Str → Option Value) (base : Heap) (CX : CXT) (k : Nat) (x : Str) (C : Addr) (ps : List Str) (sp : Sp) : Prop :=
  ∃ (f : Addr) (fd : FuncData), mg x = some (.ref C) ∧ ErrC K C ∧ PySem.W.findIn K (.ref C) "__init__" = some (some (.ref f)) ∧ PySem.W.typeIn K (.ref f) = some (.type "function") ∧ Binds K fd ps [] ∧ FnOk P w K mg base CX k f fd ps sp
section
variable {X : Cx} {C : Addr} {k : Nat} {x : Str} {ps : List Str} {sp : Sp} {e : Expr} {es : List Expr} {ta : TA} {p pos : Pos}
theorem pmk_mk (h : ErH X.prog X.w X.K X.mg X.base CX0 k x C ps sp) (hr : Room (k + 1) X.A) (ha : PA X (e :: es) ta) (hg : Gl X x := by rfl)
    (hdb : (x == ("__debug__" : Str)) = false := by decide) (he : starEach (e :: es) X.env = (false, eval e X.env) :: starEach es X.env := by rfl) (hpl : (backTo pos (starEach es X.env)).any (·.1) = false := by rfl) :
    PMk X (.Call (.Name x p) (e :: es) [] pos) (tMkO C sp [] ta) := by
  obtain ⟨f, fd, hm, T, iC, tI, hb, F⟩ := h
  exact pmk_err T iC tI F hr hb pass0 hg hm ha hdb he hpl
end
def rErs (K : PySem.W.Frag) (f : Str) (y x : V) (H : Hp) (Qn : Hp → Prop) : Prop := ∃ a C : Addr, x = .ref a ∧ ErrC K C ∧ PySem.W.takerIn K C f = some none ∧ H a = some (exo a C none) ∧ ∀ dx, H dx = none → dx ≠ a → Qn (upd (upd H dx (exd dx [(f, y)])) a (exo a C (some dx)))
theorem r_sErs {K : PySem.W.Frag} {f : Str} {to te : TE} {D : Ends} {σ : L2.St} {H : Hp} (q : te σ H fun y H1 => to σ H1 fun x H2 => rErs K f y x H2 fun H3 => D.nx σ H3) : tErs K f to te D σ H := q
theorem r_ers {K : PySem.W.Frag} {f : Str} {y : V} {a C : Addr} {H : Hp} {Qn : Hp → Prop} (T : ErrC K C) (t : PySem.W.takerIn K C f = some none) (h : H a = some (exo a C none)) (q : ∀ dx, H dx = none → dx ≠ a → Qn (upd (upd H dx (exd dx [(f, y)])) a (exo a C (some dx)))) : rErs K f y (.ref a) H Qn := ⟨a, C, rfl, T, t, h, q⟩
/-- the making of an error, told by its end -/
def rMkE (C : Addr) (sp : Sp) (vs : List V) (H1 : Hp) (Q : XK) : Prop := vs.length ≤ 1000 ∧ ∀ a, H1 a = none → sp (.ref a :: (vs ++ [])) (upd H1 a (exo a C none))
  (fun v H2 => v = .non ∧ ∃ (d : Addr) (fs : List (Str × V)), H2 a = some (exo a C (some d)) ∧ H2 d = some (exd d fs) ∧ H1 d = none ∧ Q (.ref C) (some d) (upd (del H2 a) d (.xd fs))) (fun _ _ _ => False)
theorem r_mkE {C : Addr} {sp : Sp} {ta : TA} {σ : L2.St} {H : Hp} {Q : XK} (q : ta σ H fun vs H1 => rMkE C sp vs H1 Q) : tMkO C sp [] ta σ H Q := q
def errB (K : PySem.W.Frag) (C : Addr) : Bool := PySem.W.excInitIn K C lkTail "LookupError.__new__" && (PySem.W.excOver K C lkTail && (PySem.W.hasDictIn K C && (decide (PySem.W.findIn K (.ref C) "__setattr__" = some (some (.builtin "object.__setattr__"))) &&
  (decide (PySem.W.subIn K (.ref C) (.type "BaseException") = some true) && (decide (PySem.W.typeIn K (.ref C) = some (.type "type")) && PySem.W.keepIn K (.ref C))))))
theorem errB_ok {K : PySem.W.Frag} {C : Addr} (h : errB K C = true) : ErrC K C := by
  unfold errB at h
  simp only [Bool.and_eq_true, decide_eq_true_eq] at h
  exact ⟨h.1, h.2.1, h.2.2.1, h.2.2.2.1, h.2.2.2.2.1, h.2.2.2.2.2.1, h.2.2.2.2.2.2⟩
/-- the making of an error with one field -/
theorem r_mk1 {C : Addr} {f : Str} {v : V} {H1 : Hp} {Q : XK} {sp : Sp} (hsp : ∀ a H (Q' : VK), H a = some (exo a C none) → (∀ d, H d = none → d ≠ a → Q' .non (upd (upd H d (exd d [(f, v)])) a (exo a C (some d)))) → sp [.ref a, v] H Q' (fun _ _ _ => False))
    (q : ∀ d H', Same H1 H' → H1 d = none → H' d = some (.xd [(f, v)]) → Q (.ref C) (some d) H') : rMkE C sp [v] H1 Q := by
  refine ⟨by simp, fun a ha => hsp a _ _ upd_same fun d hd hda => ⟨rfl, d, [(f, v)], upd_same, by rw [upd_ne hda]; exact upd_same, by rw [upd_ne hda] at hd; exact hd, ?_⟩⟩
  rw [upd_ne hda] at hd
  refine q d _ (fun b o e => ?_) hd upd_same
  have n1 : b ≠ d := ne_of_none e hd
  have n2 : b ≠ a := ne_of_none e ha
  rw [upd_ne n1, del_ne n2, upd_ne n2, upd_ne n1, upd_ne n2]
  exact e
end KrE

namespace KrE
open Kr L2 PySem PySem.Spec PyProof.Rows
/-- what the body's exception asks where the first clause takes it by a name, in slot i -/
def wFst (K : PySem.W.Frag) (c : Value) (i : Nat) (ts : Addr → Value → Option Addr → TS) (D : Ends) : WX := fun cls d σ H => PySem.W.exmOne K cls c = some true ∧ ∀ a, H a = none →
  ts a cls d { nx := fun σ2 H2 => D.nx (σ2.set i none) H2, rt := D.rt, bk := fun σ2 H2 => D.bk (σ2.set i none) H2, ct := fun σ2 H2 => D.ct (σ2.set i none) H2 } (σ.set i (some (.ref a))) H
section
variable {X : Cx} {x n : Str} {c : Value} {i : Nat} {body suite : List Stmt} {b0 : Stmt} {np pos pos' : Pos} {tb : WX → TS} {ts : Addr → Value → Option Addr → TS} {hds : List ExceptHandler}
/-- try: .. except X as n: suite, further clauses behind it: where the first clause takes all that comes -/
theorem ps_try_first (hs : X.stack = X.env :: X.outer) (hf : X.env.frame = some X.env.locals) (hN : X.N.Nodup) (hi : X.N[i]? = some n) (hln : X.env.kindOf n = some .local) (hc : Names X x c)
    (hb : ∀ (W : WX) (pn : List (Addr × Obj)) (xe : Value → Shared → Prop), Takes (X.tr pn xe) W → PassesOwn (model X.prog X.w) X.A X.env xe → PSs (X.tr pn xe) body (tb W))
    (hsu : ∀ (a : Addr) (oe : Obj) (cls : Value) (d : Option Addr) (pn : List (Addr × Obj)), Zc cls d oe → (∃ vs, oe.data = .fields vs) → PSs (X.suite a ((a, oe) :: pn)) (b0 :: suite) (ts a cls d)) :
    PS X (.Try body (.ExceptHandler (some (.Name x np)) (some n) (b0 :: suite) pos' :: hds) [] [] pos) (fun D σ H => tb (wFst X.K c i ts D) D σ H) := by
  refine ⟨fun pins s0 st0 H D I h => ?_⟩
  have ok := I.ok
  have hfr : X.A.frames = some (X.env :: X.outer) := by rw [ok.frames, hs]
  refine wpAny_Try_except ?_
  refine wpAny_mono ((hb (wFst X.K c i ts D) (X.pn ++ pins) (fun e s1 => wpAny (model X.prog X.w) X.A (noteFrame e X.env) (fun _ s2 => wpAny (model X.prog X.w) X.A (setFlight e none) (fun _ s3 =>
    wpAny (model X.prog X.w) X.A (handleBy e X.env (.ExceptHandler (some (.Name x np)) (some n) (b0 :: suite) pos' :: hds)) (SP X pins D) X.xe s3) X.xe s2) X.xe s1) (fun u s' xx => ?_) PassesOwn.looking).run [] s0 st0 H D (I.toTry _) h) (fun f s1 z => ?_) (fun _ _ he => he)
  · obtain ⟨a, B, sI, pins', st1, H1, cls, d, rfl, J', nb, up, sky, na, os, ag, hit, go⟩ := xx
    have J : Inv X pins st1 H1 sI := J'.ofTry ok
    rw [hs] at sky
    show wpAny (model X.prog X.w) X.A (noteFrame (.ref a) X.env) _ _ _
    refine Sky.land Zc.steady hfr hf sky fun h3 fl3 up3 => ?_
    have J3 : Inv X pins st1 H1 { s' with heap := h3 } := J.landed nb fl3.1 (up.trans up3) os ag
    obtain ⟨oe3, vs3, he3, hz3, hd3⟩ := fl3.there
    have nfr : a ∉ frs (X.env :: X.outer) := fun hm => by
      obtain ⟨_, o', e', hnf⟩ := fl3.2.2.1.mem hm
      rw [he3] at e'
      obtain rfl := Option.some.inj e'
      exact hnf _ hd3
    have nL : a ≠ X.env.locals := fun z => nfr (List.mem_filterMap.mpr ⟨X.env, List.mem_cons_self, by rw [hf, z]⟩)
    have nF : a ∉ X.fs := fun hm => by
      obtain ⟨e, he, q⟩ := List.mem_filterMap.mp hm
      exact nfr (List.mem_filterMap.mpr ⟨e, List.mem_cons_of_mem _ he, q⟩)
    have S3 := J3.suite he3 hd3 na nL nF
    refine wpAny_handleBy_cons (codeAny_handlers_test ?_) (by intro q; cases q)
    have ty : PySem.W.Looks (model X.prog X.w) h3 (typeOf (.ref a)) cls := fun A Q E s k q => wpAny_typeOf_ref (k _ _ he3) (by rw [hz3.1]; exact q)
    have asked : ∀ {Q : Value → Shared → Prop} {E : Value → Shared → Prop}, Q c { s' with heap := h3 } → wpAny (model X.prog X.w) (X.A.mark (some (.ref a))) (eval (.Name x np) X.env) Q E { s' with heap := h3 } := fun {Q E} q => by
      obtain ⟨hg, hdbg, hm | ⟨hm, hv, hnn⟩⟩ := hc
      · exact ld_glob (X := X.suite a ((a, oe3) :: (X.pn ++ pins))) S3 hg hm q hdbg
      · exact ld_blt (X := X.suite a ((a, oe3) :: (X.pn ++ pins))) S3 hg hm hv q hnn hdbg
    refine asked ((PySem.W.exm_one (M := model X.prog X.w) J3.kIn ty hit).here (codeAny_handlers_suite_as (HandSPX.lands_againZ fl3 fun h4 fl4 up4 => ?_)))
    have J4 : Inv X pins st1 H1 { s' with heap := h4 } := J.landed nb fl4.1 ((up.trans up3).trans up4) os ag
    obtain ⟨oe4, vs4, he4, hz4, hd4⟩ := fl4.there
    have S4 := J4.suite he4 hd4 na nL nF
    refine store_ok (X := X.suite a ((a, oe4) :: (X.pn ++ pins))) (v := .ref a) S4 hN hi (.inl hln) rfl (fun s5 S5 => ?_) (.inr hln)
    refine wpAny_mono ((hsu a oe4 cls d (X.pn ++ pins) hz4 ⟨_, hd4⟩).run [] s5 _ H1 _ S5 (go a na)) (fun f s6 z => ?_) (fun _ _ z => False.elim z)
    have off : ∀ {st6 : L2.St} {H6 : Hp} {Q : Shared → Prop}, Inv (X.suite a ((a, oe4) :: (X.pn ++ pins))) [] st6 H6 s6 → (∀ s7, Inv X pins (st6.set i none) H6 s7 → Q s7) →
        wpAny (model X.prog X.w) X.A (do bindName X.env n .none; unbindBehindTheSuite X.env n pos') (fun _ s7 => Q s7) X.xe s6 := fun S6 hq => gone_ok (S6.unsuite ok) hN hi hln hq
    cases f with
    | next =>
      obtain ⟨st6, H6, S6, q6⟩ := z
      exact off S6 fun s7 J7 => ⟨_, _, J7, q6⟩
    | brk =>
      obtain ⟨st6, H6, S6, q6⟩ := z
      exact off S6 fun s7 J7 => ⟨_, _, J7, q6⟩
    | cont =>
      obtain ⟨st6, H6, S6, q6⟩ := z
      exact off S6 fun s7 J7 => ⟨_, _, J7, q6⟩
    | ret u =>
      obtain ⟨v6, st6, H6, S6, r6, q6⟩ := z
      exact off S6 fun s7 J7 => ⟨_, _, _, J7, r6, q6⟩
  · cases f with
    | next =>
      obtain ⟨st2, H2, J2, q⟩ := z
      exact wpAny_execs_nil ⟨st2, H2, J2.ofTry ok, q⟩
    | brk =>
      obtain ⟨st2, H2, J2, q⟩ := z
      exact ⟨st2, H2, J2.ofTry ok, q⟩
    | cont =>
      obtain ⟨st2, H2, J2, q⟩ := z
      exact ⟨st2, H2, J2.ofTry ok, q⟩
    | ret u =>
      obtain ⟨v, st2, H2, J2, r, q⟩ := z
      exact ⟨v, st2, H2, J2.ofTry ok, r, q⟩
end
end KrE

namespace KrE
open Kr L2 PySem PySem.Spec PyProof.Rows
/-! ### an object made by keywords where an error may leave, told by the slots as they stand -/
def tMakeKS (C : Addr) (n m : Nat) (sp : Sp) (E : L2.St → XK) (t tk : TA) : TE := fun σ H Q => t σ H fun vs H1 => tk σ H1 fun zs H2 => vs.length = n ∧ zs.length = m ∧ rMk C sp (E σ) (fun s => s :: vs ++ zs) H2 Q
section
variable {X : Cx} {CX : CXT} {k n : Nat} {C : Addr} {ps ks : List Str} {sp : Sp} {E : L2.St → XK} {x : Str} {p pos : Pos} {e : Expr} {es : List Expr} {kws : List Keyword} {t tk : TA}
theorem pe_mkES (h : MkK X.prog X.w X.K X.mg X.base CX k x C ps (n + 1) ks sp) (hr : Room (k + 1) X.A) (hx : ∀ σ, PassesAt CX X σ (E σ)) (ha : PA X (e :: es) t) (hkw : PK X kws tk) (hg : Gl X x := by rfl)
    (hall : (backToKw pos (keywordEach kws X.env)).all (·.1.isSome) = true := by rfl) (hks : (backToKw pos (keywordEach kws X.env)).filterMap (·.1) = ks := by rfl) (hdb : (x == ("__debug__" : Str)) = false := by decide)
    (he : starEach (e :: es) X.env = (false, eval e X.env) :: starEach es X.env := by rfl) (hpl : ((backTo pos (starEach (e :: es) X.env)).any (·.1) || (backToKw pos (keywordEach kws X.env)).any (·.1.isNone)) = false := by rfl) :
    PE X (.Call (.Name x p) (e :: es) kws pos) (tMakeKS C n ks.length sp E t tk) := by
  obtain ⟨f, fd, hm, M, hb, F⟩ := h
  refine ⟨fun pins s0 st0 H Q I hq0 => ?_⟩
  refine wpAny_Call_Name_kw (ld_glob I hg hm ?_ hdb)
  refine PySem.W.callWith_KW (h₀ := X.base) I.ok.mod.kin M.kp hall (thn (ha.run pos pins s0 st0 H _ I hq0) fun us s1 ⟨vs, H1, I1, r1, q1⟩ => thn (hkw.run pos pins s1 st0 H1 _ I1 q1) fun ws s2 ⟨zs, H2, I2, r2, l1, l2, q2⟩ => ⟨I2.kIn, ?_⟩) hpl he
  rw [hks]
  have made := Inv.made (C := C) I2
  have free1 : H2 (s2.heap.objs.size + 1) = none := I2.hok.fresh (Nat.le_succ _)
  have free0 : H2 s2.heap.objs.size = none := I2.hok.fresh (Nat.le_refl _)
  have promise := q2 (s2.heap.objs.size + 1) s2.heap.objs.size free1 free0 (Nat.ne_of_lt (Nat.lt_succ_self _))
  have rs : Vals (V.ref (s2.heap.objs.size + 1) :: vs) (Value.ref (s2.heap.objs.size + 1) :: us) := .cons rfl r1
  have many : (Value.ref (s2.heap.objs.size + 1) :: us).length = n + 1 := by rw [List.length_cons, ← r1.length, l1]
  refine wpAny_call (make_map (f := f) I2.kIn M.makes M.init (beq_iff_eq.mp M.fn) (codeAny_mono (F.run _ X.stack _ _ ⟨Value.ref (s2.heap.objs.size + 1) :: us, ks.zip ws⟩ _ _ _ (E st0) (hr.make C us (ks.zip ws))
    (made.env0.make C us (ks.zip ws)) (hb.to _ (Value.ref (s2.heap.objs.size + 1) :: us) ws made.kIn many (r2.length.symm.trans l2)) (hb.rel rs r2) promise) fun r s3 z => ?_))
  cases r with
  | error er => exact hx st0 pins _ _ er s3 made z
  | ok fl =>
    cases fl with
    | ret u =>
      obtain ⟨v, H3, I3, rv, ev, q3⟩ := made.after z
      subst ev
      exact ⟨rv, V.ref (s2.heap.objs.size + 1), H3, I3, rfl, q3⟩
    | next => exact False.elim z
    | brk => exact False.elim z
    | cont => exact False.elim z
end
theorem r_mkKS {C : Addr} {n m : Nat} {sp : Sp} {E : L2.St → XK} {t tk : TA} {σ : L2.St} {H : Hp} {Q : VK} (q : t σ H fun vs H1 => tk σ H1 fun zs H2 => vs.length = n ∧ zs.length = m ∧ rMk C sp (E σ) (fun s => s :: vs ++ zs) H2 Q) : tMakeKS C n m sp E t tk σ H Q := q
end KrE
namespace PySem.W
open PySem PySem.Spec PySem.Calls PyProof.Rows
section
variable {prog : Program} {w : World} {A : Around} {E : Value → Shared → Prop} {s : Shared} {K : Frag} {x D : Addr} {ox : Obj} {od : Option Obj}
theorem kr_dataFound {C : Addr} {name : Str} {a g : Value} (hc : (clsIn K C).isSome = true) (ha : findIn K (.ref C) name = some (some a)) (hg : specialIn K a "__get__" = some (some g)) (ht : takesIn K a = some true) : findObj K C od name = some (.bind g a) := by
  obtain ⟨cd, e⟩ := Option.isSome_iff_exists.mp hc
  unfold findObj
  simp [e, ha, hg, ht]
/-- what an own class of errors says of __class__ -/
structure KrErrT (K : Frag) (D : Addr) : Prop where
  ga : findIn K (.ref D) "__getattribute__" = some (some (.builtin "BaseException.__getattribute__"))
  gt : findIn K (.ref D) "__getattr__" = some none
  sb : subIn K (.ref D) (.type "BaseException") = some true
  dc : hasDictIn K D = true
  ca : findIn K (.ref D) "__class__" = some (some (.builtin "object.__class__"))
  cg : specialIn K (.builtin "object.__class__") "__get__" = some (some (.builtin "getset_descriptor.__get__"))
  ct : takesIn K (.builtin "object.__class__") = some true
  mo : mroIn K D (.type "object") = some true
def krErrT (K : Frag) (D : Addr) : Bool := decide (findIn K (.ref D) "__getattribute__" = some (some (.builtin "BaseException.__getattribute__"))) && (decide (findIn K (.ref D) "__getattr__" = some none) && (decide (subIn K (.ref D) (.type "BaseException") = some true) && (hasDictIn K D &&
  (decide (findIn K (.ref D) "__class__" = some (some (.builtin "object.__class__"))) && (decide (specialIn K (.builtin "object.__class__") "__get__" = some (some (.builtin "getset_descriptor.__get__"))) && (decide (takesIn K (.builtin "object.__class__") = some true) && decide (mroIn K D (.type "object") = some true)))))))
theorem krErrT_ok {K : Frag} {D : Addr} (h : krErrT K D = true) : KrErrT K D := by
  unfold krErrT at h
  simp only [Bool.and_eq_true, decide_eq_true_eq] at h
  exact ⟨h.1, h.2.1, h.2.2.1, h.2.2.2.1, h.2.2.2.2.1, h.2.2.2.2.2.1, h.2.2.2.2.2.2.1, h.2.2.2.2.2.2.2⟩
theorem kr_class {Q : Option Value → Shared → Prop} (T : KrErrT K D) (X : K.In s.heap) (I : InstAt s.heap x ox D od) (h : Q (some (.ref D)) { s with toks := s.toks + 1 }) : wpAny (model prog w) A (getAttr? (.ref x) "__class__") Q E s := by
  have found : findObj K D od "__class__" = some (.bind (.builtin "getset_descriptor.__get__") (.builtin "object.__class__")) := kr_dataFound (by obtain ⟨cd, e, _⟩ := any_some T.dc; rw [e]; rfl) T.ca T.cg T.ct
  obtain ⟨hp, g, d, t, os⟩ := s
  have lt := I.type (M := model prog w)
  have lg := looks_findIn (M := model prog w) X T.ga
  have lh := looks_findIn (M := model prog w) X T.gt
  have lf := looks_find (M := model prog w) X I found
  have below : Looks (model prog w) hp (isInstance (.ref x) (.type "BaseException")) true := lt.andThen (looks_subIn X T.sb)
  have n0 : (false && onTheHeap (Value.builtin "BaseException.__getattribute__")) = false := rfl
  have n1 : (onTheHeap (Value.ref D) && Value.builtin "BaseException.__getattribute__" == Value.builtin "object.__getattribute__") = false := by
    have : (Value.builtin "BaseException.__getattribute__" == Value.builtin "object.__getattribute__") = false := by decide +kernel
    rw [this]
    rfl
  unfold getAttr? getAttrBy? getAttrBy
  refine wpAny_bind (wpAny_mkText (wpAny_bind (wpAny_attempt (wpAny_holding (wpAny_bind (lt.at (wpAny_bind (lg.at ?_))))))))
  show wpAny _ _ (if (onTheHeap (Value.ref D) && Value.builtin "BaseException.__getattribute__" == Value.builtin "object.__getattribute__") = true then _ else _) _ _ _
  rw [n1, if_neg Bool.false_ne_true]
  unfold getAttrByItsOwn hookBefore
  refine wpAny_bind ?_
  rw [if_pos (show onTheHeap (Value.ref D) = true from rfl)]
  refine lh.at (wpAny_bind (wpAny_attempt (wpAny_holding ?_)))
  unfold callGetattribute
  rw [n0, if_neg Bool.false_ne_true]
  unfold boundAndCalled
  rw [PySem.F.excAttr_ValueError.ga.bind (.ref x)]
  refine wpAny_bind (wpAny_pure ?_)
  show wpAny _ _ (call (.builtin "BaseException.__getattribute__") [.ref x, .str "__class__" t]) _ _ _
  refine wpAny_call (codeAny_call_builtin PySem.F.excAttr_ValueError.ga.plain PySem.F.entry_bexc_ga (@check_slot (model prog w) _ _ ⟨hp, g, d, t + 1, os⟩ "BaseException.__getattribute__" "BaseException" "__getattribute__" (.ref x) [.str "__class__" t] [] _ (by decide +kernel) (by decide +kernel) below (PySem.F.args_bexc_ga (.ref x) (.str "__class__" t)) ?_))
  unfold Builtin.«object.__getattribute__»
  refine wpAny_bind (wpAny_of_eq (a := ((Value.ref x : Value), [Value.str "__class__" t])) (by first | rfl | (simp only [slotArgs]; rfl)) (wpAny_bind (wpAny_pure (wpAny_bind (lt.at (wpAny_bind (lf.at ?_)))))))
  show wpAny _ _ (holding [Value.builtin "object.__class__"] (call (.builtin "getset_descriptor.__get__") [.builtin "object.__class__", .ref x, .ref D]) >>= ret) _ _ _
  refine wpAny_bind (wpAny_holding (wpAny_call (class_get (s := ⟨hp, g, d, t + 1, os⟩) (ox := ox) (od := od) X I T.mo (wpAny_pure ?_))))
  show wpAny _ _ (handedOut (.ref D)) _ _ _
  rw [handedOut_of (v := .ref D) rfl]
  first
    | exact wpAny_pure (wpAny_pure h)
    | exact wpAny_pure h
    | exact wpAny_pure (wpAny_bind (wpAny_pure (wpAny_pure h)))
theorem kr_kitx (T : KrErrT K D) : KitX K (.ref x) (.ref D) (fun h => InstAt h x ox D od) := by
  obtain ⟨cd, ec, _⟩ := any_some T.dc
  unfold clsIn at ec
  split at ec
  rotate_left
  · cases ec
  rename_i c1 d1 cd1 sl1 ho
  refine ⟨fun _ _ _ I => I.type, fun _ _ Y _ => ?_, fun h tp dd its n sl Y htp => ?_, fun Y I k => kr_class T Y I k⟩
  · intro A' Q' E' s' k q
    unfold isType loadHead
    exact wpAny_bind (wpAny_loadPart (k _ _ (Y _ _ ho)) (wpAny_pure q))
  · refine Bool.eq_false_iff.mpr fun q => ?_
    have e : D = tp := Value.ref.inj (beq_iff_eq.mp q)
    subst e
    cases (Y _ _ ho).symm.trans htp
end
end PySem.W
namespace KrE
open Kr L2 PySem PySem.Spec PyProof.Rows
/-- isinstance(e, c), e the error that the suite holds, with its fields -/
def rIsD (K : PySem.W.Frag) (a : Addr) (cls : Value) (d : Option Addr) (C : Addr) : List V → Hp → VK → Prop := fun xs H Q => ∃ (c : V) (cv : Value) (b : Bool) (dd : Addr) (fs : List (Str × V)), xs = [.ref a, c] ∧ cls = .ref C ∧ d = some dd ∧ H dd = some (.xd fs) ∧ (∀ u, RelV c u → u = cv) ∧ PySem.W.kitOne K (.ref C) cv = some b ∧ Q (.bl b) H
theorem c_isD {X : Cx} {a C : Addr} {oe : Obj} {cls : Value} {d : Option Addr} {pn : List (Addr × Obj)} (T : PySem.W.KrErrT X.K C) (hz : Zc cls d oe) (hf : ∃ vs, oe.data = .fields vs) : CallR (X.suite a ((a, oe) :: pn)) (.builtin "isinstance") (rIsD X.K a cls d C) := by
  intro pins s0 st0 H xs us Q I r h
  obtain ⟨c, cv, b, dd, fs, rfl, rfl, rfl, ea, hcv, e, q⟩ := h
  obtain ⟨u1, u2, rfl, rx, rt⟩ : ∃ u1 u2, us = [u1, u2] ∧ RelV (.ref a) u1 ∧ RelV c u2 := by
    cases r with
    | cons rx rr =>
      cases rr with
      | cons rt rr =>
        cases rr
        exact ⟨_, _, rfl, rx, rt⟩
  obtain rfl : u1 = Value.ref a := rx
  obtain rfl := hcv _ rt
  obtain ⟨at1, -⟩ := I.pin (a, oe) (List.mem_append.mpr (.inl List.mem_cons_self))
  obtain ⟨vs, hv⟩ := hf
  obtain ⟨mA, hns, -⟩ : ObjOk X.prog X.w H s0.heap dd (.xd fs) := I.hok dd _ ea
  obtain ⟨od, ho, -⟩ := lookIn_ns hns
  have J : PySem.W.InstAt s0.heap a oe C (some od) := ⟨at1, hz.1, by unfold PySem.W.notCls; rw [hv] <;> rfl, by rw [hz.2]; exact ho⟩
  exact PySem.W.kia_one (PySem.W.kr_kitx T) I.kIn J e (fun z => nomatch z) fun tk => ⟨.bl b, H, I.kept (t' := tk) fun _ _ z => z, rfl, q⟩
theorem r_isD {K : PySem.W.Frag} {a C dd : Addr} {H : Hp} {Q : VK} {fs : List (Str × V)} {T : Addr} {b : Bool} (h : H dd = some (.xd fs)) (e : PySem.W.kitOne K (.ref C) (.ref T) = some b) (q : Q (.bl b) H) : rIsD K a (.ref C) (some dd) C [.ref a, .ref T] H Q := ⟨_, _, b, dd, fs, rfl, rfl, rfl, h, fun u r => r, e, q⟩
def rXf (a : Addr) (cls : Value) (d : Option Addr) (C : Addr) (f : Str) (x : V) (H : Hp) (Q : VK) : Prop := x = .ref a ∧ cls = .ref C ∧ ∃ (dd : Addr) (fs : List (Str × V)) (v : V), d = some dd ∧ H dd = some (.xd fs) ∧ fs.lookup f = some v ∧ Q v H
theorem r_tXf {a C : Addr} {cls : Value} {d : Option Addr} {f : Str} {te : TE} {σ : L2.St} {H : Hp} {Q : VK} (q : te σ H fun x H1 => rXf a cls d C f x H1 Q) : tXf a cls d C f te σ H Q := q
theorem r_xf {a C dd : Addr} {f : Str} {H : Hp} {Q : VK} {fs : List (Str × V)} {v : V} (h : H dd = some (.xd fs)) (l : fs.lookup f = some v) (q : Q v H) : rXf a (.ref C) (some dd) C f (.ref a) H Q := ⟨rfl, rfl, dd, fs, v, rfl, h, l, q⟩
end KrE

namespace KrL
open Kr L2 PySem PySem.Spec PyProof.Rows LamX
/-! ### a def whose code object is known -/
theorem okC {P : Program} {w : World} {K : PySem.W.Frag} {mg : Str → Option Value} {base : Heap} {nm qual : Str} {params : Arguments} {body : List Stmt} {scope : Scope} {f c : Addr} {fd : FuncData} {CX : CXT} {N ps : List Str} {k : Nat} {sp : Sp}
    (F : FunD K nm qual params body scope [] [] f fd) (hc : fd.code = .ref c) (S : FnScope N ps scope) (ln : ∀ vs H Q E, sp vs H Q E → vs.length = ps.length)
    (hb : ∀ (A : Around) (outer : List Env) (s : Shared) (H : Hp) (vs : List V) (Q : VK) (E : XK), Room k (A.deeper (envOfC qual scope s.heap.objs.size f (.ref c))) → sp vs H Q E →
      ∃ t, PSs (cxOf CX P w K mg base N qual scope f (.ref c) A outer s H E) body t ∧ t { nx := fun _ H' => Q .non H', rt := Q } (L2.start N vs) H) : FnOk P w K mg base CX (k + 1) f fd ps sp := by
  obtain ⟨oc, od, dV, kV, doc, pm, an, cdv, ct, osl, e, lk, hcd, -, -⟩ := F.ex
  subst e
  have e2 : cdv = .ref c := hc
  subst e2
  exact fn_of lk hcd S ln hb
/-- the def p of the program is made with the code object and the table that cT finds -/
theorem code_cT {K : PySem.W.Frag} {p : He.Defn} {nm qual : Str} {params : Arguments} {body : List Stmt} {scope : Scope} {fd : FuncData} (F : FunD K nm qual params body scope [] [] (He.fAd K p) fd) : fd.code = .ref (He.cT K p).1 := by
  obtain ⟨oc, od, dV, kV, doc, pm, an, cdv, ct, osl, e, lk, hcd, -, -⟩ := F.ex
  obtain ⟨c, hc⟩ := He.codeIn_ref hcd
  have e1 : fd.code = .ref c := by
    subst e
    exact hc
  have e2 : He.codeOf K p = c := He.codeOf_eq lk e1
  rw [e1]
  show Value.ref c = Value.ref (He.codeOf K p)
  rw [e2]
/-! ### the lambda called, where what it raises is wished for at the slots as they stand -/
section
variable {X : Cx} {pins : List (Addr × Obj)} {st0 : L2.St} {H : Hp} {s0 : Shared}
theorem act_at {Eg : XK} {CXg : CXT} {Ng : List Str} {qg : Str} {sg : Scope} {g f co : Addr} {cdg pm ctv : Value} {params : Arguments} {body : Expr} {scope : Scope} {k i : Nat} {a : Str} {pn : List (Addr × Obj)} {xe : Value → Shared → Prop} {W : WX} {tb : XK → TE} {p1 p2 : Pos}
    (I : Inv X pins st0 H s0) (L : LamS X.env.scope scope) (hf : s0.heap.get? f = some (PySem.W.kla_obj "<lambda>" (X.env.qual ++ "<lambda>") params body scope (cloFrom X.env.cells scope.names []) pm co ctv)) (hfn : H f = none) (hfr : f ∉ frs X.stack)
    (hbind : bindArgs (PySem.W.kla_fn "<lambda>" (X.env.qual ++ "<lambda>") params body scope (cloFrom X.env.cells scope.names []) pm (.ref co) ctv) ⟨[], []⟩ = pure [])
    (tk : Takes ((cxOf CXg X.prog X.w X.K X.mg X.base Ng qg sg g cdg X.A X.stack s0 H Eg).tr pn xe) W) (hr : Room (k + 1) (X.A.deeper (envOfC qg sg s0.heap.objs.size g cdg)))
    (hbody : ∀ (A : Around) (outer : List Env) (s : Shared) (H : Hp) (E1 : XK), Room k (A.deeper (lamEnv X scope s.heap.objs.size f co)) → PE (lamCx X A outer s H E1 scope f co) body (tb E1))
    (hN : Ng[i]? = some a) (hv : Vis sg a) (hd : (a == ("__debug__" : Str)) = false := by decide) (hcd : (a == ("__classdict__" : Str)) = false := by decide) :
    PE ((cxOf CXg X.prog X.w X.K X.mg X.base Ng qg sg g cdg X.A X.stack s0 H Eg).tr pn xe) (.Call (.Name a p1) [] [] p2)
      (fun stZ HZ Q => stZ[i]? = some (some (.ref f)) ∧ HZ co = some (CodeO co (X.env.qual ++ "<lambda>")) ∧ ∃ E : XK, (∀ cls d H', E cls d H' → W cls d stZ H') ∧ tb E st0 HZ Q) := by
  refine ⟨fun pinsZ sZ stZ HZ Q IZ hz => ?_⟩
  obtain ⟨hs, hc, E, hW, ht⟩ := hz
  refine wpAny_Call_Name_kw (thn ((pe_var (pos := p1) (i := i) hN hv hd hcd).run pinsZ sZ stZ HZ (fun v H1 => v = .ref f ∧ H1 = HZ) IZ ⟨.ref f, hs, rfl, rfl⟩) fun u s1 ⟨v, H1, I1, r1, q1⟩ => ?_)
  obtain ⟨ev, eH⟩ := q1
  subst ev
  rw [eH] at I1
  obtain rfl : u = Value.ref f := r1
  have at1 := I1.base.keep f _ hf hfn hfr (fun z => nomatch (show f ∈ ([] : List Addr) from z))
  refine PySem.W.callWith_F0 ⟨_, _, _, _, at1⟩ ?_
  have un : Un (frs X.stack) [] H HZ s0.heap s1.heap := I1.base
  obtain ⟨⟨oc, vs, t, hoc, hdc, hvc⟩, -, -⟩ := I1.hok co _ hc
  have rc : codeAny (model X.prog X.w) (X.A.deeper (envOfC qg sg s0.heap.objs.size g cdg)) (.call (.ref f) ⟨[], []⟩) (CR (L2.CX X.prog X.w) (envOfC qg sg s0.heap.objs.size g cdg :: X.stack) X.prog X.w HZ s1 Q E) s1 := by
    refine PySem.W.kla_callFunE hr.depth at1 rfl L.co L.gen rfl ⟨co, oc, vs, t, rfl, hoc, hdc, hvc⟩ ?_
    rw [hbind]
    refine wpAny_pure (wpAny_newFunctionEnv (fun y hy => (L.own y hy).2) (fun y hy => absurd hy (by simp)) (fun hh hns hsb => ⟨I1.nolimit.fresh _ hsb, ?_⟩) L.kind)
    show codeAny _ _ (.expr body (lamEnv X scope s1.heap.objs.size f co)) _ _
    have kp : ∀ b o, s1.heap.get? b = some o → hh.get? b = some o := fun b o e => hsb.extBut b o (Nat.ne_of_lt (Heap.lt_size e)) (Heap.get?_push_of_some _ e)
    have J := lam_start2 (E := E) (f := f) (c' := co) (tk := s1.toks + ([] : List (Str × Value)).length) I L I1.env0 hr.hd un hns kp
    refine PySem.W.kla_codeExpr (wpAny_mono ((hbody _ _ s1 HZ E (hr.deeper _)).run [] _ _ HZ Q J ht) (fun v s2 hq => ?_) fun e s2 hq => hq)
    obtain ⟨v2, H2, J2, rv, q⟩ := hq
    exact ⟨v2, H2, J2.os, J2.bare, J2.base, J2.hok, rv, q⟩
  refine wpAny_call (codeAny_mono rc fun r s2 hq => ?_)
  cases r with
  | error e =>
    exact tk e s2 (XE.of_call I1 hW hq)
  | ok fl =>
    cases fl with
    | ret u => exact I1.after hq
    | next => exact False.elim hq
    | brk => exact False.elim hq
    | cont => exact False.elim hq
end
/-- what a def makes of the lambda that it gets: it calls it by its parameter's name -/
def Gives (X : Cx) (Ng : List Str) (x : Str) (sg : Scope) (g : Addr) (cdg : Value) (bg : List Stmt) (a : Str) (TT : (XK → Hp → VK → Prop) → Hp → VK → Prop) : Prop :=
  ∀ (q : Str) (f co : Addr) (s0 : Shared) (H : Hp) (Q : VK) (tl : XK → Hp → VK → Prop),
    (∀ (W : WX) (pn : List (Addr × Obj)) (xe : Value → Shared → Prop) (p1 p2 : Pos), Takes ((cxOf C8.CX0 X.prog X.w X.K X.mg X.base Ng x sg g cdg X.A X.stack s0 H C8.E0).tr pn xe) W →
      PE ((cxOf C8.CX0 X.prog X.w X.K X.mg X.base Ng x sg g cdg X.A X.stack s0 H C8.E0).tr pn xe) (.Call (.Name a p1) [] [] p2) (fun stZ HZ Q => stZ[0]? = some (some (.ref f)) ∧ HZ co = some (CodeO co q) ∧ ∃ E : XK, (∀ cls d H', E cls d H' → W cls d stZ H') ∧ tl E HZ Q)) →
    H co = some (CodeO co q) → TT tl H Q →
    ∃ t, PSs (cxOf C8.CX0 X.prog X.w X.K X.mg X.base Ng x sg g cdg X.A X.stack s0 H C8.E0).nox bg t ∧ t { nx := fun _ H' => Q .non H', rt := Q } (L2.start Ng [.ref f]) H
/-- the module's def x takes a lambda and makes TT of it -/
def LamH (P : Program) (w : World) (K : PySem.W.Frag) (mg : Str → Option Value) (base : Heap) (x : Str) (TT : (XK → Hp → VK → Prop) → Hp → VK → Prop) : Prop :=
  ∃ (a : Str) (g : Addr) (fd : FuncData) (pg : Arguments) (bg : List Stmt) (sg : Scope) (Ng : List Str), mg x = some (.ref g) ∧ FunD K x x pg bg sg [] [] g fd ∧ L2.Binds K fd [a] [] ∧ FnScope Ng [a] sg ∧ Ng[0]? = some a ∧ Vis sg a ∧ (a == ("__debug__" : Str)) = false ∧ (a == ("__classdict__" : Str)) = false ∧
    ∀ (X : Cx) (cdv : Value), X.prog = P → X.w = w → X.K = K → X.mg = mg → X.base = base → Gives X Ng x sg g cdv bg a TT
section
variable {X : Cx}
theorem pe_lam {T : List (Addr × Str)} {TT : (XK → Hp → VK → Prop) → Hp → VK → Prop} {x : Str} {c P : Addr} {k : Nat} {params : Arguments} {body : Expr} {scope : Scope} {t : XK → TE} {p lpos pos : Pos} (h : LamH X.prog X.w X.K X.mg X.base x TT)
    (TB : TabB X.base X.mg c P) (hcode : X.env.code = .ref c) (hmT : (P, X.env.qual ++ "<lambda>") ∈ T) (hu : ∀ p ∈ T, p.1 = P → p.2 = X.env.qual ++ "<lambda>") (hr : Room (k + 2) X.A) (L : LamS X.env.scope scope)
    (hbody : ∀ (A : Around) (outer : List Env) (s : Shared) (H : Hp) (E1 : XK) (f co : Addr), Room k (A.deeper (lamEnv X scope s.heap.objs.size f co)) → PE (lamCx X A outer s H E1 scope f co) body (t E1)) (hg : Gl X x := by rfl)
    (hdef : defaultsOf params X.env = ([], []) := by rfl) (hbind : ∀ (q : Str) (cl : List (Str × Addr)) (pm cv ctv : Value), bindArgs (PySem.W.kla_fn "<lambda>" q params body scope cl pm cv ctv) ⟨[], []⟩ = pure [] := by intros; rfl) (hdb : (x == ("__debug__" : Str)) = false := by decide) :
    PE X (.Call (.Name x p) [.Lambda params body scope lpos] [] pos) (tLam T TT t) := by
  obtain ⟨a, g, fd, pg, bg, sg, Ng, hm, F, hb, Sg, hNg, hva, hd, hcd, hG⟩ := h
  obtain ⟨oc, od, dV, kV, doc, pm, an, cdv, ct, osl, efd, lk, hcg, -, -⟩ := F.ex
  subst efd
  refine ⟨fun pins s0 st0 H Q I hz => ?_⟩
  obtain ⟨hT, hz⟩ := hz
  refine wpAny_Call_Name_kw (ld_glob I hg hm ?_ hdb)
  refine PySem.W.callWith_K (h₀ := X.base) I.ok.mod.kin F.kp ?_ (by rfl) (by rfl)
  show wpAny _ _ (spliced ((false, eval (.Lambda params body scope lpos) X.env) :: backTo pos (starEach [] X.env))) _ _ s0
  refine Calls.spliced_cons (lam_make2 I TB hcode hmT hu hT hdef (L.has I.ok) fun f co pm1 ctv H1 s1 I1 eN T1 hf hfn hfr hco => ?_)
  refine Calls.spliced_nil ⟨I1.kIn, ?_⟩
  have rc : codeAny (model X.prog X.w) X.A (.call (.ref g) ⟨[.ref f], []⟩) (CR C8.CX0 X.stack X.prog X.w H1 s1 Q C8.E0) s1 := by
    refine run_ofS (N := Ng) (ps := [a]) (us := [.ref f]) (vs := [.ref f]) lk hcg Sg hr I1.env0 (hb s1 [.ref f] I1.kIn rfl) (.cons rfl .nil) rfl fun hr1 => ?_
    obtain ⟨t1, ht1, hq1⟩ := hG X cdv rfl rfl rfl rfl rfl (X.env.qual ++ "<lambda>") f co s1 H1 Q (fun E1 H2 Q2 => t E1 st0 H2 Q2) (fun W pn xe p1 p2 tk => act_at (i := 0) I1 L hf hfn hfr (hbind _ _ _ _ _) tk hr1 (fun A outer s H E1 hr2 => hbody A outer s H E1 f co hr2) hNg hva hd hcd) hco (hz H1 eN T1)
    exact ⟨t1, ht1.nox, hq1⟩
  refine wpAny_call (codeAny_mono rc fun r s2 hq => ?_)
  cases r with
  | error e => exact (show False from hq).elim
  | ok fl =>
    cases fl with
    | ret u => exact I1.after hq
    | next => exact False.elim hq
    | brk => exact False.elim hq
    | cont => exact False.elim hq
end
theorem tbu_ok {T : List (Addr × Str)} {P : Addr} {q : Str} (h : (T.all fun p => !decide (p.1 = P) || decide (p.2 = q)) = true) : ∀ p ∈ T, p.1 = P → p.2 = q := fun p hp e => by
  have := List.all_eq_true.mp h p hp
  simpa [e] using this
/-! ### calls that may raise -/
section
variable {X : Cx} {CX : CXT} {k : Nat} {C : Addr} {ps : List Str} {sp : Sp} {E : XK} {x m : Str} {p pos apos : Pos} {e o : Expr} {es : List Expr} {ta : TE} {t : TA}
theorem pe_mtE (h : MtH X.prog X.w X.K X.mg X.base CX k C m ps sp) (c : Cls X.K C) (hr : Room k X.A) (hx : Passes CX X E) (he : PE X o ta) (ha : PA X (e :: es) t) {pl : Sem Bool}
    (hst : starEach (e :: es) X.env = (false, eval e X.env) :: starEach es X.env := by rfl) (hpl : (backTo pos (starEach es X.env)).any (·.1) = false := by rfl)
    (ht : eval (.Call (.Attribute o m apos) (e :: es) [] pos) X.env = (do
      let ov ← eval o X.env
      standAt apos.atName
      let (f, first) ← holding [ov] (getMethod ov m pl)
      callWith pos f first (backTo pos (starEach (e :: es) X.env)) (backToKw pos (keywordEach [] X.env))) := by rfl) : PE X (.Call (.Attribute o m apos) (e :: es) [] pos) (tMeth C m sp [] E ta t) := by
  obtain ⟨f, fd, hm, hb, F⟩ := h
  exact pe_meth he c hm F hr hb .nil hx ha hst hpl ht
theorem pe_mkP (h : MkH X.prog X.w X.K X.mg X.base CX k x C ps sp) (hr : Room (k + 1) X.A) (hx : Passes CX X E) (ha : PA X (e :: es) t) (hg : Gl X x := by rfl) (hdb : (x == ("__debug__" : Str)) = false := by decide)
    (he : starEach (e :: es) X.env = (false, eval e X.env) :: starEach es X.env := by rfl) (hpl : (backTo pos (starEach es X.env)).any (·.1) = false := by rfl) : PE X (.Call (.Name x p) (e :: es) [] pos) (tMake C sp [] E t) := by
  obtain ⟨f, fd, hm, M, hb, F⟩ := h
  exact pe_make M F hr hg hm hb .nil hx ha hdb he hpl
end
section
variable {H H1 H2 : Hp}
theorem r_lam {T : List (Addr × Str)} {TT : (XK → Hp → VK → Prop) → Hp → VK → Prop} {t : XK → TE} {st0 : L2.St} {Q : VK} (hT : Tabs T H) (q : ∀ H1, ExtN H H1 → Tabs T H1 → TT (fun E1 H2 Q2 => t E1 st0 H2 Q2) H1 Q) : tLam T TT t st0 H Q := ⟨hT, q⟩
theorem ExtN.of_same (s : Same H H1) : ExtN H H1 := fun b o e _ => s b o e
end
theorem r_clear {l : Addr} {xs : List V} {H : Hp} {Q : VK} (h : H l = some (.lst xs)) (q : Q .non (upd H l (.lst []))) : rClear (.ref l) [] H Q := ⟨l, xs, rfl, rfl, h, q⟩
theorem op_inK {X : Cx} {K : PySem.W.Frag} (h : X.K = K) : OpR X (compareOp .In) (rIn K false) := h ▸ op_in_seq
theorem op_ninK {X : Cx} {K : PySem.W.Frag} (h : X.K = K) : OpR X (compareOp .NotIn) (rIn K true) := h ▸ op_notIn_seq
theorem lk_relabel {env : Env} {sc : Scope} {x : Str} (h : sc.names.lookup x = some .cell ∨ sc.names.lookup x = some .free) : (relabel sc env).names.lookup x = some .cell ∨ (relabel sc env).names.lookup x = some .free := by
  unfold relabel
  generalize sc.names = names at h ⊢
  show (names.map fun (n, k) => if (k == NameKind.free && env.scope.kind == .function && env.kindOf n == some .cell) then (n, NameKind.cell) else (n, k)).lookup x = some .cell ∨ (names.map fun (n, k) => if (k == NameKind.free && env.scope.kind == .function && env.kindOf n == some .cell) then (n, NameKind.cell) else (n, k)).lookup x = some .free
  induction names with
  | nil => simp at h
  | cons y r ih =>
    obtain ⟨n, k⟩ := y
    rw [List.map_cons]
    generalize List.map _ r = r' at ih ⊢
    show List.lookup x ((if (k == NameKind.free && env.scope.kind == .function && env.kindOf n == some .cell) = true then (n, NameKind.cell) else (n, k)) :: r') = some .cell ∨ List.lookup x ((if (k == NameKind.free && env.scope.kind == .function && env.kindOf n == some .cell) = true then (n, NameKind.cell) else (n, k)) :: r') = some .free
    by_cases hc : (k == NameKind.free && env.scope.kind == .function && env.kindOf n == some .cell) = true
    · rw [if_pos hc]
      cases hx : x == n with
      | true => simp [List.lookup_cons, hx]
      | false =>
        simp only [List.lookup_cons, hx] at h ⊢
        exact ih h
    · rw [if_neg hc]
      cases hx : x == n with
      | true =>
        simp only [List.lookup_cons, hx] at h ⊢
        exact h
      | false =>
        simp only [List.lookup_cons, hx] at h ⊢
        exact ih h
/-- a comprehension's block within another's -/
theorem blk_in {X : Cx} {N : List Str} {sc scope : Scope} {own : List (Str × Nat)} {s : Shared} {H : Hp} {C : Addr} {cl : List (Str × Addr)} {fp : List Addr} (hN : X.N = N) (h : blkC N sc scope own = true) : BlkOk (X.blk s H sc (compEnvC sc cl C X.env) fp).N (X.blk s H sc (compEnvC sc cl C X.env) fp).env.scope scope own := by
  subst hN
  have b := blkOk_by h
  refine ⟨b.kind, b.uniq, b.ix, fun y hy e => ?_, b.own⟩
  show (relabel sc X.env).names.lookup y.1 = some .cell ∨ (relabel sc X.env).names.lookup y.1 = some .free
  exact lk_relabel (b.free y hy e)
theorem pi_listK {X : Cx} {K : PySem.W.Frag} {tg l : Expr} {tl : TE} (h : X.K = K) (hl : PE X l tl) : PI X tg l (iList K tl) := h ▸ pi_list hl
theorem pi_tupK {X : Cx} {K : PySem.W.Frag} {tg l : Expr} {tl : TE} (h : X.K = K) (hl : PE X l tl) : PI X tg l (iTup K tl) := h ▸ pi_tup hl
end KrL

/-! Defs that ask for texts of things by repr: no such asking is under way where they begin. -/
namespace KrG
open Kr L2 PySem PySem.Spec PyProof.Rows LamX
/-- a def's promise where nothing is being told by repr -/
structure FnOkG (P : Program) (w : World) (K : PySem.W.Frag) (mg : Str → Option Value) (base : Heap) (CX : CXT) (k : Nat) (f : Addr) (fd : FuncData) (ps : List Str) (sp : Sp) : Prop where
  ln : ∀ vs H Q E, sp vs H Q E → vs.length = ps.length
  go : ∀ (A : Around) (outer : List Env) (s : Shared) (H : Hp) (args : Args) (us : List Value) (vs : List V) (Q : VK) (E : XK), A.guards = some [] → Room k A → Env0 P w K mg base A outer s H → BindsTo s fd args (ps.zip us) → Vals vs us → sp vs H Q E →
    codeAny (model P w) A (.call (.ref f) args) (CR CX outer P w H s Q E) s
theorem grd_deeper (A : Around) (e : Env) : (A.deeper e).guards = A.guards := by
  first | rfl | (cases A; simp [Around.deeper])
section
variable {P : Program} {w : World} {K : PySem.W.Frag} {mg : Str → Option Value} {base : Heap} {nm qual : Str} {params : Arguments} {body : List Stmt} {scope : Scope} {f c : Addr} {fd : FuncData} {N ps : List Str} {k : Nat} {sp : Sp}
theorem okG (F : FunD K nm qual params body scope [] [] f fd) (S : FnScope N ps scope) (ln : ∀ vs H Q E, sp vs H Q E → vs.length = ps.length)
    (hb : ∀ (cdv : Value) (A : Around) (outer : List Env) (s : Shared) (H : Hp) (vs : List V) (Q : VK) (E : XK), fd.code = cdv → (A.deeper (envOfC qual scope s.heap.objs.size f cdv)).guards = some [] → Room k (A.deeper (envOfC qual scope s.heap.objs.size f cdv)) → sp vs H Q E →
      ∃ t, PSs (cxOf C8.CX0 P w K mg base N qual scope f cdv A outer s H E) body t ∧ t { nx := fun _ H' => Q .non H', rt := Q } (L2.start N vs) H) : FnOkG P w K mg base C8.CX0 (k + 1) f fd ps sp := by
  obtain ⟨oc, od, dV, kV, doc, pm, an, cdv, ct, osl, efd, lk, hcd, -, -⟩ := F.ex
  subst efd
  refine ⟨ln, fun A outer s H args us vs Q E hg hr e0 hbd rv hsp => ?_⟩
  refine run_ofS (N := N) lk hcd S hr e0 hbd rv (ln _ _ _ _ hsp) fun hr1 => ?_
  exact hb cdv A outer s H vs Q E rfl (by rw [grd_deeper]; exact hg) hr1 hsp
end
section
variable (P : Program) (w : World) (K : PySem.W.Frag) (mg : Str → Option Value) (base : Heap) (CX : CXT) (k : Nat)
def FnHG (x : Str) (ps : List Str) (sp : Sp) : Prop := ∃ (f : Addr) (fd : FuncData), mg x = some (.ref f) ∧ PySem.W.keepIn K (.ref f) = true ∧ Binds K fd ps [] ∧ FnOkG P w K mg base CX k f fd ps sp
end
theorem FnHG.of {P : Program} {w : World} {K : PySem.W.Frag} {mg : Str → Option Value} {base : Heap} {CX : CXT} {k : Nat} {x : Str} {fd : FuncData} {params : Arguments} {body : List Stmt} {scope : Scope} {ps : List Str} {sp : Sp} {qual : Str}
    (F : FunD K x qual params body scope [] [] (He.ga K x) fd) (g : mg x = some (.ref (He.ga K x))) (b : Binds K fd ps []) (ok : FnOkG P w K mg base CX k (He.ga K x) fd ps sp) : FnHG P w K mg base CX k x ps sp := ⟨_, _, g, F.kp, b, ok⟩
section
variable {X : Cx} {k : Nat} {ps : List Str} {sp : Sp} {x : Str} {p pos : Pos} {e : Expr} {es : List Expr} {t : TA}
theorem pe_clG (h : FnHG X.prog X.w X.K X.mg X.base C8.CX0 k x ps sp) (hgd : X.A.guards = some []) (hr : Room k X.A) (ha : PA X (e :: es) t) (hg : Gl X x := by rfl) (hdb : (x == ("__debug__" : Str)) = false := by decide)
    (he : starEach (e :: es) X.env = (false, eval e X.env) :: starEach es X.env := by rfl) (hpl : (backTo pos (starEach es X.env)).any (·.1) = false := by rfl) : PE X (.Call (.Name x p) (e :: es) [] pos) (tCall sp [] E0 t) := by
  obtain ⟨f, fd, hm, hk, hb, F⟩ := h
  refine ⟨fun pins s0 st0 H Q I hq => ?_⟩
  refine wpAny_Call_Name_kw (ld_glob I hg hm ?_ hdb)
  refine PySem.W.callWith_K (h₀ := X.base) I.ok.mod.kin hk (thn (ha.run pos pins s0 st0 H _ I hq) fun us s1 ⟨vs, H1, I1, r1, q1⟩ => ⟨I1.kIn, ?_⟩) he hpl
  have q2 : sp vs H1 Q E0 := by
    have z : sp (vs ++ []) H1 Q E0 := q1
    rwa [List.append_nil] at z
  have hl : us.length = ps.length := by rw [← r1.length]; exact F.ln _ _ _ _ q2
  have hbd := hb s1 us I1.kIn (by simpa using hl)
  rw [List.append_nil] at hbd
  refine wpAny_call (codeAny_mono (F.go X.A X.stack s1 H1 ⟨us, []⟩ us vs Q E0 hgd hr I1.env0 hbd r1 q2) fun r s2 hq2 => ?_)
  cases r with
  | error er => exact (show False from hq2).elim
  | ok fl =>
    cases fl with
    | ret u => exact I1.after hq2
    | next => exact False.elim hq2
    | brk => exact False.elim hq2
    | cont => exact False.elim hq2
end
/-! ### defs that take a lambda, where nothing is being told by repr -/
def GivesG (X : Cx) (Ng : List Str) (x : Str) (sg : Scope) (g : Addr) (cdg : Value) (bg : List Stmt) (a : Str) (TT : (XK → Hp → VK → Prop) → Hp → VK → Prop) : Prop :=
  ∀ (q : Str) (f co : Addr) (s0 : Shared) (H : Hp) (Q : VK) (tl : XK → Hp → VK → Prop), (X.A.deeper (envOfC x sg s0.heap.objs.size g cdg)).guards = some [] → Room 1 (X.A.deeper (envOfC x sg s0.heap.objs.size g cdg)) →
    (∀ (W : WX) (pn : List (Addr × Obj)) (xe : Value → Shared → Prop) (p1 p2 : Pos), Takes ((cxOf C8.CX0 X.prog X.w X.K X.mg X.base Ng x sg g cdg X.A X.stack s0 H C8.E0).tr pn xe) W →
      PE ((cxOf C8.CX0 X.prog X.w X.K X.mg X.base Ng x sg g cdg X.A X.stack s0 H C8.E0).tr pn xe) (.Call (.Name a p1) [] [] p2) (fun stZ HZ Q => stZ[0]? = some (some (.ref f)) ∧ HZ co = some (CodeO co q) ∧ ∃ E : XK, (∀ cls d H', E cls d H' → W cls d stZ H') ∧ tl E HZ Q)) →
    H co = some (CodeO co q) → TT tl H Q →
    ∃ t, PSs (cxOf C8.CX0 X.prog X.w X.K X.mg X.base Ng x sg g cdg X.A X.stack s0 H C8.E0).nox bg t ∧ t { nx := fun _ H' => Q .non H', rt := Q } (L2.start Ng [.ref f]) H
def LamHG (P : Program) (w : World) (K : PySem.W.Frag) (mg : Str → Option Value) (base : Heap) (x : Str) (TT : (XK → Hp → VK → Prop) → Hp → VK → Prop) : Prop :=
  ∃ (a : Str) (g : Addr) (fd : FuncData) (pg : Arguments) (bg : List Stmt) (sg : Scope) (Ng : List Str), mg x = some (.ref g) ∧ FunD K x x pg bg sg [] [] g fd ∧ L2.Binds K fd [a] [] ∧ FnScope Ng [a] sg ∧ Ng[0]? = some a ∧ Vis sg a ∧ (a == ("__debug__" : Str)) = false ∧ (a == ("__classdict__" : Str)) = false ∧
    ∀ (X : Cx) (cdv : Value), X.prog = P → X.w = w → X.K = K → X.mg = mg → X.base = base → GivesG X Ng x sg g cdv bg a TT
section
variable {X : Cx}
theorem pe_lamG {T : List (Addr × Str)} {TT : (XK → Hp → VK → Prop) → Hp → VK → Prop} {x : Str} {c P : Addr} {k : Nat} {params : Arguments} {body : Expr} {scope : Scope} {t : XK → TE} {p lpos pos : Pos} (hgd : X.A.guards = some []) (h : LamHG X.prog X.w X.K X.mg X.base x TT)
    (TB : TabB X.base X.mg c P) (hcode : X.env.code = .ref c) (hmT : (P, X.env.qual ++ "<lambda>") ∈ T) (hu : ∀ p ∈ T, p.1 = P → p.2 = X.env.qual ++ "<lambda>") (hr : Room (k + 2) X.A) (L : LamS X.env.scope scope)
    (hbody : ∀ (A : Around) (outer : List Env) (s : Shared) (H : Hp) (E1 : XK) (f co : Addr), Room k (A.deeper (lamEnv X scope s.heap.objs.size f co)) → PE (lamCx X A outer s H E1 scope f co) body (t E1)) (hg : Gl X x := by rfl)
    (hdef : defaultsOf params X.env = ([], []) := by rfl) (hbind : ∀ (q : Str) (cl : List (Str × Addr)) (pm cv ctv : Value), bindArgs (PySem.W.kla_fn "<lambda>" q params body scope cl pm cv ctv) ⟨[], []⟩ = pure [] := by intros; rfl) (hdb : (x == ("__debug__" : Str)) = false := by decide) :
    PE X (.Call (.Name x p) [.Lambda params body scope lpos] [] pos) (tLam T TT t) := by
  obtain ⟨a, g, fd, pg, bg, sg, Ng, hm, F, hb, Sg, hNg, hva, hd, hcd, hG⟩ := h
  obtain ⟨oc, od, dV, kV, doc, pm, an, cdv, ct, osl, efd, lk, hcg, -, -⟩ := F.ex
  subst efd
  refine ⟨fun pins s0 st0 H Q I hz => ?_⟩
  obtain ⟨hT, hz⟩ := hz
  refine wpAny_Call_Name_kw (ld_glob I hg hm ?_ hdb)
  refine PySem.W.callWith_K (h₀ := X.base) I.ok.mod.kin F.kp ?_ (by rfl) (by rfl)
  show wpAny _ _ (spliced ((false, eval (.Lambda params body scope lpos) X.env) :: backTo pos (starEach [] X.env))) _ _ s0
  refine Calls.spliced_cons (lam_make2 I TB hcode hmT hu hT hdef (L.has I.ok) fun f co pm1 ctv H1 s1 I1 eN T1 hf hfn hfr hco => ?_)
  refine Calls.spliced_nil ⟨I1.kIn, ?_⟩
  have rc : codeAny (model X.prog X.w) X.A (.call (.ref g) ⟨[.ref f], []⟩) (CR C8.CX0 X.stack X.prog X.w H1 s1 Q C8.E0) s1 := by
    refine run_ofS (N := Ng) (ps := [a]) (us := [.ref f]) (vs := [.ref f]) lk hcg Sg hr I1.env0 (hb s1 [.ref f] I1.kIn rfl) (.cons rfl .nil) rfl fun hr1 => ?_
    obtain ⟨t1, ht1, hq1⟩ := hG X cdv rfl rfl rfl rfl rfl (X.env.qual ++ "<lambda>") f co s1 H1 Q (fun E1 H2 Q2 => t E1 st0 H2 Q2) (by rw [grd_deeper]; exact hgd) (hr1.mono (by omega)) (fun W pn xe p1 p2 tk => KrL.act_at (i := 0) I1 L hf hfn hfr (hbind _ _ _ _ _) tk hr1 (fun A outer s H E1 hr2 => hbody A outer s H E1 f co hr2) hNg hva hd hcd) hco (hz H1 eN T1)
    exact ⟨t1, ht1.nox, hq1⟩
  refine wpAny_call (codeAny_mono rc fun r s2 hq => ?_)
  cases r with
  | error e => exact (show False from hq).elim
  | ok fl =>
    cases fl with
    | ret u => exact I1.after hq
    | next => exact False.elim hq
    | brk => exact False.elim hq
    | cont => exact False.elim hq
end
/-! ### repr -/
mutual
/-- what a value in memory tells: nothing, a truth value, a number, a text, a list, a tuple, an empty dict -/
inductive Dr (H : Hp) : V → PyData → Prop
  | non : Dr H .non .none
  | bl (b : Bool) : Dr H (.bl b) (.bool b)
  | int (i : Int) : Dr H (.int i) (.int i)
  | str (x : Str) : Dr H (.str x) (.str x)
  | lst {a : Addr} {xs : List V} {ds : List PyData} : H a = some (.lst xs) → DrAll H xs ds → Dr H (.ref a) (.list ds)
  | tup {a : Addr} {xs : List V} {ds : List PyData} : H a = some (.tup xs) → DrAll H xs ds → Dr H (.ref a) (.tuple ds)
  | dct {a : Addr} : H a = some (.dK []) → Dr H (.ref a) (.dict [])
inductive DrAll (H : Hp) : List V → List PyData → Prop
  | nil : DrAll H [] []
  | cons {v : V} {vs : List V} {d : PyData} {ds : List PyData} : Dr H v d → DrAll H vs ds → DrAll H (v :: vs) (d :: ds)
end
mutual
theorem Dr.xn {H H1 : Hp} (x : ExtN H H1) : ∀ {v : V} {d : PyData}, Dr H v d → Dr H1 v d
  | _, _, .non => .non
  | _, _, .bl b => .bl b
  | _, _, .int i => .int i
  | _, _, .str y => .str y
  | _, _, .lst h a => .lst (x _ _ h (fun _ z => by cases z)) (DrAll.xn x a)
  | _, _, .tup h a => .tup (x _ _ h (fun _ z => by cases z)) (DrAll.xn x a)
  | _, _, .dct h => .dct (x _ _ h (fun _ z => by cases z))
theorem DrAll.xn {H H1 : Hp} (x : ExtN H H1) : ∀ {vs : List V} {ds : List PyData}, DrAll H vs ds → DrAll H1 vs ds
  | _, _, .nil => .nil
  | _, _, .cons h a => .cons (Dr.xn x h) (DrAll.xn x a)
end
section
variable {X : Cx} {pins : List (Addr × Obj)} {σ : L2.St} {H : Hp} {s : Shared}
mutual
theorem Dr.reads (I : Inv X pins σ H s) (hno : ∀ o, H sysModules ≠ some o) : ∀ (d : PyData) (v : V) (u : Value), Dr H v d → RelV v u → ∃ as, Reads s.heap u d as ∧ sysModules ∉ as
  | .none, _, _, h, r => by
    cases h
    cases r
    exact ⟨_, Reads.none, by simp⟩
  | .bool b, _, _, h, r => by
    cases h
    cases r
    exact ⟨_, Reads.bool b, by simp⟩
  | .int i, _, _, h, r => by
    cases h
    obtain ⟨t, rfl⟩ := r
    exact ⟨_, Reads.int i t, by simp⟩
  | .str x, _, _, h, r => by
    cases h
    obtain ⟨t, rfl⟩ := r
    exact ⟨_, Reads.str x t, by simp⟩
  | .list ds, _, _, h, r => by
    cases h with
    | @lst a xs _ hs ha =>
      cases r
      obtain ⟨-, its, n, rv, ho⟩ : ObjOk X.prog X.w H s.heap a (.lst xs) := I.hok a _ hs
      obtain ⟨as, hr, hn⟩ := Dr.readsAll I hno ds _ its ha rv
      refine ⟨_, Reads.list ho rfl rfl (by simpa using hr), fun hm => ?_⟩
      rcases List.mem_cons.mp hm with e | hm
      · exact hno _ (by rw [e]; exact hs)
      · exact hn hm
  | .tuple ds, _, _, h, r => by
    cases h with
    | tup hs ha =>
      cases r
      obtain ⟨its, rv, ⟨o, ho, hc, n, hd⟩, _⟩ := I.tuple (SqT.of hs)
      obtain ⟨as, hr, hn⟩ := Dr.readsAll I hno ds _ its ha rv
      exact ⟨_, Reads.tuple ho hc hd (by simpa using hr), hn⟩
  | .dict kvs, _, _, h, r => by
    cases h with
    | @dct a hs =>
      cases r
      obtain ⟨-, hsm, vs, kv, o, es, ep, ho, ex, hd, -, hp, -⟩ : ObjOk X.prog X.w H s.heap a (.dK []) := I.hok a _ hs
      cases kv
      have e0 : es.toList = [] := by
        cases q : es.toList with
        | nil => rfl
        | cons x l =>
          rw [q] at hp
          cases hp
      refine ⟨_, Reads.dict (as := []) (bs := []) ho ex.1 hd (by rw [e0]; exact .nil) (by rw [e0]; exact .nil), fun hm => ?_⟩
      rcases List.mem_append.mp hm with hm | hm
      · rcases List.mem_cons.mp hm with e | hm
        · rw [← e] at hsm
          simp at hsm
        · cases hm
      · cases hm
theorem Dr.readsAll (I : Inv X pins σ H s) (hno : ∀ o, H sysModules ≠ some o) : ∀ (ds : List PyData) (vs : List V) (us : List Value), DrAll H vs ds → Vals vs us → ∃ as, ReadsAll s.heap us ds as ∧ sysModules ∉ as
  | [], _, _, h, r => by
    cases h
    cases r
    exact ⟨_, ReadsAll.nil, by simp⟩
  | d :: ds, _, _, h, r => by
    cases h with
    | cons h1 h2 =>
      cases r with
      | cons r1 r2 =>
        obtain ⟨as, q1, n1⟩ := Dr.reads I hno d _ _ h1 r1
        obtain ⟨bs, q2, n2⟩ := Dr.readsAll I hno ds _ _ h2 r2
        exact ⟨_, ReadsAll.cons q1 q2, fun hm => (List.mem_append.mp hm).elim n1 n2⟩
end
end
/-- repr(x) -/
def rRep : List V → Hp → VK → Prop := fun xs H Q => ∃ v d, xs = [v] ∧ Dr H v d ∧ d.showable = true ∧ d.depth ≤ 50 ∧ d.shown.length ≤ sizeLine ∧ Q (.str d.shown) H
theorem c_repr {X : Cx} (hgd : X.A.guards = some []) (hu : X.A.units + 64 < cLine) (hk : (X.K.lookup sysModules).isSome = true) : CallR X (.builtin "repr") rRep := by
  intro pins s0 st0 H xs us Q I r h
  obtain ⟨v, d, rfl, hd, hs, hdp, hz, q⟩ := h
  obtain ⟨u, rfl, ru⟩ := vals1 r
  have hno : ∀ o, H sysModules ≠ some o := fun o e => by
    obtain ⟨o2, e2⟩ := Option.isSome_iff_exists.mp hk
    have := (I.bs _ _ (I.mod.kin _ _ e2)).2
    rw [e] at this
    cases this
  cases v with
  | non =>
    obtain rfl : u = Value.none := ru
    cases hd
    exact PySem.P.repr_of_none ⟨.str _, H, I.tok _, ⟨_, rfl⟩, q⟩
  | bl b =>
    obtain rfl : u = Value.bool b := ru
    cases hd
    exact PySem.P.repr_of_bool ⟨.str _, H, I.tok _, ⟨_, rfl⟩, by cases b <;> exact q⟩
  | int i =>
    obtain ⟨t, rfl⟩ := ru
    cases hd
    exact PySem.P.repr_of_int (of_decide_eq_true hs) ⟨.str _, H, I.tok _, ⟨_, rfl⟩, q⟩
  | str x =>
    obtain ⟨t, rfl⟩ := ru
    cases hd
    exact PySem.P.repr_of_str ⟨.str _, H, I.tok _, ⟨_, rfl⟩, q⟩ hz
  | ref a =>
    obtain rfl : u = Value.ref a := ru
    obtain ⟨as, hr, hn⟩ := Dr.reads I hno d (.ref a) (.ref a) hd rfl
    refine repr_of_reads' hr hs (fun _ => hn) hgd (by omega) (fun _ _ e => e) (fun h' u tk keep => ?_) hz
    exact ⟨.str d.shown, H, I.kept keep, ⟨_, rfl⟩, q⟩
  | _ => cases hd
theorem r_rep {H : Hp} {Q : VK} {v : V} {d : PyData} (hd : Dr H v d) (hs : d.showable = true) (hp : d.depth ≤ 50) (hz : d.shown.length ≤ sizeLine) (q : Q (.str d.shown) H) : rRep [v] H Q := ⟨v, d, rfl, hd, hs, hp, hz, q⟩
/-! ### the head's facts, sys.modules among what is written -/
def frS (n : Nat) (g : Addr → Option Obj) : PySem.W.Frag := He.frT g (sysModules :: He.asD g n)
def obsS (n : Nat) (fa : List He.Fa) (fn : List He.DefD) (tf : List He.Defn) (ex : PySem.W.Frag → Bool) (g : Addr → Option Obj) : He.AlX := (He.obsT fa fn [] (frS n g), ex (frS n g) && He.tabsB g tf (frS n g))
theorem saysS {n : Nat} {fa : List He.Fa} {fn : List He.DefD} {tf : List He.Defn} {ex : PySem.W.Frag → Bool} {w : World} {h : Heap} (e : obsS n fa fn tf ex h.get? = He.valX fn [] w) : He.SaysX fa fn [] tf ex w h (frS n h.get?) := by
  obtain ⟨e1, e2⟩ := Prod.mk.inj e
  obtain ⟨h1, h2⟩ := Bool.and_eq_true_iff.mp e2
  have key : ∀ p ∈ tf, PySem.W.codeHdIn (frS n h.get?) (He.cT (frS n h.get?) p).1 (He.cT (frS n h.get?) p).2 = true ∧ ∃ o, h.get? (He.cT (frS n h.get?) p).2 = some o ∧ He.emptyTab o = true := fun p hp => by
    obtain ⟨h3, h4⟩ := Bool.and_eq_true_iff.mp (List.all_eq_true.mp h2 p hp)
    refine ⟨h3, ?_⟩
    cases q : h.get? (He.cT (frS n h.get?) p).2 with
    | none =>
      rw [q] at h4
      cases h4
    | some o =>
      rw [q] at h4
      exact ⟨o, rfl, h4⟩
  refine ⟨e1, h1, fun p hp => (key p hp).1, fun p hp => ?_, fun p hp => ?_⟩
  · obtain ⟨-, o, q, z⟩ := key p hp
    exact He.frT_none q z
  · obtain ⟨-, o, q, z⟩ := key p hp
    rw [q, He.emptyTab_eq z]
def hookS (n : Nat) (fa : List He.Fa) (fn : List He.DefD) (tf : List He.Defn) (ex : PySem.W.Frag → Bool) : PySem.W.Hook where
  α := He.AlX
  obs := fun s => obsS n fa fn tf ex s.heap.get?
  val := fun w => He.valX fn [] w
  says := fun w h => ∃ K : PySem.W.Frag, K.In h ∧ He.SaysX fa fn [] tf ex w h K
  of := fun _ _ e => ⟨_, He.frT_in, saysS e⟩
  keeps := fun _ _ _ ⟨K, hK, c⟩ k => ⟨K, PySem.W.Frag.In.keeps hK k, ⟨c.t, c.more, c.hd, c.out, fun p hp => k _ _ (c.empty p hp)⟩⟩
theorem obsS_eq {n : Nat} {fa : List He.Fa} {fn : List He.DefD} {tf : List He.Defn} {ex : PySem.W.Frag → Bool} {g : Addr → Option Obj} {s : Shared} (h : ∀ a, g a = s.heap.get? a) : obsS n fa fn tf ex g = (hookS n fa fn tf ex).obs s := by
  have e : g = s.heap.get? := funext h
  rw [e] <;> rfl
/-! ### the end of a law whose defs are of this kind -/
section
variable {P : Program} {w : World} {K : PySem.W.Frag} {mg mb : Str → Option Value} {k : Nat} {fa a : Addr} {cs : List (Addr × Addr)} {fd : FuncData} {x : Str} {sp : Sp} {s1 : Shared} {vs : List Value} {ns : List Int}
/-- what is told of memory at the law's call: the tables, and the script where the written part has it not -/
noncomputable def Hp0 (K : PySem.W.Frag) (cs : List (Addr × Addr)) (a : Addr) (o : Obj) (ns : List Int) : Hp := fun b => by
  classical
  exact if b ∈ cs.map (·.2) then some (.tbl #[]) else if b = a ∧ K.lookup a = none then some (.frz o (.lst (ns.map V.int))) else none
theorem hp0_tab {o : Obj} {b : Addr} (h : b ∈ cs.map (·.2)) : Hp0 K cs a o ns b = some (.tbl #[]) := by
  unfold Hp0
  rw [if_pos h]
theorem hp0_cases {o : Obj} {b : Addr} {u : HO} (e : Hp0 K cs a o ns b = some u) : (b ∈ cs.map (·.2) ∧ u = .tbl #[]) ∨ (b ∉ cs.map (·.2) ∧ b = a ∧ K.lookup a = none ∧ u = .frz o (.lst (ns.map V.int))) := by
  unfold Hp0 at e
  split at e
  · rename_i h
    exact .inl ⟨h, (Option.some.inj e).symm⟩
  · rename_i h
    split at e
    · rename_i h2
      exact .inr ⟨h, h2.1, h2.2, (Option.some.inj e).symm⟩
    · cases e
theorem lawG (KX : K.In s1.heap) (hns : s1.heap.Ns mainGlobals mg) (hb : s1.heap.Ns builtinsNs mb) (hbb : ∀ y : Str, y ≠ "__name__" → mb y = bootBuiltins y) (hlim : s1.heap.NoLimit) (hg : s1.gens = #[])
    (hT : ∀ p ∈ cs, s1.heap.get? p.2 = some { cls := .none, data := .fields #[] }) (nT : ∀ p ∈ cs, K.lookup p.2 = none) (C : ∀ p ∈ cs, PySem.W.CodeHd s1.heap p.1 p.2)
    (hbm : ∃ (bm : Addr) (ob : Obj), mg "__builtins__" = some (.ref bm) ∧ bm ≠ builtinsNs ∧ s1.heap.get? bm = some ob ∧ ob.cls = .type "module" ∧ ob.dict = some builtinsNs ∧ ob.data = .plain)
    (ha : s1.heap.get? a = some { cls := .type "list", data := .seq vs.toArray }) (hi : IntsAre vs ns) (hl : ns.length ≤ sizeLine) (hr : Room k callerA)
    (F : ∀ base : Heap, K.In base → base.Ns mainGlobals mg → (∀ p ∈ cs, TabB base mg p.1 p.2) → FnOkG P w K mg base C8.CX0 k fa fd [x] sp) (hbind : ∀ (s : Shared) (u : Value), BindsTo s fd ⟨[u], []⟩ [(x, u)])
    (hsp : ∀ H : Hp, (∀ p ∈ cs, H p.2 = some (.tbl #[])) → SqL K H a (ns.map V.int) → sp [.ref a] H (fun v _ => v = .bl true) fun _ _ _ => False) :
    codeAny (model P w) callerA (.call (.ref fa) ⟨[.ref a], []⟩) (fun r s2 => r = .ok (.ret (.bool true)) ∧ OldK s1.heap s2.heap ∧ s2.os = s1.os ∧ AllBare s2.gens) s1 := by
  have rv := vals_ints hi
  have hlv := hi.length
  have tabAt : ∀ b ∈ cs.map (·.2), s1.heap.get? b = some { cls := .none, data := .fields #[] } := fun b hm => by
    obtain ⟨p, hp, rfl⟩ := List.mem_map.mp hm
    exact hT p hp
  generalize hO : ({ cls := .type "list", data := .seq vs.toArray } : Obj) = oa at ha
  have hdat : oa.data = .seq vs.toArray := by rw [← hO]
  have aT : a ∉ cs.map (·.2) := fun z => by
    have q := (tabAt a z).symm.trans ha
    rw [← hO] at q
    cases q
  have lstOk : ∀ H : Hp, ObjOk P w H s1.heap a (.lst (ns.map V.int)) := fun H => ⟨by rw [List.length_map]; exact hl, vs, _, rv, by rw [hO]; exact ha⟩
  -- the told memory
  obtain ⟨H, hH⟩ : ∃ H, H = Hp0 K cs a oa ns := ⟨_, rfl⟩
  have hc : ∀ {b u}, H b = some u → (b ∈ cs.map (·.2) ∧ u = .tbl #[]) ∨ (b ∉ cs.map (·.2) ∧ b = a ∧ K.lookup a = none ∧ u = .frz oa (.lst (ns.map V.int))) := fun {b u} e => by
    rw [hH] at e
    exact hp0_cases e
  have ht : ∀ p ∈ cs, H p.2 = some (.tbl #[]) := fun p hp => by
    rw [hH]
    exact hp0_tab (List.mem_map.mpr ⟨p, hp, rfl⟩)
  have hS : SqL K H a (ns.map V.int) := by
    cases q : K.lookup a with
    | some o2 =>
      have e := (KX a o2 q).symm.trans ha
      cases e
      exact .inr ⟨_, vs.toArray, _, q, by rw [← hO], by rw [← hO], by rw [← hO], by rw [List.size_toArray, hlv]; exact hl, by simpa using rv⟩
    | none =>
      refine .inl (.inr ⟨oa, ?_⟩)
      rw [hH]
      unfold Hp0
      rw [if_neg aT, if_pos ⟨rfl, q⟩]
  have hok : HOk P w H s1.heap := fun b u e => by
    rcases hc e with ⟨hb1, rfl⟩ | ⟨-, rfl, -, rfl⟩
    · exact tabAt b hb1
    · exact ⟨ha, lstOk H⟩
  have off : ∀ {b : Addr} {o : Obj}, s1.heap.get? b = some o → o.data ≠ .fields #[] → o.data ≠ .seq vs.toArray → H b = none := fun {b o} e n1 n2 => by
    cases q : H b with
    | none => rfl
    | some u =>
      exfalso
      rcases hc q with ⟨hb1, -⟩ | ⟨-, rfl, -, -⟩
      · exact n1 (by rw [Option.some.inj (e.symm.trans (tabAt b hb1))])
      · exact n2 (by rw [Option.some.inj (e.symm.trans ha)]; exact hdat)
  have keepNs : ∀ {b : Addr} {m : Str → Option Value}, s1.heap.Ns b m → (hidT s1.heap H).Ns b m := fun {b m} ⟨o, es, ep, e, hd, rest⟩ =>
    ⟨o, es, ep, hidT_get e (off e (by rw [hd]; intro z; cases z) (by rw [hd]; intro z; cases z)), hd, rest⟩
  have hKb : K.In (hidT s1.heap H) := fun b o e => hidT_get (KX b o e) (by
    cases q : H b with
    | none => rfl
    | some u =>
      exfalso
      rcases hc q with ⟨hb1, -⟩ | ⟨-, rfl, n, -⟩
      · obtain ⟨p, hp, rfl⟩ := List.mem_map.mp hb1
        rw [nT p hp] at e
        cases e
      · rw [n] at e
        cases e)
  have hM : L2.Mod K mg (hidT s1.heap H) := ⟨hKb, keepNs hns, ⟨mb, keepNs hb, hbb⟩, by obtain ⟨mc, m1, m2⟩ := hlim; exact ⟨mc, keepNs m1, m2⟩⟩
  have notDict : ∀ {b : Addr} {m : Str → Option Value} {o : Obj}, s1.heap.Ns b m → s1.heap.get? b = some o → ∃ es ep, o.data = .dict es ep := fun {b m o} ⟨o2, es, ep, e, hd, _⟩ e2 => by
    cases e.symm.trans e2
    exact ⟨es, ep, hd⟩
  have TB : ∀ p ∈ cs, TabB (hidT s1.heap H) mg p.1 p.2 := fun p hp => by
    refine ⟨?_, ?_, fun z => ?_⟩
    · obtain ⟨o, us, file, tf, flags, tg, inF, text, tt, e1, r1, r2, r3, rest⟩ := C p hp
      refine ⟨o, us, file, tf, flags, tg, inF, text, tt, hidT_get e1 (off e1 (fun z => ?_) fun z => ?_), r1, r2, r3, rest⟩
      · rw [r2] at z
        cases z
        simp at r3
      · rw [r2] at z
        cases z
    · obtain ⟨bm, ob, b1, b2, b3, b4, b5, b6⟩ := hbm
      refine ⟨bm, ob, b1, b2, fun q => ?_, fun q => ?_, hidT_get b3 (off b3 (by rw [b6]; intro z; cases z) (by rw [b6]; intro z; cases z)), b4, b5, b6⟩
      · rw [q] at b3
        obtain ⟨es, ep, hd⟩ := notDict hns b3
        rw [b6] at hd
        cases hd
      · rw [q, hT p hp] at b3
        cases b3
        cases b6
    · obtain ⟨es, ep, hd⟩ := notDict hns (by rw [z]; exact hT p hp)
      cases hd
  have e0 : Env0 P w K mg (hidT s1.heap H) callerA [] s1 H := ⟨rfl, hM, fun b o e => of_hidT e, Nat.le_of_eq (hidT_size _ _), trivial, fun b z => absurd (show b ∈ ([] : List Addr) from z) (by simp), hok, .of_eq hg⟩
  refine codeAny_mono ((F _ hKb (keepNs hns) TB).go callerA [] s1 H ⟨[.ref a], []⟩ [.ref a] [.ref a] _ _ rfl hr e0 (hbind s1 (.ref a)) (.cons rfl .nil) (hsp H ht hS)) fun r s2 hq => ?_
  cases r with
  | error e => exact (show False from hq).elim
  | ok fl =>
    cases fl with
    | next => exact False.elim hq
    | brk => exact False.elim hq
    | cont => exact False.elim hq
    | ret u =>
      obtain ⟨v, H2, os, bare, un, hok2, rv2, ev⟩ := hq
      have ev2 : v = .bl true := ev
      subst ev2
      obtain rfl : u = Value.bool true := rv2
      have stays : ∀ b o, b ∉ cs.map (·.2) → s1.heap.get? b = some o → s2.heap.get? b = some o := fun b o nb e => by
        cases q : H b with
        | none => exact un.keep b o e q (by intro z; exact absurd (show b ∈ ([] : List Addr) from z) (by simp)) (by simp)
        | some u =>
          rcases hc q with ⟨hb1, -⟩ | ⟨-, rfl, -, rfl⟩
          · exact absurd hb1 nb
          · obtain ⟨e2, -⟩ := hok2 b _ (un.frzs b oa _ q)
            rw [← Option.some.inj (e.symm.trans ha)] at e2
            exact e2
      have grows : ∀ p ∈ cs, ∃ more : Array Value, s2.heap.get? p.2 = some { cls := .none, data := .fields more } := fun p hp => by
        obtain ⟨more, z⟩ := un.tbls p.2 #[] (ht p hp)
        exact ⟨_, hok2 p.2 _ z⟩
      refine ⟨rfl, ⟨fun b o e => ?_, fun b o e => ?_⟩, os, bare⟩
      · by_cases hb1 : b ∈ cs.map (·.2)
        · obtain ⟨p, hp, rfl⟩ := List.mem_map.mp hb1
          obtain ⟨more, hm⟩ := grows p hp
          cases (hT p hp).symm.trans e
          exact .inr (.inl ⟨((C p hp).tab (hT p hp)).isCodeTable, rfl, #[], more, rfl, by rw [Array.empty_append]; exact hm⟩)
        · exact .inl (stays b o hb1 e)
      · by_cases hb1 : b ∈ cs.map (·.2)
        · obtain ⟨p, hp, rfl⟩ := List.mem_map.mp hb1
          obtain ⟨more, hm⟩ := grows p hp
          exact ⟨_, hm⟩
        · exact ⟨o, stays b o hb1 e⟩
end
theorem walkG {l : PySem.W.OpenLaw} {n k : Nat} {q : Program} {loose : List Str} {XP : (Str → Option Value) → Heap → Prop} {YP : World → Heap → Prop} {d : DefRec} {x : Str} (hn : l.most = some n) (hn2 : n ≤ sizeLine) (hdf : d.params.defaults = []) (hr : Room k callerA)
    (F : ∀ (w : World) (mg : Str → Option Value) (fa : Addr) (h : Heap), YP w h → h.Ns mainGlobals mg → mg d.name = some (.ref fa) → ∃ (K : PySem.W.Frag) (fd : FuncData) (cs : List (Addr × Addr)) (sp : Sp), K.In h ∧
      (∀ p ∈ cs, h.get? p.2 = some { cls := .none, data := .fields #[] }) ∧ (∀ p ∈ cs, K.lookup p.2 = none) ∧ (∀ p ∈ cs, PySem.W.CodeHd h p.1 p.2) ∧ (∀ (s : Shared) (u : Value), BindsTo s fd ⟨[u], []⟩ [(x, u)]) ∧
      (∀ (H : Hp) (a : Addr) (ns : List Int), ns.length ≤ n → (∀ p ∈ cs, H p.2 = some (.tbl #[])) → SqL K H a (ns.map V.int) → sp [.ref a] H (fun v _ => v = .bl true) fun _ _ _ => False) ∧
      ∀ base : Heap, K.In base → base.Ns mainGlobals mg → (∀ p ∈ cs, TabB base mg p.1 p.2) → FnOkG l.prog w K mg base C8.CX0 k fa fd [x] sp) :
    PySem.W.WalkO q loose XP YP l.row.toRowW d [] (fun f vs => PySem.call f vs) := by
  refine Att.attach_callB hn hdf fun w s0 s1 mg mb fa o pm cd doc a vs ns G Y ho hd hcd hmg hobj hints hlen hbits hgn => ?_
  obtain ⟨K, fd, cs, sp, KX, c1, c2, c3, c4, c5, c6⟩ := F w mg fa _ Y G.T.g hmg
  exact lawG KX G.T.g G.T.b G.T.builtins G.T.nolimit hgn c1 c2 c3 G.T.bmain hobj hints (Nat.le_trans hlen hn2) hr c6 c4 fun H h1 h2 => c5 H a ns hlen h1 h2
end KrG

namespace Kw
open Kr L2 PySem PySem.Spec PyProof.Rows
def top (i : Nat) : Stmt := PySem.Challenge.pw_keeprows_k11_heap_pages_refused.main.body.getD i (.Pass ⟨0, 0, 0, 0⟩)
abbrev s_InvalidPage___init__ : Stmt := inClass (top 5) 0
abbrev N_InvalidPage___init__ : List Str := ["self", "page"]
theorem st_InvalidPage___init__ (v0 v1 : V) : L2.start N_InvalidPage___init__ [v0, v1] = [some v0, some v1] := rfl
theorem sc_InvalidPage___init__ : FnScope N_InvalidPage___init__ ["self", "page"] (defScope s_InvalidPage___init__) := ⟨rfl, rfl, rfl, by decide +kernel, rfl, by decide +kernel, by decide +kernel⟩
abbrev s_is_from : Stmt := top 9
abbrev N_is_from : List Str := ["number", "least"]
theorem st_is_from (v0 v1 : V) : L2.start N_is_from [v0, v1] = [some v0, some v1] := rfl
theorem sc_is_from : FnScope N_is_from ["number", "least"] (defScope s_is_from) := ⟨rfl, rfl, rfl, by decide +kernel, rfl, by decide +kernel, by decide +kernel⟩
abbrev s_is_within : Stmt := top 10
abbrev N_is_within : List Str := ["number", "least", "most"]
theorem st_is_within (v0 v1 v2 : V) : L2.start N_is_within [v0, v1, v2] = [some v0, some v1, some v2] := rfl
theorem sc_is_within : FnScope N_is_within ["number", "least", "most"] (defScope s_is_within) := ⟨rfl, rfl, rfl, by decide +kernel, rfl, by decide +kernel, by decide +kernel⟩
abbrev s_check_row : Stmt := top 11
abbrev N_check_row : List Str := ["row"]
theorem st_check_row (v0 : V) : L2.start N_check_row [v0] = [some v0] := rfl
theorem sc_check_row : FnScope N_check_row ["row"] (defScope s_check_row) := ⟨rfl, rfl, rfl, by decide +kernel, rfl, by decide +kernel, by decide +kernel⟩
abbrev s_are_lengths : Stmt := top 15
abbrev N_are_lengths : List Str := ["lengths", "length"]
theorem st_are_lengths (v0 : V) : L2.start N_are_lengths [v0] = [some v0, none] := rfl
theorem sc_are_lengths : FnScope N_are_lengths ["lengths"] (defScope s_are_lengths) := ⟨rfl, rfl, rfl, by decide +kernel, rfl, by decide +kernel, by decide +kernel⟩
abbrev s_bounds_behind : Stmt := top 16
abbrev N_bounds_behind : List Str := ["lengths"]
theorem st_bounds_behind (v0 : V) : L2.start N_bounds_behind [v0] = [some v0] := rfl
theorem sc_bounds_behind : FnScope N_bounds_behind ["lengths"] (defScope s_bounds_behind) := ⟨rfl, rfl, rfl, by decide +kernel, rfl, by decide +kernel, by decide +kernel⟩
abbrev s_Settings___init__ : Stmt := inClass (top 17) 0
abbrev N_Settings___init__ : List Str := ["self", "lengths", "size", "fanout", "records", "every", "keep", "given", "part", "least", "most"]
theorem st_Settings___init__ (v0 v1 v2 v3 v4 v5 v6 : V) : L2.start N_Settings___init__ [v0, v1, v2, v3, v4, v5, v6] = [some v0, some v1, some v2, some v3, some v4, some v5, some v6, none, none, none, none] := rfl
theorem sc_Settings___init__ : FnScope N_Settings___init__ ["self", "lengths", "size", "fanout", "records", "every", "keep"] (defScope s_Settings___init__) := ⟨rfl, rfl, rfl, by decide +kernel, rfl, by decide +kernel, by decide +kernel⟩
abbrev s_check_settings : Stmt := top 18
abbrev N_check_settings : List Str := ["settings"]
theorem st_check_settings (v0 : V) : L2.start N_check_settings [v0] = [some v0] := rfl
theorem sc_check_settings : FnScope N_check_settings ["settings"] (defScope s_check_settings) := ⟨rfl, rfl, rfl, by decide +kernel, rfl, by decide +kernel, by decide +kernel⟩
abbrev s_rows_from : Stmt := top 20
abbrev N_rows_from : List Str := ["settings", "row", "lengths", "rows", "left"]
theorem st_rows_from (v0 v1 : V) : L2.start N_rows_from [v0, v1] = [some v0, some v1, none, none, none] := rfl
theorem sc_rows_from : FnScope N_rows_from ["settings", "row"] (defScope s_rows_from) := ⟨rfl, rfl, rfl, by decide +kernel, rfl, by decide +kernel, by decide +kernel⟩
abbrev s_units_ahead : Stmt := top 21
abbrev N_units_ahead : List Str := ["settings", "row", "lengths"]
theorem st_units_ahead (v0 v1 : V) : L2.start N_units_ahead [v0, v1] = [some v0, some v1, none] := rfl
theorem sc_units_ahead : FnScope N_units_ahead ["settings", "row"] (defScope s_units_ahead) := ⟨rfl, rfl, rfl, by decide +kernel, rfl, by decide +kernel, by decide +kernel⟩
abbrev s_Packing_page_with : Stmt := inClass (top 22) 10
abbrev N_Packing_page_with : List Str := ["self", "row", "turns", "near", "page"]
theorem st_Packing_page_with (v0 v1 : V) : L2.start N_Packing_page_with [v0, v1] = [some v0, some v1, none, none, none] := rfl
theorem sc_Packing_page_with : FnScope N_Packing_page_with ["self", "row"] (defScope s_Packing_page_with) := ⟨rfl, rfl, rfl, by decide +kernel, rfl, by decide +kernel, by decide +kernel⟩
abbrev s_Packing___init__ : Stmt := inClass (top 22) 0
abbrev N_Packing___init__ : List Str := ["self", "settings", "many", "starts", "page_of_place"]
theorem st_Packing___init__ (v0 v1 : V) : L2.start N_Packing___init__ [v0, v1] = [some v0, some v1, none, none, none] := rfl
theorem sc_Packing___init__ : FnScope N_Packing___init__ ["self", "settings"] (defScope s_Packing___init__) := ⟨rfl, rfl, rfl, by decide +kernel, rfl, by decide +kernel, by decide +kernel⟩
abbrev s_Packing_page_of : Stmt := inClass (top 22) 1
abbrev N_Packing_page_of : List Str := ["self", "row"]
theorem st_Packing_page_of (v0 v1 : V) : L2.start N_Packing_page_of [v0, v1] = [some v0, some v1] := rfl
theorem sc_Packing_page_of : FnScope N_Packing_page_of ["self", "row"] (defScope s_Packing_page_of) := ⟨rfl, rfl, rfl, by decide +kernel, rfl, by decide +kernel, by decide +kernel⟩
abbrev s_Packing_start_of : Stmt := inClass (top 22) 9
abbrev N_Packing_start_of : List Str := ["self", "page", "turns"]
theorem st_Packing_start_of (v0 v1 : V) : L2.start N_Packing_start_of [v0, v1] = [some v0, some v1, none] := rfl
theorem sc_Packing_start_of : FnScope N_Packing_start_of ["self", "page"] (defScope s_Packing_start_of) := ⟨rfl, rfl, rfl, by decide +kernel, rfl, by decide +kernel, by decide +kernel⟩
abbrev s_Packing__check_page : Stmt := inClass (top 22) 8
abbrev N_Packing__check_page : List Str := ["self", "page"]
theorem st_Packing__check_page (v0 v1 : V) : L2.start N_Packing__check_page [v0, v1] = [some v0, some v1] := rfl
theorem sc_Packing__check_page : FnScope N_Packing__check_page ["self", "page"] (defScope s_Packing__check_page) := ⟨rfl, rfl, rfl, by decide +kernel, rfl, by decide +kernel, by decide +kernel⟩
abbrev s_Packing_first_row : Stmt := inClass (top 22) 2
abbrev N_Packing_first_row : List Str := ["self", "page"]
theorem st_Packing_first_row (v0 v1 : V) : L2.start N_Packing_first_row [v0, v1] = [some v0, some v1] := rfl
theorem sc_Packing_first_row : FnScope N_Packing_first_row ["self", "page"] (defScope s_Packing_first_row) := ⟨rfl, rfl, rfl, by decide +kernel, rfl, by decide +kernel, by decide +kernel⟩
abbrev s_Packing_rows_on : Stmt := inClass (top 22) 3
abbrev N_Packing_rows_on : List Str := ["self", "page"]
theorem st_Packing_rows_on (v0 v1 : V) : L2.start N_Packing_rows_on [v0, v1] = [some v0, some v1] := rfl
theorem sc_Packing_rows_on : FnScope N_Packing_rows_on ["self", "page"] (defScope s_Packing_rows_on) := ⟨rfl, rfl, rfl, by decide +kernel, rfl, by decide +kernel, by decide +kernel⟩
abbrev s_Packing__units_between : Stmt := inClass (top 22) 11
abbrev N_Packing__units_between : List Str := ["self", "row", "after"]
theorem st_Packing__units_between (v0 v1 v2 : V) : L2.start N_Packing__units_between [v0, v1, v2] = [some v0, some v1, some v2] := rfl
theorem sc_Packing__units_between : FnScope N_Packing__units_between ["self", "row", "after"] (defScope s_Packing__units_between) := ⟨rfl, rfl, rfl, by decide +kernel, rfl, by decide +kernel, by decide +kernel⟩
abbrev s_Packing_units_on : Stmt := inClass (top 22) 4
abbrev N_Packing_units_on : List Str := ["self", "page"]
theorem st_Packing_units_on (v0 v1 : V) : L2.start N_Packing_units_on [v0, v1] = [some v0, some v1] := rfl
theorem sc_Packing_units_on : FnScope N_Packing_units_on ["self", "page"] (defScope s_Packing_units_on) := ⟨rfl, rfl, rfl, by decide +kernel, rfl, by decide +kernel, by decide +kernel⟩
abbrev s__law_mix : Stmt := top 24
abbrev N__law_mix : List Str := ["cell", "lap", "blend"]
theorem st__law_mix (v0 v1 : V) : L2.start N__law_mix [v0, v1] = [some v0, some v1, none] := rfl
theorem sc__law_mix : FnScope N__law_mix ["cell", "lap"] (defScope s__law_mix) := ⟨rfl, rfl, rfl, by decide +kernel, rfl, by decide +kernel, by decide +kernel⟩
abbrev s__law_source : Stmt := top 25
abbrev N__law_source : List Str := ["script", "k", "cell"]
theorem st__law_source (v0 v1 : V) : L2.start N__law_source [v0, v1] = [some v0, some v1, none] := rfl
theorem sc__law_source : FnScope N__law_source ["script", "k"] (defScope s__law_source) := ⟨rfl, rfl, rfl, by decide +kernel, rfl, by decide +kernel, by decide +kernel⟩
abbrev s__law_draw : Stmt := top 26
abbrev N__law_draw : List Str := ["source", "limit", "drawn"]
theorem st__law_draw (v0 v1 : V) : L2.start N__law_draw [v0, v1] = [some v0, some v1, none] := rfl
theorem sc__law_draw : FnScope N__law_draw ["source", "limit"] (defScope s__law_draw) := ⟨rfl, rfl, rfl, by decide +kernel, rfl, by decide +kernel, by decide +kernel⟩
abbrev s__law_pick : Stmt := top 27
abbrev N__law_pick : List Str := ["source", "items"]
theorem st__law_pick (v0 v1 : V) : L2.start N__law_pick [v0, v1] = [some v0, some v1] := rfl
theorem sc__law_pick : FnScope N__law_pick ["source", "items"] (defScope s__law_pick) := ⟨rfl, rfl, rfl, by decide +kernel, rfl, by decide +kernel, by decide +kernel⟩
abbrev s__law_parts : Stmt := top 28
abbrev N__law_parts : List Str := ["source", "room", "some", "found", "low", "high", "k"]
theorem st__law_parts (v0 : V) : L2.start N__law_parts [v0] = [some v0, none, none, none, none, none, none] := rfl
theorem sc__law_parts : FnScope N__law_parts ["source"] (defScope s__law_parts) := ⟨rfl, rfl, rfl, by decide +kernel, rfl, by decide +kernel, by decide +kernel⟩
abbrev s__law_settings : Stmt := top 29
abbrev N__law_settings : List Str := ["p"]
theorem st__law_settings (v0 : V) : L2.start N__law_settings [v0] = [some v0] := rfl
theorem sc__law_settings : FnScope N__law_settings ["p"] (defScope s__law_settings) := ⟨rfl, rfl, rfl, by decide +kernel, rfl, by decide +kernel, by decide +kernel⟩
abbrev s__law_said : Stmt := top 30
abbrev N__law_said : List Str := ["ask", "e"]
theorem st__law_said (v0 : V) : L2.start N__law_said [v0] = [some v0, none] := rfl
theorem sc__law_said : FnScope N__law_said ["ask"] (defScope s__law_said) := ⟨rfl, rfl, rfl, by decide +kernel, rfl, by decide +kernel, by decide +kernel⟩
abbrev s_is_from__r : Stmt := top 9
abbrev N_is_from__r : List Str := ["number", "least"]
theorem st_is_from__r (v0 v1 : V) : L2.start N_is_from__r [v0, v1] = [some v0, some v1] := rfl
theorem sc_is_from__r : FnScope N_is_from__r ["number", "least"] (defScope s_is_from__r) := ⟨rfl, rfl, rfl, by decide +kernel, rfl, by decide +kernel, by decide +kernel⟩
abbrev s_is_within__r : Stmt := top 10
abbrev N_is_within__r : List Str := ["number", "least", "most"]
theorem st_is_within__r (v0 v1 v2 : V) : L2.start N_is_within__r [v0, v1, v2] = [some v0, some v1, some v2] := rfl
theorem sc_is_within__r : FnScope N_is_within__r ["number", "least", "most"] (defScope s_is_within__r) := ⟨rfl, rfl, rfl, by decide +kernel, rfl, by decide +kernel, by decide +kernel⟩
abbrev s_Packing__check_page__r : Stmt := inClass (top 22) 8
abbrev N_Packing__check_page__r : List Str := ["self", "page"]
theorem st_Packing__check_page__r (v0 v1 : V) : L2.start N_Packing__check_page__r [v0, v1] = [some v0, some v1] := rfl
theorem sc_Packing__check_page__r : FnScope N_Packing__check_page__r ["self", "page"] (defScope s_Packing__check_page__r) := ⟨rfl, rfl, rfl, by decide +kernel, rfl, by decide +kernel, by decide +kernel⟩
abbrev s_Packing_units_on__r : Stmt := inClass (top 22) 4
abbrev N_Packing_units_on__r : List Str := ["self", "page"]
theorem st_Packing_units_on__r (v0 v1 : V) : L2.start N_Packing_units_on__r [v0, v1] = [some v0, some v1] := rfl
theorem sc_Packing_units_on__r : FnScope N_Packing_units_on__r ["self", "page"] (defScope s_Packing_units_on__r) := ⟨rfl, rfl, rfl, by decide +kernel, rfl, by decide +kernel, by decide +kernel⟩
abbrev s_Packing_rows_on__r : Stmt := inClass (top 22) 3
abbrev N_Packing_rows_on__r : List Str := ["self", "page"]
theorem st_Packing_rows_on__r (v0 v1 : V) : L2.start N_Packing_rows_on__r [v0, v1] = [some v0, some v1] := rfl
theorem sc_Packing_rows_on__r : FnScope N_Packing_rows_on__r ["self", "page"] (defScope s_Packing_rows_on__r) := ⟨rfl, rfl, rfl, by decide +kernel, rfl, by decide +kernel, by decide +kernel⟩
abbrev s_Packing_first_row__r : Stmt := inClass (top 22) 2
abbrev N_Packing_first_row__r : List Str := ["self", "page"]
theorem st_Packing_first_row__r (v0 v1 : V) : L2.start N_Packing_first_row__r [v0, v1] = [some v0, some v1] := rfl
theorem sc_Packing_first_row__r : FnScope N_Packing_first_row__r ["self", "page"] (defScope s_Packing_first_row__r) := ⟨rfl, rfl, rfl, by decide +kernel, rfl, by decide +kernel, by decide +kernel⟩
abbrev s__law_pages_said : Stmt := top 31
abbrev N__law_pages_said : List Str := ["packed", "odd", "told"]
theorem st__law_pages_said (v0 v1 : V) : L2.start N__law_pages_said [v0, v1] = [some v0, some v1, none] := rfl
theorem sc__law_pages_said : FnScope N__law_pages_said ["packed", "odd"] (defScope s__law_pages_said) := ⟨rfl, rfl, rfl, by decide +kernel, rfl, by decide +kernel, by decide +kernel⟩
abbrev s__law_right : Stmt := top 32
abbrev N__law_right : List Str := ["source", "packed", "last", "odds", "odd", "page"]
theorem st__law_right (v0 : V) : L2.start N__law_right [v0] = [some v0, none, none, none, none, none] := rfl
theorem sc__law_right : FnScope N__law_right ["source"] (defScope s__law_right) := ⟨rfl, rfl, rfl, by decide +kernel, rfl, by decide +kernel, by decide +kernel⟩
abbrev s_law : Stmt := top 33
abbrev N_law : List Str := ["script", "k", "source"]
theorem st_law (v0 : V) : L2.start N_law [v0] = [some v0, none, none] := rfl
theorem sc_law : FnScope N_law ["script"] (defScope s_law) := ⟨rfl, rfl, rfl, by decide +kernel, rfl, by decide +kernel, by decide +kernel⟩
def Tb (K : PySem.W.Frag) : List (Addr × Str) := [((He.cT K ("_law_pages_said", none)).2, (("_law_pages_said" : Str) ++ ".<locals>.") ++ "<lambda>")]
theorem tbm__law_pages_said (K : PySem.W.Frag) : ((He.cT K ("_law_pages_said", none)).2, (("_law_pages_said" : Str) ++ ".<locals>.") ++ "<lambda>") ∈ Tb K := List.mem_cons_self
theorem tb0 {K : PySem.W.Frag} {H : Hp} (h : ∀ p ∈ ([("_law_pages_said", none)] : List He.Defn).map (He.cT K), H p.2 = some (.tbl #[])) : LamX.Tabs (Tb K) H := by
  intro p hp
  simp only [Tb, List.mem_cons, List.not_mem_nil, or_false] at hp
  rcases hp with rfl
  · exact LamX.TabS.nil (h _ (List.mem_map.mpr ⟨("_law_pages_said", none), by simp, rfl⟩))
/-- a positive number of at most forty digits: what draws are limited by -/
def Lim (n : Int) : Prop := 0 < n ∧ n ≤ 10 ^ 40
theorem Lim.div {n : Int} (h : Lim n) : CDivW 0 n := wide_div (b := 200) h.1 (by have := h.1; have := h.2; omega) (by decide) (by decide)
theorem emod_lt {a n : Int} (h : 0 < n) : 0 ≤ a % n ∧ a % n < n := ⟨Int.emod_nonneg _ (by omega), Int.emod_lt_of_pos _ h⟩
theorem mod_fit {a n : Int} (h : 0 < n) (hn : n < 2 ^ 64) : -(2 ^ 64) < a % n ∧ a % n < 2 ^ 64 := by
  have := @emod_lt a n h
  omega
/-- what drawn parts of settings keep -/
structure PartsOk (ls : List Int) (room fo re ev ke : Int) : Prop where
  l1 : 1 ≤ ls.length
  l6 : ls.length ≤ 6
  all : ∀ l ∈ ls, 1 ≤ l ∧ l ≤ room
  r1 : 1 ≤ room
  r64 : room ≤ 64
  fo : 2 ≤ fo ∧ fo ≤ 8
  re : 1 ≤ re ∧ re ≤ 16
  ev : 1 ≤ ev ∧ ev ≤ 40
  ke : 1 ≤ ke ∧ ke ≤ 100
/-- the bounds of the j-th further part -/
def Bd (j : Nat) (v : Int) : Prop := match j with
  | 0 => 2 ≤ v ∧ v ≤ 8
  | 1 => 1 ≤ v ∧ v ≤ 16
  | 2 => 1 ≤ v ∧ v ≤ 40
  | _ => 1 ≤ v ∧ v ≤ 100
/-- what a list of lengths keeps -/
structure LensOk (ls : List Int) (sz : Int) : Prop where
  l1 : 1 ≤ ls.length
  l6 : ls.length ≤ 6
  all : ∀ l ∈ ls, 1 ≤ l ∧ l ≤ sz
  r64 : sz ≤ 64
/-- what settings keep -/
structure SetOk (ls : List Int) (sz fo re ev ke : Int) : Prop extends LensOk ls sz where
  fo : 2 ≤ fo ∧ fo ≤ 8
  re : 1 ≤ re ∧ re ≤ 16
  ev : 1 ≤ ev ∧ ev ≤ 40
  ke : 1 ≤ ke ∧ ke ≤ 100
theorem PartsOk.set {ls : List Int} {room fo re ev ke : Int} (p : PartsOk ls room fo re ev ke) : SetOk ls room fo re ev ke := ⟨⟨p.l1, p.l6, p.all, p.r64⟩, p.fo, p.re, p.ev, p.ke⟩
/-- the attributes of Settings, in the order in which they are stored -/
def setF (t : Addr) (sz fo re ev ke : Int) : List (Str × V) := [("lengths", .ref t), ("size", .int sz), ("fanout", .int fo), ("records", .int re), ("every", .int ev), ("keep", .int ke)]
/-- Settings at a -/
def SetAt (K : PySem.W.Frag) (H : Hp) (a : Addr) (ls : List Int) (sz fo re ev ke : Int) : Prop := ∃ dx t, H a = some (.ins (He.ga K "Settings") dx (setF t sz fo re ev ke)) ∧ H t = some (.tup (ls.map V.int))
theorem SetAt.same {K : PySem.W.Frag} {H H' : Hp} {a : Addr} {ls : List Int} {sz fo re ev ke : Int} (h : SetAt K H a ls sz fo re ev ke) (s : Same H H') : SetAt K H' a ls sz fo re ev ke := by
  obtain ⟨dx, t, h1, h2⟩ := h
  exact ⟨dx, t, s _ _ h1, s _ _ h2⟩
theorem SetAt.dr {K : PySem.W.Frag} {H H' : Hp} {b a : Addr} {ls : List Int} {sz fo re ev ke : Int} (h : SetAt K H a ls sz fo re ev ke) (hs : Src H b) (s : Dr b H H') : SetAt K H' a ls sz fo re ev ke := by
  obtain ⟨dx, t, h1, h2⟩ := h
  exact ⟨dx, t, s.old _ _ (hs.ne_ins h1) h1, s.old _ _ (hs.ne_tup h2) h2⟩
/-- the list of the bounds of the other parts at L -/
def Bnds (H : Hp) (L : Addr) (m : Int) : Prop := ∃ t1 t2 t3 t4 t5 : Addr, H L = some (.lst [.ref t1, .ref t2, .ref t3, .ref t4, .ref t5]) ∧ H t1 = some (.tup [.str "size", .int m, .int 64]) ∧ H t2 = some (.tup [.str "fanout", .int 2, .int 8]) ∧
  H t3 = some (.tup [.str "records", .int 1, .int 16]) ∧ H t4 = some (.tup [.str "every", .int 1, .int 40]) ∧ H t5 = some (.tup [.str "keep", .int 1, .int 100])
/-- the further parts by their names -/
def givD (v1 v2 v3 v4 v5 : V) : List (Key × V) := [(.inr "size", v1), (.inr "fanout", v2), (.inr "records", v3), (.inr "every", v4), (.inr "keep", v5)]
theorem LensOk.pk {ls : List Int} {sz : Int} (h : LensOk ls sz) : Pk.Ok ls sz := ⟨h.l1, by have := h.l6; omega, h.all, by have := h.r64; omega⟩
theorem sum_pre (ls : List Int) : ∀ j, j ≤ ls.length → (ls.take j).sum = Pk.pre ls 0 j
  | 0, _ => rfl
  | j + 1, h => by
    have hj : j < ls.length := by omega
    rw [List.take_add_one, List.sum_append, sum_pre ls j (by omega), List.getElem?_eq_getElem hj]
    show _ + ([ls[j]] : List Int).sum = Pk.pre ls 0 j + Pk.lenAt ls (0 + j)
    have e : Pk.lenAt ls (0 + j) = ls[j] := by
      unfold Pk.lenAt
      rw [Nat.zero_add, Nat.mod_eq_of_lt hj, List.getD_eq_getElem?_getD, List.getElem?_eq_getElem hj]
      rfl
    rw [e, List.sum_cons]
    show _ + (_ + 0) = _
    rw [Int.add_zero]
theorem sum_round (ls : List Int) : ls.sum = Pk.pre ls 0 ls.length := by
  have := sum_pre ls ls.length (Nat.le_refl _)
  rw [List.take_length] at this
  exact this
/-- a whole round from any place has the same units -/
theorem round_any (ls : List Int) : ∀ r, Pk.pre ls r ls.length = Pk.pre ls 0 ls.length
  | 0 => rfl
  | r + 1 => by
    have ih := round_any ls r
    have e1 := Pk.pre_one (ls := ls) r ls.length
    have e2 : Pk.pre ls r (ls.length + 1) = Pk.pre ls r ls.length + Pk.lenAt ls (r + ls.length) := rfl
    have e3 : Pk.lenAt ls (r + ls.length) = Pk.lenAt ls r := Pk.len_mod (Nat.add_mod_right r ls.length)
    omega
theorem rounds (ls : List Int) (r : Nat) : ∀ q, Pk.pre ls r (q * ls.length) = q * ls.sum
  | 0 => by simp [Pk.pre]
  | q + 1 => by
    rw [Nat.succ_mul, Pk.pre_add, rounds ls r q, round_any, ← sum_round, Int.natCast_add, Int.add_mul]
    simp
/-- the first rows of the first heap pages -/
abbrev stV (ls : List Int) (sz : Int) (i : Nat) : V := .int (Pk.st ls sz i : Nat)
/-- what page_with and start_of lean on: the four fields of a Packing at a -/
structure PkF (K : PySem.W.Frag) (H : Hp) (a : Addr) (ls : List Int) (sz : Int) (j k : Nat) (lp dx : Addr) (fs : List (Str × V)) : Prop where
  at_ : H a = some (.ins (He.ga K "Packing") dx fs)
  l1 : fs.lookup ("_starts" : Str) = some (.ref lp)
  l2 : fs.lookup ("_first" : Str) = some (.int j)
  l3 : fs.lookup ("_pages" : Str) = some (.int (k - j : Nat))
  l4 : fs.lookup ("_rows" : Str) = some (.int (Pk.rws ls sz j k : Nat))
  l5 : fs.lookup ("page_with" : Str) = none
  l6 : fs.lookup ("start_of" : Str) = none
  lst : H lp = some (.lst (tabL (stV ls sz) (k + 1)))
  cyc : Pk.Cyc ls sz j k
  ok : LensOk ls sz
theorem PkF.small {K : PySem.W.Frag} {H : Hp} {a lp dx : Addr} {ls : List Int} {sz : Int} {j k : Nat} {fs : List (Str × V)} (F : PkF K H a ls sz j k lp dx fs) : k ≤ 6 ∧ Pk.st ls sz k ≤ 400 := by
  have o := F.ok.pk
  have h1 := F.cyc.le o
  have h2 := F.ok.l6
  have h3 := Pk.st_up o k
  have h4 := F.ok.r64
  have h5 : (k : Int) * sz ≤ 6 * 64 := by
    have a1 : (k : Int) * sz ≤ k * 64 := Int.mul_le_mul_of_nonneg_left h4 (by omega)
    have a2 : (k : Int) * 64 ≤ 6 * 64 := Int.mul_le_mul_of_nonneg_right (by omega) (by omega)
    omega
  omega
theorem PkF.same {K : PySem.W.Frag} {H H' : Hp} {a lp dx : Addr} {ls : List Int} {sz : Int} {j k : Nat} {fs : List (Str × V)} (F : PkF K H a ls sz j k lp dx fs) (s : Same H H') : PkF K H' a ls sz j k lp dx fs :=
  { F with at_ := s _ _ F.at_, lst := s _ _ F.lst }
/-- a Packing at a, of the settings at s -/
def PackAt (K : PySem.W.Frag) (H : Hp) (a s : Addr) (ls : List Int) (sz : Int) : Prop := ∃ (dx lp : Addr) (j k last : Nat), PkF K H a ls sz j k lp dx [("_settings", .ref s), ("_starts", .ref lp), ("_first", .int j), ("_pages", .int (k - j : Nat)), ("_rows", .int (Pk.rws ls sz j k : Nat)), ("_last", .int last)] ∧ Pk.On ls sz last (10 ^ 30 - 1) ∧
  ∃ dy t fo re ev ke, H s = some (.ins (He.ga K "Settings") dy (setF t sz fo re ev ke)) ∧ H t = some (.tup (ls.map V.int))
theorem PackAt.same {K : PySem.W.Frag} {H H' : Hp} {a x : Addr} {ls : List Int} {sz : Int} (h : PackAt K H a x ls sz) (s : Same H H') : PackAt K H' a x ls sz := by
  obtain ⟨dx, lp, j, k, last, F, on, dy, t, fo, re, ev, ke, h1, h2⟩ := h
  exact ⟨dx, lp, j, k, last, F.same s, on, dy, t, fo, re, ev, ke, s _ _ h1, s _ _ h2⟩
theorem pre_ahead (ls : List Int) (h : 1 ≤ ls.length) (r : Nat) : Pk.pre ls 0 r = ((r / ls.length : Nat) : Int) * ls.sum + (ls.take (r % ls.length)).sum := by
  have lt : r % ls.length < ls.length := Nat.mod_lt _ h
  have e : Pk.pre ls 0 (r / ls.length * ls.length + r % ls.length) = Pk.pre ls 0 (r / ls.length * ls.length) + Pk.pre ls (0 + r / ls.length * ls.length) (r % ls.length) := Pk.pre_add 0 _ _
  rw [Nat.mul_comm (r / ls.length), Nat.div_add_mod r, Nat.mul_comm ls.length] at e
  have e2 : Pk.pre ls (0 + r / ls.length * ls.length) (r % ls.length) = Pk.pre ls 0 (r % ls.length) := Pk.pre_mod (by simp) _
  rw [e, rounds, e2, sum_pre ls _ (Nat.le_of_lt lt)]
/-- what the units between two rows are -/
theorem pre_span (ls : List Int) (r n : Nat) : Pk.pre ls 0 (r + n) - Pk.pre ls 0 r = Pk.pre ls r n := by
  have := Pk.pre_add (ls := ls) 0 r n
  rw [Nat.zero_add] at this
  omega
/-- pages begun at a moment -/
def Bg (ls : List Int) (sz : Int) (r b : Nat) : Prop := (r = 0 ∧ b = 0) ∨ (0 < r ∧ ∃ m, Pk.On ls sz m (r - 1) ∧ b = m + 1)
theorem bg_ex {ls : List Int} {sz : Int} (o : Pk.Ok ls sz) (r : Nat) : ∃ b, Bg ls sz r b := by
  rcases Nat.eq_zero_or_pos r with z | z
  · exact ⟨0, .inl ⟨z, rfl⟩⟩
  · obtain ⟨m, h⟩ := Pk.on_ex o (r - 1)
    exact ⟨m + 1, .inr ⟨z, m, h, rfl⟩⟩
theorem bg_start {ls : List Int} {sz : Int} (o : Pk.Ok ls sz) (m : Nat) : Bg ls sz (Pk.st ls sz m) m := by
  rcases m with _ | m
  · exact .inl ⟨rfl, rfl⟩
  · have h := Pk.st_lt o m
    exact .inr ⟨by omega, m, ⟨by omega, by omega⟩, rfl⟩
open LamX KrL
/-- what raising InvalidPage for v asks -/
def RaiP (K : PySem.W.Frag) (H : Hp) (E : XK) (v : V) : Prop := ∀ d H', Same H H' → H d = none → H' d = some (.xd [("page", v)]) → E (.ref (He.ga K "InvalidPage")) (some d) H'
theorem RaiP.same {K : PySem.W.Frag} {H H1 : Hp} {E : XK} {v : V} (h : RaiP K H E v) (s : Same H H1) : RaiP K H1 E v := fun d H' s2 hd e => h d H' (s.trans s2) (s.free hd) e
/-- what a lambda's end, or its error, makes of the page -/
def tt__law_said (K : PySem.W.Frag) : (XK → Hp → VK → Prop) → Hp → VK → Prop := fun tl H Q => tl (fun cls d H' => ∃ dd v, cls = .ref (He.ga K "InvalidPage") ∧ d = some dd ∧ H' dd = some (.xd [("page", v)]) ∧ KrG.rRep [v] H' Q) H (fun _ H' => Q (.str "none") H')
theorem ts_at {K : PySem.W.Frag} {tl : XK → Hp → VK → Prop} {H : Hp} {Q : VK} (h : ∀ E1 : XK, (∀ v, (∀ H', Same H H' → KrG.rRep [v] H' Q) → RaiP K H E1 v) → tl E1 H (fun _ H' => Q (.str "none") H')) : tt__law_said K tl H Q :=
  h _ fun v q d H' s hd e => ⟨d, v, rfl, rfl, e, q H' s⟩
/-- no int, or a bool -/
def NotI (K : PySem.W.Frag) (H : Hp) (v : V) : Prop := (∃ k, v = .bl k) ∨ ∃ T, TyX K H v (.type T) ∧ kitB T "int" = some false
def FromV (K : PySem.W.Frag) (H : Hp) (v : V) (a : Int) (r : Bool) : Prop := (∃ n, v = .int n ∧ r = decide (a ≤ n)) ∨ (NotI K H v ∧ r = false)
section
variable {K : PySem.W.Frag} {H : Hp} {q : Addr}
theorem ni_bl {k : Bool} : NotI K H (.bl k) := .inl ⟨k, rfl⟩
theorem ni_non : NotI K H .non := .inr ⟨"NoneType", .base .non, by decide +kernel⟩
theorem ni_str {x : Str} : NotI K H (.str x) := .inr ⟨"str", .base (.str x), by decide +kernel⟩
theorem ni_lst {xs : List V} (h : H q = some (.lst xs)) : NotI K H (.ref q) := .inr ⟨"list", .base (.lst h), by decide +kernel⟩
theorem ni_tup {xs : List V} (h : H q = some (.tup xs)) : NotI K H (.ref q) := .inr ⟨"tuple", .base (.tup h), by decide +kernel⟩
theorem ni_dct {xs : List (Key × V)} (h : H q = some (.dK xs)) : NotI K H (.ref q) := .inr ⟨"dict", .base (.dK h), by decide +kernel⟩
end
def WithinV (K : PySem.W.Frag) (H : Hp) (v : V) (a b : Int) (r : Bool) : Prop := (∃ n, v = .int n ∧ r = decide (a ≤ n ∧ n ≤ b)) ∨ (NotI K H v ∧ r = false)
/-! the text of a list of one thing -/
theorem log_of {n : Nat} (h : n < 2 ^ 200) : n.log2 < 1920 := by
  rcases Nat.eq_zero_or_pos n with rfl | hp
  · decide
  · exact (Nat.log2_lt (by omega)).mpr (Nat.lt_of_lt_of_le h (Nat.pow_le_pow_right (n := 2) (i := 200) (j := 1920) (by decide) (by decide)))
/-- what is told of an odd thing -/
structure Tld (H : Hp) (v : V) (d : PyData) : Prop where
  r : KrG.Dr H v d
  s : d.showable = true
  p : d.depth ≤ 10
  z : d.shown.length ≤ 2000
theorem Tld.xn {H H1 : Hp} {v : V} {d : PyData} (h : Tld H v d) (x : ExtN H H1) : Tld H1 v d := ⟨h.r.xn x, h.s, h.p, h.z⟩
theorem tld_int {H : Hp} {i : Int} (h : i.natAbs < 2 ^ 200) : Tld H (.int i) (.int i) := by
  have l := log_of h
  refine ⟨.int i, decide_eq_true l, by simp [PyData.depth], ?_⟩
  show (Str.ofString (toString i)).length ≤ 2000
  exact Nat.le_trans (int_text_len_1921 l) (by decide)
theorem tld_non {H : Hp} : Tld H .non .none := ⟨.non, rfl, by decide, by decide +kernel⟩
theorem tld_bl {H : Hp} (b : Bool) : Tld H (.bl b) (.bool b) := ⟨.bl b, rfl, by simp [PyData.depth], by cases b <;> decide +kernel⟩
theorem tld_str {H : Hp} : Tld H (.str "0") (.str "0") := ⟨.str _, rfl, by simp [PyData.depth], by decide +kernel⟩
theorem tld_lst {H : Hp} {a : Addr} (h : H a = some (.lst [.int 0])) : Tld H (.ref a) (.list [.int 0]) := ⟨.lst h (.cons (.int 0) .nil), by decide +kernel, by decide, by decide +kernel⟩
theorem tld_tup {H : Hp} {a : Addr} (h : H a = some (.tup [.int 0])) : Tld H (.ref a) (.tuple [.int 0]) := ⟨.tup h (.cons (.int 0) .nil), by decide +kernel, by decide, by decide +kernel⟩
theorem tld_dct {H : Hp} {a : Addr} (h : H a = some (.dK [])) : Tld H (.ref a) (.dict []) := ⟨.dct h, rfl, by decide, by decide +kernel⟩
theorem Tld.rep {H : Hp} {v : V} {d : PyData} (h : Tld H v d) {Q : VK} (q : Q (.str d.shown) H) : KrG.rRep [v] H Q := KrG.r_rep h.r h.s (Nat.le_trans h.p (by decide)) (Nat.le_trans h.z (by rw [sizeLine_eq]; decide)) q
theorem _root_.LamX.ExtN.put {H H2 H5 : Hp} {t : Addr} {o : HO} (x : ExtN H H5) (x2 : ExtN H H2) (ht : H2 t = none) : ExtN H (upd H5 t o) := fun b o' e n => by
  rw [upd_ne (ne_of_none (x2 b o' e n) ht)]
  exact x b o' e n
theorem tabs_lst {T : List (Addr × Str)} {H H1 : Hp} {t : Addr} {xs : List V} (tb : Tabs T H) (h : H t = some (.lst xs)) (old : ∀ b o, b ≠ t → H b = some o → H1 b = some o) : Tabs T H1 := fun p hp => by
  obtain ⟨ps, h1, h2, h3⟩ := tb p hp
  refine ⟨ps, old _ _ (ne_of h1 h (by intro z; cases z)) h1, h2, fun pos cv hc => ?_⟩
  obtain ⟨q, e1, e2⟩ := h3 pos cv hc
  exact ⟨q, e1, old _ _ (ne_of e2 h (by intro z; unfold CodeO at z; cases z)) e2⟩
/-- all but the source and the tables stands -/
def BuN (s : Addr) (H H' : Hp) : Prop := ∀ b o, b ≠ s → H b = some o → (∀ ps, o ≠ .tbl ps) → H' b = some o
theorem sql_bu {K : PySem.W.Frag} {H0 H1 H2 : Hp} {p a : Addr} {xs : List V} (h : SqL K H0 a xs) (hp : H0 p = none) (s1 : Same H0 H1) (b : BuN p H1 H2) : SqL K H2 a xs := by
  rcases h with (e | ⟨oo, e⟩) | h
  · exact .inl (.inl (b _ _ (ne_of_none e hp) (s1 _ _ e) (fun _ z => by cases z)))
  · exact .inl (.inr ⟨oo, b _ _ (ne_of_none e hp) (s1 _ _ e) (fun _ z => by cases z)⟩)
  · exact .inr h
/-- no page of heaps of these settings -/
def NoPg (K : PySem.W.Frag) (H : Hp) (ls : List Int) (sz : Int) (v : V) : Prop := ∀ last : Nat, Pk.On ls sz last (10 ^ 30 - 1) → WithinV K H v 0 last false
/-- a page of theirs -/
def IsPg (ls : List Int) (sz : Int) (v : V) : Prop := ∃ m r : Nat, v = .int m ∧ Pk.On ls sz m r ∧ r < 10 ^ 30
theorem PackAt.xn {K : PySem.W.Frag} {H H' : Hp} {a x : Addr} {ls : List Int} {sz : Int} (h : PackAt K H a x ls sz) (s : ExtN H H') : PackAt K H' a x ls sz := by
  obtain ⟨dx, lp, j, k, last, F, on, dy, t, fo, re, ev, ke, h1, h2⟩ := h
  exact ⟨dx, lp, j, k, last, { F with at_ := s _ _ F.at_ (fun _ z => by cases z), lst := s _ _ F.lst (fun _ z => by cases z) }, on, dy, t, fo, re, ev, ke, s _ _ h1 (fun _ z => by cases z), s _ _ h2 (fun _ z => by cases z)⟩
/-- what is said of a page, or of what is none -/
def Said (K : PySem.W.Frag) (H : Hp) (ls : List Int) (sz : Int) (v : V) (w : Str) : Prop := (IsPg ls sz v ∧ w = "none") ∨ ∃ d : PyData, w = d.shown ∧ ∀ H', ExtN H H' → NoPg K H' ls sz v ∧ Tld H' v d
theorem Said.xn {K : PySem.W.Frag} {H H' : Hp} {ls : List Int} {sz : Int} {v : V} {w : Str} (h : Said K H ls sz v w) (x : ExtN H H') : Said K H' ls sz v w := by
  rcases h with h | ⟨d, e, h⟩
  · exact .inl h
  · exact .inr ⟨d, e, fun H2 x2 => h H2 (x.trans x2)⟩
theorem str_ok (x : String) : PyData.strOk (Str.ofString x) = true := by
  rw [Str.ofString_eq_toList]
  unfold PyData.strOk
  rw [List.all_toArray, List.all_eq_true]
  intro n hn
  obtain ⟨c, -, rfl⟩ := List.mem_map.mp hn
  refine decide_eq_true ?_
  have h := c.valid
  unfold UInt32.isValidChar Nat.isValidChar at h
  show c.val.toNat < 1114112
  omega
theorem int_ok (i : Int) : PyData.strOk (PyData.int i).shown = true := str_ok _
theorem r_neW {K : PySem.W.Frag} {H : Hp} {Q : VK} {a b : Addr} {w : Str} (h : H a = some (.lst [.str w, .str w, .str w])) (g : H b = some (.lst [.str w, .str w, .str w])) (ok : PyData.strOk w = true) (k : Q (.bl false) H) : rNeD K (.ref a) (.ref b) H Q := by
  have sh : SeqAt.shaped (.list [.str w, .str w, .str w]) = true := by simp [SeqAt.shaped, PyData.canLay0, PyData.canLayAll0, PyData.depth, PyData.depthAll, ok]
  have d : DpAll K H [.str w, .str w, .str w] [.str w, .str w, .str w] := .cons (.str _) (.cons (.str _) (.cons (.str _) .nil))
  refine ⟨_, _, .lst (SqL.of h) d, .lst (SqL.of g) d, sh, sh, ?_⟩
  have e : PyData.eqv (.list [.str w, .str w, .str w]) (.list [.str w, .str w, .str w]) = true := by simp [PyData.eqv, PyData.eqvAll]
  rw [e]
  exact k
theorem np_ni {K : PySem.W.Frag} {H : Hp} {ls : List Int} {sz : Int} {v : V} (h : NotI K H v) : NoPg K H ls sz v := fun _ _ => .inr ⟨h, rfl⟩
theorem np_int {K : PySem.W.Frag} {H : Hp} {ls : List Int} {sz : Int} {last : Nat} {n : Int} (o : Pk.Ok ls sz) (on : Pk.On ls sz last (10 ^ 30 - 1)) (h : n < 0 ∨ (last : Int) < n) : NoPg K H ls sz (.int n) := fun l2 on2 => by
  obtain rfl := Pk.On.inj o on on2
  exact .inl ⟨n, rfl, (decide_eq_false (by omega)).symm⟩
def sp_InvalidPage___init__ (K : PySem.W.Frag) : Sp := fun vs H Q _ => ∃ (a : Addr) (v : V), vs = [.ref a, v] ∧ H a = some (exo a (He.ga K "InvalidPage") none) ∧ ∀ d, H d = none → d ≠ a → Q .non (upd (upd H d (exd d [("page", v)])) a (exo a (He.ga K "InvalidPage") (some d)))
/-- raise InvalidPage(v) -/
theorem rap_at {K : PySem.W.Frag} {H : Hp} {E : XK} {v : V} (h : RaiP K H E v) : KrE.rMkE (He.ga K "InvalidPage") (sp_InvalidPage___init__ K) [v] H fun cls d H2 => E cls d H2 :=
  KrE.r_mk1 (f := "page") (fun x Hx Q' hx k => ⟨x, _, rfl, hx, k⟩) fun d H2 s hd hx => h d H2 s hd hx
def sp_is_from (K : PySem.W.Frag) : Sp := fun vs H Q _ => ∃ n a : Int, vs = [.int n, .int a] ∧ Q (.bl (decide (a ≤ n))) H
def sp_is_within (K : PySem.W.Frag) : Sp := fun vs H Q _ => ∃ n a b : Int, vs = [.int n, .int a, .int b] ∧ Q (.bl (decide (a ≤ n ∧ n ≤ b))) H
def sp_check_row (K : PySem.W.Frag) : Sp := fun vs H Q _ => ∃ r : Nat, vs = [.int r] ∧ r < 10 ^ 30 ∧ Q .non H
def sp_are_lengths (K : PySem.W.Frag) : Sp := fun vs H Q _ => ∃ (p : Addr) (ls : List Int), vs = [.ref p] ∧ H p = some (.lst (ls.map V.int)) ∧ LensOk ls 64 ∧ ∀ H', Same H H' → Q (.bl true) H'
def sp_bounds_behind (K : PySem.W.Frag) : Sp := fun vs H Q _ => ∃ (p : Addr) (ls : List Int), vs = [.ref p] ∧ H p = some (.lst (ls.map V.int)) ∧ 1 ≤ ls.length ∧ ls.length ≤ 6 ∧
  ∀ (m : Int) (L : Addr) (H' : Hp), m ∈ ls → (∀ y ∈ ls, y ≤ m) → Same H H' → Bnds H' L m → Q (.ref L) H'
def sp_Settings___init__ (K : PySem.W.Frag) : Sp := fun vs H Q _ => ∃ (a dx p : Addr) (ls : List Int) (sz fo re ev ke : Int), vs = [.ref a, .ref p, .int sz, .int fo, .int re, .int ev, .int ke] ∧ H a = some (.ins (He.ga K "Settings") dx []) ∧
  H p = some (.lst (ls.map V.int)) ∧ SetOk ls sz fo re ev ke ∧ ∀ (t : Addr) (H' : Hp), (∀ b o, b ≠ a → H b = some o → H' b = some o) → H' a = some (.ins (He.ga K "Settings") dx (setF t sz fo re ev ke)) → H' t = some (.tup (ls.map V.int)) → Q .non H'
def sp_check_settings (K : PySem.W.Frag) : Sp := fun vs H Q _ => ∃ (a dx : Addr) (fs : List (Str × V)), vs = [.ref a] ∧ H a = some (.ins (He.ga K "Settings") dx fs) ∧ Q .non H
def sp_rows_from (K : PySem.W.Frag) : Sp := fun vs H Q _ => ∃ (s : Addr) (r : Nat) (ls : List Int) (sz fo re ev ke : Int), vs = [.ref s, .int r] ∧ SetAt K H s ls sz fo re ev ke ∧ LensOk ls sz ∧ Q (.int (Pk.cnt ls sz r : Nat)) H
def sp_units_ahead (K : PySem.W.Frag) : Sp := fun vs H Q _ => ∃ (s : Addr) (r : Nat) (ls : List Int) (sz fo re ev ke : Int), vs = [.ref s, .int r] ∧ SetAt K H s ls sz fo re ev ke ∧ LensOk ls sz ∧ r < 10 ^ 40 ∧ ∀ H', Same H H' → Q (.int (Pk.pre ls 0 r)) H'
def sp_Packing_page_with (K : PySem.W.Frag) : Sp := fun vs H Q _ => ∃ (a lp dx : Addr) (ls : List Int) (sz : Int) (j k r : Nat) (fs : List (Str × V)), vs = [.ref a, .int r] ∧ PkF K H a ls sz j k lp dx fs ∧ r < 10 ^ 40 ∧ ∀ m, Pk.On ls sz m r → Q (.int (m : Nat)) H
def sp_Packing___init__ (K : PySem.W.Frag) : Sp := fun vs H Q _ => ∃ (a s dx : Addr) (ls : List Int) (sz fo re ev ke : Int), vs = [.ref a, .ref s] ∧ H a = some (.ins (He.ga K "Packing") dx []) ∧ SetAt K H s ls sz fo re ev ke ∧ LensOk ls sz ∧
  ∀ H', (∀ b o, b ≠ a → H b = some o → H' b = some o) → PackAt K H' a s ls sz → (∀ c zs H2, H c = some (.lst zs) → But c H' H2 → PackAt K H2 a s ls sz) → Q .non H'
def sp_Packing_page_of (K : PySem.W.Frag) : Sp := fun vs H Q _ => ∃ (a s : Addr) (ls : List Int) (sz : Int) (r : Nat), vs = [.ref a, .int r] ∧ PackAt K H a s ls sz ∧ r < 10 ^ 30 ∧ ∀ m, Pk.On ls sz m r → Q (.int (m : Nat)) H
theorem page_one {K : PySem.W.Frag} {vs : List V} {H : Hp} {Q : VK} {E : XK} (h : ∃ (a s : Addr) (ls : List Int) (sz : Int) (r m : Nat), vs = [.ref a, .int r] ∧ PackAt K H a s ls sz ∧ r < 10 ^ 30 ∧ Pk.On ls sz m r ∧ Q (.int m) H) : sp_Packing_page_of K vs H Q E := by
  obtain ⟨a, s, ls, sz, r, m, rfl, PA, h30, om, q⟩ := h
  obtain ⟨dx, lp, j, k, last, F, -, -⟩ := id PA
  exact ⟨a, s, ls, sz, r, rfl, PA, h30, fun m2 om2 => by rw [Pk.On.inj F.ok.pk om2 om]; exact q⟩
def sp_Packing_start_of (K : PySem.W.Frag) : Sp := fun vs H Q _ => ∃ (a s : Addr) (ls : List Int) (sz : Int) (m : Nat), vs = [.ref a, .int m] ∧ PackAt K H a s ls sz ∧ m < 10 ^ 120 ∧ Q (.int (Pk.st ls sz m : Nat)) H
def sp_Packing__check_page (K : PySem.W.Frag) : Sp := fun vs H Q _ => ∃ (a s : Addr) (ls : List Int) (sz : Int) (m r : Nat), vs = [.ref a, .int m] ∧ PackAt K H a s ls sz ∧ Pk.On ls sz m r ∧ r < 10 ^ 30 ∧ Q .non H
def sp_Packing_first_row (K : PySem.W.Frag) : Sp := fun vs H Q _ => ∃ (a s : Addr) (ls : List Int) (sz : Int) (m r : Nat), vs = [.ref a, .int m] ∧ PackAt K H a s ls sz ∧ Pk.On ls sz m r ∧ r < 10 ^ 30 ∧ Q (.int (Pk.st ls sz m : Nat)) H
def sp_Packing_rows_on (K : PySem.W.Frag) : Sp := fun vs H Q _ => ∃ (a s : Addr) (ls : List Int) (sz : Int) (m r : Nat), vs = [.ref a, .int m] ∧ PackAt K H a s ls sz ∧ Pk.On ls sz m r ∧ r < 10 ^ 30 ∧ Q (.int (Pk.cnt ls sz (Pk.st ls sz m) : Nat)) H
def sp_Packing__units_between (K : PySem.W.Frag) : Sp := fun vs H Q _ => ∃ (a s : Addr) (ls : List Int) (sz : Int) (r n : Nat), vs = [.ref a, .int r, .int (r + n : Nat)] ∧ PackAt K H a s ls sz ∧ r + n < 10 ^ 40 ∧ ∀ H', Same H H' → Q (.int (Pk.pre ls r n)) H'
def sp_Packing_units_on (K : PySem.W.Frag) : Sp := fun vs H Q _ => ∃ (a s : Addr) (ls : List Int) (sz : Int) (m r : Nat), vs = [.ref a, .int m] ∧ PackAt K H a s ls sz ∧ Pk.On ls sz m r ∧ r < 10 ^ 30 ∧ ∀ H', Same H H' → Q (.int (Pk.pre ls (Pk.st ls sz m) (Pk.cnt ls sz (Pk.st ls sz m)))) H'
def sp__law_mix (K : PySem.W.Frag) : Sp := fun vs H Q _ => ∃ c l : Int, vs = [.int c, .int l] ∧ ∀ z : Int, Q (.int z) H
def sp__law_source (K : PySem.W.Frag) : Sp := fun vs H Q _ => ∃ (a : Addr) (ns : List Int) (k : Int), vs = [.ref a, .int k] ∧ SqL K H a (ns.map V.int) ∧ ns.length ≤ 63 ∧ 0 ≤ k ∧
  ∀ (p : Addr) (H' : Hp), Same H H' → H p = none → Src H' p → Q (.ref p) H'
def sp__law_draw (K : PySem.W.Frag) : Sp := fun vs H Q _ => ∃ (a : Addr) (n : Int), vs = [.ref a, .int n] ∧ Src H a ∧ Lim n ∧
  ∀ (d : Int) (H' : Hp), 0 ≤ d → d < n → Dr a H H' → Q (.int d) H'
def sp__law_pick (K : PySem.W.Frag) : Sp := fun vs H Q _ => ∃ (a p : Addr) (xs : List V), vs = [.ref a, .ref p] ∧ Src H a ∧ p ≠ a ∧ SqL K H p xs ∧ 0 < xs.length ∧ xs.length ≤ 1000 ∧
  ∀ (x : V) (H' : Hp), x ∈ xs → Dr a H H' → Q x H'
def sp__law_parts (K : PySem.W.Frag) : Sp := fun vs H Q _ => ∃ a : Addr, vs = [.ref a] ∧ Src H a ∧
  ∀ (p q : Addr) (ls : List Int) (room fo re ev ke : Int) (H' : Hp), Dr a H H' → H p = none → H q = none → p ≠ q → H' p = some (.lst [.ref q, .int room, .int fo, .int re, .int ev, .int ke]) →
    H' q = some (.lst (ls.map V.int)) → PartsOk ls room fo re ev ke → Q (.ref p) H'
def sp__law_settings (K : PySem.W.Frag) : Sp := fun vs H Q _ => ∃ (p q : Addr) (ls : List Int) (sz fo re ev ke : Int), vs = [.ref p] ∧ H p = some (.lst [.ref q, .int sz, .int fo, .int re, .int ev, .int ke]) ∧ H q = some (.lst (ls.map V.int)) ∧ SetOk ls sz fo re ev ke ∧
  ∀ (a : Addr) (H' : Hp), Same H H' → H a = none → SetAt K H' a ls sz fo re ev ke → Q (.ref a) H'

def sp_is_from__r (K : PySem.W.Frag) : Sp := fun vs H Q _ => ∃ (v : V) (a : Int) (r : Bool), vs = [v, .int a] ∧ FromV K H v a r ∧ Q (.bl r) H
def sp_is_within__r (K : PySem.W.Frag) : Sp := fun vs H Q _ => ∃ (v : V) (a b : Int) (r : Bool), vs = [v, .int a, .int b] ∧ WithinV K H v a b r ∧ Q (.bl r) H
def sp_Packing__check_page__r (K : PySem.W.Frag) : Sp := fun vs H Q E => ∃ (a s : Addr) (ls : List Int) (sz : Int) (v : V), vs = [.ref a, v] ∧ PackAt K H a s ls sz ∧ ((IsPg ls sz v ∧ Q .non H) ∨ (NoPg K H ls sz v ∧ RaiP K H E v))
def sp_Packing_units_on__r (K : PySem.W.Frag) : Sp := fun vs H Q E => ∃ (a s : Addr) (ls : List Int) (sz : Int) (v : V), vs = [.ref a, v] ∧ PackAt K H a s ls sz ∧ ((IsPg ls sz v ∧ ∀ u H', Same H H' → Q u H') ∨ (NoPg K H ls sz v ∧ RaiP K H E v))
theorem said_go {K : PySem.W.Frag} {H : Hp} {ls : List Int} {sz : Int} {v : V} {w : Str} {E1 : XK} {Q : VK} (sd : Said K H ls sz v w) (hE : ∀ v, (∀ H', Same H H' → KrG.rRep [v] H' Q) → RaiP K H E1 v) (q : ∀ H', Same H H' → Q (.str w) H') :
    (IsPg ls sz v ∧ ∀ (u : V) H', Same H H' → Q (.str "none") H') ∨ (NoPg K H ls sz v ∧ RaiP K H E1 v) := by
  rcases sd with ⟨pg, rfl⟩ | ⟨d, rfl, h⟩
  · exact .inl ⟨pg, fun _ H' s => q H' s⟩
  · exact .inr ⟨(h H (ExtN.refl _)).1, hE v fun H' s => (h H' (ExtN.of s)).2.rep (q H' s)⟩
def sp_Packing_rows_on__r (K : PySem.W.Frag) : Sp := fun vs H Q E => ∃ (a s : Addr) (ls : List Int) (sz : Int) (v : V), vs = [.ref a, v] ∧ PackAt K H a s ls sz ∧ ((IsPg ls sz v ∧ ∀ u H', Same H H' → Q u H') ∨ (NoPg K H ls sz v ∧ RaiP K H E v))
def sp_Packing_first_row__r (K : PySem.W.Frag) : Sp := fun vs H Q E => ∃ (a s : Addr) (ls : List Int) (sz : Int) (v : V), vs = [.ref a, v] ∧ PackAt K H a s ls sz ∧ ((IsPg ls sz v ∧ ∀ u H', Same H H' → Q u H') ∨ (NoPg K H ls sz v ∧ RaiP K H E v))
def sp__law_pages_said (K : PySem.W.Frag) : Sp := fun vs H Q _ => ∃ (x s : Addr) (v : V) (ls : List Int) (sz : Int) (w : Str), vs = [.ref x, v] ∧ PackAt K H x s ls sz ∧ Said K H ls sz v w ∧ Tabs (Tb K) H ∧
  ∀ t H', ExtN H H' → Tabs (Tb K) H' → H' t = some (.lst [.str w, .str w, .str w]) → Q (.ref t) H'
def sp__law_right (K : PySem.W.Frag) : Sp := fun vs H Q _ => ∃ a : Addr, vs = [.ref a] ∧ Src H a ∧ Tabs (Tb K) H ∧ ∀ H', BuN a H H' → Tabs (Tb K) H' → Q (.bl true) H'
def sp_law (K : PySem.W.Frag) : Sp := fun vs H Q _ => ∃ (a : Addr) (ns : List Int), vs = [.ref a] ∧ SqL K H a (ns.map V.int) ∧ ns.length ≤ 63 ∧ Tabs (Tb K) H ∧ ∀ H', Q (.bl true) H'
local macro_rules | `(tactic| walk_at "side") => `(tactic| first
  | assumption
  | decide
  | exact ⟨by decide, by decide⟩
  | exact ⟨by decide, by decide, by decide⟩
  | exact Or.inl ⟨by decide, by decide⟩
  | exact Or.inr ⟨by decide, by decide⟩
  | omega
  | exact ⟨by omega, by omega⟩
  | exact Or.inl ⟨by omega, by omega⟩
  | exact Or.inr ⟨by omega, by omega⟩)
local macro_rules | `(tactic| walk_at "seq") => `(tactic| first
  | assumption
  | exact SqL.of (by assumption)
  | exact SqT.of (by assumption)
  | exact SqL.of upd_same
  | exact SqT.of upd_same)
local macro_rules | `(tactic| walk_at "var") => `(tactic| first
  | with_reducible refine r_v0 ?_
  | with_reducible refine r_v1 ?_
  | with_reducible refine r_v2 ?_
  | with_reducible refine r_v3 ?_
  | with_reducible refine r_v4 ?_
  | with_reducible refine r_v5 ?_
  | with_reducible refine r_v6 ?_
  | with_reducible refine r_v7 ?_
  | with_reducible refine r_v8 ?_
  | with_reducible refine r_v9 ?_
  | with_reducible refine r_v10 ?_
  | with_reducible refine r_v11 ?_
  | with_reducible refine r_v12 ?_
  | with_reducible refine r_v13 ?_
  | with_reducible refine r_v14 ?_
  | with_reducible refine r_v15 ?_
  | with_reducible refine r_v16 ?_
  | with_reducible refine r_v17 ?_
  | with_reducible refine r_v18 ?_
  | with_reducible refine r_v19 ?_
  | with_reducible refine r_v20 ?_
  | with_reducible refine r_v21 ?_)
local macro_rules | `(tactic| walk_at "nam") => `(tactic| first
  | with_reducible refine r_g0 ?_
  | with_reducible refine r_g1 ?_
  | with_reducible refine r_g2 ?_
  | with_reducible refine r_g3 ?_
  | with_reducible refine r_g4 ?_
  | with_reducible refine r_g5 ?_
  | with_reducible refine r_g6 ?_
  | with_reducible refine r_g7 ?_
  | with_reducible refine r_g8 ?_
  | with_reducible refine r_g9 ?_
  | with_reducible refine r_g10 ?_
  | with_reducible refine r_g11 ?_
  | with_reducible refine r_g12 ?_
  | with_reducible refine r_g13 ?_
  | with_reducible refine r_g14 ?_
  | with_reducible refine r_g15 ?_
  | with_reducible refine r_g16 ?_
  | with_reducible refine r_g17 ?_
  | with_reducible refine r_g18 ?_
  | with_reducible refine r_g19 ?_
  | with_reducible refine r_g20 ?_
  | with_reducible refine r_g21 ?_)
local macro_rules | `(tactic| walk_at "aug") => `(tactic| first
  | with_reducible refine r_aug0 ?_
  | with_reducible refine r_aug1 ?_
  | with_reducible refine r_aug2 ?_
  | with_reducible refine r_aug3 ?_
  | with_reducible refine r_aug4 ?_
  | with_reducible refine r_aug5 ?_
  | with_reducible refine r_aug6 ?_
  | with_reducible refine r_aug7 ?_
  | with_reducible refine r_aug8 ?_
  | with_reducible refine r_aug9 ?_
  | with_reducible refine r_aug10 ?_
  | with_reducible refine r_aug11 ?_
  | with_reducible refine r_aug12 ?_
  | with_reducible refine r_aug13 ?_
  | with_reducible refine r_aug14 ?_
  | with_reducible refine r_aug15 ?_
  | with_reducible refine r_aug16 ?_
  | with_reducible refine r_aug17 ?_
  | with_reducible refine r_aug18 ?_
  | with_reducible refine r_aug19 ?_
  | with_reducible refine r_aug20 ?_
  | with_reducible refine r_aug21 ?_)
local macro_rules | `(tactic| walk_at "s") => `(tactic| first
  | walk_at "var"
  | with_reducible refine r_seq ?_
  | with_reducible refine r_asg ?_
  | with_reducible refine r_tC ?_
  | with_reducible refine r_op ?_
  | with_reducible refine r_cons ?_
  | with_reducible refine r_nil ?_
  | with_reducible refine r_CB ?_
  | with_reducible refine r_I0 ?_
  | with_reducible refine r_ret ?_
  | with_reducible refine r_call ?_
  | with_reducible refine r_ifS ?_
  | with_reducible refine r_test ?_
  | with_reducible refine r_tB ?_
  | with_reducible refine r_bl ?_
  | with_reducible refine r_int1 ?_
  | with_reducible refine r_max2 ?_
  | with_reducible refine r_min2 ?_
  | with_reducible refine r_and ?_
  | with_reducible refine r_or ?_
  | with_reducible refine r_not ?_
  | with_reducible refine r_andV ?_
  | with_reducible refine r_orV ?_
  | with_reducible refine r_notV ?_
  | with_reducible refine r_if ?_
  | with_reducible refine r_drop ?_
  | with_reducible refine r_next ?_
  | with_reducible refine r_gSub ?_
  | with_reducible refine r_gCons ?_
  | with_reducible refine r_gNil ?_
  | with_reducible refine r_tup ?_
  | with_reducible refine r_lst ?_
  | with_reducible refine r_un ?_
  | with_reducible refine r_U ?_
  | with_reducible refine r_chain ?_
  | with_reducible refine r_fld ?_
  | with_reducible refine r_sFld ?_
  | with_reducible refine r_meth ?_
  | with_reducible refine r_mkK ?_
  | with_reducible refine r_mk ?_
  | with_reducible refine r_sl ?_
  | with_reducible refine r_part ?_
  | with_reducible refine r_po ?_
  | with_reducible refine r_nopart ?_
  | with_reducible refine r_BM ?_
  | with_reducible refine r_tru ?_
  | with_reducible refine r_lc ?_
  | with_reducible refine r_dnotin ?_
  | with_reducible refine r_din ?_
  | with_reducible refine r_dget ?_
  | with_reducible refine r_dput ?_
  | with_reducible refine r_dnew ?_
  | with_reducible refine r_for ?_
  | with_reducible refine r_list ?_
  | with_reducible refine r_tupI ?_
  | with_reducible refine r_rng1 ?_
  | with_reducible refine r_rng2 ?_
  | with_reducible refine r_yes ?_
  | with_reducible refine r_par ?_
  | with_reducible refine r_two ?_
  | with_reducible refine r_par3 ?_
  | with_reducible refine r_tri ?_
  | with_reducible refine r_enum ?_
  | with_reducible refine r_ip ?_
  | with_reducible refine r_eqI ?_
  | with_reducible refine r_neI ?_
  | with_reducible refine r_eqS ?_
  | with_reducible refine r_neS ?_
  | with_reducible refine r_neB ?_
  | with_reducible refine r_eqB ?_
  | with_reducible refine r_BM0 ?_
  | with_reducible refine r_lstRg ?_
  | with_reducible refine r_rgA ?_
  | with_reducible refine iteT ?_
  | with_reducible refine iteF ?_
  | with_reducible refine iteNt ?_
  | with_reducible refine iteNf ?_
  | ((with_reducible refine' r_I ?k1 ?_); (case k1 => walk_at "side"))
  | ((with_reducible refine' r_ixL ?k1 ?k2 ?_); (case k1 => walk_at "seq"); (case k2 => rfl))
  | ((with_reducible refine' r_ixT ?k1 ?k2 ?_); (case k1 => walk_at "seq"); (case k2 => rfl))
  | ((with_reducible refine' r_lenL ?k1 ?_); (case k1 => walk_at "seq"))
  | ((with_reducible refine' r_lenT ?k1 ?_); (case k1 => walk_at "seq"))
  | ((with_reducible refine' r_sum ?k1 ?_); (case k1 => walk_at "seq"))
  | ((with_reducible refine' r_sumT ?k1 ?_); (case k1 => walk_at "seq"))
  | ((with_reducible refine' r_tupOf ?k1 ?_); (case k1 => walk_at "seq"))
  | ((with_reducible refine' r_listOf ?k1 ?_); (case k1 => walk_at "seq"))
  | ((with_reducible refine' r_slL ?k1 ?_); (case k1 => walk_at "seq"))
  | ((with_reducible refine' r_sq ?k1 ?_); (case k1 => walk_at "seq"))
  | ((with_reducible refine' r_sqT ?k1 ?_); (case k1 => walk_at "seq"))
  | ((with_reducible refine' r_en ?k1 ?_); (case k1 => walk_at "seq"))
  | ((with_reducible refine' r_tyL ?k1 ?_); (case k1 => walk_at "seq"))
  | ((with_reducible refine' r_gTup ?k1 ?k2 ?_); (case k1 => walk_at "seq"); (case k2 => rfl))
  | ((with_reducible refine' r_setL ?k1 ?k2 ?_); (case k1 => assumption); (case k2 => rfl))
  | ((with_reducible refine' r_fd ?k1 ?k2 ?k3 ?k4 ?_); (case k1 => assumption); (case k2 => assumption); (case k3 => assumption); (case k4 => first | rfl | assumption))
  | ((with_reducible refine' r_obj ?k1 ?k2 ?_); (case k1 => assumption); (case k2 => rfl))
  | ((with_reducible refine' r_rg1 ?k1 ?_); (case k1 => walk_at "side"))
  | ((with_reducible refine' r_rg2 ?k1 ?_); (case k1 => walk_at "side"))
  | ((with_reducible refine' r_sz ?k1 ?_); (case k1 => (show _ ≤ _; simp)))
  | walk_at "nam"
  | walk_at "aug")
local macro_rules | `(tactic| walk_at "ss") => `(tactic| repeat walk_at "s")

theorem ok_InvalidPage___init__ {P : Program} {w : World} {K : PySem.W.Frag} {mg : Str → Option Value} {base : Heap} {f : Addr} {fd : FuncData} (F : FunD K "__init__" "InvalidPage.__init__" (defArgs s_InvalidPage___init__) (defBody s_InvalidPage___init__) (defScope s_InvalidPage___init__) [] [] f fd) (x_err_InvalidPage : KrE.ErrC K (He.ga K "InvalidPage")) (x_tk_InvalidPage : PySem.W.takerIn K (He.ga K "InvalidPage") "page" = some none) : FnOk P w K mg base CX0 1 f fd ["self", "page"] (sp_InvalidPage___init__ K) := by
  refine F.ok sc_InvalidPage___init__ (fun vs H Q E h => by first | (obtain ⟨rfl, _⟩ := h; rfl) | (obtain ⟨_, rfl, _⟩ := h; rfl) | (obtain ⟨_, _, rfl, _⟩ := h; rfl) | (obtain ⟨_, _, _, rfl, _⟩ := h; rfl) | (obtain ⟨_, _, _, _, rfl, _⟩ := h; rfl) | (obtain ⟨_, _, _, _, _, rfl, _⟩ := h; rfl) | (obtain ⟨_, _, _, _, _, _, rfl, _⟩ := h; rfl) | (obtain ⟨_, _, _, _, _, _, _, rfl, _⟩ := h; rfl) | (obtain ⟨_, _, _, _, _, _, _, _, rfl, _⟩ := h; rfl) | (obtain ⟨_, _, _, _, _, _, _, _, _, rfl, _⟩ := h; rfl) | (obtain ⟨_, _, _, _, _, _, _, _, _, _, rfl, _⟩ := h; rfl) | (obtain ⟨_, _, _, _, _, _, _, _, _, _, _, rfl, _⟩ := h; rfl) | (obtain ⟨_, _, _, _, _, _, _, _, _, _, _, _, rfl, _⟩ := h; rfl) | (obtain ⟨_, _, _, _, _, _, _, _, _, _, _, _, _, rfl, _⟩ := h; rfl) | (obtain ⟨_, _, _, _, _, _, _, _, _, _, _, _, _, _, rfl, _⟩ := h; rfl) | (obtain ⟨_, _, _, _, _, _, _, _, _, _, _, _, _, _, _, rfl, _⟩ := h; rfl) | (obtain ⟨_, _, _, _, _, _, _, _, _, _, _, _, _, _, _, _, rfl, _⟩ := h; rfl) | (obtain ⟨_, _, _, _, _, _, _, _, _, _, _, _, _, _, _, _, _, rfl, _⟩ := h; rfl)) (fun cdv A outer s H vs Q E hr h => ?_)
  · have hu := hu_of hr
    obtain ⟨a, v, rfl, ha, q⟩ := h
    have e1 := x_err_InvalidPage
    have e2 := x_tk_InvalidPage
    refine ⟨_, PSs.nox (pss_one (KrE.ps_ers (pv 0) (pv 1))), ?_⟩
    rw [st_InvalidPage___init__]
    refine KrE.r_sErs ?_
    walk_at "ss"
    refine KrE.r_ers e1 e2 ha fun d n1 n2 => ?_
    walk_at "ss"
    exact q d n1 n2
theorem ok_is_from {P : Program} {w : World} {K : PySem.W.Frag} {mg : Str → Option Value} {base : Heap} {f : Addr} {fd : FuncData} (F : FunD K "is_from" "is_from" (defArgs s_is_from) (defBody s_is_from) (defScope s_is_from) [] [] f fd) (n_bool : mg "bool" = none) (n_int : mg "int" = none) (n_isinstance : mg "isinstance" = none) : FnOk P w K mg base CX0 1 f fd ["number", "least"] (sp_is_from K) := by
  refine F.ok sc_is_from (fun vs H Q E h => by first | (obtain ⟨rfl, _⟩ := h; rfl) | (obtain ⟨_, rfl, _⟩ := h; rfl) | (obtain ⟨_, _, rfl, _⟩ := h; rfl) | (obtain ⟨_, _, _, rfl, _⟩ := h; rfl) | (obtain ⟨_, _, _, _, rfl, _⟩ := h; rfl) | (obtain ⟨_, _, _, _, _, rfl, _⟩ := h; rfl) | (obtain ⟨_, _, _, _, _, _, rfl, _⟩ := h; rfl) | (obtain ⟨_, _, _, _, _, _, _, rfl, _⟩ := h; rfl) | (obtain ⟨_, _, _, _, _, _, _, _, rfl, _⟩ := h; rfl) | (obtain ⟨_, _, _, _, _, _, _, _, _, rfl, _⟩ := h; rfl) | (obtain ⟨_, _, _, _, _, _, _, _, _, _, rfl, _⟩ := h; rfl) | (obtain ⟨_, _, _, _, _, _, _, _, _, _, _, rfl, _⟩ := h; rfl) | (obtain ⟨_, _, _, _, _, _, _, _, _, _, _, _, rfl, _⟩ := h; rfl) | (obtain ⟨_, _, _, _, _, _, _, _, _, _, _, _, _, rfl, _⟩ := h; rfl) | (obtain ⟨_, _, _, _, _, _, _, _, _, _, _, _, _, _, rfl, _⟩ := h; rfl) | (obtain ⟨_, _, _, _, _, _, _, _, _, _, _, _, _, _, _, rfl, _⟩ := h; rfl) | (obtain ⟨_, _, _, _, _, _, _, _, _, _, _, _, _, _, _, _, rfl, _⟩ := h; rfl) | (obtain ⟨_, _, _, _, _, _, _, _, _, _, _, _, _, _, _, _, _, rfl, _⟩ := h; rfl)) (fun cdv A outer s H vs Q E hr h => ?_)
  · have hu := hu_of hr
    obtain ⟨n, a, rfl, q⟩ := h
    refine ⟨_, PSs.nox (pss_one (ps_ret (pe_and (pe_callB (id := "isinstance") call_isi rfl n_isinstance (by decide +kernel) (pa_cons (pv 0) (pa_cons (Kr.pe_bty (T := "int") n_int) pa_nil))) (pe_and (pe_not (pe_callB (id := "isinstance") call_isi rfl n_isinstance (by decide +kernel) (pa_cons (pv 0) (pa_cons (Kr.pe_bty (T := "bool") n_bool) pa_nil)))) (pe_one (pe_cmpR op_le (pv 1) (pv 0) (nomark _))))))), ?_⟩
    rw [st_is_from]
    walk_at "ss"
    refine r_isiT (.base (.int n)) (b := true) (by decide +kernel) ?_
    walk_at "ss"
    refine r_isiT (.base (.int n)) (b := false) (by decide +kernel) ?_
    walk_at "ss"
    exact q
theorem ok_is_within {P : Program} {w : World} {K : PySem.W.Frag} {mg : Str → Option Value} {base : Heap} {f : Addr} {fd : FuncData} (F : FunD K "is_within" "is_within" (defArgs s_is_within) (defBody s_is_within) (defScope s_is_within) [] [] f fd) (h_is_from : Kr.FnH P w K mg base CX0 1 "is_from" ["number", "least"] (sp_is_from K)) : FnOk P w K mg base CX0 2 f fd ["number", "least", "most"] (sp_is_within K) := by
  refine F.ok sc_is_within (fun vs H Q E h => by first | (obtain ⟨rfl, _⟩ := h; rfl) | (obtain ⟨_, rfl, _⟩ := h; rfl) | (obtain ⟨_, _, rfl, _⟩ := h; rfl) | (obtain ⟨_, _, _, rfl, _⟩ := h; rfl) | (obtain ⟨_, _, _, _, rfl, _⟩ := h; rfl) | (obtain ⟨_, _, _, _, _, rfl, _⟩ := h; rfl) | (obtain ⟨_, _, _, _, _, _, rfl, _⟩ := h; rfl) | (obtain ⟨_, _, _, _, _, _, _, rfl, _⟩ := h; rfl) | (obtain ⟨_, _, _, _, _, _, _, _, rfl, _⟩ := h; rfl) | (obtain ⟨_, _, _, _, _, _, _, _, _, rfl, _⟩ := h; rfl) | (obtain ⟨_, _, _, _, _, _, _, _, _, _, rfl, _⟩ := h; rfl) | (obtain ⟨_, _, _, _, _, _, _, _, _, _, _, rfl, _⟩ := h; rfl) | (obtain ⟨_, _, _, _, _, _, _, _, _, _, _, _, rfl, _⟩ := h; rfl) | (obtain ⟨_, _, _, _, _, _, _, _, _, _, _, _, _, rfl, _⟩ := h; rfl) | (obtain ⟨_, _, _, _, _, _, _, _, _, _, _, _, _, _, rfl, _⟩ := h; rfl) | (obtain ⟨_, _, _, _, _, _, _, _, _, _, _, _, _, _, _, rfl, _⟩ := h; rfl) | (obtain ⟨_, _, _, _, _, _, _, _, _, _, _, _, _, _, _, _, rfl, _⟩ := h; rfl) | (obtain ⟨_, _, _, _, _, _, _, _, _, _, _, _, _, _, _, _, _, rfl, _⟩ := h; rfl)) (fun cdv A outer s H vs Q E hr h => ?_)
  · have hu := hu_of hr
    obtain ⟨n, a, b, rfl, q⟩ := h
    refine ⟨_, PSs.nox (pss_one (ps_ret (pe_and (Kr.pe_cl h_is_from (hr.mono (by decide)) (pa_cons (pv 0) (pa_cons (pv 1) pa_nil))) (pe_one (pe_cmpR op_le (pv 0) (pv 2) (nomark _)))))), ?_⟩
    rw [st_is_within]
    walk_at "ss"
    refine ⟨_, _, rfl, ?_⟩
    walk_at "ss"
    refine r_dec (fun h1 => ?_) fun h1 => ?_
    · walk_at "ss"
      have e : decide (n ≤ b) = decide (a ≤ n ∧ n ≤ b) := by simp [h1]
      rw [e]
      exact q
    · have e : false = decide (a ≤ n ∧ n ≤ b) := by simp [h1]
      rw [e]
      exact q
theorem ok_check_row {P : Program} {w : World} {K : PySem.W.Frag} {mg : Str → Option Value} {base : Heap} {f : Addr} {fd : FuncData} (F : FunD K "check_row" "check_row" (defArgs s_check_row) (defBody s_check_row) (defScope s_check_row) [] [] f fd) (g_ROWS : ∃ t, mg "ROWS" = some (.int 1000000000000000000000000000000 t)) (h_is_within : Kr.FnH P w K mg base CX0 2 "is_within" ["number", "least", "most"] (sp_is_within K)) : FnOk P w K mg base CX0 3 f fd ["row"] (sp_check_row K) := by
  refine F.ok sc_check_row (fun vs H Q E h => by first | (obtain ⟨rfl, _⟩ := h; rfl) | (obtain ⟨_, rfl, _⟩ := h; rfl) | (obtain ⟨_, _, rfl, _⟩ := h; rfl) | (obtain ⟨_, _, _, rfl, _⟩ := h; rfl) | (obtain ⟨_, _, _, _, rfl, _⟩ := h; rfl) | (obtain ⟨_, _, _, _, _, rfl, _⟩ := h; rfl) | (obtain ⟨_, _, _, _, _, _, rfl, _⟩ := h; rfl) | (obtain ⟨_, _, _, _, _, _, _, rfl, _⟩ := h; rfl) | (obtain ⟨_, _, _, _, _, _, _, _, rfl, _⟩ := h; rfl) | (obtain ⟨_, _, _, _, _, _, _, _, _, rfl, _⟩ := h; rfl) | (obtain ⟨_, _, _, _, _, _, _, _, _, _, rfl, _⟩ := h; rfl) | (obtain ⟨_, _, _, _, _, _, _, _, _, _, _, rfl, _⟩ := h; rfl) | (obtain ⟨_, _, _, _, _, _, _, _, _, _, _, _, rfl, _⟩ := h; rfl) | (obtain ⟨_, _, _, _, _, _, _, _, _, _, _, _, _, rfl, _⟩ := h; rfl) | (obtain ⟨_, _, _, _, _, _, _, _, _, _, _, _, _, _, rfl, _⟩ := h; rfl) | (obtain ⟨_, _, _, _, _, _, _, _, _, _, _, _, _, _, _, rfl, _⟩ := h; rfl) | (obtain ⟨_, _, _, _, _, _, _, _, _, _, _, _, _, _, _, _, rfl, _⟩ := h; rfl) | (obtain ⟨_, _, _, _, _, _, _, _, _, _, _, _, _, _, _, _, _, rfl, _⟩ := h; rfl)) (fun cdv A outer s H vs Q E hr h => ?_)
  · have hu := hu_of hr
    obtain ⟨r, rfl, h30, q⟩ := h
    refine ⟨_, PSs.nox (pss_one (ps_if (pt_not (pt_val (Kr.pe_cl h_is_within (hr.mono (by decide)) (pa_cons (pv 0) (pa_cons pe_int (pa_cons (pe_op op_sub (Kr.pe_gint g_ROWS) pe_int) pa_nil)))))) (pss_one ps_never) pss_nil)), ?_⟩
    rw [st_check_row]
    walk_at "ss"
    refine ⟨_, _, _, rfl, ?_⟩
    walk_at "ss"
    refine r_decN (fun ne => absurd ⟨by omega, by omega⟩ ne) fun _ => ?_
    walk_at "ss"
    exact q
theorem ok_are_lengths {P : Program} {w : World} {K : PySem.W.Frag} {mg : Str → Option Value} {base : Heap} {f : Addr} {fd : FuncData} (F : FunD K "are_lengths" "are_lengths" (defArgs s_are_lengths) (defBody s_are_lengths) (defScope s_are_lengths) [] [] f fd) (g_MOST_LENGTHS : ∃ t, mg "MOST_LENGTHS" = some (.int 6 t)) (g_MOST_UNITS : ∃ t, mg "MOST_UNITS" = some (.int 64 t)) (h_is_within : Kr.FnH P w K mg base CX0 2 "is_within" ["number", "least", "most"] (sp_is_within K)) (n_all : mg "all" = none) (n_isinstance : mg "isinstance" = none) (n_len : mg "len" = none) (n_list : mg "list" = none) : FnOk P w K mg base CX0 3 f fd ["lengths"] (sp_are_lengths K) := by
  refine F.ok sc_are_lengths (fun vs H Q E h => by first | (obtain ⟨rfl, _⟩ := h; rfl) | (obtain ⟨_, rfl, _⟩ := h; rfl) | (obtain ⟨_, _, rfl, _⟩ := h; rfl) | (obtain ⟨_, _, _, rfl, _⟩ := h; rfl) | (obtain ⟨_, _, _, _, rfl, _⟩ := h; rfl) | (obtain ⟨_, _, _, _, _, rfl, _⟩ := h; rfl) | (obtain ⟨_, _, _, _, _, _, rfl, _⟩ := h; rfl) | (obtain ⟨_, _, _, _, _, _, _, rfl, _⟩ := h; rfl) | (obtain ⟨_, _, _, _, _, _, _, _, rfl, _⟩ := h; rfl) | (obtain ⟨_, _, _, _, _, _, _, _, _, rfl, _⟩ := h; rfl) | (obtain ⟨_, _, _, _, _, _, _, _, _, _, rfl, _⟩ := h; rfl) | (obtain ⟨_, _, _, _, _, _, _, _, _, _, _, rfl, _⟩ := h; rfl) | (obtain ⟨_, _, _, _, _, _, _, _, _, _, _, _, rfl, _⟩ := h; rfl) | (obtain ⟨_, _, _, _, _, _, _, _, _, _, _, _, _, rfl, _⟩ := h; rfl) | (obtain ⟨_, _, _, _, _, _, _, _, _, _, _, _, _, _, rfl, _⟩ := h; rfl) | (obtain ⟨_, _, _, _, _, _, _, _, _, _, _, _, _, _, _, rfl, _⟩ := h; rfl) | (obtain ⟨_, _, _, _, _, _, _, _, _, _, _, _, _, _, _, _, rfl, _⟩ := h; rfl) | (obtain ⟨_, _, _, _, _, _, _, _, _, _, _, _, _, _, _, _, _, rfl, _⟩ := h; rfl)) (fun cdv A outer s H vs Q E hr h => ?_)
  · have hu := hu_of hr
    obtain ⟨p, ls, rfl, hp, ok, q⟩ := h
    have l1 := ok.l1
    have l6 := ok.l6
    have hl : (ls.map V.int).length = ls.length := List.length_map ..
    refine ⟨_, PSs.nox (pss_cons (ps_if (PW.pt (pw_or (pt_not (pt_val (pe_callB (id := "isinstance") call_isi rfl n_isinstance (by decide +kernel) (pa_cons (pv 0) (pa_cons (Kr.pe_bty (T := "list") n_list) pa_nil))))) (pw_or1 (pt_not (pt_chain op_le op_le pe_int (pe_callB (id := "len") Kr.c_len rfl n_len (by decide +kernel) (pa_cons (pv 0) pa_nil)) (Kr.pe_gint g_MOST_LENGTHS)))))) (pss_one (ps_ret pe_bl)) pss_nil) (pss_one (ps_ret (pe_callB (id := "all") (cr_all rfl) rfl n_all (by decide +kernel) (pa_cons (pe_lc (own := [("length", 1)]) rfl sc_are_lengths.nd (pi_list (pv 0)) (blkOk_by (own := [("length", 1)]) (N := N_are_lengths) (sc := defScope s_are_lengths) (by decide +kernel)) (fun _ _ _ _ _ => (pg_name (i := 1) sc_are_lengths.nd rfl (.inl rfl))) (fun _ _ _ _ _ => pts_nil) (fun _ _ _ _ _ => (Kr.pe_cl h_is_within (hr.mono (by decide)) (pa_cons (pv 1) (pa_cons pe_int (pa_cons (Kr.pe_gint g_MOST_UNITS) pa_nil)))))) pa_nil))))), ?_⟩
    rw [st_are_lengths]
    walk_at "ss"
    refine r_isiT (.base (.lst hp)) (b := true) (by decide +kernel) ?_
    walk_at "ss"
    rw [hl]
    refine r_dec (fun _ => ?_) fun z => absurd (show (1 : Int) ≤ ls.length by omega) z
    walk_at "ss"
    refine r_decN (fun z => absurd (show (ls.length : Int) ≤ 6 by omega) z) fun _ => ?_
    walk_at "ss"
    intro D hD
    refine lc_listS (xs := ls.map V.int) [some (.ref p), none] rfl (fun i H5 => H5 D = some (.lst ((List.replicate i true).map V.bl)) ∧ Same H H5) ⟨upd_same, same_new hD⟩ (fun i H5 _ hh => hh.2.seq (SqL.of hp)) ?_ ?_
    · rintro i x H5 hx ⟨h5, s5⟩
      obtain ⟨l, hm, rfl⟩ : ∃ l, l ∈ ls ∧ x = V.int l := by
        rw [List.getElem?_map] at hx
        obtain ⟨l, h1, h2⟩ := Option.map_eq_some_iff.mp hx
        exact ⟨l, List.mem_of_getElem? h1, h2.symm⟩
      have hi : i < ls.length := by
        have := (List.getElem?_eq_some_iff.mp hx).1
        omega
      obtain ⟨b1, b2⟩ := ok.all l hm
      walk_at "ss"
      refine ⟨rfl, ?_⟩
      walk_at "ss"
      refine ⟨_, _, _, rfl, ?_⟩
      rw [decide_eq_true (⟨b1, b2⟩ : 1 ≤ l ∧ l ≤ 64)]
      refine ⟨_, h5, by rw [List.length_map, List.length_replicate]; exact szl (by omega), ?_, fun b o e => ?_⟩
      · rw [upd_same, List.replicate_succ', List.map_append]
        rfl
      · rw [upd_ne (ne_of_none e hD)]
        exact s5 b o e
    · rintro H5 ⟨h5, s5⟩
      walk_at "ss"
      refine r_all (SqL.of h5) ?_
      rw [take_map_bl (fun b hb => (List.mem_replicate.mp hb).2)]
      walk_at "ss"
      exact q _ s5
theorem ok_bounds_behind {P : Program} {w : World} {K : PySem.W.Frag} {mg : Str → Option Value} {base : Heap} {f : Addr} {fd : FuncData} (F : FunD K "bounds_behind" "bounds_behind" (defArgs s_bounds_behind) (defBody s_bounds_behind) (defScope s_bounds_behind) [] [] f fd) (g_MOST_UNITS : ∃ t, mg "MOST_UNITS" = some (.int 64 t)) (n_max : mg "max" = none) : FnOk P w K mg base CX0 1 f fd ["lengths"] (sp_bounds_behind K) := by
  refine F.ok sc_bounds_behind (fun vs H Q E h => by first | (obtain ⟨rfl, _⟩ := h; rfl) | (obtain ⟨_, rfl, _⟩ := h; rfl) | (obtain ⟨_, _, rfl, _⟩ := h; rfl) | (obtain ⟨_, _, _, rfl, _⟩ := h; rfl) | (obtain ⟨_, _, _, _, rfl, _⟩ := h; rfl) | (obtain ⟨_, _, _, _, _, rfl, _⟩ := h; rfl) | (obtain ⟨_, _, _, _, _, _, rfl, _⟩ := h; rfl) | (obtain ⟨_, _, _, _, _, _, _, rfl, _⟩ := h; rfl) | (obtain ⟨_, _, _, _, _, _, _, _, rfl, _⟩ := h; rfl) | (obtain ⟨_, _, _, _, _, _, _, _, _, rfl, _⟩ := h; rfl) | (obtain ⟨_, _, _, _, _, _, _, _, _, _, rfl, _⟩ := h; rfl) | (obtain ⟨_, _, _, _, _, _, _, _, _, _, _, rfl, _⟩ := h; rfl) | (obtain ⟨_, _, _, _, _, _, _, _, _, _, _, _, rfl, _⟩ := h; rfl) | (obtain ⟨_, _, _, _, _, _, _, _, _, _, _, _, _, rfl, _⟩ := h; rfl) | (obtain ⟨_, _, _, _, _, _, _, _, _, _, _, _, _, _, rfl, _⟩ := h; rfl) | (obtain ⟨_, _, _, _, _, _, _, _, _, _, _, _, _, _, _, rfl, _⟩ := h; rfl) | (obtain ⟨_, _, _, _, _, _, _, _, _, _, _, _, _, _, _, _, rfl, _⟩ := h; rfl) | (obtain ⟨_, _, _, _, _, _, _, _, _, _, _, _, _, _, _, _, _, rfl, _⟩ := h; rfl)) (fun cdv A outer s H vs Q E hr h => ?_)
  · have hu := hu_of hr
    obtain ⟨p, ls, rfl, hp, l1, l6, q⟩ := h
    refine ⟨_, PSs.nox (pss_one (ps_ret (pe_lst (pa_cons (pe_tup (pa_cons pe_str (pa_cons (pe_callB (id := "max") (cr_max rfl) rfl n_max (by decide +kernel) (pa_cons (pv 0) pa_nil)) (pa_cons (Kr.pe_gint g_MOST_UNITS) pa_nil)))) (pa_cons (pe_tup (pa_cons pe_str (pa_cons pe_int (pa_cons pe_int pa_nil)))) (pa_cons (pe_tup (pa_cons pe_str (pa_cons pe_int (pa_cons pe_int pa_nil)))) (pa_cons (pe_tup (pa_cons pe_str (pa_cons pe_int (pa_cons pe_int pa_nil)))) (pa_cons (pe_tup (pa_cons pe_str (pa_cons pe_int (pa_cons pe_int pa_nil)))) pa_nil)))))))), ?_⟩
    rw [st_bounds_behind]
    walk_at "ss"
    refine r_max (SqL.of hp) l1 fun m hm hmx => ?_
    walk_at "ss"
    refine r_newS fun t1 G1 _ u1 e1 => ?_
    walk_at "ss"
    refine r_newS fun t2 G2 _ u2 e2 => ?_
    walk_at "ss"
    refine r_newS fun t3 G3 _ u3 e3 => ?_
    walk_at "ss"
    refine r_newS fun t4 G4 _ u4 e4 => ?_
    walk_at "ss"
    refine r_newS fun t5 G5 _ u5 e5 => ?_
    walk_at "ss"
    refine r_newS fun L G6 _ u6 e6 => ?_
    have f5 := u6 _ _ e5
    have f4 := u6 _ _ (u5 _ _ e4)
    have f3 := u6 _ _ (u5 _ _ (u4 _ _ e3))
    have f2 := u6 _ _ (u5 _ _ (u4 _ _ (u3 _ _ e2)))
    have f1 := u6 _ _ (u5 _ _ (u4 _ _ (u3 _ _ (u2 _ _ e1))))
    exact q m L G6 hm hmx (((((u1.trans u2).trans u3).trans u4).trans u5).trans u6) ⟨_, _, _, _, _, e6, f1, f2, f3, f4, f5⟩
theorem ok_Settings___init__ {P : Program} {w : World} {K : PySem.W.Frag} {mg : Str → Option Value} {base : Heap} {f : Addr} {fd : FuncData} (F : FunD K "__init__" "Settings.__init__" (defArgs s_Settings___init__) (defBody s_Settings___init__) (defScope s_Settings___init__) [] [] f fd) (a_Settings_every : NoAttr K (He.ga K "Settings") "every") (a_Settings_fanout : NoAttr K (He.ga K "Settings") "fanout") (a_Settings_keep : NoAttr K (He.ga K "Settings") "keep") (a_Settings_lengths : NoAttr K (He.ga K "Settings") "lengths") (a_Settings_records : NoAttr K (He.ga K "Settings") "records") (a_Settings_size : NoAttr K (He.ga K "Settings") "size") (c_Settings : Cls K (He.ga K "Settings")) (h_are_lengths : Kr.FnH P w K mg base CX0 3 "are_lengths" ["lengths"] (sp_are_lengths K)) (h_bounds_behind : Kr.FnH P w K mg base CX0 1 "bounds_behind" ["lengths"] (sp_bounds_behind K)) (h_is_within : Kr.FnH P w K mg base CX0 2 "is_within" ["number", "least", "most"] (sp_is_within K)) (n_tuple : mg "tuple" = none) : FnOk P w K mg base CX0 4 f fd ["self", "lengths", "size", "fanout", "records", "every", "keep"] (sp_Settings___init__ K) := by
  refine F.ok sc_Settings___init__ (fun vs H Q E h => by first | (obtain ⟨rfl, _⟩ := h; rfl) | (obtain ⟨_, rfl, _⟩ := h; rfl) | (obtain ⟨_, _, rfl, _⟩ := h; rfl) | (obtain ⟨_, _, _, rfl, _⟩ := h; rfl) | (obtain ⟨_, _, _, _, rfl, _⟩ := h; rfl) | (obtain ⟨_, _, _, _, _, rfl, _⟩ := h; rfl) | (obtain ⟨_, _, _, _, _, _, rfl, _⟩ := h; rfl) | (obtain ⟨_, _, _, _, _, _, _, rfl, _⟩ := h; rfl) | (obtain ⟨_, _, _, _, _, _, _, _, rfl, _⟩ := h; rfl) | (obtain ⟨_, _, _, _, _, _, _, _, _, rfl, _⟩ := h; rfl) | (obtain ⟨_, _, _, _, _, _, _, _, _, _, rfl, _⟩ := h; rfl) | (obtain ⟨_, _, _, _, _, _, _, _, _, _, _, rfl, _⟩ := h; rfl) | (obtain ⟨_, _, _, _, _, _, _, _, _, _, _, _, rfl, _⟩ := h; rfl) | (obtain ⟨_, _, _, _, _, _, _, _, _, _, _, _, _, rfl, _⟩ := h; rfl) | (obtain ⟨_, _, _, _, _, _, _, _, _, _, _, _, _, _, rfl, _⟩ := h; rfl) | (obtain ⟨_, _, _, _, _, _, _, _, _, _, _, _, _, _, _, rfl, _⟩ := h; rfl) | (obtain ⟨_, _, _, _, _, _, _, _, _, _, _, _, _, _, _, _, rfl, _⟩ := h; rfl) | (obtain ⟨_, _, _, _, _, _, _, _, _, _, _, _, _, _, _, _, _, rfl, _⟩ := h; rfl)) (fun cdv A outer s H vs Q E hr h => ?_)
  · have hu := hu_of hr
    obtain ⟨a, dx, p, ls, sz, fo, re, ev, ke, rfl, ha, hp, ok, q⟩ := h
    have l1 := ok.l1
    have l6 := ok.l6
    have r64 := ok.r64
    have cc := c_Settings
    have n1 := a_Settings_lengths
    have n2 := a_Settings_size
    have n3 := a_Settings_fanout
    have n4 := a_Settings_records
    have n5 := a_Settings_every
    have n6 := a_Settings_keep
    refine ⟨_, PSs.nox (pss_cons (ps_if (pt_not (pt_val (Kr.pe_cl h_are_lengths (hr.mono (by decide)) (pa_cons (pv 1) pa_nil)))) (pss_one ps_never) pss_nil) (pss_cons (ps_set (i := 7) sc_Settings___init__.nd rfl (.inl rfl) (pe_disp (pps_cons pe_str (pv 2) (pps_cons pe_str (pv 3) (pps_cons pe_str (pv 4) (pps_cons pe_str (pv 5) (pps_cons pe_str (pv 6) pps_nil))))) (by rfl) (by rfl) (fun z => by cases z) (by decide))) (pss_cons (ps_for PassesOwn.never rfl (pi_list (Kr.pe_cl h_bounds_behind (hr.mono (by decide)) (pa_cons (pv 1) pa_nil))) (pg_tup rfl (pgs_cons (pg_name (i := 8) sc_Settings___init__.nd rfl (.inl rfl)) (pgs_cons (pg_name (i := 9) sc_Settings___init__.nd rfl (.inl rfl)) (pgs_cons (pg_name (i := 10) sc_Settings___init__.nd rfl (.inl rfl)) pgs_nil)))) (pss_one (ps_if (pt_not (pt_val (Kr.pe_cl h_is_within (hr.mono (by decide)) (pa_cons (pe_dget hu (pv 7) (pv 8) (fun _ _ => rfl)) (pa_cons (pv 9) (pa_cons (pv 10) pa_nil)))))) (pss_one ps_never) pss_nil))) (pss_cons (ps_fld (pv 0) (pe_callTy (T := "tuple") Kr.c_tuple rfl n_tuple (by decide +kernel) (pa_cons (pv 1) pa_nil)) rfl) (pss_cons (ps_fld (pv 0) (pv 2) rfl) (pss_cons (ps_fld (pv 0) (pv 3) rfl) (pss_cons (ps_fld (pv 0) (pv 4) rfl) (pss_cons (ps_fld (pv 0) (pv 5) rfl) (pss_one (ps_fld (pv 0) (pv 6) rfl)))))))))), ?_⟩
    rw [st_Settings___init__]
    walk_at "ss"
    refine ⟨_, _, rfl, hp, ⟨l1, l6, fun l hl => ⟨(ok.all l hl).1, by have := (ok.all l hl).2; omega⟩, by decide⟩, fun H1 s1 => ?_⟩
    have hp1 := s1 _ _ hp
    have ha1 := s1 _ _ ha
    walk_at "ss"
    refine r_disp fun g hg => ?_
    refine r_pairs ?_
    walk_at "ss"
    refine r_pairs ?_
    walk_at "ss"
    refine r_pairs ?_
    walk_at "ss"
    refine r_pairs ?_
    walk_at "ss"
    refine r_pairs ?_
    walk_at "ss"
    refine r_pairs0 ?_
    refine r_dispE (givD (.int sz) (.int fo) (.int re) (.int ev) (.int ke)) upd_same rfl (by show 5 ≤ 15; decide) ?_
    rw [upd_upd]
    have s2 : Same H (upd H1 g (.dK (mergeK [] (givD (.int sz) (.int fo) (.int re) (.int ev) (.int ke))))) := s1.trans (same_new hg)
    have e2 : upd H1 g (.dK (mergeK [] (givD (.int sz) (.int fo) (.int re) (.int ev) (.int ke)))) g = some (.dK (givD (.int sz) (.int fo) (.int re) (.int ev) (.int ke))) := upd_same
    generalize upd H1 g (.dK (mergeK [] (givD (.int sz) (.int fo) (.int re) (.int ev) (.int ke)))) = H2 at s2 e2 ⊢
    walk_at "ss"
    refine ⟨p, ls, rfl, s2 _ _ hp, l1, l6, fun m L G6 hm _ s3 hB => ?_⟩
    have hmz := (ok.all m hm).2
    have hm1 := (ok.all m hm).1
    obtain ⟨t1, t2, t3, t4, t5, e6, f1, f2, f3, f4, f5⟩ := hB
    have s6 : Same H G6 := s2.trans s3
    have eg := s3 _ _ e2
    walk_at "ss"
    refine r_forL (xs := [.ref t1, .ref t2, .ref t3, .ref t4, .ref t5]) (fun i σ H' => H' = G6 ∧ ∃ y1 y2 y3 : Option V, σ = [some (.ref a), some (.ref p), some (.int sz), some (.int fo), some (.int re), some (.int ev), some (.int ke), some (.ref g), y1, y2, y3])
      ⟨rfl, _, _, _, rfl⟩ (fun i σ H' _ hh => by obtain ⟨rfl, _⟩ := hh; exact SqL.of e6) ?_ ?_
    · rintro i x σ H' hx ⟨rfl, y1, y2, y3, rfl⟩
      obtain ⟨t, w, n, lo, hi, rfl, ht, hv, hlo, hhi⟩ : ∃ (t : Addr) (w : Str) (n lo hi : Int), x = .ref t ∧ H' t = some (.tup [.str w, .int lo, .int hi]) ∧ valV (givD (.int sz) (.int fo) (.int re) (.int ev) (.int ke)) (Sum.inr w) = some (.int n) ∧ lo ≤ n ∧ n ≤ hi := by
        rcases i with _ | _ | _ | _ | _ | i
        · cases hx
          exact ⟨_, _, _, _, _, rfl, f1, rfl, hmz, r64⟩
        · cases hx
          exact ⟨_, _, _, _, _, rfl, f2, rfl, ok.fo.1, ok.fo.2⟩
        · cases hx
          exact ⟨_, _, _, _, _, rfl, f3, rfl, ok.re.1, ok.re.2⟩
        · cases hx
          exact ⟨_, _, _, _, _, rfl, f4, rfl, ok.ev.1, ok.ev.2⟩
        · cases hx
          exact ⟨_, _, _, _, _, rfl, f5, rfl, ok.ke.1, ok.ke.2⟩
        · cases hx
      walk_at "ss"
      refine r_dgS eg hv ?_
      walk_at "ss"
      refine ⟨_, _, _, rfl, ?_⟩
      rw [decide_eq_true (⟨hlo, hhi⟩ : lo ≤ n ∧ n ≤ hi)]
      walk_at "ss"
      exact ⟨rfl, _, _, _, rfl⟩
    · rintro σ H' ⟨rfl, y1, y2, y3, rfl⟩
      have hp6 := s6 _ _ hp
      have ha6 := s6 _ _ ha
      walk_at "ss"
      refine r_new fun t ht => ?_
      have nta : t ≠ a := (ne_of_none ha6 ht).symm
      walk_at "ss"
      refine r_st (upd_free ha6 ht) cc n1 (by decide) rfl ?_
      walk_at "ss"
      refine r_st upd_same cc n2 (by show 1 < 1000; decide) rfl ?_
      walk_at "ss"
      refine r_st upd_same cc n3 (by show 2 < 1000; decide) rfl ?_
      walk_at "ss"
      refine r_st upd_same cc n4 (by show 3 < 1000; decide) rfl ?_
      walk_at "ss"
      refine r_st upd_same cc n5 (by show 4 < 1000; decide) rfl ?_
      walk_at "ss"
      refine r_st upd_same cc n6 (by show 5 < 1000; decide) rfl ?_
      simp only [upd_upd]
      refine q t _ (fun b o n e => ?_) upd_same ?_
      · rw [upd_ne n]
        exact upd_free (s6 b o e) ht
      · rw [upd_ne nta]
        exact upd_same
theorem ok_check_settings {P : Program} {w : World} {K : PySem.W.Frag} {mg : Str → Option Value} {base : Heap} {f : Addr} {fd : FuncData} (F : FunD K "check_settings" "check_settings" (defArgs s_check_settings) (defBody s_check_settings) (defScope s_check_settings) [] [] f fd) (i_Settings : Kr.InsI K (He.ga K "Settings")) (k_Settings : mg "Settings" = some (.ref (He.ga K "Settings"))) (n_isinstance : mg "isinstance" = none) : FnOk P w K mg base CX0 1 f fd ["settings"] (sp_check_settings K) := by
  refine F.ok sc_check_settings (fun vs H Q E h => by first | (obtain ⟨rfl, _⟩ := h; rfl) | (obtain ⟨_, rfl, _⟩ := h; rfl) | (obtain ⟨_, _, rfl, _⟩ := h; rfl) | (obtain ⟨_, _, _, rfl, _⟩ := h; rfl) | (obtain ⟨_, _, _, _, rfl, _⟩ := h; rfl) | (obtain ⟨_, _, _, _, _, rfl, _⟩ := h; rfl) | (obtain ⟨_, _, _, _, _, _, rfl, _⟩ := h; rfl) | (obtain ⟨_, _, _, _, _, _, _, rfl, _⟩ := h; rfl) | (obtain ⟨_, _, _, _, _, _, _, _, rfl, _⟩ := h; rfl) | (obtain ⟨_, _, _, _, _, _, _, _, _, rfl, _⟩ := h; rfl) | (obtain ⟨_, _, _, _, _, _, _, _, _, _, rfl, _⟩ := h; rfl) | (obtain ⟨_, _, _, _, _, _, _, _, _, _, _, rfl, _⟩ := h; rfl) | (obtain ⟨_, _, _, _, _, _, _, _, _, _, _, _, rfl, _⟩ := h; rfl) | (obtain ⟨_, _, _, _, _, _, _, _, _, _, _, _, _, rfl, _⟩ := h; rfl) | (obtain ⟨_, _, _, _, _, _, _, _, _, _, _, _, _, _, rfl, _⟩ := h; rfl) | (obtain ⟨_, _, _, _, _, _, _, _, _, _, _, _, _, _, _, rfl, _⟩ := h; rfl) | (obtain ⟨_, _, _, _, _, _, _, _, _, _, _, _, _, _, _, _, rfl, _⟩ := h; rfl) | (obtain ⟨_, _, _, _, _, _, _, _, _, _, _, _, _, _, _, _, _, rfl, _⟩ := h; rfl)) (fun cdv A outer s H vs Q E hr h => ?_)
  · have hu := hu_of hr
    obtain ⟨a, dx, fs, rfl, ha, q⟩ := h
    refine ⟨_, PSs.nox (pss_one (ps_if (pt_not (pt_val (pe_callB (id := "isinstance") call_isi rfl n_isinstance (by decide +kernel) (pa_cons (pv 0) (pa_cons (Kr.pe_gcls k_Settings) pa_nil))))) (pss_one ps_never) pss_nil)), ?_⟩
    rw [st_check_settings]
    walk_at "ss"
    refine r_isiC i_Settings ha ?_
    walk_at "ss"
    exact q
theorem ok_rows_from {P : Program} {w : World} {K : PySem.W.Frag} {mg : Str → Option Value} {base : Heap} {f : Addr} {fd : FuncData} (F : FunD K "rows_from" "rows_from" (defArgs s_rows_from) (defBody s_rows_from) (defScope s_rows_from) [] [] f fd) (a_Settings_lengths : NoAttr K (He.ga K "Settings") "lengths") (a_Settings_size : NoAttr K (He.ga K "Settings") "size") (c_Settings : Cls K (He.ga K "Settings")) (n_len : mg "len" = none) (n_sum : mg "sum" = none) : FnOk P w K mg base CX0 1 f fd ["settings", "row"] (sp_rows_from K) := by
  refine F.ok sc_rows_from (fun vs H Q E h => by first | (obtain ⟨rfl, _⟩ := h; rfl) | (obtain ⟨_, rfl, _⟩ := h; rfl) | (obtain ⟨_, _, rfl, _⟩ := h; rfl) | (obtain ⟨_, _, _, rfl, _⟩ := h; rfl) | (obtain ⟨_, _, _, _, rfl, _⟩ := h; rfl) | (obtain ⟨_, _, _, _, _, rfl, _⟩ := h; rfl) | (obtain ⟨_, _, _, _, _, _, rfl, _⟩ := h; rfl) | (obtain ⟨_, _, _, _, _, _, _, rfl, _⟩ := h; rfl) | (obtain ⟨_, _, _, _, _, _, _, _, rfl, _⟩ := h; rfl) | (obtain ⟨_, _, _, _, _, _, _, _, _, rfl, _⟩ := h; rfl) | (obtain ⟨_, _, _, _, _, _, _, _, _, _, rfl, _⟩ := h; rfl) | (obtain ⟨_, _, _, _, _, _, _, _, _, _, _, rfl, _⟩ := h; rfl) | (obtain ⟨_, _, _, _, _, _, _, _, _, _, _, _, rfl, _⟩ := h; rfl) | (obtain ⟨_, _, _, _, _, _, _, _, _, _, _, _, _, rfl, _⟩ := h; rfl) | (obtain ⟨_, _, _, _, _, _, _, _, _, _, _, _, _, _, rfl, _⟩ := h; rfl) | (obtain ⟨_, _, _, _, _, _, _, _, _, _, _, _, _, _, _, rfl, _⟩ := h; rfl) | (obtain ⟨_, _, _, _, _, _, _, _, _, _, _, _, _, _, _, _, rfl, _⟩ := h; rfl) | (obtain ⟨_, _, _, _, _, _, _, _, _, _, _, _, _, _, _, _, _, rfl, _⟩ := h; rfl)) (fun cdv A outer s H vs Q E hr h => ?_)
  · have hu := hu_of hr
    obtain ⟨s1, r, ls, sz, fo, re, ev, ke, rfl, ⟨dx, t, hs, ht⟩, ok, q⟩ := h
    have cc := c_Settings
    have n1 := a_Settings_lengths
    have n2 := a_Settings_size
    have o := ok.pk
    have l1 := ok.l1
    have l6 := ok.l6
    have hl : (ls.map V.int).length = ls.length := List.length_map ..
    have hsum : ls.sum = Pk.pre ls 0 ls.length := sum_round ls
    have hpos : (ls.length : Int) ≤ ls.sum := by rw [hsum]; exact Pk.pre_ge o 0 _
    have hsz : 1 ≤ sz := by
      have := Pk.len_pos o 0
      omega
    have r64 := ok.r64
    have hsm : ls.sum ≤ 6 * sz := by
      rw [hsum]
      have key : ∀ k : Nat, Pk.pre ls 0 k ≤ k * sz := by
        intro k
        induction k with
        | zero => simp [Pk.pre]
        | succ k ih =>
          have := (Pk.len_pos o (0 + k)).2
          have e : ((k + 1 : Nat) : Int) * sz = k * sz + sz := by rw [Int.natCast_add, Int.add_mul]; simp
          show Pk.pre ls 0 k + Pk.lenAt ls (0 + k) ≤ _
          rw [e]
          omega
      have h1 := key ls.length
      have h2 : (ls.length : Int) * sz ≤ 6 * sz := Int.mul_le_mul_of_nonneg_right (by omega) (by omega)
      omega
    have hs1 : 0 < ls.sum := by omega
    have q0 : 0 ≤ sz / ls.sum := Int.ediv_nonneg (by omega) (by omega)
    have q1 : sz / ls.sum ≤ sz := Int.ediv_le_self _ (by omega)
    obtain ⟨n, hn⟩ := Int.eq_ofNat_of_zero_le q0
    have hm := Int.emod_nonneg sz (show ls.sum ≠ 0 by omega)
    have hdm := Int.emod_add_mul_ediv sz ls.sum
    have hat : ∀ k : Nat, atI (ls.map V.int) (((r : Int) + (k : Int)) % ((ls.map V.int).length : Int)) = some (V.int (Pk.lenAt ls (r + k))) := fun k => by
      refine at_of (j := (r + k) % ls.length) (by rw [hl]; push_cast; rfl) ?_
      rw [List.getElem?_map, Pk.len_at o (r + k)]
      rfl
    refine ⟨_, PSs.nox (pss_cons (ps_set (i := 2) sc_rows_from.nd rfl (.inl rfl) (pe_fld (pv 0) rfl)) (pss_cons (ps_set (i := 3) sc_rows_from.nd rfl (.inl rfl) (pe_op op_mul (pe_op op_fdivW (pe_fld (pv 0) rfl) (pe_callB (id := "sum") (Kr.c_sumT rfl) rfl n_sum (by decide +kernel) (pa_cons (pv 2) pa_nil))) (pe_callB (id := "len") Kr.c_len rfl n_len (by decide +kernel) (pa_cons (pv 2) pa_nil)))) (pss_cons (ps_set (i := 4) sc_rows_from.nd rfl (.inl rfl) (pe_op op_mod (pe_fld (pv 0) rfl) (pe_callB (id := "sum") (Kr.c_sumT rfl) rfl n_sum (by decide +kernel) (pa_cons (pv 2) pa_nil)))) (pss_cons (ps_while PassesOwn.never (pt_cmpR op_le (pe_ix ix_tup (pv 2) (pe_op op_mod (pe_op op_add (pv 1) (pv 3)) (pe_callB (id := "len") Kr.c_len rfl n_len (by decide +kernel) (pa_cons (pv 2) pa_nil))) (fun _ _ => rfl)) (pv 4) (nomark _)) (pss_cons (ps_aug (i := 4) sc_rows_from.nd rfl (.inl rfl) (pe_ix ix_tup (pv 2) (pe_op op_mod (pe_op op_add (pv 1) (pv 3)) (pe_callB (id := "len") Kr.c_len rfl n_len (by decide +kernel) (pa_cons (pv 2) pa_nil))) (fun _ _ => rfl)) ip_sub) (pss_one (ps_aug (i := 3) sc_rows_from.nd rfl (.inl rfl) pe_int ip_add)))) (pss_one (ps_ret (pv 3))))))), ?_⟩
    rw [st_rows_from]
    walk_at "ss"
    refine r_I (wide_div (b := 64) hs1 (by omega) (by decide) (by decide)) ?_
    walk_at "ss"
    rw [hn, hl]
    refine r_while (fun m σ H' => H' = H ∧ ∃ (k : Nat) (left : Int), m = left.toNat ∧ σ = [some (.ref s1), some (.int r), some (.ref t), some (.int k), some (.int left)] ∧ Pk.pre ls r k + left = sz ∧ 0 ≤ left) _
      ⟨rfl, n * ls.length, sz % ls.sum, rfl, by rw [Int.natCast_mul], ?_, hm⟩ ?_
    · rw [rounds]
      rw [hn] at hdm
      have e : (n : Int) * ls.sum = ls.sum * n := Int.mul_comm _ _
      omega
    rintro m σ H' ⟨rfl, k, left, rfl, rfl, hpre, hleft⟩
    walk_at "ss"
    refine r_ixT (SqT.of ht) (hat k) ?_
    walk_at "ss"
    have lp := Pk.len_pos o (r + k)
    refine r_whD (fun hle => ?_) fun hle => ?_
    · walk_at "ss"
      refine r_ixT (SqT.of ht) (hat k) ?_
      walk_at "ss"
      refine ⟨_, ?_, rfl, k + 1, left - Pk.lenAt ls (r + k), rfl, rfl, ?_, by omega⟩
      · omega
      · show Pk.pre ls r k + Pk.lenAt ls (r + k) + _ = sz
        omega
    · walk_at "ss"
      have e : Pk.cnt ls sz r = k := Pk.cnt_is o ⟨by omega, by
        show sz < Pk.pre ls r k + Pk.lenAt ls (r + k)
        omega⟩
      rw [e] at q
      exact q
theorem ok_units_ahead {P : Program} {w : World} {K : PySem.W.Frag} {mg : Str → Option Value} {base : Heap} {f : Addr} {fd : FuncData} (F : FunD K "units_ahead" "units_ahead" (defArgs s_units_ahead) (defBody s_units_ahead) (defScope s_units_ahead) [] [] f fd) (a_Settings_lengths : NoAttr K (He.ga K "Settings") "lengths") (c_Settings : Cls K (He.ga K "Settings")) (n_len : mg "len" = none) (n_sum : mg "sum" = none) : FnOk P w K mg base CX0 1 f fd ["settings", "row"] (sp_units_ahead K) := by
  refine F.ok sc_units_ahead (fun vs H Q E h => by first | (obtain ⟨rfl, _⟩ := h; rfl) | (obtain ⟨_, rfl, _⟩ := h; rfl) | (obtain ⟨_, _, rfl, _⟩ := h; rfl) | (obtain ⟨_, _, _, rfl, _⟩ := h; rfl) | (obtain ⟨_, _, _, _, rfl, _⟩ := h; rfl) | (obtain ⟨_, _, _, _, _, rfl, _⟩ := h; rfl) | (obtain ⟨_, _, _, _, _, _, rfl, _⟩ := h; rfl) | (obtain ⟨_, _, _, _, _, _, _, rfl, _⟩ := h; rfl) | (obtain ⟨_, _, _, _, _, _, _, _, rfl, _⟩ := h; rfl) | (obtain ⟨_, _, _, _, _, _, _, _, _, rfl, _⟩ := h; rfl) | (obtain ⟨_, _, _, _, _, _, _, _, _, _, rfl, _⟩ := h; rfl) | (obtain ⟨_, _, _, _, _, _, _, _, _, _, _, rfl, _⟩ := h; rfl) | (obtain ⟨_, _, _, _, _, _, _, _, _, _, _, _, rfl, _⟩ := h; rfl) | (obtain ⟨_, _, _, _, _, _, _, _, _, _, _, _, _, rfl, _⟩ := h; rfl) | (obtain ⟨_, _, _, _, _, _, _, _, _, _, _, _, _, _, rfl, _⟩ := h; rfl) | (obtain ⟨_, _, _, _, _, _, _, _, _, _, _, _, _, _, _, rfl, _⟩ := h; rfl) | (obtain ⟨_, _, _, _, _, _, _, _, _, _, _, _, _, _, _, _, rfl, _⟩ := h; rfl) | (obtain ⟨_, _, _, _, _, _, _, _, _, _, _, _, _, _, _, _, _, rfl, _⟩ := h; rfl)) (fun cdv A outer s H vs Q E hr h => ?_)
  · have hu := hu_of hr
    obtain ⟨s1, r, ls, sz, fo, re, ev, ke, rfl, ⟨dx, t, hs, ht⟩, ok, h40, q⟩ := h
    have cc := c_Settings
    have n1 := a_Settings_lengths
    have l1 := ok.l1
    have l6 := ok.l6
    have hl : (ls.map V.int).length = ls.length := List.length_map ..
    have hsm : 0 ≤ ls.sum ∧ ls.sum ≤ 400 := by
      have h1 := sum_round ls
      have h2 := Pk.pre_ge ok.pk 0 ls.length
      have key : ∀ k : Nat, Pk.pre ls 0 k ≤ k * 64 := by
        intro k
        induction k with
        | zero => simp [Pk.pre]
        | succ k ih =>
          have := (Pk.len_pos ok.pk (0 + k)).2
          have := ok.r64
          show Pk.pre ls 0 k + Pk.lenAt ls (0 + k) ≤ _
          omega
      have := key ls.length
      omega
    refine ⟨_, PSs.nox (pss_cons (ps_set (i := 2) sc_units_ahead.nd rfl (.inl rfl) (pe_fld (pv 0) rfl)) (pss_one (ps_ret (pe_op op_add (pe_op op_mul (pe_op op_fdivW (pv 1) (pe_callB (id := "len") Kr.c_len rfl n_len (by decide +kernel) (pa_cons (pv 2) pa_nil))) (pe_callB (id := "sum") (Kr.c_sumT rfl) rfl n_sum (by decide +kernel) (pa_cons (pv 2) pa_nil))) (pe_callB (id := "sum") (Kr.c_sumT rfl) rfl n_sum (by decide +kernel) (pa_cons (pe_slice sl_tup (pv 2) po_none (po_some (pe_op op_mod (pv 1) (pe_callB (id := "len") Kr.c_len rfl n_len (by decide +kernel) (pa_cons (pv 2) pa_nil))))) pa_nil)))))), ?_⟩
    rw [st_units_ahead]
    walk_at "ss"
    rw [hl]
    refine r_I (wide_div (b := 64) (by omega) (by omega) (by decide) (by decide)) ?_
    walk_at "ss"
    have ed : ((r : Int) / (ls.length : Int)) = ((r / ls.length : Nat) : Int) := by push_cast; rfl
    have em : ((r : Int) % (ls.length : Int)) = ((r % ls.length : Nat) : Int) := by push_cast; rfl
    have lt : r % ls.length < ls.length := Nat.mod_lt _ l1
    rw [hl, em]
    refine r_slT (SqT.of ht) (by rw [hl]; exact lt) (r_newS fun p H1 hp s1 e1 => ?_)
    rw [← List.map_take] at e1
    walk_at "ss"
    rw [ed, ← pre_ahead ls l1 r]
    exact q H1 s1
theorem ok_Packing_page_with {P : Program} {w : World} {K : PySem.W.Frag} {mg : Str → Option Value} {base : Heap} {f : Addr} {fd : FuncData} (F : FunD K "page_with" "Packing.page_with" (defArgs s_Packing_page_with) (defBody s_Packing_page_with) (defScope s_Packing_page_with) [] [] f fd) (a_Packing__first : NoAttr K (He.ga K "Packing") "_first") (a_Packing__pages : NoAttr K (He.ga K "Packing") "_pages") (a_Packing__rows : NoAttr K (He.ga K "Packing") "_rows") (a_Packing__starts : NoAttr K (He.ga K "Packing") "_starts") (c_Packing : Cls K (He.ga K "Packing")) (n_max : mg "max" = none) : FnOk P w K mg base CX0 1 f fd ["self", "row"] (sp_Packing_page_with K) := by
  refine F.ok sc_Packing_page_with (fun vs H Q E h => by first | (obtain ⟨rfl, _⟩ := h; rfl) | (obtain ⟨_, rfl, _⟩ := h; rfl) | (obtain ⟨_, _, rfl, _⟩ := h; rfl) | (obtain ⟨_, _, _, rfl, _⟩ := h; rfl) | (obtain ⟨_, _, _, _, rfl, _⟩ := h; rfl) | (obtain ⟨_, _, _, _, _, rfl, _⟩ := h; rfl) | (obtain ⟨_, _, _, _, _, _, rfl, _⟩ := h; rfl) | (obtain ⟨_, _, _, _, _, _, _, rfl, _⟩ := h; rfl) | (obtain ⟨_, _, _, _, _, _, _, _, rfl, _⟩ := h; rfl) | (obtain ⟨_, _, _, _, _, _, _, _, _, rfl, _⟩ := h; rfl) | (obtain ⟨_, _, _, _, _, _, _, _, _, _, rfl, _⟩ := h; rfl) | (obtain ⟨_, _, _, _, _, _, _, _, _, _, _, rfl, _⟩ := h; rfl) | (obtain ⟨_, _, _, _, _, _, _, _, _, _, _, _, rfl, _⟩ := h; rfl) | (obtain ⟨_, _, _, _, _, _, _, _, _, _, _, _, _, rfl, _⟩ := h; rfl) | (obtain ⟨_, _, _, _, _, _, _, _, _, _, _, _, _, _, rfl, _⟩ := h; rfl) | (obtain ⟨_, _, _, _, _, _, _, _, _, _, _, _, _, _, _, rfl, _⟩ := h; rfl) | (obtain ⟨_, _, _, _, _, _, _, _, _, _, _, _, _, _, _, _, rfl, _⟩ := h; rfl) | (obtain ⟨_, _, _, _, _, _, _, _, _, _, _, _, _, _, _, _, _, rfl, _⟩ := h; rfl)) (fun cdv A outer s H vs Q E hr h => ?_)
  · have hu := hu_of hr
    obtain ⟨a, lp, dx, ls, sz, j, k, r, fs, rfl, F, hr40, q⟩ := h
    have cc := c_Packing
    have n1 := a_Packing__starts
    have n2 := a_Packing__first
    have n3 := a_Packing__pages
    have n4 := a_Packing__rows
    have h0 := F.at_
    have h1 := F.l1
    have h2 := F.l2
    have h3 := F.l3
    have h4 := F.l4
    have h5 := F.lst
    have o := F.ok.pk
    have cr := F.cyc.rows o
    have clt := F.cyc.lt
    obtain ⟨k6, st400⟩ := F.small
    have rle : Pk.rws ls sz j k ≤ 400 := by unfold Pk.rws; omega
    have ht : ∀ {i : Nat} {z : Int}, z = (i : Int) → i < k + 1 → atI (tabL (stV ls sz) (k + 1)) z = some (V.int (Pk.st ls sz i : Nat)) := fun e h => tabL_at (stV ls sz) e h
    obtain ⟨t, et, t1, t2, t3, t4⟩ := F.cyc.turns o r
    have rc : CDivW 0 ((Pk.rws ls sz j k : Nat) : Int) := wide_div (b := 64) (by omega) (by omega) (by decide) (by decide)
    refine ⟨_, PSs.nox (pss_cons (ps_set (i := 2) sc_Packing_page_with.nd rfl (.inl rfl) (pe_callB (id := "max") (Kr.c_max2 rfl) rfl n_max (by decide +kernel) (pa_cons pe_int (pa_cons (pe_op op_fdivW (pe_op op_sub (pv 1) (pe_ix ix_list (pe_fld (pv 0) rfl) (pe_fld (pv 0) rfl) (fun _ _ => rfl))) (pe_fld (pv 0) rfl)) pa_nil)))) (pss_cons (ps_set (i := 3) sc_Packing_page_with.nd rfl (.inl rfl) (pe_op op_sub (pv 1) (pe_op op_mul (pv 2) (pe_fld (pv 0) rfl)))) (pss_cons (ps_set (i := 4) sc_Packing_page_with.nd rfl (.inl rfl) pe_int) (pss_cons (ps_while PassesOwn.never (pt_cmpR op_le (pe_ix ix_list (pe_fld (pv 0) rfl) (pe_op op_add (pv 4) pe_int) (fun _ _ => rfl)) (pv 3) (nomark _)) (pss_one (ps_aug (i := 4) sc_Packing_page_with.nd rfl (.inl rfl) pe_int ip_add))) (pss_one (ps_ret (pe_op op_add (pv 4) (pe_op op_mul (pv 2) (pe_fld (pv 0) rfl))))))))), ?_⟩
    rw [st_Packing_page_with]
    walk_at "ss"
    refine r_ixL (SqL.of h5) (ht rfl (by omega)) ?_
    walk_at "ss"
    rw [et]
    walk_at "ss"
    refine r_while (fun m σ H' => H' = H ∧ ∃ p : Nat, m = k - p ∧ p < k ∧ Pk.st ls sz p ≤ r - t * Pk.rws ls sz j k ∧ σ = [some (.ref a), some (.int r), some (.int t), some (.int (r - t * (Pk.rws ls sz j k : Nat))), some (.int p)]) _ ⟨rfl, 0, rfl, by omega, Nat.zero_le _, rfl⟩ ?_
    rintro m σ H' ⟨rfl, p, rfl, hp, hle, rfl⟩
    walk_at "ss"
    refine r_ixL (SqL.of h5) (ht (i := p + 1) rfl (by omega)) ?_
    walk_at "ss"
    have en : (r : Int) - t * (Pk.rws ls sz j k : Nat) = ((r - t * Pk.rws ls sz j k : Nat) : Int) := by
      rw [Int.ofNat_sub t1, Int.natCast_mul]
    refine r_whD (fun hle2 => ?_) fun hlt => ?_
    · have hle3 : Pk.st ls sz (p + 1) ≤ r - t * Pk.rws ls sz j k := by
        rw [en] at hle2
        omega
      have hpk : p + 1 < k := by
        rcases Nat.lt_or_ge (p + 1) k with z | z
        · exact z
        · have e : p + 1 = k := by omega
          rw [e] at hle3
          omega
      walk_at "ss"
      exact ⟨_, by omega, rfl, p + 1, rfl, hpk, hle3, rfl⟩
    · have hlt3 : r - t * Pk.rws ls sz j k < Pk.st ls sz (p + 1) := by
        rw [en] at hlt
        omega
      walk_at "ss"
      have e : (p : Int) + t * ((k - j : Nat) : Int) = ((p + t * (k - j) : Nat) : Int) := by
        rw [Int.natCast_add, Int.natCast_mul]
      rw [e]
      exact q _ (F.cyc.on o t1 t2 ⟨hle, hlt3⟩)
theorem ok_Packing___init__ {P : Program} {w : World} {K : PySem.W.Frag} {mg : Str → Option Value} {base : Heap} {f : Addr} {fd : FuncData} (F : FunD K "__init__" "Packing.__init__" (defArgs s_Packing___init__) (defBody s_Packing___init__) (defScope s_Packing___init__) [] [] f fd) (a_Packing__first : NoAttr K (He.ga K "Packing") "_first") (a_Packing__last : NoAttr K (He.ga K "Packing") "_last") (a_Packing__pages : NoAttr K (He.ga K "Packing") "_pages") (a_Packing__rows : NoAttr K (He.ga K "Packing") "_rows") (a_Packing__settings : NoAttr K (He.ga K "Packing") "_settings") (a_Packing__starts : NoAttr K (He.ga K "Packing") "_starts") (a_Settings_lengths : NoAttr K (He.ga K "Settings") "lengths") (c_Packing : Cls K (He.ga K "Packing")) (c_Settings : Cls K (He.ga K "Settings")) (g_ROWS : ∃ t, mg "ROWS" = some (.int 1000000000000000000000000000000 t)) (h_check_settings : Kr.FnH P w K mg base CX0 1 "check_settings" ["settings"] (sp_check_settings K)) (h_rows_from : Kr.FnH P w K mg base CX0 1 "rows_from" ["settings", "row"] (sp_rows_from K)) (m_Packing_page_with : Kr.MtH P w K mg base CX0 1 (He.ga K "Packing") "page_with" ["self", "row"] (sp_Packing_page_with K)) (n_len : mg "len" = none) : FnOk P w K mg base CX0 2 f fd ["self", "settings"] (sp_Packing___init__ K) := by
  refine F.ok sc_Packing___init__ (fun vs H Q E h => by first | (obtain ⟨rfl, _⟩ := h; rfl) | (obtain ⟨_, rfl, _⟩ := h; rfl) | (obtain ⟨_, _, rfl, _⟩ := h; rfl) | (obtain ⟨_, _, _, rfl, _⟩ := h; rfl) | (obtain ⟨_, _, _, _, rfl, _⟩ := h; rfl) | (obtain ⟨_, _, _, _, _, rfl, _⟩ := h; rfl) | (obtain ⟨_, _, _, _, _, _, rfl, _⟩ := h; rfl) | (obtain ⟨_, _, _, _, _, _, _, rfl, _⟩ := h; rfl) | (obtain ⟨_, _, _, _, _, _, _, _, rfl, _⟩ := h; rfl) | (obtain ⟨_, _, _, _, _, _, _, _, _, rfl, _⟩ := h; rfl) | (obtain ⟨_, _, _, _, _, _, _, _, _, _, rfl, _⟩ := h; rfl) | (obtain ⟨_, _, _, _, _, _, _, _, _, _, _, rfl, _⟩ := h; rfl) | (obtain ⟨_, _, _, _, _, _, _, _, _, _, _, _, rfl, _⟩ := h; rfl) | (obtain ⟨_, _, _, _, _, _, _, _, _, _, _, _, _, rfl, _⟩ := h; rfl) | (obtain ⟨_, _, _, _, _, _, _, _, _, _, _, _, _, _, rfl, _⟩ := h; rfl) | (obtain ⟨_, _, _, _, _, _, _, _, _, _, _, _, _, _, _, rfl, _⟩ := h; rfl) | (obtain ⟨_, _, _, _, _, _, _, _, _, _, _, _, _, _, _, _, rfl, _⟩ := h; rfl) | (obtain ⟨_, _, _, _, _, _, _, _, _, _, _, _, _, _, _, _, _, rfl, _⟩ := h; rfl)) (fun cdv A outer s H vs Q E hr h => ?_)
  · have hu := hu_of hr
    obtain ⟨a, s1, dx, ls, sz, fo, re, ev, ke, rfl, ha, S, ok, q⟩ := h
    obtain ⟨dy, t, hs, ht⟩ := id S
    have cs := c_Settings
    have cc := c_Packing
    have m1 := a_Settings_lengths
    have n0 := a_Packing__settings
    have n1 := a_Packing__starts
    have n2 := a_Packing__first
    have n3 := a_Packing__pages
    have n4 := a_Packing__rows
    have n5 := a_Packing__last
    have o := ok.pk
    have l1 := ok.l1
    have l6 := ok.l6
    have hl : (ls.map V.int).length = ls.length := List.length_map ..
    have nsa : s1 ≠ a := fun e => by
      rw [e, ha] at hs
      injection hs with hs
      injection hs with _ _ h3
      exact absurd h3 (by simp [setF])
    refine ⟨_, PSs.nox (pss_cons (ps_expr (Kr.pe_cl h_check_settings (hr.mono (by decide)) (pa_cons (pv 1) pa_nil))) (pss_cons (ps_set (i := 2) sc_Packing___init__.nd rfl (.inl rfl) (pe_callB (id := "len") Kr.c_len rfl n_len (by decide +kernel) (pa_cons (pe_fld (pv 1) rfl) pa_nil))) (pss_cons (ps_set (i := 3) sc_Packing___init__.nd rfl (.inl rfl) (pe_lst (pa_cons pe_int pa_nil))) (pss_cons (ps_set (i := 4) sc_Packing___init__.nd rfl (.inl rfl) pe_dnewK) (pss_cons (ps_while PassesOwn.never (pt_cmp (pc_dnotin hu (pe_op op_mod (pe_ix ix_list (pv 3) (pe_un un_neg pe_int) (fun _ _ => rfl)) (pv 2)) (pv 4))) (pss_cons (ps_dput hu (pv 4) (pe_op op_mod (pe_ix ix_list (pv 3) (pe_un un_neg pe_int) (fun _ _ => rfl)) (pv 2)) (pe_op op_sub (pe_callB (id := "len") Kr.c_len rfl n_len (by decide +kernel) (pa_cons (pv 3) pa_nil)) pe_int) rfl) (pss_one (ps_expr (pe_bm PySem.F.plainAttrs_list PySem.F.slot_list_append PySem.F.type_list_append mt_append (pv 3) (pa_cons (pe_op op_add (pe_ix ix_list (pv 3) (pe_un un_neg pe_int) (fun _ _ => rfl)) (Kr.pe_cl h_rows_from (hr.mono (by decide)) (pa_cons (pv 1) (pa_cons (pe_ix ix_list (pv 3) (pe_un un_neg pe_int) (fun _ _ => rfl)) pa_nil)))) pa_nil)))))) (pss_cons (ps_fld (pv 0) (pv 1) rfl) (pss_cons (ps_fld (pv 0) (pv 3) rfl) (pss_cons (ps_fld (pv 0) (pe_dget hu (pv 4) (pe_op op_mod (pe_ix ix_list (pv 3) (pe_un un_neg pe_int) (fun _ _ => rfl)) (pv 2)) (fun _ _ => rfl)) rfl) (pss_cons (ps_fld (pv 0) (pe_op op_sub (pe_op op_sub (pe_callB (id := "len") Kr.c_len rfl n_len (by decide +kernel) (pa_cons (pv 3) pa_nil)) pe_int) (pe_fld (pv 0) rfl)) rfl) (pss_cons (ps_fld (pv 0) (pe_op op_sub (pe_ix ix_list (pv 3) (pe_un un_neg pe_int) (fun _ _ => rfl)) (pe_ix ix_list (pv 3) (pe_fld (pv 0) rfl) (fun _ _ => rfl))) rfl) (pss_one (ps_fld (pv 0) (Kr.pe_mt m_Packing_page_with c_Packing (hr.mono (by decide)) (pv 0) (pa_cons (pe_op op_sub (Kr.pe_gint g_ROWS) pe_int) pa_nil)) rfl)))))))))))), ?_⟩
    rw [st_Packing___init__]
    walk_at "ss"
    refine ⟨_, _, _, rfl, hs, ?_⟩
    walk_at "ss"
    refine r_newS fun L H1 hL s1' eL => ?_
    walk_at "ss"
    refine r_newS fun d H2 hd s2 ed => ?_
    have s02 := s1'.trans s2
    have nLd : L ≠ d := ne_of (s2 _ _ eL) ed (by intro z; cases z)
    have nLa : a ≠ L := ne_of_none ha hL
    have hda : H d = none := s1'.free hd
    have nda : a ≠ d := ne_of_none ha hda
    have nLs : s1 ≠ L := ne_of_none hs hL
    have nds : s1 ≠ d := ne_of_none hs hda
    have hst := fun (H' : Hp) (e : ∀ b o, H b = some o → H' b = some o) => e _ _ hs
    have hz1 : tabL (stV ls sz) 1 = [V.int 0] := rfl
    walk_at "ss"
    rw [hl]
    refine r_while (fun m σ H' => ∃ (c : Nat) (kvs : List (Key × V)), m = ls.length + 1 - c ∧ σ = [some (.ref a), some (.ref s1), some (.int ls.length), some (.ref L), some (.ref d)] ∧ (∀ b o, H b = some o → H' b = some o) ∧
        H' L = some (.lst (tabL (stV ls sz) (c + 1))) ∧ H' d = some (.dK kvs) ∧ kvs.length ≤ c ∧ c ≤ ls.length ∧ (∀ i, i < c → valV kvs (Sum.inl ((Pk.st ls sz i % ls.length : Nat) : Int)) = some (.int i)) ∧
        (∀ p : Nat, (∀ i, i < c → Pk.st ls sz i % ls.length ≠ p) → valV kvs (Sum.inl ((p : Nat) : Int)) = none) ∧ (∀ x y, x < y → y < c → Pk.st ls sz x % ls.length ≠ Pk.st ls sz y % ls.length)) _
      ⟨0, [], rfl, rfl, s02, by rw [hz1]; exact s2 _ _ eL, ed, Nat.le_refl _, Nat.zero_le _, fun i h => absurd h (by omega), fun p _ => rfl, fun x y _ h => absurd h (by omega)⟩ ?_
    rintro m σ H3 ⟨c, kvs, rfl, rfl, s3, e3L, e3d, hkl, hc, hin, hout, hdis⟩
    have l3 : atI (tabL (stV ls sz) (c + 1)) (-1) = some (V.int (Pk.st ls sz c : Nat)) := tabL_last _ _
    have em : ((Pk.st ls sz c : Nat) : Int) % (ls.length : Int) = ((Pk.st ls sz c % ls.length : Nat) : Int) := by push_cast; rfl
    walk_at "ss"
    refine r_ixL (SqL.of e3L) l3 ?_
    walk_at "ss"
    rw [em]
    refine r_dk e3d ?_
    walk_at "ss"
    by_cases hx : ∃ i, i < c ∧ Pk.st ls sz i % ls.length = Pk.st ls sz c % ls.length
    · obtain ⟨j, hj, ej⟩ := hx
      have v := hin j hj
      rw [ej] at v
      have cyc : Pk.Cyc ls sz j c := ⟨hj, ej, hdis⟩
      have c6 := cyc.le o
      have st4 := Pk.st_mono o hj
      rw [v]
      refine r_whF ?_
      have ha3 := s3 _ _ ha
      have nad : d ≠ a := Ne.symm nda
      have naL : L ≠ a := Ne.symm nLa
      walk_at "ss"
      refine r_st ha3 cc n0 (by decide) rfl ?_
      walk_at "ss"
      refine r_st upd_same cc n1 (by show 1 < 1000; decide) rfl ?_
      rw [upd_upd]
      walk_at "ss"
      have f1 : ∀ x, (upd H3 a x) L = some (.lst (tabL (stV ls sz) (c + 1))) := fun x => by rw [upd_ne naL]; exact e3L
      have f2 : ∀ x, (upd H3 a x) d = some (.dK kvs) := fun x => by rw [upd_ne nad]; exact e3d
      refine r_ixL (SqL.of (f1 _)) l3 ?_
      walk_at "ss"
      rw [em]
      refine r_dg (f2 _) v ?_
      walk_at "ss"
      refine r_st upd_same cc n2 (by show 2 < 1000; decide) rfl ?_
      rw [upd_upd]
      walk_at "ss"
      refine r_lenL (SqL.of (f1 _)) ?_
      walk_at "ss"
      refine r_fd upd_same cc n2 rfl ?_
      walk_at "ss"
      rw [show (((tabL (stV ls sz) (c + 1)).length : Nat) : Int) - 1 - (j : Int) = ((c - j : Nat) : Int) by rw [tabL_len]; omega]
      refine r_st upd_same cc n3 (by show 3 < 1000; decide) rfl ?_
      rw [upd_upd]
      walk_at "ss"
      refine r_ixL (SqL.of (f1 _)) l3 ?_
      walk_at "ss"
      refine r_fd upd_same cc n2 rfl ?_
      refine r_ixL (SqL.of (f1 _)) (tabL_at (stV ls sz) rfl (by omega)) ?_
      walk_at "ss"
      walk_at "ss"
      rw [show ((Pk.st ls sz c : Nat) : Int) - ((Pk.st ls sz j : Nat) : Int) = ((Pk.rws ls sz j c : Nat) : Int) by unfold Pk.rws; omega]
      refine r_st upd_same cc n4 (by show 4 < 1000; decide) rfl ?_
      rw [upd_upd]
      walk_at "ss"
      refine r_obj upd_same rfl ?_
      walk_at "ss"
      have F4 : PkF K (upd H3 a (.ins (He.ga K "Packing") dx [("_settings", .ref s1), ("_starts", .ref L), ("_first", .int j), ("_pages", .int (c - j : Nat)), ("_rows", .int (Pk.rws ls sz j c : Nat))])) a ls sz j c L dx [("_settings", .ref s1), ("_starts", .ref L), ("_first", .int j), ("_pages", .int (c - j : Nat)), ("_rows", .int (Pk.rws ls sz j c : Nat))] :=
        ⟨upd_same, rfl, rfl, rfl, rfl, rfl, rfl, f1 _, cyc, ok⟩
      refine ⟨a, L, dx, ls, sz, j, c, 10 ^ 30 - 1, _, rfl, F4, by decide, fun m hm => ?_⟩
      walk_at "ss"
      refine r_st upd_same cc n5 (by show 5 < 1000; decide) rfl ?_
      rw [upd_upd]
      have nta : t ≠ a := fun e => by
        rw [e, ha] at ht
        cases ht
      have made : ∀ H2 : Hp, H2 a = some (.ins (He.ga K "Packing") dx [("_settings", .ref s1), ("_starts", .ref L), ("_first", .int j), ("_pages", .int (c - j : Nat)), ("_rows", .int (Pk.rws ls sz j c : Nat)), ("_last", .int m)]) → H2 L = some (.lst (tabL (stV ls sz) (c + 1))) →
          H2 s1 = some (.ins (He.ga K "Settings") dy (setF t sz fo re ev ke)) → H2 t = some (.tup (ls.map V.int)) → PackAt K H2 a s1 ls sz := fun H2 g1 g2 g3 g4 => ⟨dx, L, j, c, m, ⟨g1, rfl, rfl, rfl, rfl, rfl, rfl, g2, cyc, ok⟩, hm, dy, t, fo, re, ev, ke, g3, g4⟩
      have k3 : ∀ x, (upd H3 a x) s1 = some (.ins (He.ga K "Settings") dy (setF t sz fo re ev ke)) := fun x => by
        rw [upd_ne nsa]
        exact s3 _ _ hs
      have k4 : ∀ x, (upd H3 a x) t = some (.tup (ls.map V.int)) := fun x => by
        rw [upd_ne nta]
        exact s3 _ _ ht
      refine q _ (fun b o n e => ?_) (made _ upd_same (f1 _) (k3 _) (k4 _)) fun b zs H2 hb bt => made H2 (bt a _ (fun e => ?_) upd_same) (bt L _ (Ne.symm (ne_of_none hb hL)) (f1 _)) (bt s1 _ (fun e => ?_) (k3 _)) (bt t _ (fun e => ?_) (k4 _))
      · rw [upd_ne n]
        exact s3 b o e
      · rw [← e, ha] at hb
        cases hb
      · rw [← e, hs] at hb
        cases hb
      · rw [← e, ht] at hb
        cases hb
    · have v := hout (Pk.st ls sz c % ls.length) fun i hi e => hx ⟨i, hi, e⟩
      have cl : c + 1 ≤ ls.length := Pk.dis_le o (k := c + 1) (sz := sz) fun x y hxy hy => by
        rcases Nat.lt_or_ge y c with z | z
        · exact hdis x y hxy z
        · have e : y = c := by omega
          rw [e]
          exact fun e2 => hx ⟨x, by omega, e2⟩
      rw [v]
      refine r_whT ?_
      have ln : (((tabL (stV ls sz) (c + 1)).length : Nat) : Int) - 1 = (c : Int) := by rw [tabL_len]; omega
      walk_at "ss"
      rw [ln]
      walk_at "ss"
      refine r_ixL (SqL.of e3L) l3 ?_
      walk_at "ss"
      rw [em]
      refine r_dp e3d (by omega) ?_
      have g1 : (upd H3 d (.dK (putK kvs (Sum.inl ((Pk.st ls sz c % ls.length : Nat) : Int)) (V.int c)))) L = some (.lst (tabL (stV ls sz) (c + 1))) := by rw [upd_ne nLd]; exact e3L
      have g2 : ∀ b o, H b = some o → (upd H3 d (.dK (putK kvs (Sum.inl ((Pk.st ls sz c % ls.length : Nat) : Int)) (V.int c)))) b = some o := fun b o e => by rw [upd_ne (ne_of_none e hda)]; exact s3 b o e
      walk_at "ss"
      refine r_ixL (SqL.of g1) l3 ?_
      walk_at "ss"
      refine r_ixL (SqL.of g1) l3 ?_
      walk_at "ss"
      refine ⟨s1, Pk.st ls sz c, ls, sz, fo, re, ev, ke, rfl, ⟨dy, t, g2 _ _ hs, g2 _ _ ht⟩, ok, ?_⟩
      walk_at "ss"
      refine r_append g1 (by rw [tabL_len]; omega) ?_
      walk_at "ss"
      refine ⟨_, ?_, c + 1, putK kvs (Sum.inl ((Pk.st ls sz c % ls.length : Nat) : Int)) (V.int c), rfl, rfl, fun b o e => ?_, ?_, ?_, ?_, cl, fun i hi => ?_, fun p hp => ?_, fun x y hxy hy => ?_⟩
      · omega
      · rw [upd_ne (ne_of_none e hL)]
        exact g2 b o e
      · rw [upd_same, tabL_succ _ (c + 1)]
        have e : stV ls sz (c + 1) = V.int ((Pk.st ls sz c : Nat) + (Pk.cnt ls sz (Pk.st ls sz c) : Nat)) := by
          unfold stV
          rw [Pk.st_succ, Int.natCast_add]
        rw [e]
      · rw [upd_ne (Ne.symm nLd), upd_same]
      · have := length_putK kvs (Sum.inl ((Pk.st ls sz c % ls.length : Nat) : Int)) (V.int c)
        omega
      · rw [valV_put]
        rcases Nat.lt_or_ge i c with z | z
        · rw [if_neg (fun e => hx ⟨i, z, by have := Sum.inl.inj e; omega⟩)]
          exact hin i z
        · have e : i = c := by omega
          rw [e, if_pos rfl]
      · rw [valV_put, if_neg (fun e => hp c (by omega) (by have := Sum.inl.inj e; omega))]
        exact hout p fun i hi => hp i (by omega)
      · rcases Nat.lt_or_ge y c with z | z
        · exact hdis x y hxy z
        · have e : y = c := by omega
          rw [e]
          exact fun e2 => hx ⟨x, by omega, e2⟩
theorem ok_Packing_page_of {P : Program} {w : World} {K : PySem.W.Frag} {mg : Str → Option Value} {base : Heap} {f : Addr} {fd : FuncData} (F : FunD K "page_of" "Packing.page_of" (defArgs s_Packing_page_of) (defBody s_Packing_page_of) (defScope s_Packing_page_of) [] [] f fd) (c_Packing : Cls K (He.ga K "Packing")) (h_check_row : Kr.FnH P w K mg base CX0 3 "check_row" ["row"] (sp_check_row K)) (m_Packing_page_with : Kr.MtH P w K mg base CX0 1 (He.ga K "Packing") "page_with" ["self", "row"] (sp_Packing_page_with K)) : FnOk P w K mg base CX0 4 f fd ["self", "row"] (sp_Packing_page_of K) := by
  refine F.ok sc_Packing_page_of (fun vs H Q E h => by first | (obtain ⟨rfl, _⟩ := h; rfl) | (obtain ⟨_, rfl, _⟩ := h; rfl) | (obtain ⟨_, _, rfl, _⟩ := h; rfl) | (obtain ⟨_, _, _, rfl, _⟩ := h; rfl) | (obtain ⟨_, _, _, _, rfl, _⟩ := h; rfl) | (obtain ⟨_, _, _, _, _, rfl, _⟩ := h; rfl) | (obtain ⟨_, _, _, _, _, _, rfl, _⟩ := h; rfl) | (obtain ⟨_, _, _, _, _, _, _, rfl, _⟩ := h; rfl) | (obtain ⟨_, _, _, _, _, _, _, _, rfl, _⟩ := h; rfl) | (obtain ⟨_, _, _, _, _, _, _, _, _, rfl, _⟩ := h; rfl) | (obtain ⟨_, _, _, _, _, _, _, _, _, _, rfl, _⟩ := h; rfl) | (obtain ⟨_, _, _, _, _, _, _, _, _, _, _, rfl, _⟩ := h; rfl) | (obtain ⟨_, _, _, _, _, _, _, _, _, _, _, _, rfl, _⟩ := h; rfl) | (obtain ⟨_, _, _, _, _, _, _, _, _, _, _, _, _, rfl, _⟩ := h; rfl) | (obtain ⟨_, _, _, _, _, _, _, _, _, _, _, _, _, _, rfl, _⟩ := h; rfl) | (obtain ⟨_, _, _, _, _, _, _, _, _, _, _, _, _, _, _, rfl, _⟩ := h; rfl) | (obtain ⟨_, _, _, _, _, _, _, _, _, _, _, _, _, _, _, _, rfl, _⟩ := h; rfl) | (obtain ⟨_, _, _, _, _, _, _, _, _, _, _, _, _, _, _, _, _, rfl, _⟩ := h; rfl)) (fun cdv A outer s H vs Q E hr h => ?_)
  · have hu := hu_of hr
    obtain ⟨a, s1, ls, sz, r, rfl, ⟨dx, lp, j, k, last, F, on, dy, t, fo, re, ev, ke, hs, ht⟩, h30, q⟩ := h
    have h0 := F.at_
    refine ⟨_, PSs.nox (pss_cons (ps_expr (Kr.pe_cl h_check_row (hr.mono (by decide)) (pa_cons (pv 1) pa_nil))) (pss_one (ps_ret (Kr.pe_mt m_Packing_page_with c_Packing (hr.mono (by decide)) (pv 0) (pa_cons (pv 1) pa_nil))))), ?_⟩
    rw [st_Packing_page_of]
    walk_at "ss"
    refine ⟨r, rfl, h30, ?_⟩
    walk_at "ss"
    exact ⟨a, lp, dx, ls, sz, j, k, r, _, rfl, F, by omega, q⟩
theorem ok_Packing_start_of {P : Program} {w : World} {K : PySem.W.Frag} {mg : Str → Option Value} {base : Heap} {f : Addr} {fd : FuncData} (F : FunD K "start_of" "Packing.start_of" (defArgs s_Packing_start_of) (defBody s_Packing_start_of) (defScope s_Packing_start_of) [] [] f fd) (a_Packing__first : NoAttr K (He.ga K "Packing") "_first") (a_Packing__pages : NoAttr K (He.ga K "Packing") "_pages") (a_Packing__rows : NoAttr K (He.ga K "Packing") "_rows") (a_Packing__starts : NoAttr K (He.ga K "Packing") "_starts") (c_Packing : Cls K (He.ga K "Packing")) (n_max : mg "max" = none) : FnOk P w K mg base CX0 1 f fd ["self", "page"] (sp_Packing_start_of K) := by
  refine F.ok sc_Packing_start_of (fun vs H Q E h => by first | (obtain ⟨rfl, _⟩ := h; rfl) | (obtain ⟨_, rfl, _⟩ := h; rfl) | (obtain ⟨_, _, rfl, _⟩ := h; rfl) | (obtain ⟨_, _, _, rfl, _⟩ := h; rfl) | (obtain ⟨_, _, _, _, rfl, _⟩ := h; rfl) | (obtain ⟨_, _, _, _, _, rfl, _⟩ := h; rfl) | (obtain ⟨_, _, _, _, _, _, rfl, _⟩ := h; rfl) | (obtain ⟨_, _, _, _, _, _, _, rfl, _⟩ := h; rfl) | (obtain ⟨_, _, _, _, _, _, _, _, rfl, _⟩ := h; rfl) | (obtain ⟨_, _, _, _, _, _, _, _, _, rfl, _⟩ := h; rfl) | (obtain ⟨_, _, _, _, _, _, _, _, _, _, rfl, _⟩ := h; rfl) | (obtain ⟨_, _, _, _, _, _, _, _, _, _, _, rfl, _⟩ := h; rfl) | (obtain ⟨_, _, _, _, _, _, _, _, _, _, _, _, rfl, _⟩ := h; rfl) | (obtain ⟨_, _, _, _, _, _, _, _, _, _, _, _, _, rfl, _⟩ := h; rfl) | (obtain ⟨_, _, _, _, _, _, _, _, _, _, _, _, _, _, rfl, _⟩ := h; rfl) | (obtain ⟨_, _, _, _, _, _, _, _, _, _, _, _, _, _, _, rfl, _⟩ := h; rfl) | (obtain ⟨_, _, _, _, _, _, _, _, _, _, _, _, _, _, _, _, rfl, _⟩ := h; rfl) | (obtain ⟨_, _, _, _, _, _, _, _, _, _, _, _, _, _, _, _, _, rfl, _⟩ := h; rfl)) (fun cdv A outer s H vs Q E hr h => ?_)
  · have hu := hu_of hr
    obtain ⟨a, s1, ls, sz, m, rfl, ⟨dx, lp, j, k, last, F, on, dy, t, fo, re, ev, ke, hs, ht⟩, h40, q⟩ := h
    have cc := c_Packing
    have n1 := a_Packing__starts
    have n2 := a_Packing__first
    have n3 := a_Packing__pages
    have n4 := a_Packing__rows
    have h0 := F.at_
    have h5 := F.lst
    have o := F.ok.pk
    have clt := F.cyc.lt
    obtain ⟨k6, st400⟩ := F.small
    have pc : CDivW ((m : Int) - (j : Int)) ((k - j : Nat) : Int) := wide_div (b := 64) (by omega) (by omega) (by decide) (by decide)
    obtain ⟨u, eu, u1, u2, u3, u4⟩ := F.cyc.pturns m
    have rle : Pk.rws ls sz j k ≤ 400 := by unfold Pk.rws; omega
    refine ⟨_, PSs.nox (pss_cons (ps_set (i := 2) sc_Packing_start_of.nd rfl (.inl rfl) (pe_callB (id := "max") (Kr.c_max2 rfl) rfl n_max (by decide +kernel) (pa_cons pe_int (pa_cons (pe_op op_fdivW (pe_op op_sub (pv 1) (pe_fld (pv 0) rfl)) (pe_fld (pv 0) rfl)) pa_nil)))) (pss_one (ps_ret (pe_op op_add (pe_ix ix_list (pe_fld (pv 0) rfl) (pe_op op_sub (pv 1) (pe_op op_mul (pv 2) (pe_fld (pv 0) rfl))) (fun _ _ => rfl)) (pe_op op_mul (pv 2) (pe_fld (pv 0) rfl)))))), ?_⟩
    rw [st_Packing_start_of]
    walk_at "ss"
    rw [eu]
    walk_at "ss"
    have ei : (m : Int) - (u : Int) * ((k - j : Nat) : Int) = ((m - u * (k - j) : Nat) : Int) := by
      rw [Int.ofNat_sub u1, Int.natCast_mul]
    refine r_ixL (SqL.of h5) (tabL_at (stV ls sz) ei (by omega)) ?_
    walk_at "ss"
    have es := F.cyc.start o u1 u2
    have e : ((Pk.st ls sz (m - u * (k - j)) : Nat) : Int) + (u : Int) * ((Pk.rws ls sz j k : Nat) : Int) = ((Pk.st ls sz m : Nat) : Int) := by
      rw [es, Int.natCast_add, Int.natCast_mul]
    rw [e]
    exact q
theorem ok_Packing__check_page {P : Program} {w : World} {K : PySem.W.Frag} {mg : Str → Option Value} {base : Heap} {f : Addr} {fd : FuncData} (F : FunD K "_check_page" "Packing._check_page" (defArgs s_Packing__check_page) (defBody s_Packing__check_page) (defScope s_Packing__check_page) [] [] f fd) (a_Packing__last : NoAttr K (He.ga K "Packing") "_last") (c_Packing : Cls K (He.ga K "Packing")) (h_is_within : Kr.FnH P w K mg base CX0 2 "is_within" ["number", "least", "most"] (sp_is_within K)) : FnOk P w K mg base CX0 3 f fd ["self", "page"] (sp_Packing__check_page K) := by
  refine F.ok sc_Packing__check_page (fun vs H Q E h => by first | (obtain ⟨rfl, _⟩ := h; rfl) | (obtain ⟨_, rfl, _⟩ := h; rfl) | (obtain ⟨_, _, rfl, _⟩ := h; rfl) | (obtain ⟨_, _, _, rfl, _⟩ := h; rfl) | (obtain ⟨_, _, _, _, rfl, _⟩ := h; rfl) | (obtain ⟨_, _, _, _, _, rfl, _⟩ := h; rfl) | (obtain ⟨_, _, _, _, _, _, rfl, _⟩ := h; rfl) | (obtain ⟨_, _, _, _, _, _, _, rfl, _⟩ := h; rfl) | (obtain ⟨_, _, _, _, _, _, _, _, rfl, _⟩ := h; rfl) | (obtain ⟨_, _, _, _, _, _, _, _, _, rfl, _⟩ := h; rfl) | (obtain ⟨_, _, _, _, _, _, _, _, _, _, rfl, _⟩ := h; rfl) | (obtain ⟨_, _, _, _, _, _, _, _, _, _, _, rfl, _⟩ := h; rfl) | (obtain ⟨_, _, _, _, _, _, _, _, _, _, _, _, rfl, _⟩ := h; rfl) | (obtain ⟨_, _, _, _, _, _, _, _, _, _, _, _, _, rfl, _⟩ := h; rfl) | (obtain ⟨_, _, _, _, _, _, _, _, _, _, _, _, _, _, rfl, _⟩ := h; rfl) | (obtain ⟨_, _, _, _, _, _, _, _, _, _, _, _, _, _, _, rfl, _⟩ := h; rfl) | (obtain ⟨_, _, _, _, _, _, _, _, _, _, _, _, _, _, _, _, rfl, _⟩ := h; rfl) | (obtain ⟨_, _, _, _, _, _, _, _, _, _, _, _, _, _, _, _, _, rfl, _⟩ := h; rfl)) (fun cdv A outer s H vs Q E hr h => ?_)
  · have hu := hu_of hr
    obtain ⟨a, s1, ls, sz, m, r, rfl, ⟨dx, lp, j, k, last, F, on, dy, t, fo, re, ev, ke, hs, ht⟩, om, h30, q⟩ := h
    have cc := c_Packing
    have n1 := a_Packing__last
    have h0 := F.at_
    have le := Pk.On.mono F.ok.pk om on (by omega)
    refine ⟨_, PSs.nox (pss_one (ps_if (pt_not (pt_val (Kr.pe_cl h_is_within (hr.mono (by decide)) (pa_cons (pv 1) (pa_cons pe_int (pa_cons (pe_fld (pv 0) rfl) pa_nil)))))) (pss_one ps_never) pss_nil)), ?_⟩
    rw [st_Packing__check_page]
    walk_at "ss"
    refine ⟨_, _, _, rfl, ?_⟩
    walk_at "ss"
    refine r_decN (fun ne => absurd ⟨by omega, by omega⟩ ne) fun _ => ?_
    walk_at "ss"
    exact q
theorem ok_Packing_first_row {P : Program} {w : World} {K : PySem.W.Frag} {mg : Str → Option Value} {base : Heap} {f : Addr} {fd : FuncData} (F : FunD K "first_row" "Packing.first_row" (defArgs s_Packing_first_row) (defBody s_Packing_first_row) (defScope s_Packing_first_row) [] [] f fd) (c_Packing : Cls K (He.ga K "Packing")) (m_Packing__check_page : Kr.MtH P w K mg base CX0 3 (He.ga K "Packing") "_check_page" ["self", "page"] (sp_Packing__check_page K)) (m_Packing_start_of : Kr.MtH P w K mg base CX0 1 (He.ga K "Packing") "start_of" ["self", "page"] (sp_Packing_start_of K)) : FnOk P w K mg base CX0 4 f fd ["self", "page"] (sp_Packing_first_row K) := by
  refine F.ok sc_Packing_first_row (fun vs H Q E h => by first | (obtain ⟨rfl, _⟩ := h; rfl) | (obtain ⟨_, rfl, _⟩ := h; rfl) | (obtain ⟨_, _, rfl, _⟩ := h; rfl) | (obtain ⟨_, _, _, rfl, _⟩ := h; rfl) | (obtain ⟨_, _, _, _, rfl, _⟩ := h; rfl) | (obtain ⟨_, _, _, _, _, rfl, _⟩ := h; rfl) | (obtain ⟨_, _, _, _, _, _, rfl, _⟩ := h; rfl) | (obtain ⟨_, _, _, _, _, _, _, rfl, _⟩ := h; rfl) | (obtain ⟨_, _, _, _, _, _, _, _, rfl, _⟩ := h; rfl) | (obtain ⟨_, _, _, _, _, _, _, _, _, rfl, _⟩ := h; rfl) | (obtain ⟨_, _, _, _, _, _, _, _, _, _, rfl, _⟩ := h; rfl) | (obtain ⟨_, _, _, _, _, _, _, _, _, _, _, rfl, _⟩ := h; rfl) | (obtain ⟨_, _, _, _, _, _, _, _, _, _, _, _, rfl, _⟩ := h; rfl) | (obtain ⟨_, _, _, _, _, _, _, _, _, _, _, _, _, rfl, _⟩ := h; rfl) | (obtain ⟨_, _, _, _, _, _, _, _, _, _, _, _, _, _, rfl, _⟩ := h; rfl) | (obtain ⟨_, _, _, _, _, _, _, _, _, _, _, _, _, _, _, rfl, _⟩ := h; rfl) | (obtain ⟨_, _, _, _, _, _, _, _, _, _, _, _, _, _, _, _, rfl, _⟩ := h; rfl) | (obtain ⟨_, _, _, _, _, _, _, _, _, _, _, _, _, _, _, _, _, rfl, _⟩ := h; rfl)) (fun cdv A outer s H vs Q E hr h => ?_)
  · have hu := hu_of hr
    obtain ⟨a, s1, ls, sz, m, r, rfl, PA, om, h30, q⟩ := h
    obtain ⟨dx, lp, j, k, last, F, on, -⟩ := id PA
    have h0 := F.at_
    have mle := Pk.st_ge F.ok.pk m
    have m1 := om.1
    refine ⟨_, PSs.nox (pss_cons (ps_expr (Kr.pe_mt m_Packing__check_page c_Packing (hr.mono (by decide)) (pv 0) (pa_cons (pv 1) pa_nil))) (pss_one (ps_ret (Kr.pe_mt m_Packing_start_of c_Packing (hr.mono (by decide)) (pv 0) (pa_cons (pv 1) pa_nil))))), ?_⟩
    rw [st_Packing_first_row]
    walk_at "ss"
    refine ⟨a, s1, ls, sz, m, r, rfl, PA, om, h30, ?_⟩
    walk_at "ss"
    exact ⟨a, s1, ls, sz, m, rfl, PA, by omega, q⟩
theorem ok_Packing_rows_on {P : Program} {w : World} {K : PySem.W.Frag} {mg : Str → Option Value} {base : Heap} {f : Addr} {fd : FuncData} (F : FunD K "rows_on" "Packing.rows_on" (defArgs s_Packing_rows_on) (defBody s_Packing_rows_on) (defScope s_Packing_rows_on) [] [] f fd) (c_Packing : Cls K (He.ga K "Packing")) (m_Packing__check_page : Kr.MtH P w K mg base CX0 3 (He.ga K "Packing") "_check_page" ["self", "page"] (sp_Packing__check_page K)) (m_Packing_start_of : Kr.MtH P w K mg base CX0 1 (He.ga K "Packing") "start_of" ["self", "page"] (sp_Packing_start_of K)) : FnOk P w K mg base CX0 4 f fd ["self", "page"] (sp_Packing_rows_on K) := by
  refine F.ok sc_Packing_rows_on (fun vs H Q E h => by first | (obtain ⟨rfl, _⟩ := h; rfl) | (obtain ⟨_, rfl, _⟩ := h; rfl) | (obtain ⟨_, _, rfl, _⟩ := h; rfl) | (obtain ⟨_, _, _, rfl, _⟩ := h; rfl) | (obtain ⟨_, _, _, _, rfl, _⟩ := h; rfl) | (obtain ⟨_, _, _, _, _, rfl, _⟩ := h; rfl) | (obtain ⟨_, _, _, _, _, _, rfl, _⟩ := h; rfl) | (obtain ⟨_, _, _, _, _, _, _, rfl, _⟩ := h; rfl) | (obtain ⟨_, _, _, _, _, _, _, _, rfl, _⟩ := h; rfl) | (obtain ⟨_, _, _, _, _, _, _, _, _, rfl, _⟩ := h; rfl) | (obtain ⟨_, _, _, _, _, _, _, _, _, _, rfl, _⟩ := h; rfl) | (obtain ⟨_, _, _, _, _, _, _, _, _, _, _, rfl, _⟩ := h; rfl) | (obtain ⟨_, _, _, _, _, _, _, _, _, _, _, _, rfl, _⟩ := h; rfl) | (obtain ⟨_, _, _, _, _, _, _, _, _, _, _, _, _, rfl, _⟩ := h; rfl) | (obtain ⟨_, _, _, _, _, _, _, _, _, _, _, _, _, _, rfl, _⟩ := h; rfl) | (obtain ⟨_, _, _, _, _, _, _, _, _, _, _, _, _, _, _, rfl, _⟩ := h; rfl) | (obtain ⟨_, _, _, _, _, _, _, _, _, _, _, _, _, _, _, _, rfl, _⟩ := h; rfl) | (obtain ⟨_, _, _, _, _, _, _, _, _, _, _, _, _, _, _, _, _, rfl, _⟩ := h; rfl)) (fun cdv A outer s H vs Q E hr h => ?_)
  · have hu := hu_of hr
    obtain ⟨a, s1, ls, sz, m, r, rfl, PA, om, h30, q⟩ := h
    obtain ⟨dx, lp, j, k, last, F, on, -⟩ := id PA
    have h0 := F.at_
    have mle := Pk.st_ge F.ok.pk m
    have m1 := om.1
    have em : ((m : Int) + 1) = ((m + 1 : Nat) : Int) := by push_cast; rfl
    refine ⟨_, PSs.nox (pss_cons (ps_expr (Kr.pe_mt m_Packing__check_page c_Packing (hr.mono (by decide)) (pv 0) (pa_cons (pv 1) pa_nil))) (pss_one (ps_ret (pe_op op_sub (Kr.pe_mt m_Packing_start_of c_Packing (hr.mono (by decide)) (pv 0) (pa_cons (pe_op op_add (pv 1) pe_int) pa_nil)) (Kr.pe_mt m_Packing_start_of c_Packing (hr.mono (by decide)) (pv 0) (pa_cons (pv 1) pa_nil)))))), ?_⟩
    rw [st_Packing_rows_on]
    walk_at "ss"
    refine ⟨a, s1, ls, sz, m, r, rfl, PA, om, h30, ?_⟩
    walk_at "ss"
    refine ⟨a, s1, ls, sz, m + 1, by rw [em], PA, by omega, ?_⟩
    walk_at "ss"
    refine ⟨a, s1, ls, sz, m, rfl, PA, by omega, ?_⟩
    walk_at "ss"
    have e : ((Pk.st ls sz (m + 1) : Nat) : Int) - ((Pk.st ls sz m : Nat) : Int) = ((Pk.cnt ls sz (Pk.st ls sz m) : Nat) : Int) := by
      rw [Pk.st_succ]
      omega
    rw [e]
    exact q
theorem ok_Packing__units_between {P : Program} {w : World} {K : PySem.W.Frag} {mg : Str → Option Value} {base : Heap} {f : Addr} {fd : FuncData} (F : FunD K "_units_between" "Packing._units_between" (defArgs s_Packing__units_between) (defBody s_Packing__units_between) (defScope s_Packing__units_between) [] [] f fd) (a_Packing__settings : NoAttr K (He.ga K "Packing") "_settings") (c_Packing : Cls K (He.ga K "Packing")) (h_units_ahead : Kr.FnH P w K mg base CX0 1 "units_ahead" ["settings", "row"] (sp_units_ahead K)) : FnOk P w K mg base CX0 2 f fd ["self", "row", "after"] (sp_Packing__units_between K) := by
  refine F.ok sc_Packing__units_between (fun vs H Q E h => by first | (obtain ⟨rfl, _⟩ := h; rfl) | (obtain ⟨_, rfl, _⟩ := h; rfl) | (obtain ⟨_, _, rfl, _⟩ := h; rfl) | (obtain ⟨_, _, _, rfl, _⟩ := h; rfl) | (obtain ⟨_, _, _, _, rfl, _⟩ := h; rfl) | (obtain ⟨_, _, _, _, _, rfl, _⟩ := h; rfl) | (obtain ⟨_, _, _, _, _, _, rfl, _⟩ := h; rfl) | (obtain ⟨_, _, _, _, _, _, _, rfl, _⟩ := h; rfl) | (obtain ⟨_, _, _, _, _, _, _, _, rfl, _⟩ := h; rfl) | (obtain ⟨_, _, _, _, _, _, _, _, _, rfl, _⟩ := h; rfl) | (obtain ⟨_, _, _, _, _, _, _, _, _, _, rfl, _⟩ := h; rfl) | (obtain ⟨_, _, _, _, _, _, _, _, _, _, _, rfl, _⟩ := h; rfl) | (obtain ⟨_, _, _, _, _, _, _, _, _, _, _, _, rfl, _⟩ := h; rfl) | (obtain ⟨_, _, _, _, _, _, _, _, _, _, _, _, _, rfl, _⟩ := h; rfl) | (obtain ⟨_, _, _, _, _, _, _, _, _, _, _, _, _, _, rfl, _⟩ := h; rfl) | (obtain ⟨_, _, _, _, _, _, _, _, _, _, _, _, _, _, _, rfl, _⟩ := h; rfl) | (obtain ⟨_, _, _, _, _, _, _, _, _, _, _, _, _, _, _, _, rfl, _⟩ := h; rfl) | (obtain ⟨_, _, _, _, _, _, _, _, _, _, _, _, _, _, _, _, _, rfl, _⟩ := h; rfl)) (fun cdv A outer s H vs Q E hr h => ?_)
  · have hu := hu_of hr
    obtain ⟨a, s1, ls, sz, r, n, rfl, ⟨dx, lp, j, k, last, F, on, dy, t, fo, re, ev, ke, hs, ht⟩, h40, q⟩ := h
    have h0 := F.at_
    have cc := c_Packing
    have n1 := a_Packing__settings
    refine ⟨_, PSs.nox (pss_one (ps_ret (pe_op op_sub (Kr.pe_cl h_units_ahead (hr.mono (by decide)) (pa_cons (pe_fld (pv 0) rfl) (pa_cons (pv 2) pa_nil))) (Kr.pe_cl h_units_ahead (hr.mono (by decide)) (pa_cons (pe_fld (pv 0) rfl) (pa_cons (pv 1) pa_nil)))))), ?_⟩
    rw [st_Packing__units_between]
    walk_at "ss"
    refine ⟨s1, r + n, ls, sz, fo, re, ev, ke, rfl, ⟨dy, t, hs, ht⟩, F.ok, h40, fun H1 s1' => ?_⟩
    have h1 := s1' _ _ h0
    walk_at "ss"
    refine ⟨s1, r, ls, sz, fo, re, ev, ke, rfl, ⟨dy, t, s1' _ _ hs, s1' _ _ ht⟩, F.ok, by omega, fun H2 s2 => ?_⟩
    walk_at "ss"
    rw [pre_span]
    exact q H2 (s1'.trans s2)
theorem ok_Packing_units_on {P : Program} {w : World} {K : PySem.W.Frag} {mg : Str → Option Value} {base : Heap} {f : Addr} {fd : FuncData} (F : FunD K "units_on" "Packing.units_on" (defArgs s_Packing_units_on) (defBody s_Packing_units_on) (defScope s_Packing_units_on) [] [] f fd) (c_Packing : Cls K (He.ga K "Packing")) (m_Packing__check_page : Kr.MtH P w K mg base CX0 3 (He.ga K "Packing") "_check_page" ["self", "page"] (sp_Packing__check_page K)) (m_Packing__units_between : Kr.MtH P w K mg base CX0 2 (He.ga K "Packing") "_units_between" ["self", "row", "after"] (sp_Packing__units_between K)) (m_Packing_start_of : Kr.MtH P w K mg base CX0 1 (He.ga K "Packing") "start_of" ["self", "page"] (sp_Packing_start_of K)) : FnOk P w K mg base CX0 4 f fd ["self", "page"] (sp_Packing_units_on K) := by
  refine F.ok sc_Packing_units_on (fun vs H Q E h => by first | (obtain ⟨rfl, _⟩ := h; rfl) | (obtain ⟨_, rfl, _⟩ := h; rfl) | (obtain ⟨_, _, rfl, _⟩ := h; rfl) | (obtain ⟨_, _, _, rfl, _⟩ := h; rfl) | (obtain ⟨_, _, _, _, rfl, _⟩ := h; rfl) | (obtain ⟨_, _, _, _, _, rfl, _⟩ := h; rfl) | (obtain ⟨_, _, _, _, _, _, rfl, _⟩ := h; rfl) | (obtain ⟨_, _, _, _, _, _, _, rfl, _⟩ := h; rfl) | (obtain ⟨_, _, _, _, _, _, _, _, rfl, _⟩ := h; rfl) | (obtain ⟨_, _, _, _, _, _, _, _, _, rfl, _⟩ := h; rfl) | (obtain ⟨_, _, _, _, _, _, _, _, _, _, rfl, _⟩ := h; rfl) | (obtain ⟨_, _, _, _, _, _, _, _, _, _, _, rfl, _⟩ := h; rfl) | (obtain ⟨_, _, _, _, _, _, _, _, _, _, _, _, rfl, _⟩ := h; rfl) | (obtain ⟨_, _, _, _, _, _, _, _, _, _, _, _, _, rfl, _⟩ := h; rfl) | (obtain ⟨_, _, _, _, _, _, _, _, _, _, _, _, _, _, rfl, _⟩ := h; rfl) | (obtain ⟨_, _, _, _, _, _, _, _, _, _, _, _, _, _, _, rfl, _⟩ := h; rfl) | (obtain ⟨_, _, _, _, _, _, _, _, _, _, _, _, _, _, _, _, rfl, _⟩ := h; rfl) | (obtain ⟨_, _, _, _, _, _, _, _, _, _, _, _, _, _, _, _, _, rfl, _⟩ := h; rfl)) (fun cdv A outer s H vs Q E hr h => ?_)
  · have hu := hu_of hr
    obtain ⟨a, s1, ls, sz, m, r, rfl, PA, om, h30, q⟩ := h
    obtain ⟨dx, lp, j, k, last, F, on, -⟩ := id PA
    have h0 := F.at_
    have o := F.ok.pk
    have r64 := F.ok.r64
    have mle := Pk.st_ge o m
    have cle := Pk.cnt_le o (Pk.st ls sz m)
    have m1 := om.1
    have em : ((m : Int) + 1) = ((m + 1 : Nat) : Int) := by push_cast; rfl
    refine ⟨_, PSs.nox (pss_cons (ps_expr (Kr.pe_mt m_Packing__check_page c_Packing (hr.mono (by decide)) (pv 0) (pa_cons (pv 1) pa_nil))) (pss_one (ps_ret (Kr.pe_mt m_Packing__units_between c_Packing (hr.mono (by decide)) (pv 0) (pa_cons (Kr.pe_mt m_Packing_start_of c_Packing (hr.mono (by decide)) (pv 0) (pa_cons (pv 1) pa_nil)) (pa_cons (Kr.pe_mt m_Packing_start_of c_Packing (hr.mono (by decide)) (pv 0) (pa_cons (pe_op op_add (pv 1) pe_int) pa_nil)) pa_nil)))))), ?_⟩
    rw [st_Packing_units_on]
    walk_at "ss"
    refine ⟨a, s1, ls, sz, m, r, rfl, PA, om, h30, ?_⟩
    walk_at "ss"
    refine ⟨a, s1, ls, sz, m, rfl, PA, by omega, ?_⟩
    walk_at "ss"
    refine ⟨a, s1, ls, sz, m + 1, by rw [em], PA, by omega, ?_⟩
    walk_at "ss"
    exact ⟨a, s1, ls, sz, Pk.st ls sz m, Pk.cnt ls sz (Pk.st ls sz m), rfl, PA, by omega, q⟩
theorem ok__law_mix {P : Program} {w : World} {K : PySem.W.Frag} {mg : Str → Option Value} {base : Heap} {f : Addr} {fd : FuncData} (F : FunD K "_law_mix" "_law_mix" (defArgs s__law_mix) (defBody s__law_mix) (defScope s__law_mix) [] [] f fd) (n_int : mg "int" = none) : FnOk P w K mg base CX0 1 f fd ["cell", "lap"] (sp__law_mix K) := by
  refine F.ok sc__law_mix (fun vs H Q E h => by first | (obtain ⟨rfl, _⟩ := h; rfl) | (obtain ⟨_, rfl, _⟩ := h; rfl) | (obtain ⟨_, _, rfl, _⟩ := h; rfl) | (obtain ⟨_, _, _, rfl, _⟩ := h; rfl) | (obtain ⟨_, _, _, _, rfl, _⟩ := h; rfl) | (obtain ⟨_, _, _, _, _, rfl, _⟩ := h; rfl) | (obtain ⟨_, _, _, _, _, _, rfl, _⟩ := h; rfl) | (obtain ⟨_, _, _, _, _, _, _, rfl, _⟩ := h; rfl) | (obtain ⟨_, _, _, _, _, _, _, _, rfl, _⟩ := h; rfl) | (obtain ⟨_, _, _, _, _, _, _, _, _, rfl, _⟩ := h; rfl) | (obtain ⟨_, _, _, _, _, _, _, _, _, _, rfl, _⟩ := h; rfl) | (obtain ⟨_, _, _, _, _, _, _, _, _, _, _, rfl, _⟩ := h; rfl) | (obtain ⟨_, _, _, _, _, _, _, _, _, _, _, _, rfl, _⟩ := h; rfl) | (obtain ⟨_, _, _, _, _, _, _, _, _, _, _, _, _, rfl, _⟩ := h; rfl) | (obtain ⟨_, _, _, _, _, _, _, _, _, _, _, _, _, _, rfl, _⟩ := h; rfl) | (obtain ⟨_, _, _, _, _, _, _, _, _, _, _, _, _, _, _, rfl, _⟩ := h; rfl) | (obtain ⟨_, _, _, _, _, _, _, _, _, _, _, _, _, _, _, _, rfl, _⟩ := h; rfl) | (obtain ⟨_, _, _, _, _, _, _, _, _, _, _, _, _, _, _, _, _, rfl, _⟩ := h; rfl)) (fun cdv A outer s H vs Q E hr h => ?_)
  · have hu := hu_of hr
    obtain ⟨c, l, rfl, q⟩ := h
    refine ⟨_, PSs.nox (pss_cons (ps_set (i := 2) sc__law_mix.nd rfl (.inl rfl) (pe_op op_add (pe_op op_add (pe_op op_add (pe_op op_mod (pe_callTy (T := "int") Kr.c_int1 rfl n_int (by decide +kernel) (pa_cons (pv 0) pa_nil)) pe_int) (pe_op op_mul pe_int (pv 1))) (pe_op op_mod (pe_callTy (T := "int") Kr.c_int1 rfl n_int (by decide +kernel) (pa_cons (pe_op op_fdivW (pv 0) pe_int) pa_nil)) pe_int)) pe_int)) (pss_cons (ps_set (i := 2) sc__law_mix.nd rfl (.inl rfl) (pe_op op_mod (pe_callTy (T := "int") Kr.c_int1 rfl n_int (by decide +kernel) (pa_cons (pe_op op_mul (pv 2) pe_int) pa_nil)) pe_int)) (pss_cons (ps_set (i := 2) sc__law_mix.nd rfl (.inl rfl) (pe_op op_mod (pe_callTy (T := "int") Kr.c_int1 rfl n_int (by decide +kernel) (pa_cons (pe_op op_mul (pv 2) (pe_op op_add (pe_op op_add (pe_op op_fdivW (pv 2) pe_int) pe_int) (pv 1))) pa_nil)) pe_int)) (pss_one (ps_ret (pe_op op_mod (pe_callTy (T := "int") Kr.c_int1 rfl n_int (by decide +kernel) (pa_cons (pe_op op_mul (pv 2) (pe_op op_add (pe_op op_fdivW (pv 2) pe_int) pe_int)) pa_nil)) pe_int)))))), ?_⟩
    rw [st__law_mix]
    iterate 3 (walk_at "ss"; try (with_reducible refine r_I (.inl (mod_fit (by decide) (by decide))) ?_))
    walk_at "ss"
    exact q _
theorem ok__law_source {P : Program} {w : World} {K : PySem.W.Frag} {mg : Str → Option Value} {base : Heap} {f : Addr} {fd : FuncData} (F : FunD K "_law_source" "_law_source" (defArgs s__law_source) (defBody s__law_source) (defScope s__law_source) [] [] f fd) (n_len : mg "len" = none) : FnOk P w K mg base CX0 1 f fd ["script", "k"] (sp__law_source K) := by
  refine F.ok sc__law_source (fun vs H Q E h => by first | (obtain ⟨rfl, _⟩ := h; rfl) | (obtain ⟨_, rfl, _⟩ := h; rfl) | (obtain ⟨_, _, rfl, _⟩ := h; rfl) | (obtain ⟨_, _, _, rfl, _⟩ := h; rfl) | (obtain ⟨_, _, _, _, rfl, _⟩ := h; rfl) | (obtain ⟨_, _, _, _, _, rfl, _⟩ := h; rfl) | (obtain ⟨_, _, _, _, _, _, rfl, _⟩ := h; rfl) | (obtain ⟨_, _, _, _, _, _, _, rfl, _⟩ := h; rfl) | (obtain ⟨_, _, _, _, _, _, _, _, rfl, _⟩ := h; rfl) | (obtain ⟨_, _, _, _, _, _, _, _, _, rfl, _⟩ := h; rfl) | (obtain ⟨_, _, _, _, _, _, _, _, _, _, rfl, _⟩ := h; rfl) | (obtain ⟨_, _, _, _, _, _, _, _, _, _, _, rfl, _⟩ := h; rfl) | (obtain ⟨_, _, _, _, _, _, _, _, _, _, _, _, rfl, _⟩ := h; rfl) | (obtain ⟨_, _, _, _, _, _, _, _, _, _, _, _, _, rfl, _⟩ := h; rfl) | (obtain ⟨_, _, _, _, _, _, _, _, _, _, _, _, _, _, rfl, _⟩ := h; rfl) | (obtain ⟨_, _, _, _, _, _, _, _, _, _, _, _, _, _, _, rfl, _⟩ := h; rfl) | (obtain ⟨_, _, _, _, _, _, _, _, _, _, _, _, _, _, _, _, rfl, _⟩ := h; rfl) | (obtain ⟨_, _, _, _, _, _, _, _, _, _, _, _, _, _, _, _, _, rfl, _⟩ := h; rfl)) (fun cdv A outer s H vs Q E hr h => ?_)
  · have hu := hu_of hr
    obtain ⟨a, ns, k, rfl, hS, hl, hk, q⟩ := h
    refine ⟨_, PSs.nox (pss_cons (ps_set (i := 2) sc__law_source.nd rfl (.inl rfl) (pe_op op_add (pe_ix ix_list (pe_op Kr.op_catS (pv 0) (pe_lst (pa_cons pe_int pa_nil))) pe_int (fun _ _ => rfl)) (pe_op op_mul pe_int (pv 1)))) (pss_cons (ps_if (pt_cmpR op_lt (pv 1) (pe_callB (id := "len") Kr.c_len rfl n_len (by decide +kernel) (pa_cons (pv 0) pa_nil)) (nomark _)) (pss_one (ps_set (i := 2) sc__law_source.nd rfl (.inl rfl) (pe_ix ix_list (pv 0) (pv 1) (fun _ _ => rfl)))) pss_nil) (pss_one (ps_ret (pe_lst (pa_cons (pv 2) (pa_cons (pv 2) (pa_cons pe_int pa_nil)))))))), ?_⟩
    rw [st__law_source]
    walk_at "ss"
    refine r_new fun p hp => ?_
    have s1 : Same H (upd H p (.lst [.int 0])) := same_new hp
    refine r_catS (s1.seq hS) (SqL.of upd_same) (by simp; omega) (r_new fun p2 hp2 => ?_)
    have s2 := s1.trans (same_new (o := .lst (ns.map V.int ++ [V.int 0])) hp2)
    obtain ⟨z, hz⟩ : ∃ z, atI (ns.map V.int ++ [V.int 0]) 0 = some (V.int z) := by
      cases ns with
      | nil => exact ⟨0, rfl⟩
      | cons n r => exact ⟨n, at_of (j := 0) rfl rfl⟩
    walk_at "ss"
    refine r_ixL (SqL.of upd_same) hz ?_
    walk_at "ss"
    have hS2 := s2.seq hS
    have fin : ∀ (H3 : Hp) (z2 : Int), Same H H3 → rNew (.lst [.int z2, .int z2, .int 0]) H3 Q := fun H3 z2 s3 => r_new fun p3 hp3 => q p3 _ (s3.trans (same_new hp3)) (s3.free hp3) (Src.set z2 z2 0)
    walk_at "ss"
    refine r_dec (fun hk2 => ?_) fun _ => ?_
    · walk_at "ss"
      rw [List.length_map] at hk2
      obtain ⟨j, rfl⟩ := Int.eq_ofNat_of_zero_le hk
      have hj : j < ns.length := by omega
      refine r_ixL hS2 (at_of rfl (by rw [List.getElem?_map, List.getElem?_eq_getElem hj]; rfl)) ?_
      walk_at "ss"
      exact fin _ _ s2
    · walk_at "ss"
      exact fin _ _ s2
theorem ok__law_draw {P : Program} {w : World} {K : PySem.W.Frag} {mg : Str → Option Value} {base : Heap} {f : Addr} {fd : FuncData} (F : FunD K "_law_draw" "_law_draw" (defArgs s__law_draw) (defBody s__law_draw) (defScope s__law_draw) [] [] f fd) (h__law_mix : Kr.FnH P w K mg base CX0 1 "_law_mix" ["cell", "lap"] (sp__law_mix K)) (n_int : mg "int" = none) : FnOk P w K mg base CX0 2 f fd ["source", "limit"] (sp__law_draw K) := by
  refine F.ok sc__law_draw (fun vs H Q E h => by first | (obtain ⟨rfl, _⟩ := h; rfl) | (obtain ⟨_, rfl, _⟩ := h; rfl) | (obtain ⟨_, _, rfl, _⟩ := h; rfl) | (obtain ⟨_, _, _, rfl, _⟩ := h; rfl) | (obtain ⟨_, _, _, _, rfl, _⟩ := h; rfl) | (obtain ⟨_, _, _, _, _, rfl, _⟩ := h; rfl) | (obtain ⟨_, _, _, _, _, _, rfl, _⟩ := h; rfl) | (obtain ⟨_, _, _, _, _, _, _, rfl, _⟩ := h; rfl) | (obtain ⟨_, _, _, _, _, _, _, _, rfl, _⟩ := h; rfl) | (obtain ⟨_, _, _, _, _, _, _, _, _, rfl, _⟩ := h; rfl) | (obtain ⟨_, _, _, _, _, _, _, _, _, _, rfl, _⟩ := h; rfl) | (obtain ⟨_, _, _, _, _, _, _, _, _, _, _, rfl, _⟩ := h; rfl) | (obtain ⟨_, _, _, _, _, _, _, _, _, _, _, _, rfl, _⟩ := h; rfl) | (obtain ⟨_, _, _, _, _, _, _, _, _, _, _, _, _, rfl, _⟩ := h; rfl) | (obtain ⟨_, _, _, _, _, _, _, _, _, _, _, _, _, _, rfl, _⟩ := h; rfl) | (obtain ⟨_, _, _, _, _, _, _, _, _, _, _, _, _, _, _, rfl, _⟩ := h; rfl) | (obtain ⟨_, _, _, _, _, _, _, _, _, _, _, _, _, _, _, _, rfl, _⟩ := h; rfl) | (obtain ⟨_, _, _, _, _, _, _, _, _, _, _, _, _, _, _, _, _, rfl, _⟩ := h; rfl)) (fun cdv A outer s H vs Q E hr h => ?_)
  · have hu := hu_of hr
    obtain ⟨a, n, rfl, ⟨c0, c1, c2, hs⟩, hn, q⟩ := h
    have h0 := hn.1
    have hd : ∀ i, CDivW i n := fun i => hn.div
    refine ⟨_, PSs.nox (pss_cons (ps_if (pt_cmpR op_ge (pe_ix ix_list (pv 0) pe_int (fun _ _ => rfl)) (pe_op op_pow pe_int pe_int) (nomark _)) (pss_cons (ps_set (i := 2) sc__law_draw.nd rfl (.inl rfl) (pe_op op_mod (pe_callTy (T := "int") Kr.c_int1 rfl n_int (by decide +kernel) (pa_cons (pe_ix ix_list (pv 0) pe_int (fun _ _ => rfl)) pa_nil)) (pv 1))) (pss_cons (ps_asg (pe_op op_fdivW (pe_ix ix_list (pv 0) pe_int (fun _ _ => rfl)) (pv 1)) (pg_sub (pv 0) pe_int set_list)) (pss_one (ps_ret (pv 2))))) pss_nil) (pss_cons (ps_asg (pe_op op_add (pe_ix ix_list (pv 0) pe_int (fun _ _ => rfl)) pe_int) (pg_sub (pv 0) pe_int set_list)) (pss_one (ps_ret (pe_op op_mod (pe_callTy (T := "int") Kr.c_int1 rfl n_int (by decide +kernel) (pa_cons (Kr.pe_cl h__law_mix (hr.mono (by decide)) (pa_cons (pe_ix ix_list (pv 0) pe_int (fun _ _ => rfl)) (pa_cons (pe_ix ix_list (pv 0) pe_int (fun _ _ => rfl)) pa_nil))) pa_nil)) (pv 1)))))), ?_⟩
    rw [st__law_draw]
    walk_at "ss"
    refine r_dec (fun _ => ?_) fun _ => ?_
    · walk_at "ss"
      refine r_I (hd _) ?_
      walk_at "ss"
      exact q _ _ (emod_lt h0).1 (emod_lt h0).2 ⟨Src.set _ _ _, (But.refl a H).upd⟩
    · walk_at "ss"
      refine ⟨_, _, rfl, fun z => ?_⟩
      walk_at "ss"
      exact q _ _ (emod_lt h0).1 (emod_lt h0).2 ⟨Src.set _ _ _, (But.refl a H).upd⟩
theorem ok__law_pick {P : Program} {w : World} {K : PySem.W.Frag} {mg : Str → Option Value} {base : Heap} {f : Addr} {fd : FuncData} (F : FunD K "_law_pick" "_law_pick" (defArgs s__law_pick) (defBody s__law_pick) (defScope s__law_pick) [] [] f fd) (h__law_draw : Kr.FnH P w K mg base CX0 2 "_law_draw" ["source", "limit"] (sp__law_draw K)) (n_len : mg "len" = none) : FnOk P w K mg base CX0 3 f fd ["source", "items"] (sp__law_pick K) := by
  refine F.ok sc__law_pick (fun vs H Q E h => by first | (obtain ⟨rfl, _⟩ := h; rfl) | (obtain ⟨_, rfl, _⟩ := h; rfl) | (obtain ⟨_, _, rfl, _⟩ := h; rfl) | (obtain ⟨_, _, _, rfl, _⟩ := h; rfl) | (obtain ⟨_, _, _, _, rfl, _⟩ := h; rfl) | (obtain ⟨_, _, _, _, _, rfl, _⟩ := h; rfl) | (obtain ⟨_, _, _, _, _, _, rfl, _⟩ := h; rfl) | (obtain ⟨_, _, _, _, _, _, _, rfl, _⟩ := h; rfl) | (obtain ⟨_, _, _, _, _, _, _, _, rfl, _⟩ := h; rfl) | (obtain ⟨_, _, _, _, _, _, _, _, _, rfl, _⟩ := h; rfl) | (obtain ⟨_, _, _, _, _, _, _, _, _, _, rfl, _⟩ := h; rfl) | (obtain ⟨_, _, _, _, _, _, _, _, _, _, _, rfl, _⟩ := h; rfl) | (obtain ⟨_, _, _, _, _, _, _, _, _, _, _, _, rfl, _⟩ := h; rfl) | (obtain ⟨_, _, _, _, _, _, _, _, _, _, _, _, _, rfl, _⟩ := h; rfl) | (obtain ⟨_, _, _, _, _, _, _, _, _, _, _, _, _, _, rfl, _⟩ := h; rfl) | (obtain ⟨_, _, _, _, _, _, _, _, _, _, _, _, _, _, _, rfl, _⟩ := h; rfl) | (obtain ⟨_, _, _, _, _, _, _, _, _, _, _, _, _, _, _, _, rfl, _⟩ := h; rfl) | (obtain ⟨_, _, _, _, _, _, _, _, _, _, _, _, _, _, _, _, _, rfl, _⟩ := h; rfl)) (fun cdv A outer s H vs Q E hr h => ?_)
  · have hu := hu_of hr
    obtain ⟨a, p, xs, rfl, hs, hpa, hS, h0, h1, q⟩ := h
    refine ⟨_, PSs.nox (pss_one (ps_ret (pe_ix ix_list (pv 1) (Kr.pe_cl h__law_draw (hr.mono (by decide)) (pa_cons (pv 0) (pa_cons (pe_callB (id := "len") Kr.c_len rfl n_len (by decide +kernel) (pa_cons (pv 1) pa_nil)) pa_nil))) (fun _ _ => rfl)))), ?_⟩
    rw [st__law_pick]
    walk_at "ss"
    refine ⟨_, _, rfl, hs, ⟨by omega, by omega⟩, fun d H1 d0 d1 D1 => ?_⟩
    walk_at "ss"
    obtain ⟨j, rfl⟩ := Int.eq_ofNat_of_zero_le d0
    have hj : j < xs.length := by omega
    refine r_ixL (D1.old.seq hpa hS) (at_of rfl (List.getElem?_eq_getElem hj)) ?_
    exact q _ _ (List.getElem_mem hj) D1
theorem ok__law_parts {P : Program} {w : World} {K : PySem.W.Frag} {mg : Str → Option Value} {base : Heap} {f : Addr} {fd : FuncData} (F : FunD K "_law_parts" "_law_parts" (defArgs s__law_parts) (defBody s__law_parts) (defScope s__law_parts) [] [] f fd) (h__law_draw : Kr.FnH P w K mg base CX0 2 "_law_draw" ["source", "limit"] (sp__law_draw K)) (h__law_pick : Kr.FnH P w K mg base CX0 3 "_law_pick" ["source", "items"] (sp__law_pick K)) (n_range : mg "range" = none) : FnOk P w K mg base CX0 4 f fd ["source"] (sp__law_parts K) := by
  refine F.ok sc__law_parts (fun vs H Q E h => by first | (obtain ⟨rfl, _⟩ := h; rfl) | (obtain ⟨_, rfl, _⟩ := h; rfl) | (obtain ⟨_, _, rfl, _⟩ := h; rfl) | (obtain ⟨_, _, _, rfl, _⟩ := h; rfl) | (obtain ⟨_, _, _, _, rfl, _⟩ := h; rfl) | (obtain ⟨_, _, _, _, _, rfl, _⟩ := h; rfl) | (obtain ⟨_, _, _, _, _, _, rfl, _⟩ := h; rfl) | (obtain ⟨_, _, _, _, _, _, _, rfl, _⟩ := h; rfl) | (obtain ⟨_, _, _, _, _, _, _, _, rfl, _⟩ := h; rfl) | (obtain ⟨_, _, _, _, _, _, _, _, _, rfl, _⟩ := h; rfl) | (obtain ⟨_, _, _, _, _, _, _, _, _, _, rfl, _⟩ := h; rfl) | (obtain ⟨_, _, _, _, _, _, _, _, _, _, _, rfl, _⟩ := h; rfl) | (obtain ⟨_, _, _, _, _, _, _, _, _, _, _, _, rfl, _⟩ := h; rfl) | (obtain ⟨_, _, _, _, _, _, _, _, _, _, _, _, _, rfl, _⟩ := h; rfl) | (obtain ⟨_, _, _, _, _, _, _, _, _, _, _, _, _, _, rfl, _⟩ := h; rfl) | (obtain ⟨_, _, _, _, _, _, _, _, _, _, _, _, _, _, _, rfl, _⟩ := h; rfl) | (obtain ⟨_, _, _, _, _, _, _, _, _, _, _, _, _, _, _, _, rfl, _⟩ := h; rfl) | (obtain ⟨_, _, _, _, _, _, _, _, _, _, _, _, _, _, _, _, _, rfl, _⟩ := h; rfl)) (fun cdv A outer s H vs Q E hr h => ?_)
  · have hu := hu_of hr
    obtain ⟨a, rfl, hs, q⟩ := h
    refine ⟨_, PSs.nox (pss_cons (ps_set (i := 1) sc__law_parts.nd rfl (.inr rfl) (Kr.pe_cl h__law_pick (hr.mono (by decide)) (pa_cons (pv 0) (pa_cons (pe_lst (pa_cons (pe_op op_add pe_int (Kr.pe_cl h__law_draw (hr.mono (by decide)) (pa_cons (pv 0) (pa_cons pe_int pa_nil)))) (pa_cons (pe_op op_add pe_int (Kr.pe_cl h__law_draw (hr.mono (by decide)) (pa_cons (pv 0) (pa_cons pe_int pa_nil)))) (pa_cons pe_int pa_nil)))) pa_nil)))) (pss_cons (ps_setLc (i := 2) (own := [("k", 6)]) rfl sc__law_parts.nd rfl rfl (sw_true rfl rfl rfl (by decide +kernel)) (pi_range1 rfl n_range (pa_cons (pe_op op_add pe_int (Kr.pe_cl h__law_draw (hr.mono (by decide)) (pa_cons (pv 0) (pa_cons pe_int pa_nil)))) pa_nil)) (blkOk_by (own := [("k", 6)]) (N := N__law_parts) (sc := defScope s__law_parts) (by decide +kernel)) (fun _ _ _ _ _ => (pg_name (i := 6) sc__law_parts.nd rfl (.inl rfl))) (fun _ _ _ _ _ => pts_nil) (fun _ _ _ _ _ => (pe_op op_add pe_int (Kr.pe_cl h__law_draw (hr.mono (by decide)) (pa_cons (pv 0) (pa_cons (pv 1) pa_nil)))))) (pss_cons (ps_set (i := 3) sc__law_parts.nd rfl (.inl rfl) (pe_lst (pa_cons (pv 2) (pa_cons (pv 1) pa_nil)))) (pss_cons (ps_for PassesOwn.never rfl (pi_list (pe_lst (pa_cons (pe_tup (pa_cons pe_int (pa_cons pe_int pa_nil))) (pa_cons (pe_tup (pa_cons pe_int (pa_cons pe_int pa_nil))) (pa_cons (pe_tup (pa_cons pe_int (pa_cons pe_int pa_nil))) (pa_cons (pe_tup (pa_cons pe_int (pa_cons pe_int pa_nil))) pa_nil)))))) (pg_tup rfl (pgs_cons (pg_name (i := 4) sc__law_parts.nd rfl (.inl rfl)) (pgs_cons (pg_name (i := 5) sc__law_parts.nd rfl (.inl rfl)) pgs_nil))) (pss_one (ps_expr (pe_bm PySem.F.plainAttrs_list PySem.F.slot_list_append PySem.F.type_list_append mt_append (pv 3) (pa_cons (Kr.pe_cl h__law_pick (hr.mono (by decide)) (pa_cons (pv 0) (pa_cons (pe_lst (pa_cons (pv 4) (pa_cons (pv 5) (pa_cons (pe_op op_add (pv 4) (Kr.pe_cl h__law_draw (hr.mono (by decide)) (pa_cons (pv 0) (pa_cons (pe_op op_add (pe_op op_sub (pv 5) (pv 4)) pe_int) pa_nil)))) pa_nil)))) pa_nil))) pa_nil))))) (pss_one (ps_ret (pv 3))))))), ?_⟩
    rw [st__law_parts]
    walk_at "ss"
    refine ⟨_, _, rfl, hs, ⟨by decide, by decide⟩, fun d1 H1 l1 u1 D1 => ?_⟩
    walk_at "ss"
    refine ⟨_, _, rfl, D1.src, ⟨by decide, by decide⟩, fun d2 H2 l2 u2 D2' => ?_⟩
    have D2 := D1.trans D2'
    walk_at "ss"
    refine r_new fun p0 hp0 => ?_
    walk_at "ss"
    refine ⟨_, _, _, rfl, D2.src.new hp0, D2.src.ne hp0, SqL.of upd_same, by simp, by simp, fun x H3 hx D3' => ?_⟩
    have D3 := (D2.new hp0).trans D3'
    obtain ⟨room, rfl, hr1, hr64⟩ : ∃ room : Int, x = .int room ∧ 1 ≤ room ∧ room ≤ 64 := by
      simp only [List.mem_cons, List.not_mem_nil, or_false] at hx
      rcases hx with rfl | rfl | rfl
      · exact ⟨_, rfl, by omega, by omega⟩
      · exact ⟨_, rfl, by omega, by omega⟩
      · exact ⟨_, rfl, by omega, by omega⟩
    walk_at "ss"
    refine ⟨_, _, rfl, D3.src, ⟨by decide, by decide⟩, fun d4 H4 l4 u4 D4' => ?_⟩
    have D4 := D3.trans D4'
    walk_at "ss"
    intro D hD
    have hDa : D ≠ a := D4.src.ne hD
    refine lc_rangeS [some (.ref a), some (.int room), none, none, none, none, none] rfl (fun i H5 => ∃ ls : List Int, ls.length = i ∧ (∀ l ∈ ls, 1 ≤ l ∧ l ≤ room) ∧ H5 D = some (.lst (ls.map V.int)) ∧ Dr a H H5) ⟨[], rfl, by simp, upd_same, D4.new hD⟩ ?_ ?_
    · rintro i H5 hi ⟨ls, hl, hall, h5, D5⟩
      walk_at "ss"
      refine ⟨rfl, ?_⟩
      walk_at "ss"
      refine ⟨_, _, rfl, D5.src, ⟨by omega, by omega⟩, fun d6 H6 l6 u6 D6 => ?_⟩
      walk_at "ss"
      have h6 := D6.old _ _ hDa h5
      refine ⟨_, h6, by rw [List.length_map]; exact szl (by omega), ls ++ [1 + d6], by simp [hl], fun l hm => ?_, ?_, (D5.trans D6).mut (D4.free hD) hDa⟩
      · rcases List.mem_append.mp hm with hm | hm
        · exact hall l hm
        · rw [List.mem_singleton] at hm
          omega
      · rw [upd_same, List.map_append]
        rfl
    · rintro H5 ⟨ls, hl, hall, h5, D5⟩
      have hD0 : H D = none := D4.free hD
      walk_at "ss"
      refine r_new fun p hp => ?_
      have hpa : p ≠ a := D5.src.ne hp
      have hpD : D ≠ p := ne_of_none h5 hp
      have hp0 : H p = none := D5.free hp
      have D6 := D5.new (o := .lst [.ref D, .int room]) hp
      have h6 := upd_free (o := .lst [.ref D, .int room]) h5 hp
      have g6 : upd H5 p (.lst [.ref D, .int room]) p = some (.lst [.ref D, .int room]) := upd_same
      generalize upd H5 p (.lst [.ref D, .int room]) = H6 at D6 h6 g6 ⊢
      walk_at "ss"
      refine r_new fun t1 e1 => ?_
      walk_at "ss"
      refine r_new fun t2 e2 => ?_
      walk_at "ss"
      refine r_new fun t3 e3 => ?_
      walk_at "ss"
      refine r_new fun t4 e4 => ?_
      walk_at "ss"
      refine r_new fun L eL => ?_
      have D7 := ((((D6.new (o := .tup [.int 2, .int 8]) e1).new (o := .tup [.int 1, .int 16]) e2).new (o := .tup [.int 1, .int 40]) e3).new (o := .tup [.int 1, .int 100]) e4).new (o := .lst [.ref t1, .ref t2, .ref t3, .ref t4]) eL
      have k1 := upd_free (o := .lst [.ref t1, .ref t2, .ref t3, .ref t4]) (upd_free (o := .tup [.int 1, .int 100]) (upd_free (o := .tup [.int 1, .int 40]) (upd_free (o := .tup [.int 1, .int 16]) (upd_same (H := H6) (a := t1) (o := .tup [.int 2, .int 8])) e2) e3) e4) eL
      have k2 := upd_free (o := .lst [.ref t1, .ref t2, .ref t3, .ref t4]) (upd_free (o := .tup [.int 1, .int 100]) (upd_free (o := .tup [.int 1, .int 40]) (upd_same (H := upd H6 t1 (.tup [.int 2, .int 8])) (a := t2) (o := .tup [.int 1, .int 16])) e3) e4) eL
      have k3 := upd_free (o := .lst [.ref t1, .ref t2, .ref t3, .ref t4]) (upd_free (o := .tup [.int 1, .int 100]) (upd_same (H := upd (upd H6 t1 (.tup [.int 2, .int 8])) t2 (.tup [.int 1, .int 16])) (a := t3) (o := .tup [.int 1, .int 40])) e4) eL
      have k4 := upd_free (o := .lst [.ref t1, .ref t2, .ref t3, .ref t4]) (upd_same (H := upd (upd (upd H6 t1 (.tup [.int 2, .int 8])) t2 (.tup [.int 1, .int 16])) t3 (.tup [.int 1, .int 40])) (a := t4) (o := .tup [.int 1, .int 100])) eL
      have s7 : ∀ b o, H6 b = some o → upd (upd (upd (upd (upd H6 t1 (.tup [.int 2, .int 8])) t2 (.tup [.int 1, .int 16])) t3 (.tup [.int 1, .int 40])) t4 (.tup [.int 1, .int 100])) L (.lst [.ref t1, .ref t2, .ref t3, .ref t4]) b = some o := fun b o e => upd_free (upd_free (upd_free (upd_free (upd_free e e1) e2) e3) e4) eL
      have h7 := s7 _ _ h6
      have g7 := s7 _ _ g6
      have kL : upd (upd (upd (upd (upd H6 t1 (.tup [.int 2, .int 8])) t2 (.tup [.int 1, .int 16])) t3 (.tup [.int 1, .int 40])) t4 (.tup [.int 1, .int 100])) L (.lst [.ref t1, .ref t2, .ref t3, .ref t4]) L = some (.lst [.ref t1, .ref t2, .ref t3, .ref t4]) := upd_same
      generalize upd (upd (upd (upd (upd H6 t1 (.tup [.int 2, .int 8])) t2 (.tup [.int 1, .int 16])) t3 (.tup [.int 1, .int 40])) t4 (.tup [.int 1, .int 100])) L (.lst [.ref t1, .ref t2, .ref t3, .ref t4]) = H7 at D7 k1 k2 k3 k4 h7 g7 kL ⊢
      have hLa : L ≠ a := D7.src.ne_lst4 kL
      have hLp : L ≠ p := ne_of kL g7 (by intro z; cases z)
      walk_at "ss"
      refine r_forL (xs := [.ref t1, .ref t2, .ref t3, .ref t4]) (fun i σ H' => ∃ (y4 y5 : Option V) (fs : List Int), σ = [some (.ref a), some (.int room), some (.ref D), some (.ref p), y4, y5, none] ∧ fs.length = i ∧ (∀ j v, fs[j]? = some v → Bd j v) ∧
        H' p = some (.lst ([.ref D, .int room] ++ fs.map V.int)) ∧ H' D = some (.lst (ls.map V.int)) ∧ H' L = some (.lst [.ref t1, .ref t2, .ref t3, .ref t4]) ∧
        H' t1 = some (.tup [.int 2, .int 8]) ∧ H' t2 = some (.tup [.int 1, .int 16]) ∧ H' t3 = some (.tup [.int 1, .int 40]) ∧ H' t4 = some (.tup [.int 1, .int 100]) ∧ Dr a H H')
        ⟨_, _, [], rfl, rfl, by simp, g7, h7, kL, k1, k2, k3, k4, D7⟩ (fun i σ H' _ ⟨_, _, _, _, _, _, _, _, w, _⟩ => SqL.of w) ?_ ?_
      · rintro i x σ H8 hx ⟨y4, y5, fs, rfl, hf, hb, w1, w2, w3, w4, w5, w6, w7, D8⟩
        obtain ⟨t, lo, hi, rfl, ht, hlo, hhi, hbd⟩ : ∃ (t : Addr) (lo hi : Int), x = .ref t ∧ H8 t = some (.tup [.int lo, .int hi]) ∧ lo < hi ∧ hi ≤ 100 ∧ 0 < lo ∧ ∀ v, lo ≤ v → v ≤ hi → Bd i v := by
          rcases i with _ | _ | _ | _ | i
          · cases hx
            exact ⟨_, 2, 8, rfl, w4, by decide, by decide, by decide, fun v a b => ⟨a, b⟩⟩
          · cases hx
            exact ⟨_, 1, 16, rfl, w5, by decide, by decide, by decide, fun v a b => ⟨a, b⟩⟩
          · cases hx
            exact ⟨_, 1, 40, rfl, w6, by decide, by decide, by decide, fun v a b => ⟨a, b⟩⟩
          · cases hx
            exact ⟨_, 1, 100, rfl, w7, by decide, by decide, by decide, fun v a b => ⟨a, b⟩⟩
          · cases hx
        obtain ⟨hlo0, hbd⟩ := hbd
        walk_at "ss"
        refine ⟨_, _, rfl, D8.src, ⟨by omega, by omega⟩, fun d9 H9 l9 u9 D9 => ?_⟩
        walk_at "ss"
        refine r_new fun m hm => ?_
        walk_at "ss"
        refine ⟨_, _, _, rfl, D9.src.new hm, D9.src.ne hm, SqL.of upd_same, by simp, by simp, fun y H10 hy D10' => ?_⟩
        have D10 := (D9.new (o := .lst [.int lo, .int hi, .int (lo + d9)]) hm).trans D10'
        obtain ⟨v, rfl, hv1, hv2⟩ : ∃ v : Int, y = .int v ∧ lo ≤ v ∧ v ≤ hi := by
          simp only [List.mem_cons, List.not_mem_nil, or_false] at hy
          rcases hy with rfl | rfl | rfl
          · exact ⟨_, rfl, by omega, by omega⟩
          · exact ⟨_, rfl, by omega, by omega⟩
          · exact ⟨_, rfl, by omega, by omega⟩
        have n1 := D8.src.ne_tup w4
        have n2 := D8.src.ne_tup w5
        have n3 := D8.src.ne_tup w6
        have n4 := D8.src.ne_tup w7
        walk_at "ss"
        have hi4 : i < 4 := by
          rcases Nat.lt_or_ge i 4 with z | z
          · exact z
          · rw [List.getElem?_eq_none (by simpa using z)] at hx
            cases hx
        refine r_append (D10.old _ _ hpa w1) (by simp; omega) ?_
        walk_at "ss"
        have tp : ∀ {t : Addr} {xs : List V}, H8 t = some (.tup xs) → t ≠ p := fun h => ne_of h w1 (by intro z; cases z)
        refine ⟨_, _, fs ++ [v], rfl, by simp [hf], fun j u hj => ?_, ?_, ?_, ?_, ?_, ?_, ?_, ?_, (D8.trans D10).mut hp0 hpa⟩
        · rw [List.getElem?_append] at hj
          split at hj
          · exact hb j u hj
          · rename_i hge
            have e : j = i := by
              rcases Nat.lt_or_ge (j - fs.length) 1 with z | z
              · omega
              · rw [List.getElem?_eq_none (by simpa using z)] at hj
                cases hj
            subst e
            rw [hf, Nat.sub_self] at hj
            cases hj
            exact hbd _ hv1 hv2
        · rw [upd_same, List.map_append, List.append_assoc]
          rfl
        · rw [upd_ne hpD]
          exact D10.old _ _ hDa w2
        · rw [upd_ne hLp]
          exact D10.old _ _ hLa w3
        · rw [upd_ne (tp w4)]
          exact D10.old _ _ n1 w4
        · rw [upd_ne (tp w5)]
          exact D10.old _ _ n2 w5
        · rw [upd_ne (tp w6)]
          exact D10.old _ _ n3 w6
        · rw [upd_ne (tp w7)]
          exact D10.old _ _ n4 w7
      · rintro σ H8 ⟨y4, y5, fs, rfl, hf, hb, w1, w2, w3, w4, w5, w6, w7, D8⟩
        rcases fs with _ | ⟨fo, _ | ⟨re, _ | ⟨ev, _ | ⟨ke, _ | ⟨z, r⟩⟩⟩⟩⟩
        · cases hf
        · cases hf
        · cases hf
        · cases hf
        · walk_at "ss"
          exact q p D ls room fo re ev ke H8 D8 hp0 hD0 (Ne.symm hpD) w1 w2 ⟨by omega, by omega, hall, hr1, hr64, hb 0 _ rfl, hb 1 _ rfl, hb 2 _ rfl, hb 3 _ rfl⟩
        · simp at hf
theorem ok__law_settings {P : Program} {w : World} {K : PySem.W.Frag} {mg : Str → Option Value} {base : Heap} {f : Addr} {fd : FuncData} (F : FunD K "_law_settings" "_law_settings" (defArgs s__law_settings) (defBody s__law_settings) (defScope s__law_settings) [] [] f fd) (mk_Settings : Kr.MkK P w K mg base CX0 4 "Settings" (He.ga K "Settings") ["self", "lengths", "size", "fanout", "records", "every", "keep"] 3 ["fanout", "records", "every", "keep"] (sp_Settings___init__ K)) : FnOk P w K mg base CX0 6 f fd ["p"] (sp__law_settings K) := by
  refine F.ok sc__law_settings (fun vs H Q E h => by first | (obtain ⟨rfl, _⟩ := h; rfl) | (obtain ⟨_, rfl, _⟩ := h; rfl) | (obtain ⟨_, _, rfl, _⟩ := h; rfl) | (obtain ⟨_, _, _, rfl, _⟩ := h; rfl) | (obtain ⟨_, _, _, _, rfl, _⟩ := h; rfl) | (obtain ⟨_, _, _, _, _, rfl, _⟩ := h; rfl) | (obtain ⟨_, _, _, _, _, _, rfl, _⟩ := h; rfl) | (obtain ⟨_, _, _, _, _, _, _, rfl, _⟩ := h; rfl) | (obtain ⟨_, _, _, _, _, _, _, _, rfl, _⟩ := h; rfl) | (obtain ⟨_, _, _, _, _, _, _, _, _, rfl, _⟩ := h; rfl) | (obtain ⟨_, _, _, _, _, _, _, _, _, _, rfl, _⟩ := h; rfl) | (obtain ⟨_, _, _, _, _, _, _, _, _, _, _, rfl, _⟩ := h; rfl) | (obtain ⟨_, _, _, _, _, _, _, _, _, _, _, _, rfl, _⟩ := h; rfl) | (obtain ⟨_, _, _, _, _, _, _, _, _, _, _, _, _, rfl, _⟩ := h; rfl) | (obtain ⟨_, _, _, _, _, _, _, _, _, _, _, _, _, _, rfl, _⟩ := h; rfl) | (obtain ⟨_, _, _, _, _, _, _, _, _, _, _, _, _, _, _, rfl, _⟩ := h; rfl) | (obtain ⟨_, _, _, _, _, _, _, _, _, _, _, _, _, _, _, _, rfl, _⟩ := h; rfl) | (obtain ⟨_, _, _, _, _, _, _, _, _, _, _, _, _, _, _, _, _, rfl, _⟩ := h; rfl)) (fun cdv A outer s H vs Q E hr h => ?_)
  · have hu := hu_of hr
    obtain ⟨p, q, ls, sz, fo, re, ev, ke, rfl, hp, hq, ok, k⟩ := h
    refine ⟨_, PSs.nox (pss_one (ps_ret (Kr.pe_mkE mk_Settings (hr.mono (by decide)) pass0 (pa_cons (pe_ix ix_list (pv 0) pe_int (fun _ _ => rfl)) (pa_cons (pe_ix ix_list (pv 0) pe_int (fun _ _ => rfl)) pa_nil)) (pk_cons (pe_ix ix_list (pv 0) pe_int (fun _ _ => rfl)) (pk_cons (pe_ix ix_list (pv 0) pe_int (fun _ _ => rfl)) (pk_cons (pe_ix ix_list (pv 0) pe_int (fun _ _ => rfl)) (pk_cons (pe_ix ix_list (pv 0) pe_int (fun _ _ => rfl)) pk_nil))))))), ?_⟩
    rw [st__law_settings]
    walk_at "ss"
    refine ⟨rfl, rfl, fun x dx hx hdx ne => ?_⟩
    have s1 : Same H (upd (upd H dx (.own x)) x (.ins (He.ga K "Settings") dx [])) := (same_new hdx).trans (same_new (by rw [upd_ne ne.symm]; exact hx))
    refine ⟨x, dx, q, ls, sz, fo, re, ev, ke, rfl, upd_same, s1 _ _ hq, ok, fun t H' s2 h1 h2 => ⟨rfl, ?_⟩⟩
    exact k x H' (fun b o e => s2 b o (ne_of_none e hx) (s1 b o e)) hx ⟨dx, t, h1, h2⟩

theorem lt__law_said {P : Program} {w : World} {K : PySem.W.Frag} {mg : Str → Option Value} {base : Heap} {f : Addr} {fd : FuncData} (F : FunD K "_law_said" "_law_said" (defArgs s__law_said) (defBody s__law_said) (defScope s__law_said) [] [] f fd) (hm : mg "_law_said" = some (.ref f)) (hb : L2.Binds K fd ["ask"] []) (k_InvalidNumber : mg "InvalidNumber" = some (.ref (He.ga K "InvalidNumber"))) (k_InvalidPage : mg "InvalidPage" = some (.ref (He.ga K "InvalidPage"))) (k_InvalidRow : mg "InvalidRow" = some (.ref (He.ga K "InvalidRow"))) (k_StoreError : mg "StoreError" = some (.ref (He.ga K "StoreError"))) (n_isinstance : mg "isinstance" = none) (n_repr : mg "repr" = none) (x_em_InvalidPage : PySem.W.exmOne K (.ref (He.ga K "InvalidPage")) (.ref (He.ga K "StoreError")) = some true) (x_et_InvalidPage : PySem.W.KrErrT K (He.ga K "InvalidPage")) (x_k1_InvalidPage : PySem.W.kitOne K (.ref (He.ga K "InvalidPage")) (.ref (He.ga K "InvalidPage")) = some true) (x_k2_InvalidPage : PySem.W.kitOne K (.ref (He.ga K "InvalidPage")) (.ref (He.ga K "InvalidRow")) = some false) (x_k3_InvalidPage : PySem.W.kitOne K (.ref (He.ga K "InvalidPage")) (.ref (He.ga K "InvalidNumber")) = some false) (x_no_InvalidPage : PySem.W.findIn K (.ref (He.ga K "InvalidPage")) "page" = some none) (x_sys : (K.lookup sysModules).isSome = true) (x_xf_InvalidPage : XfC K (He.ga K "InvalidPage")) : KrG.LamHG P w K mg base "_law_said" (tt__law_said K) := by
  refine ⟨_, f, fd, _, _, _, N__law_said, hm, F, hb, sc__law_said, rfl, by first | exact .inl rfl | exact .inr (.inl rfl), by decide, by decide, ?_⟩
  rintro X cdv rfl rfl rfl rfl rfl q f co s0 H Q tl hgd hr act hco h
  refine ⟨_, (pss_cons (ps_try_as (i := 1) rfl rfl sc__law_said.nd rfl rfl ⟨rfl, by decide, .inl k_StoreError⟩ LamX.takes0 (fun W pn xe tk _ => (pss_one (ps_expr (act W pn xe _ _ tk)))) (fun a oe cls d pn hz hf => (pss_cons (ps_if (PW.pt (pw_or (pt_not (pt_val (pe_callB (id := "isinstance") (KrE.c_isD x_et_InvalidPage hz hf) rfl n_isinstance (by decide +kernel) (pa_cons (pv 1) (pa_cons (Kr.pe_gcls k_InvalidPage) pa_nil))))) (pw_or (pt_val (pe_callB (id := "isinstance") (KrE.c_isD x_et_InvalidPage hz hf) rfl n_isinstance (by decide +kernel) (pa_cons (pv 1) (pa_cons (Kr.pe_gcls k_InvalidRow) pa_nil)))) (pw_or1 (pt_val (pe_callB (id := "isinstance") (KrE.c_isD x_et_InvalidPage hz hf) rfl n_isinstance (by decide +kernel) (pa_cons (pv 1) (pa_cons (Kr.pe_gcls k_InvalidNumber) pa_nil)))))))) (pss_one (ps_ret pe_str)) pss_nil) (pss_one (ps_ret (pe_callB (id := "repr") (KrG.c_repr hgd hr.units x_sys) rfl n_repr (by decide +kernel) (pa_cons (pe_xf x_xf_InvalidPage x_no_InvalidPage hz hf (pv 1)) pa_nil))))))) (pss_one (ps_ret pe_str))), ?_⟩
  rw [st__law_said]
  walk_at "ss"
  refine ⟨rfl, hco, _, fun cls d H' hz => ?_, h⟩
  obtain ⟨dd, v, rfl, rfl, e1, q1⟩ := hz
  refine ⟨true, x_em_InvalidPage, fun _ a ha => ?_, fun z => nomatch z⟩
  dsimp only [List.set]
  walk_at "ss"
  refine KrE.r_isD e1 x_k1_InvalidPage ?_
  walk_at "ss"
  refine KrE.r_isD e1 x_k2_InvalidPage ?_
  walk_at "ss"
  refine KrE.r_isD e1 x_k3_InvalidPage ?_
  walk_at "ss"
  refine KrE.r_tXf ?_
  walk_at "ss"
  refine KrE.r_xf e1 rfl ?_
  walk_at "ss"
  exact q1
theorem ok_is_from__r {P : Program} {w : World} {K : PySem.W.Frag} {mg : Str → Option Value} {base : Heap} {f : Addr} {fd : FuncData} (F : FunD K "is_from" "is_from" (defArgs s_is_from__r) (defBody s_is_from__r) (defScope s_is_from__r) [] [] f fd) (n_bool : mg "bool" = none) (n_int : mg "int" = none) (n_isinstance : mg "isinstance" = none) : FnOk P w K mg base CX0 1 f fd ["number", "least"] (sp_is_from__r K) := by
  refine F.ok sc_is_from__r (fun vs H Q E h => by first | (obtain ⟨rfl, _⟩ := h; rfl) | (obtain ⟨_, rfl, _⟩ := h; rfl) | (obtain ⟨_, _, rfl, _⟩ := h; rfl) | (obtain ⟨_, _, _, rfl, _⟩ := h; rfl) | (obtain ⟨_, _, _, _, rfl, _⟩ := h; rfl) | (obtain ⟨_, _, _, _, _, rfl, _⟩ := h; rfl) | (obtain ⟨_, _, _, _, _, _, rfl, _⟩ := h; rfl) | (obtain ⟨_, _, _, _, _, _, _, rfl, _⟩ := h; rfl) | (obtain ⟨_, _, _, _, _, _, _, _, rfl, _⟩ := h; rfl) | (obtain ⟨_, _, _, _, _, _, _, _, _, rfl, _⟩ := h; rfl) | (obtain ⟨_, _, _, _, _, _, _, _, _, _, rfl, _⟩ := h; rfl) | (obtain ⟨_, _, _, _, _, _, _, _, _, _, _, rfl, _⟩ := h; rfl) | (obtain ⟨_, _, _, _, _, _, _, _, _, _, _, _, rfl, _⟩ := h; rfl) | (obtain ⟨_, _, _, _, _, _, _, _, _, _, _, _, _, rfl, _⟩ := h; rfl) | (obtain ⟨_, _, _, _, _, _, _, _, _, _, _, _, _, _, rfl, _⟩ := h; rfl) | (obtain ⟨_, _, _, _, _, _, _, _, _, _, _, _, _, _, _, rfl, _⟩ := h; rfl) | (obtain ⟨_, _, _, _, _, _, _, _, _, _, _, _, _, _, _, _, rfl, _⟩ := h; rfl) | (obtain ⟨_, _, _, _, _, _, _, _, _, _, _, _, _, _, _, _, _, rfl, _⟩ := h; rfl)) (fun cdv A outer s H vs Q E hr h => ?_)
  · have hu := hu_of hr
    obtain ⟨v, a, r, rfl, h, q⟩ := h
    refine ⟨_, PSs.nox (pss_one (ps_ret (pe_and (pe_callB (id := "isinstance") call_isi rfl n_isinstance (by decide +kernel) (pa_cons (pv 0) (pa_cons (Kr.pe_bty (T := "int") n_int) pa_nil))) (pe_and (pe_not (pe_callB (id := "isinstance") call_isi rfl n_isinstance (by decide +kernel) (pa_cons (pv 0) (pa_cons (Kr.pe_bty (T := "bool") n_bool) pa_nil)))) (pe_one (pe_cmpR op_le (pv 1) (pv 0) (nomark _))))))), ?_⟩
    rw [st_is_from__r]
    walk_at "ss"
    rcases h with ⟨n, rfl, rfl⟩ | ⟨⟨k, rfl⟩ | ⟨T, ty, kt⟩, rfl⟩
    · refine r_isiT (.base (.int n)) (b := true) (by decide +kernel) ?_
      walk_at "ss"
      refine r_isiT (.base (.int n)) (b := false) (by decide +kernel) ?_
      walk_at "ss"
      exact q
    · refine r_isiT (.base (.bl k)) (b := true) (by decide +kernel) ?_
      walk_at "ss"
      refine r_isiT (.base (.bl k)) (b := true) (by decide +kernel) ?_
      walk_at "ss"
      exact q
    · refine r_isiT ty kt ?_
      walk_at "ss"
      exact q
theorem ok_is_within__r {P : Program} {w : World} {K : PySem.W.Frag} {mg : Str → Option Value} {base : Heap} {f : Addr} {fd : FuncData} (F : FunD K "is_within" "is_within" (defArgs s_is_within__r) (defBody s_is_within__r) (defScope s_is_within__r) [] [] f fd) (h_is_from__r : Kr.FnH P w K mg base CX0 1 "is_from" ["number", "least"] (sp_is_from__r K)) : FnOk P w K mg base CX0 2 f fd ["number", "least", "most"] (sp_is_within__r K) := by
  refine F.ok sc_is_within__r (fun vs H Q E h => by first | (obtain ⟨rfl, _⟩ := h; rfl) | (obtain ⟨_, rfl, _⟩ := h; rfl) | (obtain ⟨_, _, rfl, _⟩ := h; rfl) | (obtain ⟨_, _, _, rfl, _⟩ := h; rfl) | (obtain ⟨_, _, _, _, rfl, _⟩ := h; rfl) | (obtain ⟨_, _, _, _, _, rfl, _⟩ := h; rfl) | (obtain ⟨_, _, _, _, _, _, rfl, _⟩ := h; rfl) | (obtain ⟨_, _, _, _, _, _, _, rfl, _⟩ := h; rfl) | (obtain ⟨_, _, _, _, _, _, _, _, rfl, _⟩ := h; rfl) | (obtain ⟨_, _, _, _, _, _, _, _, _, rfl, _⟩ := h; rfl) | (obtain ⟨_, _, _, _, _, _, _, _, _, _, rfl, _⟩ := h; rfl) | (obtain ⟨_, _, _, _, _, _, _, _, _, _, _, rfl, _⟩ := h; rfl) | (obtain ⟨_, _, _, _, _, _, _, _, _, _, _, _, rfl, _⟩ := h; rfl) | (obtain ⟨_, _, _, _, _, _, _, _, _, _, _, _, _, rfl, _⟩ := h; rfl) | (obtain ⟨_, _, _, _, _, _, _, _, _, _, _, _, _, _, rfl, _⟩ := h; rfl) | (obtain ⟨_, _, _, _, _, _, _, _, _, _, _, _, _, _, _, rfl, _⟩ := h; rfl) | (obtain ⟨_, _, _, _, _, _, _, _, _, _, _, _, _, _, _, _, rfl, _⟩ := h; rfl) | (obtain ⟨_, _, _, _, _, _, _, _, _, _, _, _, _, _, _, _, _, rfl, _⟩ := h; rfl)) (fun cdv A outer s H vs Q E hr h => ?_)
  · have hu := hu_of hr
    obtain ⟨v, a, b, r, rfl, h, q⟩ := h
    refine ⟨_, PSs.nox (pss_one (ps_ret (pe_and (Kr.pe_cl h_is_from__r (hr.mono (by decide)) (pa_cons (pv 0) (pa_cons (pv 1) pa_nil))) (pe_one (pe_cmpR op_le (pv 0) (pv 2) (nomark _)))))), ?_⟩
    rw [st_is_within__r]
    walk_at "ss"
    rcases h with ⟨n, rfl, rfl⟩ | ⟨no, rfl⟩
    · refine ⟨_, _, _, rfl, .inl ⟨n, rfl, rfl⟩, ?_⟩
      walk_at "ss"
      refine r_dec (fun h1 => ?_) fun h1 => ?_
      · walk_at "ss"
        have e : decide (n ≤ b) = decide (a ≤ n ∧ n ≤ b) := by simp [h1]
        rw [e]
        exact q
      · have e : false = decide (a ≤ n ∧ n ≤ b) := by simp [h1]
        rw [e]
        exact q
    · refine ⟨_, _, _, rfl, .inr ⟨no, rfl⟩, ?_⟩
      walk_at "ss"
      exact q
theorem ok_Packing__check_page__r {P : Program} {w : World} {K : PySem.W.Frag} {mg : Str → Option Value} {base : Heap} {f : Addr} {fd : FuncData} (F : FunD K "_check_page" "Packing._check_page" (defArgs s_Packing__check_page__r) (defBody s_Packing__check_page__r) (defScope s_Packing__check_page__r) [] [] f fd) (a_Packing__last : NoAttr K (He.ga K "Packing") "_last") (c_Packing : Cls K (He.ga K "Packing")) (er_InvalidPage : KrE.ErH P w K mg base CX0 1 "InvalidPage" (He.ga K "InvalidPage") ["self", "page"] (sp_InvalidPage___init__ K)) (h_is_within__r : Kr.FnH P w K mg base CX0 2 "is_within" ["number", "least", "most"] (sp_is_within__r K)) : FnOk P w K mg base (L2.CX P w) 3 f fd ["self", "page"] (sp_Packing__check_page__r K) := by
  refine F.ok sc_Packing__check_page__r (fun vs H Q E h => by first | (obtain ⟨rfl, _⟩ := h; rfl) | (obtain ⟨_, rfl, _⟩ := h; rfl) | (obtain ⟨_, _, rfl, _⟩ := h; rfl) | (obtain ⟨_, _, _, rfl, _⟩ := h; rfl) | (obtain ⟨_, _, _, _, rfl, _⟩ := h; rfl) | (obtain ⟨_, _, _, _, _, rfl, _⟩ := h; rfl) | (obtain ⟨_, _, _, _, _, _, rfl, _⟩ := h; rfl) | (obtain ⟨_, _, _, _, _, _, _, rfl, _⟩ := h; rfl) | (obtain ⟨_, _, _, _, _, _, _, _, rfl, _⟩ := h; rfl) | (obtain ⟨_, _, _, _, _, _, _, _, _, rfl, _⟩ := h; rfl) | (obtain ⟨_, _, _, _, _, _, _, _, _, _, rfl, _⟩ := h; rfl) | (obtain ⟨_, _, _, _, _, _, _, _, _, _, _, rfl, _⟩ := h; rfl) | (obtain ⟨_, _, _, _, _, _, _, _, _, _, _, _, rfl, _⟩ := h; rfl) | (obtain ⟨_, _, _, _, _, _, _, _, _, _, _, _, _, rfl, _⟩ := h; rfl) | (obtain ⟨_, _, _, _, _, _, _, _, _, _, _, _, _, _, rfl, _⟩ := h; rfl) | (obtain ⟨_, _, _, _, _, _, _, _, _, _, _, _, _, _, _, rfl, _⟩ := h; rfl) | (obtain ⟨_, _, _, _, _, _, _, _, _, _, _, _, _, _, _, _, rfl, _⟩ := h; rfl) | (obtain ⟨_, _, _, _, _, _, _, _, _, _, _, _, _, _, _, _, _, rfl, _⟩ := h; rfl)) (fun cdv A outer s H vs Q E hr h => ?_)
  · have hu := hu_of hr
    obtain ⟨a, s1, ls, sz, v, rfl, ⟨dx, lp, j, k, last, F, on, dy, t, fo, re, ev, ke, hs, ht⟩, h⟩ := h
    have cc := c_Packing
    have n1 := a_Packing__last
    have h0 := F.at_
    refine ⟨_, (pss_one (ps_if (pt_not (pt_val (Kr.pe_cl h_is_within__r (hr.mono (by decide)) (pa_cons (pv 1) (pa_cons pe_int (pa_cons (pe_fld (pv 0) rfl) pa_nil)))))) (pss_one (ps_raise rfl (takes_of rfl rfl rfl rfl) (KrE.pmk_mk er_InvalidPage (hr.mono (by decide)) (pa_cons (pv 1) pa_nil)))) pss_nil)), ?_⟩
    rw [st_Packing__check_page__r]
    walk_at "ss"
    rcases h with ⟨⟨m, r, rfl, om, h30⟩, q⟩ | ⟨no, er⟩
    · have le := Pk.On.mono F.ok.pk om on (by omega)
      refine ⟨_, _, _, true, rfl, .inl ⟨_, rfl, (decide_eq_true ⟨by omega, by omega⟩).symm⟩, ?_⟩
      walk_at "ss"
      exact q
    · refine ⟨v, _, _, false, rfl, no _ on, ?_⟩
      walk_at "ss"
      refine KrE.r_mkE ?_
      walk_at "ss"
      exact rap_at er
theorem ok_Packing_units_on__r {P : Program} {w : World} {K : PySem.W.Frag} {mg : Str → Option Value} {base : Heap} {f : Addr} {fd : FuncData} (F : FunD K "units_on" "Packing.units_on" (defArgs s_Packing_units_on__r) (defBody s_Packing_units_on__r) (defScope s_Packing_units_on__r) [] [] f fd) (c_Packing : Cls K (He.ga K "Packing")) (m_Packing__check_page__r : Kr.MtH P w K mg base (L2.CX P w) 3 (He.ga K "Packing") "_check_page" ["self", "page"] (sp_Packing__check_page__r K)) (m_Packing__units_between : Kr.MtH P w K mg base CX0 2 (He.ga K "Packing") "_units_between" ["self", "row", "after"] (sp_Packing__units_between K)) (m_Packing_start_of : Kr.MtH P w K mg base CX0 1 (He.ga K "Packing") "start_of" ["self", "page"] (sp_Packing_start_of K)) : FnOk P w K mg base (L2.CX P w) 4 f fd ["self", "page"] (sp_Packing_units_on__r K) := by
  refine F.ok sc_Packing_units_on__r (fun vs H Q E h => by first | (obtain ⟨rfl, _⟩ := h; rfl) | (obtain ⟨_, rfl, _⟩ := h; rfl) | (obtain ⟨_, _, rfl, _⟩ := h; rfl) | (obtain ⟨_, _, _, rfl, _⟩ := h; rfl) | (obtain ⟨_, _, _, _, rfl, _⟩ := h; rfl) | (obtain ⟨_, _, _, _, _, rfl, _⟩ := h; rfl) | (obtain ⟨_, _, _, _, _, _, rfl, _⟩ := h; rfl) | (obtain ⟨_, _, _, _, _, _, _, rfl, _⟩ := h; rfl) | (obtain ⟨_, _, _, _, _, _, _, _, rfl, _⟩ := h; rfl) | (obtain ⟨_, _, _, _, _, _, _, _, _, rfl, _⟩ := h; rfl) | (obtain ⟨_, _, _, _, _, _, _, _, _, _, rfl, _⟩ := h; rfl) | (obtain ⟨_, _, _, _, _, _, _, _, _, _, _, rfl, _⟩ := h; rfl) | (obtain ⟨_, _, _, _, _, _, _, _, _, _, _, _, rfl, _⟩ := h; rfl) | (obtain ⟨_, _, _, _, _, _, _, _, _, _, _, _, _, rfl, _⟩ := h; rfl) | (obtain ⟨_, _, _, _, _, _, _, _, _, _, _, _, _, _, rfl, _⟩ := h; rfl) | (obtain ⟨_, _, _, _, _, _, _, _, _, _, _, _, _, _, _, rfl, _⟩ := h; rfl) | (obtain ⟨_, _, _, _, _, _, _, _, _, _, _, _, _, _, _, _, rfl, _⟩ := h; rfl) | (obtain ⟨_, _, _, _, _, _, _, _, _, _, _, _, _, _, _, _, _, rfl, _⟩ := h; rfl)) (fun cdv A outer s H vs Q E hr h => ?_)
  · have hu := hu_of hr
    obtain ⟨a, s1, ls, sz, v, rfl, PA, h⟩ := h
    obtain ⟨dx, lp, j, k, last, F, on, -⟩ := id PA
    have h0 := F.at_
    have o := F.ok.pk
    have r64 := F.ok.r64
    refine ⟨_, (pss_cons (ps_expr (KrL.pe_mtE m_Packing__check_page__r c_Packing (hr.mono (by decide)) (passes_call (takes_of rfl rfl rfl rfl) (fun _ _ _ _ h => h)) (pv 0) (pa_cons (pv 1) pa_nil))) (pss_one (ps_ret (Kr.pe_mt m_Packing__units_between c_Packing (hr.mono (by decide)) (pv 0) (pa_cons (Kr.pe_mt m_Packing_start_of c_Packing (hr.mono (by decide)) (pv 0) (pa_cons (pv 1) pa_nil)) (pa_cons (Kr.pe_mt m_Packing_start_of c_Packing (hr.mono (by decide)) (pv 0) (pa_cons (pe_op op_add (pv 1) pe_int) pa_nil)) pa_nil)))))), ?_⟩
    rw [st_Packing_units_on__r]
    walk_at "ss"
    rcases h with ⟨⟨m, r, rfl, om, h30⟩, q⟩ | ⟨no, er⟩
    · have mle := Pk.st_ge o m
      have cle := Pk.cnt_le o (Pk.st ls sz m)
      have m1 := om.1
      have em : ((m : Int) + 1) = ((m + 1 : Nat) : Int) := by push_cast; rfl
      refine ⟨a, s1, ls, sz, _, rfl, PA, .inl ⟨⟨m, r, rfl, om, h30⟩, ?_⟩⟩
      walk_at "ss"
      refine ⟨a, s1, ls, sz, m, rfl, PA, by omega, ?_⟩
      walk_at "ss"
      refine ⟨a, s1, ls, sz, m + 1, by rw [em], PA, by omega, ?_⟩
      walk_at "ss"
      exact ⟨a, s1, ls, sz, Pk.st ls sz m, Pk.cnt ls sz (Pk.st ls sz m), rfl, PA, by omega, fun H' s' => q _ _ s'⟩
    · exact ⟨a, s1, ls, sz, v, rfl, PA, .inr ⟨no, er⟩⟩
theorem ok_Packing_rows_on__r {P : Program} {w : World} {K : PySem.W.Frag} {mg : Str → Option Value} {base : Heap} {f : Addr} {fd : FuncData} (F : FunD K "rows_on" "Packing.rows_on" (defArgs s_Packing_rows_on__r) (defBody s_Packing_rows_on__r) (defScope s_Packing_rows_on__r) [] [] f fd) (c_Packing : Cls K (He.ga K "Packing")) (m_Packing__check_page__r : Kr.MtH P w K mg base (L2.CX P w) 3 (He.ga K "Packing") "_check_page" ["self", "page"] (sp_Packing__check_page__r K)) (m_Packing_start_of : Kr.MtH P w K mg base CX0 1 (He.ga K "Packing") "start_of" ["self", "page"] (sp_Packing_start_of K)) : FnOk P w K mg base (L2.CX P w) 4 f fd ["self", "page"] (sp_Packing_rows_on__r K) := by
  refine F.ok sc_Packing_rows_on__r (fun vs H Q E h => by first | (obtain ⟨rfl, _⟩ := h; rfl) | (obtain ⟨_, rfl, _⟩ := h; rfl) | (obtain ⟨_, _, rfl, _⟩ := h; rfl) | (obtain ⟨_, _, _, rfl, _⟩ := h; rfl) | (obtain ⟨_, _, _, _, rfl, _⟩ := h; rfl) | (obtain ⟨_, _, _, _, _, rfl, _⟩ := h; rfl) | (obtain ⟨_, _, _, _, _, _, rfl, _⟩ := h; rfl) | (obtain ⟨_, _, _, _, _, _, _, rfl, _⟩ := h; rfl) | (obtain ⟨_, _, _, _, _, _, _, _, rfl, _⟩ := h; rfl) | (obtain ⟨_, _, _, _, _, _, _, _, _, rfl, _⟩ := h; rfl) | (obtain ⟨_, _, _, _, _, _, _, _, _, _, rfl, _⟩ := h; rfl) | (obtain ⟨_, _, _, _, _, _, _, _, _, _, _, rfl, _⟩ := h; rfl) | (obtain ⟨_, _, _, _, _, _, _, _, _, _, _, _, rfl, _⟩ := h; rfl) | (obtain ⟨_, _, _, _, _, _, _, _, _, _, _, _, _, rfl, _⟩ := h; rfl) | (obtain ⟨_, _, _, _, _, _, _, _, _, _, _, _, _, _, rfl, _⟩ := h; rfl) | (obtain ⟨_, _, _, _, _, _, _, _, _, _, _, _, _, _, _, rfl, _⟩ := h; rfl) | (obtain ⟨_, _, _, _, _, _, _, _, _, _, _, _, _, _, _, _, rfl, _⟩ := h; rfl) | (obtain ⟨_, _, _, _, _, _, _, _, _, _, _, _, _, _, _, _, _, rfl, _⟩ := h; rfl)) (fun cdv A outer s H vs Q E hr h => ?_)
  · have hu := hu_of hr
    obtain ⟨a, s1, ls, sz, v, rfl, PA, h⟩ := h
    obtain ⟨dx, lp, j, k, last, F, on, -⟩ := id PA
    have h0 := F.at_
    refine ⟨_, (pss_cons (ps_expr (KrL.pe_mtE m_Packing__check_page__r c_Packing (hr.mono (by decide)) (passes_call (takes_of rfl rfl rfl rfl) (fun _ _ _ _ h => h)) (pv 0) (pa_cons (pv 1) pa_nil))) (pss_one (ps_ret (pe_op op_sub (Kr.pe_mt m_Packing_start_of c_Packing (hr.mono (by decide)) (pv 0) (pa_cons (pe_op op_add (pv 1) pe_int) pa_nil)) (Kr.pe_mt m_Packing_start_of c_Packing (hr.mono (by decide)) (pv 0) (pa_cons (pv 1) pa_nil)))))), ?_⟩
    rw [st_Packing_rows_on__r]
    walk_at "ss"
    rcases h with ⟨⟨m, r, rfl, om, h30⟩, q⟩ | ⟨no, er⟩
    · have mle := Pk.st_ge F.ok.pk m
      have m1 := om.1
      have em : ((m : Int) + 1) = ((m + 1 : Nat) : Int) := by push_cast; rfl
      refine ⟨a, s1, ls, sz, _, rfl, PA, .inl ⟨⟨m, r, rfl, om, h30⟩, ?_⟩⟩
      walk_at "ss"
      refine ⟨a, s1, ls, sz, m + 1, by rw [em], PA, by omega, ?_⟩
      walk_at "ss"
      refine ⟨a, s1, ls, sz, m, rfl, PA, by omega, ?_⟩
      walk_at "ss"
      exact q _ _ fun _ _ e => e
    · exact ⟨a, s1, ls, sz, v, rfl, PA, .inr ⟨no, er⟩⟩
theorem ok_Packing_first_row__r {P : Program} {w : World} {K : PySem.W.Frag} {mg : Str → Option Value} {base : Heap} {f : Addr} {fd : FuncData} (F : FunD K "first_row" "Packing.first_row" (defArgs s_Packing_first_row__r) (defBody s_Packing_first_row__r) (defScope s_Packing_first_row__r) [] [] f fd) (c_Packing : Cls K (He.ga K "Packing")) (m_Packing__check_page__r : Kr.MtH P w K mg base (L2.CX P w) 3 (He.ga K "Packing") "_check_page" ["self", "page"] (sp_Packing__check_page__r K)) (m_Packing_start_of : Kr.MtH P w K mg base CX0 1 (He.ga K "Packing") "start_of" ["self", "page"] (sp_Packing_start_of K)) : FnOk P w K mg base (L2.CX P w) 4 f fd ["self", "page"] (sp_Packing_first_row__r K) := by
  refine F.ok sc_Packing_first_row__r (fun vs H Q E h => by first | (obtain ⟨rfl, _⟩ := h; rfl) | (obtain ⟨_, rfl, _⟩ := h; rfl) | (obtain ⟨_, _, rfl, _⟩ := h; rfl) | (obtain ⟨_, _, _, rfl, _⟩ := h; rfl) | (obtain ⟨_, _, _, _, rfl, _⟩ := h; rfl) | (obtain ⟨_, _, _, _, _, rfl, _⟩ := h; rfl) | (obtain ⟨_, _, _, _, _, _, rfl, _⟩ := h; rfl) | (obtain ⟨_, _, _, _, _, _, _, rfl, _⟩ := h; rfl) | (obtain ⟨_, _, _, _, _, _, _, _, rfl, _⟩ := h; rfl) | (obtain ⟨_, _, _, _, _, _, _, _, _, rfl, _⟩ := h; rfl) | (obtain ⟨_, _, _, _, _, _, _, _, _, _, rfl, _⟩ := h; rfl) | (obtain ⟨_, _, _, _, _, _, _, _, _, _, _, rfl, _⟩ := h; rfl) | (obtain ⟨_, _, _, _, _, _, _, _, _, _, _, _, rfl, _⟩ := h; rfl) | (obtain ⟨_, _, _, _, _, _, _, _, _, _, _, _, _, rfl, _⟩ := h; rfl) | (obtain ⟨_, _, _, _, _, _, _, _, _, _, _, _, _, _, rfl, _⟩ := h; rfl) | (obtain ⟨_, _, _, _, _, _, _, _, _, _, _, _, _, _, _, rfl, _⟩ := h; rfl) | (obtain ⟨_, _, _, _, _, _, _, _, _, _, _, _, _, _, _, _, rfl, _⟩ := h; rfl) | (obtain ⟨_, _, _, _, _, _, _, _, _, _, _, _, _, _, _, _, _, rfl, _⟩ := h; rfl)) (fun cdv A outer s H vs Q E hr h => ?_)
  · have hu := hu_of hr
    obtain ⟨a, s1, ls, sz, v, rfl, PA, h⟩ := h
    obtain ⟨dx, lp, j, k, last, F, on, -⟩ := id PA
    have h0 := F.at_
    refine ⟨_, (pss_cons (ps_expr (KrL.pe_mtE m_Packing__check_page__r c_Packing (hr.mono (by decide)) (passes_call (takes_of rfl rfl rfl rfl) (fun _ _ _ _ h => h)) (pv 0) (pa_cons (pv 1) pa_nil))) (pss_one (ps_ret (Kr.pe_mt m_Packing_start_of c_Packing (hr.mono (by decide)) (pv 0) (pa_cons (pv 1) pa_nil))))), ?_⟩
    rw [st_Packing_first_row__r]
    walk_at "ss"
    rcases h with ⟨⟨m, r, rfl, om, h30⟩, q⟩ | ⟨no, er⟩
    · have mle := Pk.st_ge F.ok.pk m
      have m1 := om.1
      refine ⟨a, s1, ls, sz, _, rfl, PA, .inl ⟨⟨m, r, rfl, om, h30⟩, ?_⟩⟩
      walk_at "ss"
      exact ⟨a, s1, ls, sz, m, rfl, PA, by omega, q _ _ fun _ _ e => e⟩
    · exact ⟨a, s1, ls, sz, v, rfl, PA, .inr ⟨no, er⟩⟩
theorem ok__law_pages_said {P : Program} {w : World} {K : PySem.W.Frag} {mg : Str → Option Value} {base : Heap} {f : Addr} {fd : FuncData} (F : FunD K "_law_pages_said" "_law_pages_said" (defArgs s__law_pages_said) (defBody s__law_pages_said) (defScope s__law_pages_said) [] [] f fd) (hcd : fd.code = .ref (He.cT K ("_law_pages_said", none)).1) (c_Packing : Cls K (He.ga K "Packing")) (lm__law_said : KrG.LamHG P w K mg base "_law_said" (tt__law_said K)) (m_Packing_first_row__r : Kr.MtH P w K mg base (L2.CX P w) 4 (He.ga K "Packing") "first_row" ["self", "page"] (sp_Packing_first_row__r K)) (m_Packing_rows_on__r : Kr.MtH P w K mg base (L2.CX P w) 4 (He.ga K "Packing") "rows_on" ["self", "page"] (sp_Packing_rows_on__r K)) (m_Packing_units_on__r : Kr.MtH P w K mg base (L2.CX P w) 4 (He.ga K "Packing") "units_on" ["self", "page"] (sp_Packing_units_on__r K)) (tb__law_pages_said : LamX.TabB base mg (He.cT K ("_law_pages_said", none)).1 (He.cT K ("_law_pages_said", none)).2) (x_tbu__law_pages_said : ∀ p ∈ Tb K, p.1 = (He.cT K ("_law_pages_said", none)).2 → p.2 = (("_law_pages_said" : Str) ++ ".<locals>.") ++ "<lambda>") : KrG.FnOkG P w K mg base C8.CX0 7 f fd ["packed", "odd"] (sp__law_pages_said K) := by
  refine KrG.okG F sc__law_pages_said (fun vs H Q E h => by first | (obtain ⟨rfl, _⟩ := h; rfl) | (obtain ⟨_, rfl, _⟩ := h; rfl) | (obtain ⟨_, _, rfl, _⟩ := h; rfl) | (obtain ⟨_, _, _, rfl, _⟩ := h; rfl) | (obtain ⟨_, _, _, _, rfl, _⟩ := h; rfl) | (obtain ⟨_, _, _, _, _, rfl, _⟩ := h; rfl) | (obtain ⟨_, _, _, _, _, _, rfl, _⟩ := h; rfl) | (obtain ⟨_, _, _, _, _, _, _, rfl, _⟩ := h; rfl) | (obtain ⟨_, _, _, _, _, _, _, _, rfl, _⟩ := h; rfl) | (obtain ⟨_, _, _, _, _, _, _, _, _, rfl, _⟩ := h; rfl) | (obtain ⟨_, _, _, _, _, _, _, _, _, _, rfl, _⟩ := h; rfl) | (obtain ⟨_, _, _, _, _, _, _, _, _, _, _, rfl, _⟩ := h; rfl) | (obtain ⟨_, _, _, _, _, _, _, _, _, _, _, _, rfl, _⟩ := h; rfl) | (obtain ⟨_, _, _, _, _, _, _, _, _, _, _, _, _, rfl, _⟩ := h; rfl) | (obtain ⟨_, _, _, _, _, _, _, _, _, _, _, _, _, _, rfl, _⟩ := h; rfl) | (obtain ⟨_, _, _, _, _, _, _, _, _, _, _, _, _, _, _, rfl, _⟩ := h; rfl) | (obtain ⟨_, _, _, _, _, _, _, _, _, _, _, _, _, _, _, _, rfl, _⟩ := h; rfl) | (obtain ⟨_, _, _, _, _, _, _, _, _, _, _, _, _, _, _, _, _, rfl, _⟩ := h; rfl)) (fun cdv A outer s H vs Q E hcv hgd hr h => ?_)
  · have hu := hu_of hr
    obtain rfl : cdv = _ := hcv.symm.trans hcd
    obtain ⟨x, s1, v, ls, sz, w, rfl, PA, sd, tb, q⟩ := h
    obtain ⟨dx, lp, j, k, last, F, -, -⟩ := id PA
    have h0 := F.at_
    refine ⟨_, PSs.nox (pss_cons (ps_set (i := 2) sc__law_pages_said.nd rfl (.inl rfl) (pe_lst (pa_cons (KrG.pe_lamG (T := Tb K) (k := 4) hgd lm__law_said tb__law_pages_said rfl (tbm__law_pages_said K) x_tbu__law_pages_said (hr.mono (by decide)) (LamX.lamS_by (sc := defScope s__law_pages_said) (by decide +kernel)) (fun _ _ _ _ _ _ _ hl => (KrL.pe_mtE m_Packing_first_row__r c_Packing (hl.mono (by decide)) (passes_call (takes_of rfl rfl rfl rfl) (fun _ _ _ _ h => h)) (pv 0) (pa_cons (pv 1) pa_nil)))) pa_nil))) (pss_cons (ps_expr (pe_bm PySem.F.plainAttrs_list PySem.F.slot_list_append PySem.F.type_list_append mt_append (pv 2) (pa_cons (KrG.pe_lamG (T := Tb K) (k := 4) hgd lm__law_said tb__law_pages_said rfl (tbm__law_pages_said K) x_tbu__law_pages_said (hr.mono (by decide)) (LamX.lamS_by (sc := defScope s__law_pages_said) (by decide +kernel)) (fun _ _ _ _ _ _ _ hl => (KrL.pe_mtE m_Packing_rows_on__r c_Packing (hl.mono (by decide)) (passes_call (takes_of rfl rfl rfl rfl) (fun _ _ _ _ h => h)) (pv 0) (pa_cons (pv 1) pa_nil)))) pa_nil))) (pss_cons (ps_expr (pe_bm PySem.F.plainAttrs_list PySem.F.slot_list_append PySem.F.type_list_append mt_append (pv 2) (pa_cons (KrG.pe_lamG (T := Tb K) (k := 4) hgd lm__law_said tb__law_pages_said rfl (tbm__law_pages_said K) x_tbu__law_pages_said (hr.mono (by decide)) (LamX.lamS_by (sc := defScope s__law_pages_said) (by decide +kernel)) (fun _ _ _ _ _ _ _ hl => (KrL.pe_mtE m_Packing_units_on__r c_Packing (hl.mono (by decide)) (passes_call (takes_of rfl rfl rfl rfl) (fun _ _ _ _ h => h)) (pv 0) (pa_cons (pv 1) pa_nil)))) pa_nil))) (pss_one (ps_ret (pv 2)))))), ?_⟩
    rw [st__law_pages_said]
    walk_at "ss"
    refine KrL.r_lam tb fun H1 x1 tb1 => ?_
    refine ts_at fun E1 hE => ?_
    have h1 := x1 _ _ h0 (fun _ z => by cases z)
    dsimp only
    walk_at "ss"
    refine ⟨x, s1, ls, sz, v, rfl, PA.xn x1, said_go (sd.xn x1) hE fun H2 s2 => ?_⟩
    have h2 := s2 _ _ h1
    have x2 : ExtN H H2 := x1.trans (ExtN.of s2)
    have tb2 := tb1.ext s2
    walk_at "ss"
    refine r_newS fun t H3 ht s3 e3 => ?_
    have h3 := s3 _ _ h2
    have x3 : ExtN H H3 := x2.trans (ExtN.of s3)
    have tb3 := tb2.ext s3
    walk_at "ss"
    refine KrL.r_lam tb3 fun H4 x4 tb4 => ?_
    refine ts_at fun E4 hE4 => ?_
    have h4 := x4 _ _ h3 (fun _ z => by cases z)
    have e4 := x4 _ _ e3 (fun _ z => by cases z)
    have x04 := x3.trans x4
    dsimp only
    walk_at "ss"
    refine ⟨x, s1, ls, sz, v, rfl, PA.xn x04, said_go (sd.xn x04) hE4 fun H5 s5 => ?_⟩
    have h5 := s5 _ _ h4
    have e5 := s5 _ _ e4
    have x05 := x04.trans (ExtN.of s5)
    have tb5 := tb4.ext s5
    walk_at "ss"
    refine r_append e5 (by simp) ?_
    have x06 : ExtN H (upd H5 t (.lst ([.str w] ++ [.str w]))) := x05.put x2 ht
    have tb6 : Tabs (Tb K) (upd H5 t (.lst ([.str w] ++ [.str w]))) := tabs_lst tb5 e5 fun b o n e => by rw [upd_ne n]; exact e
    have e6 : upd H5 t (.lst ([.str w] ++ [.str w])) t = some (.lst [.str w, .str w]) := upd_same
    generalize upd H5 t (.lst ([.str w] ++ [.str w])) = H6 at x06 tb6 e6 ⊢
    have h6 := x06 _ _ h0 (fun _ z => by cases z)
    walk_at "ss"
    refine KrL.r_lam tb6 fun H7 x7 tb7 => ?_
    refine ts_at fun E7 hE7 => ?_
    have h7 := x7 _ _ h6 (fun _ z => by cases z)
    have e7 := x7 _ _ e6 (fun _ z => by cases z)
    have x07 := x06.trans x7
    dsimp only
    walk_at "ss"
    refine ⟨x, s1, ls, sz, v, rfl, PA.xn x07, said_go (sd.xn x07) hE7 fun H8 s8 => ?_⟩
    have e8 := s8 _ _ e7
    have x08 := x07.trans (ExtN.of s8)
    have tb8 := tb7.ext s8
    walk_at "ss"
    refine r_append e8 (by simp) ?_
    have x09 : ExtN H (upd H8 t (.lst ([.str w, .str w] ++ [.str w]))) := x08.put x2 ht
    have tb9 : Tabs (Tb K) (upd H8 t (.lst ([.str w, .str w] ++ [.str w]))) := tabs_lst tb8 e8 fun b o n e => by rw [upd_ne n]; exact e
    have e9 : upd H8 t (.lst ([.str w, .str w] ++ [.str w])) t = some (.lst [.str w, .str w, .str w]) := upd_same
    generalize upd H8 t (.lst ([.str w, .str w] ++ [.str w])) = H9 at x09 tb9 e9 ⊢
    walk_at "ss"
    exact q t H9 x09 tb9 e9
theorem ok__law_right {P : Program} {w : World} {K : PySem.W.Frag} {mg : Str → Option Value} {base : Heap} {f : Addr} {fd : FuncData} (F : FunD K "_law_right" "_law_right" (defArgs s__law_right) (defBody s__law_right) (defScope s__law_right) [] [] f fd) (c_Packing : Cls K (He.ga K "Packing")) (h__law_draw : Kr.FnH P w K mg base CX0 2 "_law_draw" ["source", "limit"] (sp__law_draw K)) (h__law_pages_said : KrG.FnHG P w K mg base C8.CX0 7 "_law_pages_said" ["packed", "odd"] (sp__law_pages_said K)) (h__law_parts : Kr.FnH P w K mg base CX0 4 "_law_parts" ["source"] (sp__law_parts K)) (h__law_settings : Kr.FnH P w K mg base CX0 6 "_law_settings" ["p"] (sp__law_settings K)) (m_Packing_page_of : Kr.MtH P w K mg base CX0 4 (He.ga K "Packing") "page_of" ["self", "row"] (sp_Packing_page_of K)) (mk_Packing : Kr.MkH P w K mg base CX0 2 "Packing" (He.ga K "Packing") ["self", "settings"] (sp_Packing___init__ K)) (n_repr : mg "repr" = none) (x_sys : (K.lookup sysModules).isSome = true) : KrG.FnOkG P w K mg base C8.CX0 8 f fd ["source"] (sp__law_right K) := by
  refine KrG.okG F sc__law_right (fun vs H Q E h => by first | (obtain ⟨rfl, _⟩ := h; rfl) | (obtain ⟨_, rfl, _⟩ := h; rfl) | (obtain ⟨_, _, rfl, _⟩ := h; rfl) | (obtain ⟨_, _, _, rfl, _⟩ := h; rfl) | (obtain ⟨_, _, _, _, rfl, _⟩ := h; rfl) | (obtain ⟨_, _, _, _, _, rfl, _⟩ := h; rfl) | (obtain ⟨_, _, _, _, _, _, rfl, _⟩ := h; rfl) | (obtain ⟨_, _, _, _, _, _, _, rfl, _⟩ := h; rfl) | (obtain ⟨_, _, _, _, _, _, _, _, rfl, _⟩ := h; rfl) | (obtain ⟨_, _, _, _, _, _, _, _, _, rfl, _⟩ := h; rfl) | (obtain ⟨_, _, _, _, _, _, _, _, _, _, rfl, _⟩ := h; rfl) | (obtain ⟨_, _, _, _, _, _, _, _, _, _, _, rfl, _⟩ := h; rfl) | (obtain ⟨_, _, _, _, _, _, _, _, _, _, _, _, rfl, _⟩ := h; rfl) | (obtain ⟨_, _, _, _, _, _, _, _, _, _, _, _, _, rfl, _⟩ := h; rfl) | (obtain ⟨_, _, _, _, _, _, _, _, _, _, _, _, _, _, rfl, _⟩ := h; rfl) | (obtain ⟨_, _, _, _, _, _, _, _, _, _, _, _, _, _, _, rfl, _⟩ := h; rfl) | (obtain ⟨_, _, _, _, _, _, _, _, _, _, _, _, _, _, _, _, rfl, _⟩ := h; rfl) | (obtain ⟨_, _, _, _, _, _, _, _, _, _, _, _, _, _, _, _, _, rfl, _⟩ := h; rfl)) (fun cdv A outer s H vs Q E hcv hgd hr h => ?_)
  · have hu := hu_of hr
    obtain ⟨a, rfl, hs, tb, q0⟩ := h
    refine ⟨_, PSs.nox (pss_cons (ps_set (i := 1) sc__law_right.nd rfl (.inl rfl) (Kr.pe_mk mk_Packing (hr.mono (by decide)) (pa_cons (Kr.pe_cl h__law_settings (hr.mono (by decide)) (pa_cons (Kr.pe_cl h__law_parts (hr.mono (by decide)) (pa_cons (pv 0) pa_nil)) pa_nil)) pa_nil))) (pss_cons (ps_set (i := 2) sc__law_right.nd rfl (.inl rfl) (Kr.pe_mt m_Packing_page_of c_Packing (hr.mono (by decide)) (pv 1) (pa_cons (pe_op op_sub (pe_op op_pow pe_int pe_int) pe_int) pa_nil))) (pss_cons (ps_set (i := 3) sc__law_right.nd rfl (.inl rfl) (pe_lst (pa_cons pe_non (pa_cons pe_bl (pa_cons pe_bl (pa_cons pe_str (pa_cons (pe_lst (pa_cons pe_int pa_nil)) (pa_cons (pe_tup (pa_cons pe_int pa_nil)) (pa_cons pe_dnewK (pa_cons (pe_un un_neg pe_int) (pa_cons (pe_un un_neg pe_int) (pa_cons (pe_op op_add (pv 2) pe_int) (pa_cons (pe_op op_add (pv 2) pe_int) (pa_cons (pe_op op_pow pe_int pe_int) (pa_cons (pe_op op_pow pe_int pe_int) pa_nil))))))))))))))) (pss_cons (ps_for PassesOwn.never rfl (pi_list (pe_op Kr.op_catS (pv 3) (pe_lst (pa_cons (pe_op op_add (pe_op op_add (pv 2) pe_int) (Kr.pe_cl h__law_draw (hr.mono (by decide)) (pa_cons (pv 0) (pa_cons (pe_op op_pow pe_int pe_int) pa_nil)))) (pa_cons (pe_op op_sub (pe_op op_sub pe_int (Kr.pe_cl h__law_draw (hr.mono (by decide)) (pa_cons (pv 0) (pa_cons (pe_op op_pow pe_int pe_int) pa_nil)))) pe_int) pa_nil))))) (pg_name (i := 4) sc__law_right.nd rfl (.inl rfl)) (pss_one (ps_if (pt_cmpR (op_neD hr.units) (KrG.pe_clG h__law_pages_said hgd (hr.mono (by decide)) (pa_cons (pv 1) (pa_cons (pv 4) pa_nil))) (pe_op op_rep (pe_lst (pa_cons (pe_callB (id := "repr") (KrG.c_repr hgd hr.units x_sys) rfl n_repr (by decide +kernel) (pa_cons (pv 4) pa_nil)) pa_nil)) pe_int) (nomark _)) (pss_one (ps_ret pe_bl)) pss_nil))) (pss_cons (ps_for PassesOwn.never rfl (pi_list (pe_lst (pa_cons pe_int (pa_cons pe_int (pa_cons (pe_op op_sub (pv 2) pe_int) (pa_cons (pv 2) pa_nil)))))) (pg_name (i := 5) sc__law_right.nd rfl (.inl rfl)) (pss_one (ps_if (pt_cmpR (op_neD hr.units) (KrG.pe_clG h__law_pages_said hgd (hr.mono (by decide)) (pa_cons (pv 1) (pa_cons (pv 5) pa_nil))) (pe_op op_rep (pe_lst (pa_cons pe_str pa_nil)) pe_int) (nomark _)) (pss_one (ps_ret pe_bl)) pss_nil))) (pss_one (ps_ret pe_bl))))))), ?_⟩
    rw [st__law_right]
    walk_at "ss"
    refine ⟨a, rfl, hs, fun p q ls room fo re ev ke H1 D1 hp hq hpq e1 e2 ok => ?_⟩
    obtain ⟨c0, c1, c2, hsrc⟩ := id hs
    have tb1 : Tabs (Tb K) H1 := tabs_lst tb hsrc D1.old
    walk_at "ss"
    refine ⟨p, q, ls, room, fo, re, ev, ke, rfl, e1, e2, ok.set, fun s H2 s2 hs2 S => ?_⟩
    walk_at "ss"
    intro x dx hx hdx ne
    have sx : Same H2 (upd (upd H2 dx (.own x)) x (.ins (He.ga K "Packing") dx [])) := (same_new hdx).trans (same_new (by rw [upd_ne ne.symm]; exact hx))
    refine ⟨x, s, dx, ls, room, fo, re, ev, ke, rfl, upd_same, S.same sx, ok.set.toLensOk, fun H3 s3 PA pk0 => ⟨rfl, ?_⟩⟩
    have s23 : Same H2 H3 := fun b o e => s3 b o (ne_of_none e hx) (sx b o e)
    have s13 := s2.trans s23
    have D3 := D1.same s13
    have tb3 := tb1.ext s13
    have o := ok.set.toLensOk.pk
    obtain ⟨d0, d1, d2, hsrc1⟩ := D1.src
    have pk : ∀ H', But a H3 H' → PackAt K H' x s ls room := fun H' b => pk0 a _ H' (sx _ _ (s2 _ _ hsrc1)) b
    obtain ⟨dx2, lp, j, k, last0, F, on0, -⟩ := id PA
    have hat := F.at_
    walk_at "ss"
    refine ⟨x, s, ls, room, 10 ^ 30 - 1, rfl, PA, by decide, fun last on => ?_⟩
    have oks := on
    have lge := Pk.st_ge o last
    have l30 : last < 10 ^ 30 := by have := on.1; omega
    have l1 : 1 ≤ last := by
      rcases Nat.eq_zero_or_pos last with z | z
      · exfalso
        subst z
        have h1 := Pk.st_up o 1
        have h2 := on.2
        have := F.ok.r64
        have e1 : (10 : Nat) ^ 30 - 1 < Pk.st ls room 1 := h2
        omega
      · exact z
    have pgs : ∀ m : Nat, m ≤ last → IsPg ls room (.int m) := fun m hm => by
      refine ⟨m, Pk.st ls room m, rfl, ⟨Nat.le_refl _, Pk.st_lt o m⟩, ?_⟩
      have h1 := Pk.st_le o hm
      have h2 := on.1
      omega
    walk_at "ss"
    refine r_newS fun a1 H4 n4 s4 g1 => ?_
    walk_at "ss"
    refine r_newS fun a2 H5 n5 s5 g2 => ?_
    walk_at "ss"
    refine r_newS fun a3 H6 n6 s6 g3 => ?_
    walk_at "ss"
    refine r_newS fun l7 H7 n7 s7 g7 => ?_
    have s37 := s4.trans (s5.trans (s6.trans s7))
    have D7 := D3.same s37
    have tb7 := tb3.ext s37
    walk_at "ss"
    refine ⟨a, _, rfl, D7.src, ⟨by decide, by decide⟩, fun dd1 H8 dd10 dd11 D8' => ?_⟩
    have D8 := D7.trans D8'
    walk_at "ss"
    refine ⟨a, _, rfl, D8.src, ⟨by decide, by decide⟩, fun dd2 H9 dd20 dd21 D9' => ?_⟩
    have D9 := D8.trans D9'
    have D79 := D8'.trans D9'
    walk_at "ss"
    refine r_newS fun l10 H10 n10 s10 g10 => ?_
    have na1 : a1 ≠ a := D3.src.ne n4
    have na2 : a2 ≠ a := (D3.same s4).src.ne n5
    have na3 : a3 ≠ a := (D3.same (s4.trans s5)).src.ne n6
    have na7 : l7 ≠ a := (D3.same (s4.trans (s5.trans s6))).src.ne n7
    have b9 : But a H3 H9 := fun b u n e => D79.old b u n (s37 b u e)
    have f7 := D79.old _ _ na7 g7
    obtain ⟨z0, z1, z2, hsrc7⟩ := D7.src
    have tb9 : Tabs (Tb K) H9 := tabs_lst tb7 hsrc7 D79.old
    refine r_catS (SqL.of (s10 _ _ f7)) (SqL.of g10) (by simp) ?_
    refine r_newS fun l11 H11 n11 s11 g11 => ?_
    have s911 := s10.trans s11
    have f1 := s911 _ _ (D79.old _ _ na1 (s7 _ _ (s6 _ _ (s5 _ _ g1))))
    have f2 := s911 _ _ (D79.old _ _ na2 (s7 _ _ (s6 _ _ g2)))
    have f3 := s911 _ _ (D79.old _ _ na3 (s7 _ _ g3))
    have P11 := (pk H9 b9).same s911
    have tb11 := tb9.ext s911
    have D11 := D9.same s911
    have fin : ∀ H', ExtN H11 H' → BuN a H H' := fun H' x' b u n e nt => x' b u (D11.old b u n e) nt
    have big : ∀ n : Int, n < 0 ∨ (last : Int) < n → ∀ H', NoPg K H' ls room (.int n) := fun n hn H' => np_int o on hn
    walk_at "ss"
    refine r_forL (xs := [.non, .bl true, .bl false, .str "0", .ref a1, .ref a2, .ref a3, .int (-1), .int (-2), .int ((last : Int) + 1), .int ((last : Int) + 2), .int (10 ^ Int.toNat 30), .int (10 ^ Int.toNat 40), .int ((last : Int) + 1 + dd1), .int (0 - dd2 - 1)])
      (fun i σ H' => ∃ y4 : Option V, σ = [some (.ref a), some (.ref x), some (.int last), some (.ref l7), y4, none] ∧ ExtN H11 H' ∧ Tabs (Tb K) H') ⟨_, rfl, ExtN.refl _, tb11⟩ (fun i σ H' _ ⟨_, _, x6, _⟩ => SqL.of (x6 _ _ g11 (fun _ z => by cases z))) ?_ ?_
    · rintro i v σ H12 hx ⟨y4, rfl, x12, tb12⟩
      have both : ∃ d : PyData, PyData.strOk d.shown = true ∧ ∀ H', ExtN H11 H' → NoPg K H' ls room v ∧ Tld H' v d := by
        rcases i with _ | _ | _ | _ | _ | _ | _ | _ | _ | _ | _ | _ | _ | _ | _ | i
        · cases hx
          exact ⟨_, by decide +kernel, fun H' _ => ⟨np_ni ni_non, tld_non⟩⟩
        · cases hx
          exact ⟨_, by decide +kernel, fun H' _ => ⟨np_ni ni_bl, tld_bl true⟩⟩
        · cases hx
          exact ⟨_, by decide +kernel, fun H' _ => ⟨np_ni ni_bl, tld_bl false⟩⟩
        · cases hx
          exact ⟨_, by decide +kernel, fun H' _ => ⟨np_ni ni_str, tld_str⟩⟩
        · cases hx
          exact ⟨_, by decide +kernel, fun H' x6 => ⟨np_ni (ni_lst (x6 _ _ f1 (fun _ z => by cases z))), tld_lst (x6 _ _ f1 (fun _ z => by cases z))⟩⟩
        · cases hx
          exact ⟨_, by decide +kernel, fun H' x6 => ⟨np_ni (ni_tup (x6 _ _ f2 (fun _ z => by cases z))), tld_tup (x6 _ _ f2 (fun _ z => by cases z))⟩⟩
        · cases hx
          exact ⟨_, by decide +kernel, fun H' x6 => ⟨np_ni (ni_dct (x6 _ _ f3 (fun _ z => by cases z))), tld_dct (x6 _ _ f3 (fun _ z => by cases z))⟩⟩
        · cases hx
          exact ⟨_, int_ok _, fun H' _ => ⟨big _ (.inl (by decide)) H', tld_int (by decide +kernel)⟩⟩
        · cases hx
          exact ⟨_, int_ok _, fun H' _ => ⟨big _ (.inl (by decide)) H', tld_int (by decide +kernel)⟩⟩
        · cases hx
          exact ⟨_, int_ok _, fun H' _ => ⟨big _ (.inr (by omega)) H', tld_int (by omega)⟩⟩
        · cases hx
          exact ⟨_, int_ok _, fun H' _ => ⟨big _ (.inr (by omega)) H', tld_int (by omega)⟩⟩
        · cases hx
          exact ⟨_, int_ok _, fun H' _ => ⟨big _ (.inr (by have e30 : (10 : Int) ^ Int.toNat 30 = 10 ^ 30 := rfl; omega)) H', tld_int (by decide +kernel)⟩⟩
        · cases hx
          exact ⟨_, int_ok _, fun H' _ => ⟨big _ (.inr (by have e40 : (10 : Int) ^ Int.toNat 40 = 10 ^ 40 := rfl; omega)) H', tld_int (by decide +kernel)⟩⟩
        · cases hx
          exact ⟨_, int_ok _, fun H' _ => ⟨big _ (.inr (by omega)) H', tld_int (by have e9 : (10 : Int) ^ Int.toNat 9 = 10 ^ 9 := rfl; omega)⟩⟩
        · cases hx
          exact ⟨_, int_ok _, fun H' _ => ⟨big _ (.inl (by omega)) H', tld_int (by have e9 : (10 : Int) ^ Int.toNat 9 = 10 ^ 9 := rfl; omega)⟩⟩
        · simp at hx
      obtain ⟨d, okd, both⟩ := both
      walk_at "ss"
      refine ⟨x, s, v, ls, room, d.shown, rfl, P11.xn x12, .inr ⟨d, rfl, fun H' x' => both H' (x12.trans x')⟩, tb12, fun t13 H13 x13 tb13 e13 => ?_⟩
      have x113 := x12.trans x13
      walk_at "ss"
      refine (both _ x113).2.rep ?_
      walk_at "ss"
      refine r_newS fun t14 H14 n14 s14 e14 => ?_
      refine ⟨t14, 3, _, rfl, rfl, e14, by decide, by decide, by rw [sizeLine_eq]; show 1 * 3 ≤ 16777216; decide, fun t15 n15 => ?_⟩
      have e15 : upd H14 t15 (.lst (List.replicate (Int.toNat 3) [V.str d.shown]).flatten) t15 = some (.lst [.str d.shown, .str d.shown, .str d.shown]) := upd_same
      have s15 : Same H14 (upd H14 t15 (.lst (List.replicate (Int.toNat 3) [V.str d.shown]).flatten)) := same_new n15
      generalize upd H14 t15 (.lst (List.replicate (Int.toNat 3) [V.str d.shown]).flatten) = H15 at e15 s15 ⊢
      refine r_neW (s15 _ _ (s14 _ _ e13)) e15 okd ?_
      walk_at "ss"
      exact ⟨_, rfl, x113.trans (ExtN.of (s14.trans s15)), tb13.ext (s14.trans s15)⟩
    rintro σ H12 ⟨y4, rfl, x12, tb12⟩
    walk_at "ss"
    refine r_newS fun l13 H13 n13 s13' g13 => ?_
    have x13 : ExtN H11 H13 := x12.trans (ExtN.of s13')
    have tb13 := tb12.ext s13'
    walk_at "ss"
    refine r_forL (xs := [.int 0, .int 1, .int ((last : Int) - 1), .int last])
      (fun i σ H' => ∃ y5 : Option V, σ = [some (.ref a), some (.ref x), some (.int last), some (.ref l7), y4, y5] ∧ ExtN H13 H' ∧ Tabs (Tb K) H') ⟨_, rfl, ExtN.refl _, tb13⟩ (fun i σ H' _ ⟨_, _, x6, _⟩ => SqL.of (x6 _ _ g13 (fun _ z => by cases z))) ?_ ?_
    · rintro i v σ H14 hx ⟨y5, rfl, x14, tb14⟩
      have pg : IsPg ls room v := by
        rcases i with _ | _ | _ | _ | i
        · cases hx
          exact pgs 0 (by omega)
        · cases hx
          exact pgs 1 (by omega)
        · cases hx
          rw [show (last : Int) - 1 = ((last - 1 : Nat) : Int) by omega]
          exact pgs _ (by omega)
        · cases hx
          exact pgs last (by omega)
        · simp at hx
      have x114 := x13.trans x14
      walk_at "ss"
      refine ⟨x, s, v, ls, room, "none", rfl, P11.xn x114, .inl ⟨pg, rfl⟩, tb14, fun t15 H15 x15 tb15 e15 => ?_⟩
      walk_at "ss"
      refine r_newS fun t16 H16 n16 s16 e16 => ?_
      refine ⟨t16, 3, _, rfl, rfl, e16, by decide, by decide, by rw [sizeLine_eq]; show 1 * 3 ≤ 16777216; decide, fun t17 n17 => ?_⟩
      have e17 : upd H16 t17 (.lst (List.replicate (Int.toNat 3) [V.str "none"]).flatten) t17 = some (.lst [.str "none", .str "none", .str "none"]) := upd_same
      have s17 : Same H16 (upd H16 t17 (.lst (List.replicate (Int.toNat 3) [V.str "none"]).flatten)) := same_new n17
      generalize upd H16 t17 (.lst (List.replicate (Int.toNat 3) [V.str "none"]).flatten) = H17 at e17 s17 ⊢
      refine r_neW (s17 _ _ (s16 _ _ e15)) e17 (by decide +kernel) ?_
      walk_at "ss"
      exact ⟨_, rfl, (x14.trans x15).trans (ExtN.of (s16.trans s17)), tb15.ext (s16.trans s17)⟩
    rintro σ H14 ⟨y5, rfl, x14, tb14⟩
    walk_at "ss"
    exact q0 H14 (fin H14 (x13.trans x14)) tb14
theorem ok_law {P : Program} {w : World} {K : PySem.W.Frag} {mg : Str → Option Value} {base : Heap} {f : Addr} {fd : FuncData} (F : FunD K "law" "law" (defArgs s_law) (defBody s_law) (defScope s_law) [] [] f fd) (h__law_right : KrG.FnHG P w K mg base C8.CX0 8 "_law_right" ["source"] (sp__law_right K)) (h__law_source : Kr.FnH P w K mg base CX0 1 "_law_source" ["script", "k"] (sp__law_source K)) (n_len : mg "len" = none) (n_max : mg "max" = none) (n_min : mg "min" = none) (n_range : mg "range" = none) : KrG.FnOkG P w K mg base C8.CX0 9 f fd ["script"] (sp_law K) := by
  refine KrG.okG F sc_law (fun vs H Q E h => by first | (obtain ⟨rfl, _⟩ := h; rfl) | (obtain ⟨_, rfl, _⟩ := h; rfl) | (obtain ⟨_, _, rfl, _⟩ := h; rfl) | (obtain ⟨_, _, _, rfl, _⟩ := h; rfl) | (obtain ⟨_, _, _, _, rfl, _⟩ := h; rfl) | (obtain ⟨_, _, _, _, _, rfl, _⟩ := h; rfl) | (obtain ⟨_, _, _, _, _, _, rfl, _⟩ := h; rfl) | (obtain ⟨_, _, _, _, _, _, _, rfl, _⟩ := h; rfl) | (obtain ⟨_, _, _, _, _, _, _, _, rfl, _⟩ := h; rfl) | (obtain ⟨_, _, _, _, _, _, _, _, _, rfl, _⟩ := h; rfl) | (obtain ⟨_, _, _, _, _, _, _, _, _, _, rfl, _⟩ := h; rfl) | (obtain ⟨_, _, _, _, _, _, _, _, _, _, _, rfl, _⟩ := h; rfl) | (obtain ⟨_, _, _, _, _, _, _, _, _, _, _, _, rfl, _⟩ := h; rfl) | (obtain ⟨_, _, _, _, _, _, _, _, _, _, _, _, _, rfl, _⟩ := h; rfl) | (obtain ⟨_, _, _, _, _, _, _, _, _, _, _, _, _, _, rfl, _⟩ := h; rfl) | (obtain ⟨_, _, _, _, _, _, _, _, _, _, _, _, _, _, _, rfl, _⟩ := h; rfl) | (obtain ⟨_, _, _, _, _, _, _, _, _, _, _, _, _, _, _, _, rfl, _⟩ := h; rfl) | (obtain ⟨_, _, _, _, _, _, _, _, _, _, _, _, _, _, _, _, _, rfl, _⟩ := h; rfl)) (fun cdv A outer s H vs Q E hcv hgd hr h => ?_)
  · have hu := hu_of hr
    obtain ⟨a, ns, rfl, hS, hl, tb, q0⟩ := h
    refine ⟨_, PSs.nox (pss_cons (ps_for PassesOwn.never rfl (pi_range1 rfl n_range (pa_cons (pe_callB (id := "max") (Kr.c_max2 rfl) rfl n_max (by decide +kernel) (pa_cons pe_int (pa_cons (pe_callB (id := "min") (Kr.c_min2 rfl) rfl n_min (by decide +kernel) (pa_cons pe_int (pa_cons (pe_callB (id := "len") Kr.c_len rfl n_len (by decide +kernel) (pa_cons (pv 0) pa_nil)) pa_nil))) pa_nil))) pa_nil)) (pg_name (i := 1) sc_law.nd rfl (.inl rfl)) (pss_cons (ps_set (i := 2) sc_law.nd rfl (.inl rfl) (Kr.pe_cl h__law_source (hr.mono (by decide)) (pa_cons (pv 0) (pa_cons (pv 1) pa_nil)))) (pss_one (ps_if (pt_not (pt_val (KrG.pe_clG h__law_right hgd (hr.mono (by decide)) (pa_cons (pv 2) pa_nil)))) (pss_one (ps_ret pe_bl)) pss_nil)))) (pss_one (ps_ret pe_bl))), ?_⟩
    rw [st_law]
    walk_at "ss"
    rw [List.length_map]
    walk_at "ss"
    have hle : 1 ≤ (if (if (ns.length : Int) < 4 then (ns.length : Int) else 4) > 1 then (if (ns.length : Int) < 4 then (ns.length : Int) else 4) else 1) ∧ (if (if (ns.length : Int) < 4 then (ns.length : Int) else 4) > 1 then (if (ns.length : Int) < 4 then (ns.length : Int) else 4) else 1) ≤ 4 := by
      split <;> split <;> omega
    generalize (if (if (ns.length : Int) < 4 then (ns.length : Int) else 4) > 1 then (if (ns.length : Int) < 4 then (ns.length : Int) else 4) else 1) = many at hle ⊢
    refine r_forR (fun i σ H' => ∃ x1 x2 : Option V, σ = [some (.ref a), x1, x2] ∧ SqL K H' a (ns.map V.int) ∧ Tabs (Tb K) H') ⟨_, _, rfl, hS, tb⟩ ?_ ?_
    · rintro i σ H0 hi ⟨x1, x2, rfl, hS0, tb0⟩
      walk_at "ss"
      refine ⟨a, ns, _, rfl, hS0, hl, by omega, fun p H1 s1 hp hsrc => ?_⟩
      have tb1 := tb0.ext s1
      walk_at "ss"
      refine ⟨p, rfl, hsrc, tb1, fun H2 D2 tb2 => ?_⟩
      walk_at "ss"
      exact ⟨_, _, rfl, sql_bu hS0 hp s1 D2, tb2⟩
    · rintro σ H0 ⟨x1, x2, rfl, -⟩
      walk_at "ss"
      exact q0 _
def d_InvalidPage___init__ : He.DefD := ⟨("InvalidPage", some "__init__"), "__init__", "InvalidPage.__init__", defArgs s_InvalidPage___init__, defBody s_InvalidPage___init__, defScope s_InvalidPage___init__, [], []⟩
def d_is_from : He.DefD := ⟨("is_from", none), "is_from", "is_from", defArgs s_is_from, defBody s_is_from, defScope s_is_from, [], []⟩
def d_is_within : He.DefD := ⟨("is_within", none), "is_within", "is_within", defArgs s_is_within, defBody s_is_within, defScope s_is_within, [], []⟩
def d_check_row : He.DefD := ⟨("check_row", none), "check_row", "check_row", defArgs s_check_row, defBody s_check_row, defScope s_check_row, [], []⟩
def d_are_lengths : He.DefD := ⟨("are_lengths", none), "are_lengths", "are_lengths", defArgs s_are_lengths, defBody s_are_lengths, defScope s_are_lengths, [], []⟩
def d_bounds_behind : He.DefD := ⟨("bounds_behind", none), "bounds_behind", "bounds_behind", defArgs s_bounds_behind, defBody s_bounds_behind, defScope s_bounds_behind, [], []⟩
def d_Settings___init__ : He.DefD := ⟨("Settings", some "__init__"), "__init__", "Settings.__init__", defArgs s_Settings___init__, defBody s_Settings___init__, defScope s_Settings___init__, [], []⟩
def d_check_settings : He.DefD := ⟨("check_settings", none), "check_settings", "check_settings", defArgs s_check_settings, defBody s_check_settings, defScope s_check_settings, [], []⟩
def d_rows_from : He.DefD := ⟨("rows_from", none), "rows_from", "rows_from", defArgs s_rows_from, defBody s_rows_from, defScope s_rows_from, [], []⟩
def d_units_ahead : He.DefD := ⟨("units_ahead", none), "units_ahead", "units_ahead", defArgs s_units_ahead, defBody s_units_ahead, defScope s_units_ahead, [], []⟩
def d_Packing_page_with : He.DefD := ⟨("Packing", some "page_with"), "page_with", "Packing.page_with", defArgs s_Packing_page_with, defBody s_Packing_page_with, defScope s_Packing_page_with, [], []⟩
def d_Packing___init__ : He.DefD := ⟨("Packing", some "__init__"), "__init__", "Packing.__init__", defArgs s_Packing___init__, defBody s_Packing___init__, defScope s_Packing___init__, [], []⟩
def d_Packing_page_of : He.DefD := ⟨("Packing", some "page_of"), "page_of", "Packing.page_of", defArgs s_Packing_page_of, defBody s_Packing_page_of, defScope s_Packing_page_of, [], []⟩
def d_Packing_start_of : He.DefD := ⟨("Packing", some "start_of"), "start_of", "Packing.start_of", defArgs s_Packing_start_of, defBody s_Packing_start_of, defScope s_Packing_start_of, [], []⟩
def d_Packing__check_page : He.DefD := ⟨("Packing", some "_check_page"), "_check_page", "Packing._check_page", defArgs s_Packing__check_page, defBody s_Packing__check_page, defScope s_Packing__check_page, [], []⟩
def d_Packing_first_row : He.DefD := ⟨("Packing", some "first_row"), "first_row", "Packing.first_row", defArgs s_Packing_first_row, defBody s_Packing_first_row, defScope s_Packing_first_row, [], []⟩
def d_Packing_rows_on : He.DefD := ⟨("Packing", some "rows_on"), "rows_on", "Packing.rows_on", defArgs s_Packing_rows_on, defBody s_Packing_rows_on, defScope s_Packing_rows_on, [], []⟩
def d_Packing__units_between : He.DefD := ⟨("Packing", some "_units_between"), "_units_between", "Packing._units_between", defArgs s_Packing__units_between, defBody s_Packing__units_between, defScope s_Packing__units_between, [], []⟩
def d_Packing_units_on : He.DefD := ⟨("Packing", some "units_on"), "units_on", "Packing.units_on", defArgs s_Packing_units_on, defBody s_Packing_units_on, defScope s_Packing_units_on, [], []⟩
def d__law_mix : He.DefD := ⟨("_law_mix", none), "_law_mix", "_law_mix", defArgs s__law_mix, defBody s__law_mix, defScope s__law_mix, [], []⟩
def d__law_source : He.DefD := ⟨("_law_source", none), "_law_source", "_law_source", defArgs s__law_source, defBody s__law_source, defScope s__law_source, [], []⟩
def d__law_draw : He.DefD := ⟨("_law_draw", none), "_law_draw", "_law_draw", defArgs s__law_draw, defBody s__law_draw, defScope s__law_draw, [], []⟩
def d__law_pick : He.DefD := ⟨("_law_pick", none), "_law_pick", "_law_pick", defArgs s__law_pick, defBody s__law_pick, defScope s__law_pick, [], []⟩
def d__law_parts : He.DefD := ⟨("_law_parts", none), "_law_parts", "_law_parts", defArgs s__law_parts, defBody s__law_parts, defScope s__law_parts, [], []⟩
def d__law_settings : He.DefD := ⟨("_law_settings", none), "_law_settings", "_law_settings", defArgs s__law_settings, defBody s__law_settings, defScope s__law_settings, [], []⟩
def d__law_said : He.DefD := ⟨("_law_said", none), "_law_said", "_law_said", defArgs s__law_said, defBody s__law_said, defScope s__law_said, [], []⟩
def d_is_from__r : He.DefD := ⟨("is_from", none), "is_from", "is_from", defArgs s_is_from__r, defBody s_is_from__r, defScope s_is_from__r, [], []⟩
def d_is_within__r : He.DefD := ⟨("is_within", none), "is_within", "is_within", defArgs s_is_within__r, defBody s_is_within__r, defScope s_is_within__r, [], []⟩
def d_Packing__check_page__r : He.DefD := ⟨("Packing", some "_check_page"), "_check_page", "Packing._check_page", defArgs s_Packing__check_page__r, defBody s_Packing__check_page__r, defScope s_Packing__check_page__r, [], []⟩
def d_Packing_units_on__r : He.DefD := ⟨("Packing", some "units_on"), "units_on", "Packing.units_on", defArgs s_Packing_units_on__r, defBody s_Packing_units_on__r, defScope s_Packing_units_on__r, [], []⟩
def d_Packing_rows_on__r : He.DefD := ⟨("Packing", some "rows_on"), "rows_on", "Packing.rows_on", defArgs s_Packing_rows_on__r, defBody s_Packing_rows_on__r, defScope s_Packing_rows_on__r, [], []⟩
def d_Packing_first_row__r : He.DefD := ⟨("Packing", some "first_row"), "first_row", "Packing.first_row", defArgs s_Packing_first_row__r, defBody s_Packing_first_row__r, defScope s_Packing_first_row__r, [], []⟩
def d__law_pages_said : He.DefD := ⟨("_law_pages_said", none), "_law_pages_said", "_law_pages_said", defArgs s__law_pages_said, defBody s__law_pages_said, defScope s__law_pages_said, [], []⟩
def d__law_right : He.DefD := ⟨("_law_right", none), "_law_right", "_law_right", defArgs s__law_right, defBody s__law_right, defScope s__law_right, [], []⟩
def d_law : He.DefD := ⟨("law", none), "law", "law", defArgs s_law, defBody s_law, defScope s_law, [], []⟩
def fn : List He.DefD := [d_InvalidPage___init__, d_is_from, d_is_within, d_check_row, d_are_lengths, d_bounds_behind, d_Settings___init__, d_check_settings, d_rows_from, d_units_ahead, d_Packing_page_with, d_Packing___init__, d_Packing_page_of, d_Packing_start_of, d_Packing__check_page, d_Packing_first_row, d_Packing_rows_on, d_Packing__units_between, d_Packing_units_on, d__law_mix, d__law_source, d__law_draw, d__law_pick, d__law_parts, d__law_settings, d__law_said, d_is_from__r, d_is_within__r, d_Packing__check_page__r, d_Packing_units_on__r, d_Packing_rows_on__r, d_Packing_first_row__r, d__law_pages_said, d__law_right, d_law]
def fa : List He.Fa := [.noat "Packing" "_first", .noat "Packing" "_last", .noat "Packing" "_pages", .noat "Packing" "_rows", .noat "Packing" "_settings", .noat "Packing" "_starts", .noat "Settings" "every", .noat "Settings" "fanout", .noat "Settings" "keep", .noat "Settings" "lengths", .noat "Settings" "records", .noat "Settings" "size", .cls "Packing", .cls "Settings", .int "MOST_LENGTHS" 6, .int "MOST_UNITS" 64, .int "ROWS" 1000000000000000000000000000000, .glo "InvalidNumber", .glo "InvalidPage", .glo "InvalidRow", .glo "Settings", .glo "StoreError", .free "all", .free "bool", .free "int", .free "isinstance", .free "len", .free "list", .free "max", .free "min", .free "range", .free "repr", .free "sum", .free "tuple", .meth "InvalidPage" "__init__", .glo "is_from", .glo "is_within", .glo "check_row", .glo "are_lengths", .glo "bounds_behind", .mkr "Settings", .glo "check_settings", .glo "rows_from", .glo "units_ahead", .meth "Packing" "page_with", .mkr "Packing", .glo "Packing", .meth "Packing" "page_of", .meth "Packing" "start_of", .meth "Packing" "_check_page", .meth "Packing" "first_row", .meth "Packing" "rows_on", .meth "Packing" "_units_between", .meth "Packing" "units_on", .glo "_law_mix", .glo "_law_source", .glo "_law_draw", .glo "_law_pick", .glo "_law_parts", .glo "_law_settings", .glo "_law_said", .glo "_law_pages_said", .glo "_law_right", .glo "law"]
def exs : List (PySem.W.Frag → Bool) := [fun K => Kr.insB K (He.ga K "Settings"), fun K => decide (PySem.W.exmOne K (.ref (He.ga K "InvalidPage")) (.ref (He.ga K "StoreError")) = some true), fun K => KrE.errB K (He.ga K "InvalidPage"), fun K => PySem.W.krErrT K (He.ga K "InvalidPage"), fun K => decide (PySem.W.kitOne K (.ref (He.ga K "InvalidPage")) (.ref (He.ga K "InvalidPage")) = some true), fun K => decide (PySem.W.kitOne K (.ref (He.ga K "InvalidPage")) (.ref (He.ga K "InvalidRow")) = some false), fun K => decide (PySem.W.kitOne K (.ref (He.ga K "InvalidPage")) (.ref (He.ga K "InvalidNumber")) = some false), fun K => decide (PySem.W.findIn K (.ref (He.ga K "InvalidPage")) "page" = some none), fun K => (K.lookup sysModules).isSome, fun K => (Tb K).all fun p => !decide (p.1 = (He.cT K ("_law_pages_said", none)).2) || decide (p.2 = (("_law_pages_said" : Str) ++ ".<locals>.") ++ "<lambda>"), fun K => decide (PySem.W.takerIn K (He.ga K "InvalidPage") "page" = some none), fun K => xfB K (He.ga K "InvalidPage")]
def ex (K : PySem.W.Frag) : Bool := exs.all fun e => e K
theorem ex_at {K : PySem.W.Frag} (i : Nat) (h : ex K = true) {e : PySem.W.Frag → Bool} (hi : exs[i]? = some e := by rfl) : e K = true := Kr.ex_all h i hi
def tf : List He.Defn := [("_law_pages_said", none)]
abbrev hk : PySem.W.Hook := KrG.hookS 8 fa fn tf ex
def ob (s : PySem.W.SharedT) : He.AlX := KrG.obsS 8 fa fn tf ex (HandSHeadRun.getT s)
theorem ob_eq (s : PySem.W.SharedT) : ob s = hk.obs s.abs := KrG.obsS_eq (HandSHeadRun.getT_eq s)
abbrev R0 : PySem.W.OpenRow := PySem.W.OpenLaw.row PySem.Challenge.rw_keeprows_k11_heap_pages_refused
def loose : List Str := ["_wall", "StoreError", "InvalidSettings", "InvalidRow", "InvalidPage", "InvalidNumber", "ROWS", "is_from", "is_within", "check_row", "MOST_LENGTHS", "MOST_UNITS", "are_lengths", "bounds_behind", "Settings", "check_settings", "rows_from", "units_ahead", "Packing", "_law_mix", "_law_source", "_law_draw", "_law_pick", "_law_parts", "_law_settings", "_law_said", "_law_pages_said", "_law_right"]
theorem runs (w : World) : HandSHeadRun.RunEq R0 (PySem.W.view R0.prog [33]) hk ob 6000 loose w := by
  intro os
  kernel_rfl
theorem facts {P : Program} {w : World} {K : PySem.W.Frag} {h : Heap} {mg : Str → Option Value} {f : Addr} (X : K.In h) (G : h.Ns mainGlobals mg) (hfa : mg ("law" : Str) = some (.ref f)) (c : He.SaysD fa fn K) (e : ex K = true) :
    ∃ fd : FuncData, (∀ (s : Shared) (v : Value), BindsTo s fd ⟨[v], []⟩ [("script", v)]) ∧ ∀ base : Heap, K.In base → base.Ns mainGlobals mg → (∀ p ∈ tf.map (He.cT K), LamX.TabB base mg p.1 p.2) → KrG.FnOkG P w K mg base C8.CX0 9 f fd ["script"] (sp_law K) := by
  have a_Packing__first : NoAttr K (He.ga K "Packing") "_first" := He.noat_ok (c.fact 0 (f := .noat "Packing" "_first") rfl)
  have a_Packing__last : NoAttr K (He.ga K "Packing") "_last" := He.noat_ok (c.fact 1 (f := .noat "Packing" "_last") rfl)
  have a_Packing__pages : NoAttr K (He.ga K "Packing") "_pages" := He.noat_ok (c.fact 2 (f := .noat "Packing" "_pages") rfl)
  have a_Packing__rows : NoAttr K (He.ga K "Packing") "_rows" := He.noat_ok (c.fact 3 (f := .noat "Packing" "_rows") rfl)
  have a_Packing__settings : NoAttr K (He.ga K "Packing") "_settings" := He.noat_ok (c.fact 4 (f := .noat "Packing" "_settings") rfl)
  have a_Packing__starts : NoAttr K (He.ga K "Packing") "_starts" := He.noat_ok (c.fact 5 (f := .noat "Packing" "_starts") rfl)
  have a_Settings_every : NoAttr K (He.ga K "Settings") "every" := He.noat_ok (c.fact 6 (f := .noat "Settings" "every") rfl)
  have a_Settings_fanout : NoAttr K (He.ga K "Settings") "fanout" := He.noat_ok (c.fact 7 (f := .noat "Settings" "fanout") rfl)
  have a_Settings_keep : NoAttr K (He.ga K "Settings") "keep" := He.noat_ok (c.fact 8 (f := .noat "Settings" "keep") rfl)
  have a_Settings_lengths : NoAttr K (He.ga K "Settings") "lengths" := He.noat_ok (c.fact 9 (f := .noat "Settings" "lengths") rfl)
  have a_Settings_records : NoAttr K (He.ga K "Settings") "records" := He.noat_ok (c.fact 10 (f := .noat "Settings" "records") rfl)
  have a_Settings_size : NoAttr K (He.ga K "Settings") "size" := He.noat_ok (c.fact 11 (f := .noat "Settings" "size") rfl)
  have c_Packing : Cls K (He.ga K "Packing") := He.cls_ok (c.fact 12 (f := .cls "Packing") rfl)
  have c_Settings : Cls K (He.ga K "Settings") := He.cls_ok (c.fact 13 (f := .cls "Settings") rfl)
  have g_MOST_LENGTHS : ∃ t, mg "MOST_LENGTHS" = some (.int 6 t) := He.int_ok X G (c.fact 14 (f := .int "MOST_LENGTHS" 6) rfl)
  have g_MOST_UNITS : ∃ t, mg "MOST_UNITS" = some (.int 64 t) := He.int_ok X G (c.fact 15 (f := .int "MOST_UNITS" 64) rfl)
  have g_ROWS : ∃ t, mg "ROWS" = some (.int 1000000000000000000000000000000 t) := He.int_ok X G (c.fact 16 (f := .int "ROWS" 1000000000000000000000000000000) rfl)
  have i_Settings : Kr.InsI K (He.ga K "Settings") := Kr.insB_ok (He.cls_ok (c.fact 13 (f := .cls "Settings") rfl)) (ex_at 0 e)
  have k_InvalidNumber : mg "InvalidNumber" = some (.ref (He.ga K "InvalidNumber")) := He.glo_ok X G (c.fact 17 (f := .glo "InvalidNumber") rfl)
  have k_InvalidPage : mg "InvalidPage" = some (.ref (He.ga K "InvalidPage")) := He.glo_ok X G (c.fact 18 (f := .glo "InvalidPage") rfl)
  have k_InvalidRow : mg "InvalidRow" = some (.ref (He.ga K "InvalidRow")) := He.glo_ok X G (c.fact 19 (f := .glo "InvalidRow") rfl)
  have k_Settings : mg "Settings" = some (.ref (He.ga K "Settings")) := He.glo_ok X G (c.fact 20 (f := .glo "Settings") rfl)
  have k_StoreError : mg "StoreError" = some (.ref (He.ga K "StoreError")) := He.glo_ok X G (c.fact 21 (f := .glo "StoreError") rfl)
  have n_all : mg "all" = none := He.free_ok X G (c.fact 22 (f := .free "all") rfl)
  have n_bool : mg "bool" = none := He.free_ok X G (c.fact 23 (f := .free "bool") rfl)
  have n_int : mg "int" = none := He.free_ok X G (c.fact 24 (f := .free "int") rfl)
  have n_isinstance : mg "isinstance" = none := He.free_ok X G (c.fact 25 (f := .free "isinstance") rfl)
  have n_len : mg "len" = none := He.free_ok X G (c.fact 26 (f := .free "len") rfl)
  have n_list : mg "list" = none := He.free_ok X G (c.fact 27 (f := .free "list") rfl)
  have n_max : mg "max" = none := He.free_ok X G (c.fact 28 (f := .free "max") rfl)
  have n_min : mg "min" = none := He.free_ok X G (c.fact 29 (f := .free "min") rfl)
  have n_range : mg "range" = none := He.free_ok X G (c.fact 30 (f := .free "range") rfl)
  have n_repr : mg "repr" = none := He.free_ok X G (c.fact 31 (f := .free "repr") rfl)
  have n_sum : mg "sum" = none := He.free_ok X G (c.fact 32 (f := .free "sum") rfl)
  have n_tuple : mg "tuple" = none := He.free_ok X G (c.fact 33 (f := .free "tuple") rfl)
  have x_em_InvalidPage : PySem.W.exmOne K (.ref (He.ga K "InvalidPage")) (.ref (He.ga K "StoreError")) = some true := of_decide_eq_true (ex_at 1 e)
  have x_err_InvalidPage : KrE.ErrC K (He.ga K "InvalidPage") := KrE.errB_ok (ex_at 2 e)
  have x_et_InvalidPage : PySem.W.KrErrT K (He.ga K "InvalidPage") := PySem.W.krErrT_ok (ex_at 3 e)
  have x_k1_InvalidPage : PySem.W.kitOne K (.ref (He.ga K "InvalidPage")) (.ref (He.ga K "InvalidPage")) = some true := of_decide_eq_true (ex_at 4 e)
  have x_k2_InvalidPage : PySem.W.kitOne K (.ref (He.ga K "InvalidPage")) (.ref (He.ga K "InvalidRow")) = some false := of_decide_eq_true (ex_at 5 e)
  have x_k3_InvalidPage : PySem.W.kitOne K (.ref (He.ga K "InvalidPage")) (.ref (He.ga K "InvalidNumber")) = some false := of_decide_eq_true (ex_at 6 e)
  have x_no_InvalidPage : PySem.W.findIn K (.ref (He.ga K "InvalidPage")) "page" = some none := of_decide_eq_true (ex_at 7 e)
  have x_sys : (K.lookup sysModules).isSome = true := (ex_at 8 e)
  have x_tbu__law_pages_said : ∀ p ∈ Tb K, p.1 = (He.cT K ("_law_pages_said", none)).2 → p.2 = (("_law_pages_said" : Str) ++ ".<locals>.") ++ "<lambda>" := KrL.tbu_ok (ex_at 9 e)
  have x_tk_InvalidPage : PySem.W.takerIn K (He.ga K "InvalidPage") "page" = some none := of_decide_eq_true (ex_at 10 e)
  have x_xf_InvalidPage : XfC K (He.ga K "InvalidPage") := xfB_ok (ex_at 11 e)
  obtain ⟨fd0, F0⟩ := c.def_ 0 (d := d_InvalidPage___init__) rfl
  obtain ⟨fd1, F1⟩ := c.def_ 1 (d := d_is_from) rfl
  obtain ⟨fd2, F2⟩ := c.def_ 2 (d := d_is_within) rfl
  obtain ⟨fd3, F3⟩ := c.def_ 3 (d := d_check_row) rfl
  obtain ⟨fd4, F4⟩ := c.def_ 4 (d := d_are_lengths) rfl
  obtain ⟨fd5, F5⟩ := c.def_ 5 (d := d_bounds_behind) rfl
  obtain ⟨fd6, F6⟩ := c.def_ 6 (d := d_Settings___init__) rfl
  obtain ⟨fd7, F7⟩ := c.def_ 7 (d := d_check_settings) rfl
  obtain ⟨fd8, F8⟩ := c.def_ 8 (d := d_rows_from) rfl
  obtain ⟨fd9, F9⟩ := c.def_ 9 (d := d_units_ahead) rfl
  obtain ⟨fd10, F10⟩ := c.def_ 10 (d := d_Packing_page_with) rfl
  obtain ⟨fd11, F11⟩ := c.def_ 11 (d := d_Packing___init__) rfl
  obtain ⟨fd12, F12⟩ := c.def_ 12 (d := d_Packing_page_of) rfl
  obtain ⟨fd13, F13⟩ := c.def_ 13 (d := d_Packing_start_of) rfl
  obtain ⟨fd14, F14⟩ := c.def_ 14 (d := d_Packing__check_page) rfl
  obtain ⟨fd15, F15⟩ := c.def_ 15 (d := d_Packing_first_row) rfl
  obtain ⟨fd16, F16⟩ := c.def_ 16 (d := d_Packing_rows_on) rfl
  obtain ⟨fd17, F17⟩ := c.def_ 17 (d := d_Packing__units_between) rfl
  obtain ⟨fd18, F18⟩ := c.def_ 18 (d := d_Packing_units_on) rfl
  obtain ⟨fd19, F19⟩ := c.def_ 19 (d := d__law_mix) rfl
  obtain ⟨fd20, F20⟩ := c.def_ 20 (d := d__law_source) rfl
  obtain ⟨fd21, F21⟩ := c.def_ 21 (d := d__law_draw) rfl
  obtain ⟨fd22, F22⟩ := c.def_ 22 (d := d__law_pick) rfl
  obtain ⟨fd23, F23⟩ := c.def_ 23 (d := d__law_parts) rfl
  obtain ⟨fd24, F24⟩ := c.def_ 24 (d := d__law_settings) rfl
  obtain ⟨fd25, F25⟩ := c.def_ 25 (d := d__law_said) rfl
  obtain ⟨fd26, F26⟩ := c.def_ 26 (d := d_is_from__r) rfl
  obtain ⟨fd27, F27⟩ := c.def_ 27 (d := d_is_within__r) rfl
  obtain ⟨fd28, F28⟩ := c.def_ 28 (d := d_Packing__check_page__r) rfl
  obtain ⟨fd29, F29⟩ := c.def_ 29 (d := d_Packing_units_on__r) rfl
  obtain ⟨fd30, F30⟩ := c.def_ 30 (d := d_Packing_rows_on__r) rfl
  obtain ⟨fd31, F31⟩ := c.def_ 31 (d := d_Packing_first_row__r) rfl
  obtain ⟨fd32, F32⟩ := c.def_ 32 (d := d__law_pages_said) rfl
  obtain ⟨fd33, F33⟩ := c.def_ 33 (d := d__law_right) rfl
  obtain ⟨fd34, F34⟩ := c.def_ 34 (d := d_law) rfl
  have eq := hfa.symm.trans (He.glo_ok X G (c.fact 63 (f := .glo "law") rfl))
  cases eq
  have bl := FunD.bindsA (ps := ["script"]) F34 fun _ _ _ _ _ _ us hl => match us, hl with | [_], _ => rfl
  refine ⟨fd34, fun s v => bl s [v] rfl, fun base _ _ TB => ?_⟩
  have tb__law_pages_said : LamX.TabB base mg (He.cT K ("_law_pages_said", none)).1 (He.cT K ("_law_pages_said", none)).2 := TB _ (List.mem_map.mpr ⟨("_law_pages_said", none), by simp [tf], rfl⟩)
  have er_InvalidPage : KrE.ErH P w K mg base CX0 1 "InvalidPage" (He.ga K "InvalidPage") ["self", "page"] (sp_InvalidPage___init__ K) := ⟨_, _, He.glo_ok X G (c.fact 18 (f := .glo "InvalidPage") rfl), x_err_InvalidPage, (He.meth_ok (c.fact 34 (f := .meth "InvalidPage" "__init__") rfl)).at_, beq_iff_eq.mp (He.meth_ok (c.fact 34 (f := .meth "InvalidPage" "__init__") rfl)).fn, (F0.bindsN fun _ _ _ _ _ _ us hl => match us, hl with | [_, _], _ => rfl), (ok_InvalidPage___init__ F0 x_err_InvalidPage x_tk_InvalidPage)⟩
  have h_is_from : Kr.FnH P w K mg base CX0 1 "is_from" ["number", "least"] (sp_is_from K) := Kr.FnH.of F1 (He.glo_ok X G (c.fact 35 (f := .glo "is_from") rfl)) (F1.bindsN fun _ _ _ _ _ _ us hl => match us, hl with | [_, _], _ => rfl) (ok_is_from F1 n_bool n_int n_isinstance)
  have h_is_within : Kr.FnH P w K mg base CX0 2 "is_within" ["number", "least", "most"] (sp_is_within K) := Kr.FnH.of F2 (He.glo_ok X G (c.fact 36 (f := .glo "is_within") rfl)) (F2.bindsN fun _ _ _ _ _ _ us hl => match us, hl with | [_, _, _], _ => rfl) (ok_is_within F2 h_is_from)
  have h_check_row : Kr.FnH P w K mg base CX0 3 "check_row" ["row"] (sp_check_row K) := Kr.FnH.of F3 (He.glo_ok X G (c.fact 37 (f := .glo "check_row") rfl)) (F3.bindsN fun _ _ _ _ _ _ us hl => match us, hl with | [_], _ => rfl) (ok_check_row F3 g_ROWS h_is_within)
  have h_are_lengths : Kr.FnH P w K mg base CX0 3 "are_lengths" ["lengths"] (sp_are_lengths K) := Kr.FnH.of F4 (He.glo_ok X G (c.fact 38 (f := .glo "are_lengths") rfl)) (F4.bindsN fun _ _ _ _ _ _ us hl => match us, hl with | [_], _ => rfl) (ok_are_lengths F4 g_MOST_LENGTHS g_MOST_UNITS h_is_within n_all n_isinstance n_len n_list)
  have h_bounds_behind : Kr.FnH P w K mg base CX0 1 "bounds_behind" ["lengths"] (sp_bounds_behind K) := Kr.FnH.of F5 (He.glo_ok X G (c.fact 39 (f := .glo "bounds_behind") rfl)) (F5.bindsN fun _ _ _ _ _ _ us hl => match us, hl with | [_], _ => rfl) (ok_bounds_behind F5 g_MOST_UNITS n_max)
  have mk_Settings : Kr.MkK P w K mg base CX0 4 "Settings" (He.ga K "Settings") ["self", "lengths", "size", "fanout", "records", "every", "keep"] 3 ["fanout", "records", "every", "keep"] (sp_Settings___init__ K) := Kr.MkK.of (He.glo_ok X G (c.fact 20 (f := .glo "Settings") rfl)) (He.mkr_ok (c.fact 40 (f := .mkr "Settings") rfl)) (Kr.kbn_all F6 3 ["fanout", "records", "every", "keep"] fun _ _ _ _ _ _ us ws h1 h2 => match us, ws, h1, h2 with | [_, _, _], [_, _, _, _], _, _ => rfl) (ok_Settings___init__ F6 a_Settings_every a_Settings_fanout a_Settings_keep a_Settings_lengths a_Settings_records a_Settings_size c_Settings h_are_lengths h_bounds_behind h_is_within n_tuple)
  have h_check_settings : Kr.FnH P w K mg base CX0 1 "check_settings" ["settings"] (sp_check_settings K) := Kr.FnH.of F7 (He.glo_ok X G (c.fact 41 (f := .glo "check_settings") rfl)) (F7.bindsN fun _ _ _ _ _ _ us hl => match us, hl with | [_], _ => rfl) (ok_check_settings F7 i_Settings k_Settings n_isinstance)
  have h_rows_from : Kr.FnH P w K mg base CX0 1 "rows_from" ["settings", "row"] (sp_rows_from K) := Kr.FnH.of F8 (He.glo_ok X G (c.fact 42 (f := .glo "rows_from") rfl)) (F8.bindsN fun _ _ _ _ _ _ us hl => match us, hl with | [_, _], _ => rfl) (ok_rows_from F8 a_Settings_lengths a_Settings_size c_Settings n_len n_sum)
  have h_units_ahead : Kr.FnH P w K mg base CX0 1 "units_ahead" ["settings", "row"] (sp_units_ahead K) := Kr.FnH.of F9 (He.glo_ok X G (c.fact 43 (f := .glo "units_ahead") rfl)) (F9.bindsN fun _ _ _ _ _ _ us hl => match us, hl with | [_, _], _ => rfl) (ok_units_ahead F9 a_Settings_lengths c_Settings n_len n_sum)
  have m_Packing_page_with : Kr.MtH P w K mg base CX0 1 (He.ga K "Packing") "page_with" ["self", "row"] (sp_Packing_page_with K) := Kr.MtH.of (He.meth_ok (c.fact 44 (f := .meth "Packing" "page_with") rfl)) (F10.bindsN fun _ _ _ _ _ _ us hl => match us, hl with | [_, _], _ => rfl) (ok_Packing_page_with F10 a_Packing__first a_Packing__pages a_Packing__rows a_Packing__starts c_Packing n_max)
  have mk_Packing : Kr.MkH P w K mg base CX0 2 "Packing" (He.ga K "Packing") ["self", "settings"] (sp_Packing___init__ K) := Kr.MkH.of (He.glo_ok X G (c.fact 46 (f := .glo "Packing") rfl)) (He.mkr_ok (c.fact 45 (f := .mkr "Packing") rfl)) (F11.bindsN fun _ _ _ _ _ _ us hl => match us, hl with | [_, _], _ => rfl) (ok_Packing___init__ F11 a_Packing__first a_Packing__last a_Packing__pages a_Packing__rows a_Packing__settings a_Packing__starts a_Settings_lengths c_Packing c_Settings g_ROWS h_check_settings h_rows_from m_Packing_page_with n_len)
  have m_Packing_page_of : Kr.MtH P w K mg base CX0 4 (He.ga K "Packing") "page_of" ["self", "row"] (sp_Packing_page_of K) := Kr.MtH.of (He.meth_ok (c.fact 47 (f := .meth "Packing" "page_of") rfl)) (F12.bindsN fun _ _ _ _ _ _ us hl => match us, hl with | [_, _], _ => rfl) (ok_Packing_page_of F12 c_Packing h_check_row m_Packing_page_with)
  have m_Packing_start_of : Kr.MtH P w K mg base CX0 1 (He.ga K "Packing") "start_of" ["self", "page"] (sp_Packing_start_of K) := Kr.MtH.of (He.meth_ok (c.fact 48 (f := .meth "Packing" "start_of") rfl)) (F13.bindsN fun _ _ _ _ _ _ us hl => match us, hl with | [_, _], _ => rfl) (ok_Packing_start_of F13 a_Packing__first a_Packing__pages a_Packing__rows a_Packing__starts c_Packing n_max)
  have m_Packing__check_page : Kr.MtH P w K mg base CX0 3 (He.ga K "Packing") "_check_page" ["self", "page"] (sp_Packing__check_page K) := Kr.MtH.of (He.meth_ok (c.fact 49 (f := .meth "Packing" "_check_page") rfl)) (F14.bindsN fun _ _ _ _ _ _ us hl => match us, hl with | [_, _], _ => rfl) (ok_Packing__check_page F14 a_Packing__last c_Packing h_is_within)
  have m_Packing_first_row : Kr.MtH P w K mg base CX0 4 (He.ga K "Packing") "first_row" ["self", "page"] (sp_Packing_first_row K) := Kr.MtH.of (He.meth_ok (c.fact 50 (f := .meth "Packing" "first_row") rfl)) (F15.bindsN fun _ _ _ _ _ _ us hl => match us, hl with | [_, _], _ => rfl) (ok_Packing_first_row F15 c_Packing m_Packing__check_page m_Packing_start_of)
  have m_Packing_rows_on : Kr.MtH P w K mg base CX0 4 (He.ga K "Packing") "rows_on" ["self", "page"] (sp_Packing_rows_on K) := Kr.MtH.of (He.meth_ok (c.fact 51 (f := .meth "Packing" "rows_on") rfl)) (F16.bindsN fun _ _ _ _ _ _ us hl => match us, hl with | [_, _], _ => rfl) (ok_Packing_rows_on F16 c_Packing m_Packing__check_page m_Packing_start_of)
  have m_Packing__units_between : Kr.MtH P w K mg base CX0 2 (He.ga K "Packing") "_units_between" ["self", "row", "after"] (sp_Packing__units_between K) := Kr.MtH.of (He.meth_ok (c.fact 52 (f := .meth "Packing" "_units_between") rfl)) (F17.bindsN fun _ _ _ _ _ _ us hl => match us, hl with | [_, _, _], _ => rfl) (ok_Packing__units_between F17 a_Packing__settings c_Packing h_units_ahead)
  have m_Packing_units_on : Kr.MtH P w K mg base CX0 4 (He.ga K "Packing") "units_on" ["self", "page"] (sp_Packing_units_on K) := Kr.MtH.of (He.meth_ok (c.fact 53 (f := .meth "Packing" "units_on") rfl)) (F18.bindsN fun _ _ _ _ _ _ us hl => match us, hl with | [_, _], _ => rfl) (ok_Packing_units_on F18 c_Packing m_Packing__check_page m_Packing__units_between m_Packing_start_of)
  have h__law_mix : Kr.FnH P w K mg base CX0 1 "_law_mix" ["cell", "lap"] (sp__law_mix K) := Kr.FnH.of F19 (He.glo_ok X G (c.fact 54 (f := .glo "_law_mix") rfl)) (F19.bindsN fun _ _ _ _ _ _ us hl => match us, hl with | [_, _], _ => rfl) (ok__law_mix F19 n_int)
  have h__law_source : Kr.FnH P w K mg base CX0 1 "_law_source" ["script", "k"] (sp__law_source K) := Kr.FnH.of F20 (He.glo_ok X G (c.fact 55 (f := .glo "_law_source") rfl)) (F20.bindsN fun _ _ _ _ _ _ us hl => match us, hl with | [_, _], _ => rfl) (ok__law_source F20 n_len)
  have h__law_draw : Kr.FnH P w K mg base CX0 2 "_law_draw" ["source", "limit"] (sp__law_draw K) := Kr.FnH.of F21 (He.glo_ok X G (c.fact 56 (f := .glo "_law_draw") rfl)) (F21.bindsN fun _ _ _ _ _ _ us hl => match us, hl with | [_, _], _ => rfl) (ok__law_draw F21 h__law_mix n_int)
  have h__law_pick : Kr.FnH P w K mg base CX0 3 "_law_pick" ["source", "items"] (sp__law_pick K) := Kr.FnH.of F22 (He.glo_ok X G (c.fact 57 (f := .glo "_law_pick") rfl)) (F22.bindsN fun _ _ _ _ _ _ us hl => match us, hl with | [_, _], _ => rfl) (ok__law_pick F22 h__law_draw n_len)
  have h__law_parts : Kr.FnH P w K mg base CX0 4 "_law_parts" ["source"] (sp__law_parts K) := Kr.FnH.of F23 (He.glo_ok X G (c.fact 58 (f := .glo "_law_parts") rfl)) (F23.bindsN fun _ _ _ _ _ _ us hl => match us, hl with | [_], _ => rfl) (ok__law_parts F23 h__law_draw h__law_pick n_range)
  have h__law_settings : Kr.FnH P w K mg base CX0 6 "_law_settings" ["p"] (sp__law_settings K) := Kr.FnH.of F24 (He.glo_ok X G (c.fact 59 (f := .glo "_law_settings") rfl)) (F24.bindsN fun _ _ _ _ _ _ us hl => match us, hl with | [_], _ => rfl) (ok__law_settings F24 mk_Settings)
  have lm__law_said : KrG.LamHG P w K mg base "_law_said" (tt__law_said K) := lt__law_said F25 (He.glo_ok X G (c.fact 60 (f := .glo "_law_said") rfl)) (F25.bindsN fun _ _ _ _ _ _ us hl => match us, hl with | [_], _ => rfl) k_InvalidNumber k_InvalidPage k_InvalidRow k_StoreError n_isinstance n_repr x_em_InvalidPage x_et_InvalidPage x_k1_InvalidPage x_k2_InvalidPage x_k3_InvalidPage x_no_InvalidPage x_sys x_xf_InvalidPage
  have h_is_from__r : Kr.FnH P w K mg base CX0 1 "is_from" ["number", "least"] (sp_is_from__r K) := Kr.FnH.of F26 (He.glo_ok X G (c.fact 35 (f := .glo "is_from") rfl)) (F26.bindsN fun _ _ _ _ _ _ us hl => match us, hl with | [_, _], _ => rfl) (ok_is_from__r F26 n_bool n_int n_isinstance)
  have h_is_within__r : Kr.FnH P w K mg base CX0 2 "is_within" ["number", "least", "most"] (sp_is_within__r K) := Kr.FnH.of F27 (He.glo_ok X G (c.fact 36 (f := .glo "is_within") rfl)) (F27.bindsN fun _ _ _ _ _ _ us hl => match us, hl with | [_, _, _], _ => rfl) (ok_is_within__r F27 h_is_from__r)
  have m_Packing__check_page__r : Kr.MtH P w K mg base (L2.CX P w) 3 (He.ga K "Packing") "_check_page" ["self", "page"] (sp_Packing__check_page__r K) := Kr.MtH.of (He.meth_ok (c.fact 49 (f := .meth "Packing" "_check_page") rfl)) (F28.bindsN fun _ _ _ _ _ _ us hl => match us, hl with | [_, _], _ => rfl) (ok_Packing__check_page__r F28 a_Packing__last c_Packing er_InvalidPage h_is_within__r)
  have m_Packing_units_on__r : Kr.MtH P w K mg base (L2.CX P w) 4 (He.ga K "Packing") "units_on" ["self", "page"] (sp_Packing_units_on__r K) := Kr.MtH.of (He.meth_ok (c.fact 53 (f := .meth "Packing" "units_on") rfl)) (F29.bindsN fun _ _ _ _ _ _ us hl => match us, hl with | [_, _], _ => rfl) (ok_Packing_units_on__r F29 c_Packing m_Packing__check_page__r m_Packing__units_between m_Packing_start_of)
  have m_Packing_rows_on__r : Kr.MtH P w K mg base (L2.CX P w) 4 (He.ga K "Packing") "rows_on" ["self", "page"] (sp_Packing_rows_on__r K) := Kr.MtH.of (He.meth_ok (c.fact 51 (f := .meth "Packing" "rows_on") rfl)) (F30.bindsN fun _ _ _ _ _ _ us hl => match us, hl with | [_, _], _ => rfl) (ok_Packing_rows_on__r F30 c_Packing m_Packing__check_page__r m_Packing_start_of)
  have m_Packing_first_row__r : Kr.MtH P w K mg base (L2.CX P w) 4 (He.ga K "Packing") "first_row" ["self", "page"] (sp_Packing_first_row__r K) := Kr.MtH.of (He.meth_ok (c.fact 50 (f := .meth "Packing" "first_row") rfl)) (F31.bindsN fun _ _ _ _ _ _ us hl => match us, hl with | [_, _], _ => rfl) (ok_Packing_first_row__r F31 c_Packing m_Packing__check_page__r m_Packing_start_of)
  have h__law_pages_said : KrG.FnHG P w K mg base C8.CX0 7 "_law_pages_said" ["packed", "odd"] (sp__law_pages_said K) := KrG.FnHG.of F32 (He.glo_ok X G (c.fact 61 (f := .glo "_law_pages_said") rfl)) (F32.bindsN fun _ _ _ _ _ _ us hl => match us, hl with | [_, _], _ => rfl) (ok__law_pages_said F32 (KrL.code_cT F32) c_Packing lm__law_said m_Packing_first_row__r m_Packing_rows_on__r m_Packing_units_on__r tb__law_pages_said x_tbu__law_pages_said)
  have h__law_right : KrG.FnHG P w K mg base C8.CX0 8 "_law_right" ["source"] (sp__law_right K) := KrG.FnHG.of F33 (He.glo_ok X G (c.fact 62 (f := .glo "_law_right") rfl)) (F33.bindsN fun _ _ _ _ _ _ us hl => match us, hl with | [_], _ => rfl) (ok__law_right F33 c_Packing h__law_draw h__law_pages_said h__law_parts h__law_settings m_Packing_page_of mk_Packing n_repr x_sys)
  exact ok_law F34 h__law_right h__law_source n_len n_max n_min n_range
end Kw
section
open PyProof.Rows PySem PySem.Calls PySem.W
theorem PySem.Challenge.cw_keeprows_k11_heap_pages_refused_holds : PySem.Challenge.rw_keeprows_k11_heap_pages_refused.Holds := by
  w_on; o_law
  refine HandSHeadRun.head_any (r := Kw.R0) (q := view Kw.R0.prog [33]) (H := Kw.hk) (ob := Kw.ob) (M := 6000) (loose := Kw.loose) (d := HandSHeadRun.topDef Kw.R0.prog 33) (kwd := []) Kw.ob_eq
    (by kernel_rfl) (fun s => by kernel_rfl) Kw.runs (by kernel_rfl) (by kernel_rfl) (by kernel_rfl) (by rfl) (by first | assumption | decide +kernel) (by decide +kernel) ⟨rfl, rfl, rfl, rfl, rfl, by decide +kernel⟩ ?hw ?hc
  case hw =>
    w_witness2
  case hc =>
    refine KrG.walkG (l := PySem.Challenge.rw_keeprows_k11_heap_pages_refused) (n := 63) (k := 9) (x := "script") rfl (by decide) (by kernel_rfl) ⟨rfl, by decide, by decide⟩ ?F
    intro w mg fa h Y G hmg0
    obtain ⟨K, KX, c⟩ := Y
    have hmg : mg ("law" : PySem.Str) = some (.ref fa) := by
      have en : (HandSHeadRun.topDef Kw.R0.prog 33).name = ("law" : PySem.Str) := by kernel_rfl
      rw [← en]
      exact hmg0
    obtain ⟨fd, hb, hF⟩ := Kw.facts (P := (PySem.Challenge.rw_keeprows_k11_heap_pages_refused).prog) (w := w) KX G hmg c.t.d c.more
    refine ⟨K, fd, Kw.tf.map (He.cT K), Kw.sp_law K, KX, fun p hp => ?_, fun p hp => ?_, fun p hp => ?_, hb, fun H a ns hl hT hS => ⟨a, ns, rfl, hS, hl, ?_, fun _ => rfl⟩, hF⟩
    · obtain ⟨q, hq, rfl⟩ := List.mem_map.mp hp
      exact c.empty q hq
    · obtain ⟨q, hq, rfl⟩ := List.mem_map.mp hp
      exact c.out q hq
    · obtain ⟨q, hq, rfl⟩ := List.mem_map.mp hp
      exact PySem.W.codeHd_of_K KX (c.hd q hq)
    · exact Kw.tb0 hT
end

