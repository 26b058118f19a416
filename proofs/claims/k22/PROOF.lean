import PyProof.Rows.All
import Wide.All
import OpenK.AllK
import Wide.FinOn
import HandS.Base
import HandS.Call
import HandS.List
import HandS.Comp
import HandS.Dict
import HandS.Iter
import HandS.Ends
import HandS.Words
import HandS.WordsList
import HandS.WordsDict
import HandS.Wide
import HandS.IsInst
import HandS.Defaults
import HandS.MakeKw
import HandS.MakeKwOnly
import HandS.Head0
import HandS.Head1
import HandS.Head2
import HandS.HeadEnd
import HandS.HeadHook1
import HandS.HeadHook2
import HandS.Style
import HandS.Conv
import PyProof.Rows.SeqMore
import HandS.TryOnly
import KE.KDictList
import HandS.More
import PyProof.InstNe
import HandS.ExcInit
import HandS.TryMany
import HandS.ExcIs
import HandS.ExcField
import KE.KExcInit
import HandS.ExcOwn
import HandS.Lambda
import HandS.EndTab
import HandS.HeadHook4
import KE.KNestM
import HandS.HeadWalk
import PyProof.ReprRoads
import PyProof.CallFns
import HandS.SortInts
import HandS.WordsExc
import HandS.WordsExc
import PySem.Challenge.RW_keeprows_k22_what_is_no_turn
set_option Elab.async false
set_option linter.all false
set_option maxRecDepth 100000
set_option maxHeartbeats 8000000

namespace Kr
open L2 PySem PySem.Spec PyProof.Rows

/-! ### a def of the text, called by its name -/
section
variable (P : Program) (w : World) (K : PySem.W.Frag) (mg : Str → Option Value) (base : Heap) (CX : CXT) (k : Nat)
def FnH (x : Str) (ps : List Str) (sp : Sp) : Prop := ∃ (f : Addr) (fd : FuncData), mg x = some (.ref f) ∧ PySem.W.keepIn K (.ref f) = true ∧ Binds K fd ps [] ∧ FnOk P w K mg base CX k f fd ps sp
def MtH (C : Addr) (m : Str) (ps : List Str) (sp : Sp) : Prop := ∃ (f : Addr) (fd : FuncData), Meth K C m f ∧ Binds K fd ps [] ∧ FnOk P w K mg base CX k f fd ps sp
/-- the class of the module's name x is made by positional values -/
def MkH (x : Str) (C : Addr) (ps : List Str) (sp : Sp) : Prop := ∃ (f : Addr) (fd : FuncData), mg x = some (.ref C) ∧ Mk K C f ∧ Binds K fd ps [] ∧ FnOk P w K mg base CX k f fd ps sp
/-- the class is made by n positional values (self counted) and keywords ks -/
def MkK (x : Str) (C : Addr) (ps : List Str) (n : Nat) (ks : List Str) (sp : Sp) : Prop := ∃ (f : Addr) (fd : FuncData), mg x = some (.ref C) ∧ Mk K C f ∧ KBn K fd ps n ks (fun us ws => us ++ ws) (fun vs zs => vs ++ zs) ∧ FnOk P w K mg base CX k f fd ps sp
end
section
variable {X : Cx} {CX : CXT} {k n : Nat} {C : Addr} {ps ks : List Str} {sp : Sp} {E : XK} {x m : Str} {p pos apos : Pos} {e o : Expr} {es : List Expr} {kws : List Keyword} {t tk : TA} {ta : TE}
theorem pe_clE (h : FnH X.prog X.w X.K X.mg X.base CX k x ps sp) (hr : Room k X.A) (hx : Passes CX X E) (ha : PA X (e :: es) t) (hg : Gl X x := by rfl) (hdb : (x == ("__debug__" : Str)) = false := by decide)
    (he : starEach (e :: es) X.env = (false, eval e X.env) :: starEach es X.env := by rfl) (hpl : (backTo pos (starEach es X.env)).any (·.1) = false := by rfl) : PE X (.Call (.Name x p) (e :: es) [] pos) (tCall sp [] E t) := by
  obtain ⟨f, fd, hm, hk, hb, F⟩ := h
  exact pe_call F hr hg hm hk hb .nil hx ha hdb he hpl
theorem pe_cl (h : FnH X.prog X.w X.K X.mg X.base CX0 k x ps sp) (hr : Room k X.A) (ha : PA X (e :: es) t) (hg : Gl X x := by rfl) (hdb : (x == ("__debug__" : Str)) = false := by decide)
    (he : starEach (e :: es) X.env = (false, eval e X.env) :: starEach es X.env := by rfl) (hpl : (backTo pos (starEach es X.env)).any (·.1) = false := by rfl) : PE X (.Call (.Name x p) (e :: es) [] pos) (tCall sp [] E0 t) :=
  pe_clE h hr pass0 ha hg hdb he hpl
theorem pe_mt (h : MtH X.prog X.w X.K X.mg X.base CX0 k C m ps sp) (c : Cls X.K C) (hr : Room k X.A) (he : PE X o ta) (ha : PA X (e :: es) t) {pl : Sem Bool}
    (hst : starEach (e :: es) X.env = (false, eval e X.env) :: starEach es X.env := by rfl) (hpl : (backTo pos (starEach es X.env)).any (·.1) = false := by rfl)
    (ht : eval (.Call (.Attribute o m apos) (e :: es) [] pos) X.env = (do
      let ov ← eval o X.env
      standAt apos.atName
      let (f, first) ← holding [ov] (getMethod ov m pl)
      callWith pos f first (backTo pos (starEach (e :: es) X.env)) (backToKw pos (keywordEach [] X.env))) := by rfl) :
    PE X (.Call (.Attribute o m apos) (e :: es) [] pos) (tMeth C m sp [] E0 ta t) := by
  obtain ⟨f, fd, hm, hb, F⟩ := h
  exact pe_meth he c hm F hr hb .nil pass0 ha hst hpl ht
theorem pe_mt0 (h : MtH X.prog X.w X.K X.mg X.base CX0 k C m ps sp) (c : Cls X.K C) (hr : Room k X.A) (he : PE X o ta) {pl : Sem Bool}
    (ht : eval (.Call (.Attribute o m apos) [] [] pos) X.env = (do
      let ov ← eval o X.env
      standAt apos.atName
      let (f, first) ← holding [ov] (getMethod ov m pl)
      callWith pos f first (backTo pos (starEach [] X.env)) (backToKw pos (keywordEach [] X.env))) := by rfl) :
    PE X (.Call (.Attribute o m apos) [] [] pos) (tMeth C m sp [] E0 ta tNil) := by
  obtain ⟨f, fd, hm, hb, F⟩ := h
  exact pe_meth0 he c hm F hr hb .nil pass0 ht
theorem pe_mk (h : MkH X.prog X.w X.K X.mg X.base CX0 k x C ps sp) (hr : Room (k + 1) X.A) (ha : PA X (e :: es) t) (hg : Gl X x := by rfl) (hdb : (x == ("__debug__" : Str)) = false := by decide)
    (he : starEach (e :: es) X.env = (false, eval e X.env) :: starEach es X.env := by rfl) (hpl : (backTo pos (starEach es X.env)).any (·.1) = false := by rfl) : PE X (.Call (.Name x p) (e :: es) [] pos) (tMake C sp [] E0 t) := by
  obtain ⟨f, fd, hm, M, hb, F⟩ := h
  exact pe_make M F hr hg hm hb .nil pass0 ha hdb he hpl
theorem pe_mkE (h : MkK X.prog X.w X.K X.mg X.base CX k x C ps (n + 1) ks sp) (hr : Room (k + 1) X.A) (hx : Passes CX X E) (ha : PA X (e :: es) t) (hkw : PK X kws tk) (hg : Gl X x := by rfl)
    (hall : (backToKw pos (keywordEach kws X.env)).all (·.1.isSome) = true := by rfl) (hks : (backToKw pos (keywordEach kws X.env)).filterMap (·.1) = ks := by rfl) (hdb : (x == ("__debug__" : Str)) = false := by decide)
    (he : starEach (e :: es) X.env = (false, eval e X.env) :: starEach es X.env := by rfl) (hpl : ((backTo pos (starEach (e :: es) X.env)).any (·.1) || (backToKw pos (keywordEach kws X.env)).any (·.1.isNone)) = false := by rfl) :
    PE X (.Call (.Name x p) (e :: es) kws pos) (tMakeK C n ks.length sp (fun vs zs => vs ++ zs) E t tk) := by
  obtain ⟨f, fd, hm, M, hb, F⟩ := h
  exact pe_makeK M F hr hg hm hb hx ha hkw hall hks hdb he hpl
theorem pe_gint {i : Int} (h : ∃ t, X.mg x = some (.int i t)) (hg : Gl X x := by rfl) (hd : (x == ("__debug__" : Str)) = false := by decide) : PE X (.Name x pos) (tC (.int i)) := by
  obtain ⟨t, ht⟩ := h
  exact pe_glob hg ht ⟨t, rfl⟩ hd
theorem pe_gcls (h : X.mg x = some (.ref C)) (hg : Gl X x := by rfl) (hd : (x == ("__debug__" : Str)) = false := by decide) : PE X (.Name x pos) (tC (.ref C)) := pe_glob hg h rfl hd
theorem pe_bty {T : String} (hm : X.mg x = none) (hv : bootBuiltins x = some (.type T) := by decide +kernel) (hg : Gl X x := by rfl) (hn : x ≠ "__name__" := by decide) (hd : (x == ("__debug__" : Str)) = false := by decide) : PE X (.Name x pos) (tC (.ty T)) := pe_bltn hg hm hv rfl hn hd
end

/-! ### from the head's facts -/
section
variable {P : Program} {w : World} {K : PySem.W.Frag} {mg : Str → Option Value} {base : Heap} {CX : CXT} {k : Nat} {x : Str} {fd : FuncData} {params : Arguments} {body : List Stmt} {scope : Scope} {ps : List Str} {sp : Sp} {qual : Str}
theorem FnH.of (F : FunD K x qual params body scope [] [] (He.ga K x) fd) (g : mg x = some (.ref (He.ga K x))) (b : Binds K fd ps []) (ok : FnOk P w K mg base CX k (He.ga K x) fd ps sp) : FnH P w K mg base CX k x ps sp := ⟨_, _, g, F.kp, b, ok⟩
theorem MtH.of {C f : Addr} {m : Str} (M : Meth K C m f) (b : Binds K fd ps []) (ok : FnOk P w K mg base CX k f fd ps sp) : MtH P w K mg base CX k C m ps sp := ⟨_, _, M, b, ok⟩
theorem MkH.of {C f : Addr} (g : mg x = some (.ref C)) (M : Mk K C f) (b : Binds K fd ps []) (ok : FnOk P w K mg base CX k f fd ps sp) : MkH P w K mg base CX k x C ps sp := ⟨_, _, g, M, b, ok⟩
theorem MkK.of {C f : Addr} {n : Nat} {ks : List Str} (g : mg x = some (.ref C)) (M : Mk K C f) (b : KBn K fd ps n ks (fun us ws => us ++ ws) (fun vs zs => vs ++ zs)) (ok : FnOk P w K mg base CX k f fd ps sp) : MkK P w K mg base CX k x C ps n ks sp := ⟨_, _, g, M, b, ok⟩
/-- n positional values and keywords, every parameter given, in the parameters' order -/
theorem kbn_all {f : Addr} {m : Str} (F : FunD K m qual params body scope [] [] f fd) (n : Nat) (ks : List Str)
    (h : ∀ (kV doc pm : Value) (an : Option Addr) (cdv ct : Value) (us ws : List Value), us.length = n → ws.length = ks.length → bindArgs (PySem.W.fnOf m qual params body scope .none kV doc pm an cdv ct) ⟨us, ks.zip ws⟩ = pure (ps.zip (us ++ ws))) :
    KBn K fd ps n ks (fun us ws => us ++ ws) (fun vs zs => vs ++ zs) := by
  obtain ⟨oc, od, dV, kV, doc, pm, an, cdv, ct, osl, rfl, lk, hcd, hD, hK⟩ := F.ex
  rcases hD with ⟨_, rfl⟩ | ⟨e, _⟩
  · exact ⟨fun s us ws _ h1 h2 => .of_eq (h kV doc pm an cdv ct us ws h1 h2), fun a b => a.append b⟩
  · exact absurd rfl e
end

/-! ### the head with one more Bool -/
abbrev AlM : Type := He.AlD × Bool
def obsM (n : Nat) (fa : List He.Fa) (fn : List He.DefD) (ex : PySem.W.Frag → Bool) (g : Addr → Option Obj) : AlM := (He.obsDG n fa fn g, ex (He.frG g (He.asD g n)))
def hookM (n : Nat) (fa : List He.Fa) (fn : List He.DefD) (ex : PySem.W.Frag → Bool) : PySem.W.Hook where
  α := AlM
  obs := fun s => obsM n fa fn ex s.heap.get?
  val := fun _ => (He.valD fn, true)
  says := fun _ h => ∃ K : PySem.W.Frag, K.In h ∧ He.SaysD fa fn K ∧ ex K = true
  of := fun _ _ e => ⟨_, He.frG_in, congrArg (fun z : AlM => z.1) e, congrArg (fun z : AlM => z.2) e⟩
  keeps := fun _ _ _ ⟨K, hK, c, d⟩ k => ⟨K, PySem.W.Frag.In.keeps hK k, c, d⟩
theorem obsM_eq {n : Nat} {fa : List He.Fa} {fn : List He.DefD} {ex : PySem.W.Frag → Bool} {g : Addr → Option Obj} {s : Shared} (h : ∀ a, g a = s.heap.get? a) : obsM n fa fn ex g = (hookM n fa fn ex).obs s := by
  have e : g = s.heap.get? := funext h
  rw [e] <;> rfl
theorem ex_all {es : List (PySem.W.Frag → Bool)} {K : PySem.W.Frag} (h : (es.all fun e => e K) = true) (i : Nat) {e : PySem.W.Frag → Bool} (hi : es[i]? = some e := by rfl) : e K = true := List.all_eq_true.mp h e (List.mem_of_getElem? hi)

/-! ### heaps -/
theorem upd_free {H : Hp} {a p : Addr} {o u : HO} (h : H a = some u) (hp : H p = none) : upd H p o a = some u := by
  rw [upd_ne (ne_of_none h hp)]
  exact h
theorem same_new {H : Hp} {p : Addr} {o : HO} (h : H p = none) : Same H (upd H p o) := fun b x e => upd_free e h
/-- all but a stands as it was -/
def But (a : Addr) (H H' : Hp) : Prop := ∀ b o, b ≠ a → H b = some o → H' b = some o
theorem But.refl (a : Addr) (H : Hp) : But a H H := fun _ _ _ h => h
theorem But.trans {a : Addr} {H H1 H2 : Hp} (x : But a H H1) (y : But a H1 H2) : But a H H2 := fun b o n h => y b o n (x b o n h)
theorem But.of_same {a : Addr} {H H' : Hp} (x : Same H H') : But a H H' := fun b o _ h => x b o h
theorem But.upd {a : Addr} {H H' : Hp} {o : HO} (x : But a H H') : But a H (upd H' a o) := fun b u n h => by
  rw [upd_ne n]
  exact x b u n h
theorem But.new {a p : Addr} {H H' : Hp} {o : HO} (x : But a H H') (hp : H' p = none) : But a H (L2.upd H' p o) := fun b u n h => upd_free (x b u n h) hp
/-- where a list of three ints stands that draws change -/
def Src (H : Hp) (a : Addr) : Prop := ∃ c0 c1 c2 : Int, H a = some (.lst [.int c0, .int c1, .int c2])
/-- draws from a: all else stands -/
structure Dr (a : Addr) (H H' : Hp) : Prop where
  src : Src H' a
  old : But a H H'
theorem Src.set {H : Hp} {a : Addr} (c0 c1 c2 : Int) : Src (L2.upd H a (.lst [.int c0, .int c1, .int c2])) a := ⟨c0, c1, c2, upd_same⟩
theorem Src.new {H : Hp} {a p : Addr} {o : HO} (x : Src H a) (hp : H p = none) : Src (L2.upd H p o) a := by
  obtain ⟨c0, c1, c2, h⟩ := x
  exact ⟨c0, c1, c2, upd_free h hp⟩
theorem Src.ne {H : Hp} {a p : Addr} (x : Src H a) (hp : H p = none) : p ≠ a := by
  obtain ⟨c0, c1, c2, h⟩ := x
  intro e
  rw [e, h] at hp
  cases hp
theorem Dr.refl {a : Addr} {H : Hp} (x : Src H a) : Dr a H H := ⟨x, But.refl a H⟩
theorem Dr.trans {a : Addr} {H H1 H2 : Hp} (x : Dr a H H1) (y : Dr a H1 H2) : Dr a H H2 := ⟨y.src, x.old.trans y.old⟩
theorem Dr.new {a p : Addr} {H H' : Hp} {o : HO} (x : Dr a H H') (hp : H' p = none) : Dr a H (L2.upd H' p o) := ⟨x.src.new hp, x.old.new hp⟩
theorem Dr.free {a p : Addr} {H H' : Hp} (x : Dr a H H') (hp : H' p = none) : H p = none := by
  cases q : H p with
  | none => rfl
  | some o =>
    have ne := x.src.ne hp
    rw [x.old p o ne q] at hp
    cases hp
theorem But.seq {K : PySem.W.Frag} {H H' : Hp} {a b : Addr} {xs : List V} (e : But a H H') (n : b ≠ a) (h : SqL K H b xs) : SqL K H' b xs := by
  rcases h with (h | ⟨o, h⟩) | h
  · exact .inl (.inl (e _ _ n h))
  · exact .inl (.inr ⟨o, e _ _ n h⟩)
  · exact .inr h
theorem sz {n : Nat} (h : n ≤ 100000) : n ≤ sizeLine := Nat.le_trans h (by decide)
theorem szl {n : Nat} (h : n < 100000) : n < sizeLine := Nat.lt_of_lt_of_le h (by decide)

/-! ### list + list, where both are readable -/
def rCatS (K : PySem.W.Frag) : R2 := fun x y H Q => ∃ l b xs zs, x = .ref l ∧ y = .ref b ∧ SqL K H l xs ∧ SqL K H b zs ∧ xs.length + zs.length ≤ sizeLine ∧ ∀ p, H p = none → Q (.ref p) (upd H p (.lst (xs ++ zs)))
theorem op_catS {X : Cx} : OpR X (binaryOp .Add) (rCatS X.K) := by
  intro pins s σ H x y v u Q I rx ry h
  obtain ⟨l, b, xs, zs, rfl, rfl, hL, hB, hz, q⟩ := h
  cases rx
  cases ry
  obtain ⟨i1, r1, ⟨o1, n1, e1, c1, d1, t1⟩, z1⟩ := I.list hL
  obtain ⟨i2, r2, ⟨o2, n2, e2, c2, d2, t2⟩, z2⟩ := I.list hB
  obtain ⟨oc1, od1, dt1, sl1⟩ := o1
  obtain ⟨oc2, od2, dt2, sl2⟩ := o2
  simp only at c1 d1 t1 c2 d2 t2
  subst c1 d1 t1 c2 d2 t2
  have l1 := r1.length
  have l2 := r2.length
  refine concat_meets ⟨_, e1, rfl⟩ ⟨_, e2, rfl⟩ noFill_list_add seq_list_add PySem.F.slot_list_add
    PySem.F.entry_list_add (PySem.F.args_list_add_2 _ _)
    (list_addW l b i1.toArray i2.toArray n1 n2 none none sl1 sl2 (by rw [List.size_toArray, List.size_toArray]; omega)) ⟨e1, e2, ?_⟩
  have ea : i1.toArray ++ i2.toArray = (i1 ++ i2).toArray := by simp
  rw [ea]
  exact ⟨.ref _, _, I.lnew (t' := s.toks) (r1.append r2) (by rw [List.length_append]; omega), rfl, q _ I.fresh⟩

/-! ### readings by names, for rules whose reading is a lambda -/
section
variable {X : Cx}
def rInt1 : List V → Hp → VK → Prop := fun xs H Q => (∃ i, xs = [.int i] ∧ Q (.int i) H) ∨ ∃ k, xs = [.bl k] ∧ Q (.int (if k then 1 else 0)) H
theorem c_int1 : CallR X (.type "int") rInt1 := call_int1
def rMax2 : List V → Hp → VK → Prop := fun xs H Q => ∃ i j, xs = [.int i, .int j] ∧ Q (.int (if j > i then j else i)) H
def rMin2 : List V → Hp → VK → Prop := fun xs H Q => ∃ i j, xs = [.int i, .int j] ∧ Q (.int (if j < i then j else i)) H
theorem c_max2 (hc : X.calm = true) : CallR X (.builtin "max") rMax2 := call_max2 hc
theorem c_min2 (hc : X.calm = true) : CallR X (.builtin "min") rMin2 := call_min2 hc
def rLenL (K : PySem.W.Frag) : List V → Hp → VK → Prop := fun xs H Q => ∃ p ys, xs = [.ref p] ∧ (SqL K H p ys ∨ SqT K H p ys) ∧ Q (.int ys.length) H
theorem c_len : CallR X (.builtin "len") (rLenL X.K) := call_len_seq
def rTupOf (K : PySem.W.Frag) : List V → Hp → VK → Prop := fun xs H Q => ∃ p ys, xs = [.ref p] ∧ ((SqL K H p ys ∧ ∀ l, H l = none → Q (.ref l) (upd H l (.tup ys))) ∨ (SqT K H p ys ∧ Q (.ref p) H))
theorem c_tuple : CallR X (.type "tuple") (rTupOf X.K) := call_tuple_of
def rListOf (K : PySem.W.Frag) : List V → Hp → VK → Prop := fun xs H Q => ∃ p ys, xs = [.ref p] ∧ (SqL K H p ys ∨ SqT K H p ys) ∧ ∀ l, H l = none → Q (.ref l) (upd H l (.lst ys))
theorem c_list : CallR X (.type "list") (rListOf X.K) := call_list_of
def rAddS : R2 := fun x y H Q => ∃ i j, x = .str i ∧ y = .str j ∧ i.length + j.length ≤ sizeLine ∧ Q (.str (i ++ j)) H
theorem o_adds : OpR X (binaryOp .Add) rAddS := op_add_str
def rIsN : R2 := fun x y H Q => y = .non ∧ Q (.bl (decide (x = .non))) H
def rNotN : R2 := fun x y H Q => y = .non ∧ Q (.bl (!decide (x = .non))) H
theorem o_isN : OpR X (compareOp .Is) rIsN := op_isN
theorem o_notN : OpR X (compareOp .IsNot) rNotN := op_notN
def tTru (K : PySem.W.Frag) (ta : TE) : TT := fun σ H Q => ta σ H fun x H' => ∃ k, TruV K x H' k ∧ Q k H'
theorem p_truth {a : Expr} {ta : TE} (ha : PE X a ta) (he : ∀ whole, isTrue a X.env whole = (do let v ← whole; standAt a.pos; holding [v] (truthy v))) : PT X a (tTru X.K ta) := pt_truth ha he
end

/-! ### the readings, step by step -/
section
variable {K : PySem.W.Frag} {σ : L2.St} {H : Hp} {Q : VK} {QT : Bool → Hp → Prop} {QA : List V → Hp → Prop} {QG : L2.St → Hp → Prop} {D : Ends} {ta tb tc te : TE} {t u c : TT} {tr : TA} {ts us : TS} {g : TG} {gs : TGs} {v x y : V} {r r' : R2} {tl th : TO} {ti to : TE}
def rNew (o : HO) (H : Hp) (Q : VK) : Prop := ∀ p, H p = none → Q (.ref p) (upd H p o)
def rSz (n : Nat) (R : Prop) : Prop := n ≤ sizeLine ∧ R
theorem r_sz {n : Nat} {R : Prop} (h : n ≤ 100000) (q : R) : rSz n R := ⟨sz h, q⟩
theorem r_new {o : HO} (q : ∀ p, H p = none → Q (.ref p) (upd H p o)) : rNew o H Q := q
theorem r_tup (q : tr σ H fun xs H1 => rSz xs.length (rNew (.tup xs) H1 Q)) : tTup tr σ H Q := q
theorem r_lst (q : tr σ H fun xs H1 => rSz xs.length (rNew (.lst xs) H1 Q)) : tLst tr σ H Q := q
theorem r_catS {l b : Addr} {xs zs : List V} (h : SqL K H l xs) (h' : SqL K H b zs) (hz : xs.length + zs.length ≤ 100000) (q : rNew (.lst (xs ++ zs)) H Q) : rCatS K (.ref l) (.ref b) H Q := ⟨l, b, xs, zs, rfl, rfl, h, h', sz hz, q⟩
theorem r_tupOf {p : Addr} {ys : List V} (h : SqL K H p ys) (q : rNew (.tup ys) H Q) : rTupOf K [.ref p] H Q := ⟨p, ys, rfl, .inl ⟨h, q⟩⟩
theorem r_listOf {p : Addr} {ys : List V} (h : SqL K H p ys) (q : rNew (.lst ys) H Q) : rListOf K [.ref p] H Q := ⟨p, ys, rfl, .inl h, q⟩
theorem r_slL {a : Addr} {xs : List V} {lo hi : Option Int} (h : SqL K H a xs) (q : rNew (.lst (cutV xs lo hi)) H Q) : rSlL K (.ref a) lo hi H Q := ⟨a, xs, rfl, h, q⟩
def rOb (C : Addr) (m : Str) (x : V) (H : Hp) (R : Prop) : Prop := ∃ a dx fs, x = .ref a ∧ H a = some (.ins C dx fs) ∧ fs.lookup m = none ∧ R
theorem r_meth {C : Addr} {m : Str} {sp : Sp} {E : XK} (q : ta σ H fun x H1 => rOb C m x H1 (tr σ H1 fun vs H2 => sp (x :: vs) H2 Q E)) : tMeth C m sp [] E ta tr σ H Q := by
  have e : (fun (x : V) (H1 : Hp) => rOb C m x H1 (tr σ H1 fun vs H2 => sp (x :: vs) H2 Q E)) = fun x H1 => rOb C m x H1 (tr σ H1 fun vs H2 => sp (x :: (vs ++ [])) H2 Q E) := by
    simp only [List.append_nil]
  show ta σ H fun x H1 => rOb C m x H1 (tr σ H1 fun vs H2 => sp (x :: (vs ++ [])) H2 Q E)
  rw [← e]
  exact q
theorem r_obj {C a dx : Addr} {m : Str} {fs : List (Str × V)} {R : Prop} (h : H a = some (.ins C dx fs)) (l : fs.lookup m = none) (q : R) : rOb C m (.ref a) H R := ⟨a, dx, fs, rfl, h, l, q⟩
def rFd (K : PySem.W.Frag) (f : Str) (x : V) (H : Hp) (Q : VK) : Prop := ∃ a C dx fs v, x = .ref a ∧ H a = some (.ins C dx fs) ∧ Cls K C ∧ NoAttr K C f ∧ fs.lookup f = some v ∧ Q v H
theorem r_fld {f : Str} (q : ta σ H fun x H1 => rFd K f x H1 Q) : tFld K ta f σ H Q := q
theorem r_fd {a C dx : Addr} {f : Str} {fs : List (Str × V)} (h : H a = some (.ins C dx fs)) (c : Cls K C) (n : NoAttr K C f) (l : fs.lookup f = some v) (q : Q v H) : rFd K f (.ref a) H Q := ⟨a, C, dx, fs, v, rfl, h, c, n, l, q⟩
def rSt (K : PySem.W.Frag) (f : Str) (y x : V) (H : Hp) (Qn : Hp → Prop) : Prop := ∃ a C dx fs, x = .ref a ∧ H a = some (.ins C dx fs) ∧ Cls K C ∧ NoAttr K C f ∧ fs.length < 1000 ∧ Qn (upd H a (.ins C dx (putF f y fs)))
theorem r_sFld {f : Str} (q : tb σ H fun y H1 => ta σ H1 fun x H2 => rSt K f y x H2 fun H3 => D.nx σ H3) : sFld K ta tb f D σ H := q
theorem r_st {a C dx : Addr} {f : Str} {fs gs : List (Str × V)} {Qn : Hp → Prop} (h : H a = some (.ins C dx fs)) (c : Cls K C) (n : NoAttr K C f) (l : fs.length < 1000) (e : putF f y fs = gs) (q : Qn (upd H a (.ins C dx gs))) : rSt K f y (.ref a) H Qn := by
  subst e
  exact ⟨a, C, dx, fs, rfl, h, c, n, l, q⟩
def rPo (x : V) (R : Option Int → Prop) : Prop := ∃ i, x = .int i ∧ R (some i)
theorem r_part {QO : Option Int → Hp → Prop} (q : ta σ H fun x H1 => rPo x fun o => QO o H1) : tPart ta σ H QO := q
theorem r_po {i : Int} {R : Option Int → Prop} (q : R (some i)) : rPo (.int i) R := ⟨i, rfl, q⟩
def rTy (K : PySem.W.Frag) (T : String) (x : V) (H : Hp) (R : Prop) : Prop := tyV K T x H ∧ R
theorem r_BM {T : String} {rm : V → List V → Hp → VK → Prop} (q : to σ H fun x H1 => rTy K T x H1 (tr σ H1 fun xs H2 => rm x xs H2 Q)) : tBM K T rm to tr σ H Q := q
theorem r_tyL {p : Addr} {xs : List V} {R : Prop} (h : SqL K H p xs) (q : R) : rTy K "list" (.ref p) H R := ⟨.inl ⟨rfl, xs, h⟩, q⟩
def rBl (x : V) (R : Bool → Prop) : Prop := ∃ k, x = .bl k ∧ R k
theorem r_bl {k : Bool} {R : Bool → Prop} (q : R k) : rBl (.bl k) R := ⟨k, rfl, q⟩
theorem r_test (q : te σ H fun x H' => rBl x fun k => QT k H') : tTest te σ H QT := q
theorem r_tB (q : te σ H fun x H' => rBl x fun k => QT k H') : tB te σ H QT := q
theorem r_andV (q : ta σ H fun x H1 => rBl x fun c => if c = true then tb σ H1 Q else Q (.bl false) H1) : tAndV ta tb σ H Q := q
theorem r_orV (q : ta σ H fun x H1 => rBl x fun c => if c = true then Q (.bl true) H1 else tb σ H1 Q) : tOrV ta tb σ H Q := q
theorem r_notV (q : ta σ H fun x H1 => rBl x fun c => Q (.bl (!c)) H1) : tNotV ta σ H Q := q
theorem r_chain (q : ta σ H fun x H1 => tb σ H1 fun y H2 => r x y H2 fun z H3 => rBl z fun k => if k = true then tc σ H3 fun w' H4 => r' y w' H4 Q else Q (.bl false) H3) : tChain r r' ta tb tc σ H Q := q
def rTr (K : PySem.W.Frag) (x : V) (H : Hp) (R : Bool → Prop) : Prop := ∃ k, TruV K x H k ∧ R k
theorem r_tru (q : ta σ H fun x H' => rTr K x H' fun k => QT k H') : tTru K ta σ H QT := q
def rSq (K : PySem.W.Frag) (x : V) (H : Hp) (R : Addr → Prop) : Prop := ∃ a, x = .ref a ∧ (∃ xs, SqL K H a xs) ∧ R a
theorem r_list {R : It → Hp → Prop} (q : te σ H fun x H1 => rSq K x H1 fun a => R (Itl K a) H1) : iList K te σ H R := q
theorem r_sq {a : Addr} {xs : List V} {R : Addr → Prop} (h : SqL K H a xs) (q : R a) : rSq K (.ref a) H R := ⟨a, rfl, ⟨xs, h⟩, q⟩
def rSqT (K : PySem.W.Frag) (x : V) (H : Hp) (R : Addr → Prop) : Prop := ∃ a, x = .ref a ∧ (∃ xs, SqT K H a xs) ∧ R a
theorem r_tupI {R : It → Hp → Prop} (q : te σ H fun x H1 => rSqT K x H1 fun a => R (Itt K a) H1) : iTup K te σ H R := q
theorem r_sqT {a : Addr} {xs : List V} {R : Addr → Prop} (h : SqT K H a xs) (q : R a) : rSqT K (.ref a) H R := ⟨a, rfl, ⟨xs, h⟩, q⟩
def rRg1 (vs : List V) (R : Int → Prop) : Prop := ∃ j : Int, vs = [.int j] ∧ -(2 ^ 62) ≤ j ∧ j < 2 ^ 62 ∧ R j
def rRg2 (vs : List V) (R : Int → Int → Prop) : Prop := ∃ i j : Int, vs = [.int i, .int j] ∧ (-(2 ^ 62) ≤ i ∧ i < 2 ^ 62 ∧ -(2 ^ 62) ≤ j ∧ j < 2 ^ 62) ∧ R i j
theorem r_rng1 {R : It → Hp → Prop} (q : tr σ H fun vs H1 => rRg1 vs fun j => R (Itr 0 j.toNat) H1) : iRng1 tr σ H R := q
theorem r_rng2 {R : It → Hp → Prop} (q : tr σ H fun vs H1 => rRg2 vs fun i j => R (Itr i (j - i).toNat) H1) : iRng2 tr σ H R := q
theorem r_rg1 {j : Int} {R : Int → Prop} (h : -(2 ^ 62) ≤ j ∧ j < 2 ^ 62) (q : R j) : rRg1 [.int j] R := ⟨j, rfl, h.1, h.2, q⟩
theorem r_rg2 {i j : Int} {R : Int → Int → Prop} (h : -(2 ^ 62) ≤ i ∧ i < 2 ^ 62 ∧ -(2 ^ 62) ≤ j ∧ j < 2 ^ 62) (q : R i j) : rRg2 [.int i, .int j] R := ⟨i, j, rfl, h, q⟩
def rTwo (vs : List V) (R : V → V → Prop) : Prop := ∃ v w, vs = [v, w] ∧ R v w
theorem r_par {i j : Nat} (q : tr σ H fun vs H1 => rTwo vs fun v w => gName i v σ H1 fun σ' H' => gName j w σ' H' D.nx) : tPar i j tr D σ H := q
theorem r_two {v w : V} {R : V → V → Prop} (q : R v w) : rTwo [v, w] R := ⟨v, w, rfl, q⟩
def rMk (C : Addr) (sp : Sp) (E : XK) (f : V → List V) (H : Hp) (Q : VK) : Prop := ∀ x dx, H x = none → H dx = none → dx ≠ x → sp (f (.ref x)) (upd (upd H dx (.own x)) x (.ins C dx [])) (fun v H3 => v = .non ∧ Q (.ref x) H3) E
theorem r_mkK {C : Addr} {n m : Nat} {sp : Sp} {E : XK} {tk : TA} (q : tr σ H fun vs H1 => tk σ H1 fun zs H2 => vs.length = n ∧ zs.length = m ∧ rMk C sp E (fun s => s :: vs ++ zs) H2 Q) : tMakeK C n m sp (fun vs zs => vs ++ zs) E tr tk σ H Q := q
theorem r_mk {C : Addr} {sp : Sp} {E : XK} (q : tr σ H fun vs H1 => rMk C sp E (fun s => s :: vs) H1 Q) : tMake C sp [] E tr σ H Q := by
  have e : (fun (vs : List V) (H1 : Hp) => rMk C sp E (fun s => s :: vs) H1 Q) = fun vs H1 => rMk C sp E (fun s => s :: (vs ++ [])) H1 Q := by
    simp only [List.append_nil]
  show tr σ H fun vs H1 => rMk C sp E (fun s => s :: (vs ++ [])) H1 Q
  rw [← e]
  exact q
theorem r_tC (q : Q v H) : tC v σ H Q := q
theorem r_op (q : ta σ H fun x H1 => tb σ H1 fun y H2 => r x y H2 Q) : tOp r ta tb σ H Q := q
theorem r_un {r1 : V → Hp → VK → Prop} (q : ta σ H fun x H1 => r1 x H1 Q) : tUn r1 ta σ H Q := q
theorem r_I0 {f : Int → Int → V} {i j : Int} (q : Q (f i j) H) : rI0 f (.int i) (.int j) H Q := ⟨i, j, rfl, rfl, q⟩
theorem r_I {C : Int → Int → Prop} {f : Int → Int → V} {i j : Int} (c : C i j) (q : Q (f i j) H) : rI C f (.int i) (.int j) H Q := ⟨i, j, rfl, rfl, c, q⟩
theorem r_U {f : Int → V} {i : Int} (q : Q (f i) H) : rU f (.int i) H Q := ⟨i, rfl, q⟩
theorem r_eq (h : scal x y = true) (q : Q (.bl (decide (x = y))) H) : rEq x y H Q := ⟨h, q⟩
theorem r_ne (h : scal x y = true) (q : Q (.bl (!decide (x = y))) H) : rNe x y H Q := ⟨h, q⟩
theorem r_eqI {i j : Int} (q : Q (.bl (decide (i = j))) H) : rEq (.int i) (.int j) H Q := ⟨rfl, by simpa using q⟩
theorem r_neI {i j : Int} (q : Q (.bl (!decide (i = j))) H) : rNe (.int i) (.int j) H Q := ⟨rfl, by simpa using q⟩
theorem r_eqS {i j : Str} (q : Q (.bl (decide (i = j))) H) : rEq (.str i) (.str j) H Q := ⟨rfl, by simpa using q⟩
theorem r_neS {i j : Str} (q : Q (.bl (!decide (i = j))) H) : rNe (.str i) (.str j) H Q := ⟨rfl, by simpa using q⟩
theorem r_ixL {p : Addr} {xs : List V} {i : Int} (h : SqL K H p xs) (a : atI xs i = some v) (q : Q v H) : rIxL K (.ref p) (.int i) H Q := ⟨p, xs, i, v, rfl, rfl, h, a, q⟩
theorem r_ixT {p : Addr} {xs : List V} {i : Int} (h : SqT K H p xs) (a : atI xs i = some v) (q : Q v H) : rIxT K (.ref p) (.int i) H Q := ⟨p, xs, i, v, rfl, rfl, h, a, q⟩
theorem r_setL {p : Addr} {xs : List V} {k : Int} {j : Nat} {QH : Hp → Prop} (h : H p = some (.lst xs)) (e : ixN xs.length k = some j) (q : QH (upd H p (.lst (xs.set j v)))) : rSetL (.ref p) (.int k) v H QH := ⟨p, xs, k, j, rfl, rfl, h, e, q⟩
theorem r_CB {rc : List V → Hp → VK → Prop} (q : tr σ H fun vs H1 => rc vs H1 Q) : tCB rc tr σ H Q := q
theorem r_cons (q : ta σ H fun x H1 => tr σ H1 fun xs H2 => QA (x :: xs) H2) : tCons ta tr σ H QA := q
theorem r_nil (q : QA [] H) : tNil σ H QA := q
theorem r_int1 {i : Int} (q : Q (.int i) H) : rInt1 [.int i] H Q := .inl ⟨i, rfl, q⟩
theorem r_max2 {i j : Int} (q : Q (.int (if j > i then j else i)) H) : rMax2 [.int i, .int j] H Q := ⟨i, j, rfl, q⟩
theorem r_min2 {i j : Int} (q : Q (.int (if j < i then j else i)) H) : rMin2 [.int i, .int j] H Q := ⟨i, j, rfl, q⟩
theorem r_lenL {p : Addr} {ys : List V} (h : SqL K H p ys) (q : Q (.int ys.length) H) : rLenL K [.ref p] H Q := ⟨p, ys, rfl, .inl h, q⟩
theorem r_lenT {p : Addr} {ys : List V} (h : SqT K H p ys) (q : Q (.int ys.length) H) : rLenL K [.ref p] H Q := ⟨p, ys, rfl, .inr h, q⟩
theorem r_sum {a : Addr} {ns : List Int} (h : SqL K H a (ns.map V.int)) (q : Q (.int ns.sum) H) : rSum K [.ref a] H Q := ⟨a, ns, rfl, h, q⟩
theorem r_max {a : Addr} {ns : List Int} (h : SqL K H a (ns.map V.int)) (h0 : 0 < ns.length) (q : ∀ m, m ∈ ns → (∀ y, y ∈ ns → y ≤ m) → Q (.int m) H) : rMax K [.ref a] H Q := ⟨a, ns, rfl, h, h0, q⟩
theorem r_all {a : Addr} {bs : List Bool} (h : SqL K H a (bs.map V.bl)) (q : Q (.bl (bs.all id)) H) : rAll K [.ref a] H Q := ⟨a, bs, rfl, h, q⟩
theorem r_call {sp : Sp} {E : XK} (q : tr σ H fun vs H1 => sp vs H1 Q E) : tCall sp [] E tr σ H Q := by
  have e : (fun (vs : List V) (H1 : Hp) => sp vs H1 Q E) = fun vs H1 => sp (vs ++ []) H1 Q E := by
    funext vs H1
    rw [List.append_nil]
  show tr σ H fun vs H1 => sp (vs ++ []) H1 Q E
  rw [← e]
  exact q
theorem r_sl {rs : V → Option Int → Option Int → Hp → VK → Prop} (q : ta σ H fun x H1 => tl σ H1 fun l H2 => th σ H2 fun u H3 => rs x l u H3 Q) : L2.tSl rs ta tl th σ H Q := q
theorem r_nopart {QO : Option Int → Hp → Prop} (q : QO none H) : tNoPart σ H QO := q
theorem r_append {l : Addr} {xs : List V} (h : H l = some (.lst xs)) (hz : xs.length < 100000) (q : Q .non (upd H l (.lst (xs ++ [y])))) : rAppend (.ref l) [y] H Q := ⟨l, xs, y, rfl, rfl, h, szl hz, q⟩
-- tests
theorem r_and (q : t σ H fun c H1 => if c = true then u σ H1 QT else QT false H1) : tAnd t u σ H QT := q
theorem r_or (q : t σ H fun c H1 => if c = true then QT true H1 else u σ H1 QT) : tOr t u σ H QT := q
theorem r_not (q : t σ H fun c H1 => QT (!c) H1) : tNot t σ H QT := q
theorem r_if (q : t σ H fun c H1 => if c = true then ta σ H1 Q else tb σ H1 Q) : tIf t ta tb σ H Q := q
-- statements
theorem r_seq (q : ts { D with nx := us D } σ H) : tSeq ts us D σ H := q
theorem r_asg (q : te σ H fun x H1 => g x σ H1 D.nx) : tAsg te g D σ H := q
theorem r_ret (q : te σ H D.rt) : tRet te D σ H := q
theorem r_drop (q : te σ H fun _ H1 => D.nx σ H1) : tDrop te D σ H := q
theorem r_next (q : D.nx σ H) : tNext D σ H := q
theorem r_ifS (q : t σ H fun b H1 => if b = true then ts D σ H1 else us D σ H1) : tIfS t ts us D σ H := q
theorem r_gSub {ts : TSet} (q : to σ H fun o H1 => ti σ H1 fun i H2 => ts o i v H2 fun H3 => QG σ H3) : gSub to ti ts v σ H QG := q
theorem r_gTup {a : Addr} {xs : List V} {n : Nat} (h : SqT K H a xs) (e : xs.length = n) (q : gs xs σ H QG) : gTup K n gs (.ref a) σ H QG := ⟨a, xs, rfl, h, e, q⟩
theorem r_gCons {w : V} {ws : List V} (q : g w σ H fun σ' H' => gs ws σ' H' QG) : gCons g gs (w :: ws) σ H QG := ⟨w, ws, rfl, q⟩
theorem r_gNil (q : QG σ H) : gNil [] σ H QG := ⟨rfl, q⟩
theorem r_dec {p : Prop} [Decidable p] {A B : Prop} (h1 : p → A) (h2 : ¬ p → B) : if decide p = true then A else B := by
  by_cases h : p
  · rw [decide_eq_true h]
    exact h1 h
  · rw [decide_eq_false h]
    exact iteF (h2 h)
theorem r_decN {p : Prop} [Decidable p] {A B : Prop} (h1 : ¬ p → A) (h2 : p → B) : if (!decide p) = true then A else B := by
  by_cases h : p
  · rw [decide_eq_true h]
    exact iteF (h2 h)
  · rw [decide_eq_false h]
    exact h1 h
theorem r_isi {x c : V} {t u : Value} {b : Bool} (k : ClsV c u) (ty : TyX K H x t) (e : PySem.W.kitOne K t u = some b) (q : Q (.bl b) H) : rIsi K [x, c] H Q := ⟨x, c, t, u, b, rfl, k, ty, e, q⟩
theorem r_lc {wi : TI} {n : List Nat} (q : wi σ H fun J H1 => ∀ D, H1 D = none → ∃ W : Nat → Nat → Hp → Prop, (∃ m, W 0 m (upd H1 D (.lst []))) ∧ ∀ i m H, W i m H →
  (J.stop i H ∧ Q (.ref D) H) ∨ (J.go i H ∧ ∃ Nx : Hp → Prop, (∀ H', Nx H' → ∃ m', m' < m ∧ W (i + 1) m' H') ∧ ∀ x H', J.yld i H x H' → g x (wipe σ n) H' fun σ2 H2 => wipe σ2 n = wipe σ n ∧ t σ2 H2 fun b H3 =>
    if b = true then te σ2 H3 fun y H4 => ∃ acc, H4 D = some (.lst acc) ∧ acc.length < sizeLine ∧ Nx (upd H4 D (.lst (acc ++ [y]))) else Nx H3)) : tLc wi g t te n σ H Q := q
theorem r_yes (q : QT true H) : tYes σ H QT := q
theorem r_v0 {z : L2.St} (q : Q v H) : tVar 0 (some v :: z) H Q := ⟨v, rfl, q⟩
theorem r_v1 {a0 : Option V} {z : L2.St} (q : Q v H) : tVar 1 (a0 :: some v :: z) H Q := ⟨v, rfl, q⟩
theorem r_v2 {a0 a1 : Option V} {z : L2.St} (q : Q v H) : tVar 2 (a0 :: a1 :: some v :: z) H Q := ⟨v, rfl, q⟩
theorem r_v3 {a0 a1 a2 : Option V} {z : L2.St} (q : Q v H) : tVar 3 (a0 :: a1 :: a2 :: some v :: z) H Q := ⟨v, rfl, q⟩
theorem r_v4 {a0 a1 a2 a3 : Option V} {z : L2.St} (q : Q v H) : tVar 4 (a0 :: a1 :: a2 :: a3 :: some v :: z) H Q := ⟨v, rfl, q⟩
theorem r_v5 {a0 a1 a2 a3 a4 : Option V} {z : L2.St} (q : Q v H) : tVar 5 (a0 :: a1 :: a2 :: a3 :: a4 :: some v :: z) H Q := ⟨v, rfl, q⟩
theorem r_v6 {a0 a1 a2 a3 a4 a5 : Option V} {z : L2.St} (q : Q v H) : tVar 6 (a0 :: a1 :: a2 :: a3 :: a4 :: a5 :: some v :: z) H Q := ⟨v, rfl, q⟩
theorem r_v7 {a0 a1 a2 a3 a4 a5 a6 : Option V} {z : L2.St} (q : Q v H) : tVar 7 (a0 :: a1 :: a2 :: a3 :: a4 :: a5 :: a6 :: some v :: z) H Q := ⟨v, rfl, q⟩
theorem r_v8 {a0 a1 a2 a3 a4 a5 a6 a7 : Option V} {z : L2.St} (q : Q v H) : tVar 8 (a0 :: a1 :: a2 :: a3 :: a4 :: a5 :: a6 :: a7 :: some v :: z) H Q := ⟨v, rfl, q⟩
theorem r_v9 {a0 a1 a2 a3 a4 a5 a6 a7 a8 : Option V} {z : L2.St} (q : Q v H) : tVar 9 (a0 :: a1 :: a2 :: a3 :: a4 :: a5 :: a6 :: a7 :: a8 :: some v :: z) H Q := ⟨v, rfl, q⟩
theorem r_v10 {a0 a1 a2 a3 a4 a5 a6 a7 a8 a9 : Option V} {z : L2.St} (q : Q v H) : tVar 10 (a0 :: a1 :: a2 :: a3 :: a4 :: a5 :: a6 :: a7 :: a8 :: a9 :: some v :: z) H Q := ⟨v, rfl, q⟩
theorem r_v11 {a0 a1 a2 a3 a4 a5 a6 a7 a8 a9 a10 : Option V} {z : L2.St} (q : Q v H) : tVar 11 (a0 :: a1 :: a2 :: a3 :: a4 :: a5 :: a6 :: a7 :: a8 :: a9 :: a10 :: some v :: z) H Q := ⟨v, rfl, q⟩
theorem r_v12 {a0 a1 a2 a3 a4 a5 a6 a7 a8 a9 a10 a11 : Option V} {z : L2.St} (q : Q v H) : tVar 12 (a0 :: a1 :: a2 :: a3 :: a4 :: a5 :: a6 :: a7 :: a8 :: a9 :: a10 :: a11 :: some v :: z) H Q := ⟨v, rfl, q⟩
theorem r_v13 {a0 a1 a2 a3 a4 a5 a6 a7 a8 a9 a10 a11 a12 : Option V} {z : L2.St} (q : Q v H) : tVar 13 (a0 :: a1 :: a2 :: a3 :: a4 :: a5 :: a6 :: a7 :: a8 :: a9 :: a10 :: a11 :: a12 :: some v :: z) H Q := ⟨v, rfl, q⟩
theorem r_v14 {a0 a1 a2 a3 a4 a5 a6 a7 a8 a9 a10 a11 a12 a13 : Option V} {z : L2.St} (q : Q v H) : tVar 14 (a0 :: a1 :: a2 :: a3 :: a4 :: a5 :: a6 :: a7 :: a8 :: a9 :: a10 :: a11 :: a12 :: a13 :: some v :: z) H Q := ⟨v, rfl, q⟩
theorem r_v15 {a0 a1 a2 a3 a4 a5 a6 a7 a8 a9 a10 a11 a12 a13 a14 : Option V} {z : L2.St} (q : Q v H) : tVar 15 (a0 :: a1 :: a2 :: a3 :: a4 :: a5 :: a6 :: a7 :: a8 :: a9 :: a10 :: a11 :: a12 :: a13 :: a14 :: some v :: z) H Q := ⟨v, rfl, q⟩
theorem r_v16 {a0 a1 a2 a3 a4 a5 a6 a7 a8 a9 a10 a11 a12 a13 a14 a15 : Option V} {z : L2.St} (q : Q v H) : tVar 16 (a0 :: a1 :: a2 :: a3 :: a4 :: a5 :: a6 :: a7 :: a8 :: a9 :: a10 :: a11 :: a12 :: a13 :: a14 :: a15 :: some v :: z) H Q := ⟨v, rfl, q⟩
theorem r_v17 {a0 a1 a2 a3 a4 a5 a6 a7 a8 a9 a10 a11 a12 a13 a14 a15 a16 : Option V} {z : L2.St} (q : Q v H) : tVar 17 (a0 :: a1 :: a2 :: a3 :: a4 :: a5 :: a6 :: a7 :: a8 :: a9 :: a10 :: a11 :: a12 :: a13 :: a14 :: a15 :: a16 :: some v :: z) H Q := ⟨v, rfl, q⟩
theorem r_v18 {a0 a1 a2 a3 a4 a5 a6 a7 a8 a9 a10 a11 a12 a13 a14 a15 a16 a17 : Option V} {z : L2.St} (q : Q v H) : tVar 18 (a0 :: a1 :: a2 :: a3 :: a4 :: a5 :: a6 :: a7 :: a8 :: a9 :: a10 :: a11 :: a12 :: a13 :: a14 :: a15 :: a16 :: a17 :: some v :: z) H Q := ⟨v, rfl, q⟩
theorem r_v19 {a0 a1 a2 a3 a4 a5 a6 a7 a8 a9 a10 a11 a12 a13 a14 a15 a16 a17 a18 : Option V} {z : L2.St} (q : Q v H) : tVar 19 (a0 :: a1 :: a2 :: a3 :: a4 :: a5 :: a6 :: a7 :: a8 :: a9 :: a10 :: a11 :: a12 :: a13 :: a14 :: a15 :: a16 :: a17 :: a18 :: some v :: z) H Q := ⟨v, rfl, q⟩
theorem r_v20 {a0 a1 a2 a3 a4 a5 a6 a7 a8 a9 a10 a11 a12 a13 a14 a15 a16 a17 a18 a19 : Option V} {z : L2.St} (q : Q v H) : tVar 20 (a0 :: a1 :: a2 :: a3 :: a4 :: a5 :: a6 :: a7 :: a8 :: a9 :: a10 :: a11 :: a12 :: a13 :: a14 :: a15 :: a16 :: a17 :: a18 :: a19 :: some v :: z) H Q := ⟨v, rfl, q⟩
theorem r_v21 {a0 a1 a2 a3 a4 a5 a6 a7 a8 a9 a10 a11 a12 a13 a14 a15 a16 a17 a18 a19 a20 : Option V} {z : L2.St} (q : Q v H) : tVar 21 (a0 :: a1 :: a2 :: a3 :: a4 :: a5 :: a6 :: a7 :: a8 :: a9 :: a10 :: a11 :: a12 :: a13 :: a14 :: a15 :: a16 :: a17 :: a18 :: a19 :: a20 :: some v :: z) H Q := ⟨v, rfl, q⟩
theorem r_g0 {b : Option V} {z : L2.St} (q : QG (some v :: z) H) : gName 0 v (b :: z) H QG := q
theorem r_g1 {a0 b : Option V} {z : L2.St} (q : QG (a0 :: some v :: z) H) : gName 1 v (a0 :: b :: z) H QG := q
theorem r_g2 {a0 a1 b : Option V} {z : L2.St} (q : QG (a0 :: a1 :: some v :: z) H) : gName 2 v (a0 :: a1 :: b :: z) H QG := q
theorem r_g3 {a0 a1 a2 b : Option V} {z : L2.St} (q : QG (a0 :: a1 :: a2 :: some v :: z) H) : gName 3 v (a0 :: a1 :: a2 :: b :: z) H QG := q
theorem r_g4 {a0 a1 a2 a3 b : Option V} {z : L2.St} (q : QG (a0 :: a1 :: a2 :: a3 :: some v :: z) H) : gName 4 v (a0 :: a1 :: a2 :: a3 :: b :: z) H QG := q
theorem r_g5 {a0 a1 a2 a3 a4 b : Option V} {z : L2.St} (q : QG (a0 :: a1 :: a2 :: a3 :: a4 :: some v :: z) H) : gName 5 v (a0 :: a1 :: a2 :: a3 :: a4 :: b :: z) H QG := q
theorem r_g6 {a0 a1 a2 a3 a4 a5 b : Option V} {z : L2.St} (q : QG (a0 :: a1 :: a2 :: a3 :: a4 :: a5 :: some v :: z) H) : gName 6 v (a0 :: a1 :: a2 :: a3 :: a4 :: a5 :: b :: z) H QG := q
theorem r_g7 {a0 a1 a2 a3 a4 a5 a6 b : Option V} {z : L2.St} (q : QG (a0 :: a1 :: a2 :: a3 :: a4 :: a5 :: a6 :: some v :: z) H) : gName 7 v (a0 :: a1 :: a2 :: a3 :: a4 :: a5 :: a6 :: b :: z) H QG := q
theorem r_g8 {a0 a1 a2 a3 a4 a5 a6 a7 b : Option V} {z : L2.St} (q : QG (a0 :: a1 :: a2 :: a3 :: a4 :: a5 :: a6 :: a7 :: some v :: z) H) : gName 8 v (a0 :: a1 :: a2 :: a3 :: a4 :: a5 :: a6 :: a7 :: b :: z) H QG := q
theorem r_g9 {a0 a1 a2 a3 a4 a5 a6 a7 a8 b : Option V} {z : L2.St} (q : QG (a0 :: a1 :: a2 :: a3 :: a4 :: a5 :: a6 :: a7 :: a8 :: some v :: z) H) : gName 9 v (a0 :: a1 :: a2 :: a3 :: a4 :: a5 :: a6 :: a7 :: a8 :: b :: z) H QG := q
theorem r_g10 {a0 a1 a2 a3 a4 a5 a6 a7 a8 a9 b : Option V} {z : L2.St} (q : QG (a0 :: a1 :: a2 :: a3 :: a4 :: a5 :: a6 :: a7 :: a8 :: a9 :: some v :: z) H) : gName 10 v (a0 :: a1 :: a2 :: a3 :: a4 :: a5 :: a6 :: a7 :: a8 :: a9 :: b :: z) H QG := q
theorem r_g11 {a0 a1 a2 a3 a4 a5 a6 a7 a8 a9 a10 b : Option V} {z : L2.St} (q : QG (a0 :: a1 :: a2 :: a3 :: a4 :: a5 :: a6 :: a7 :: a8 :: a9 :: a10 :: some v :: z) H) : gName 11 v (a0 :: a1 :: a2 :: a3 :: a4 :: a5 :: a6 :: a7 :: a8 :: a9 :: a10 :: b :: z) H QG := q
theorem r_g12 {a0 a1 a2 a3 a4 a5 a6 a7 a8 a9 a10 a11 b : Option V} {z : L2.St} (q : QG (a0 :: a1 :: a2 :: a3 :: a4 :: a5 :: a6 :: a7 :: a8 :: a9 :: a10 :: a11 :: some v :: z) H) : gName 12 v (a0 :: a1 :: a2 :: a3 :: a4 :: a5 :: a6 :: a7 :: a8 :: a9 :: a10 :: a11 :: b :: z) H QG := q
theorem r_g13 {a0 a1 a2 a3 a4 a5 a6 a7 a8 a9 a10 a11 a12 b : Option V} {z : L2.St} (q : QG (a0 :: a1 :: a2 :: a3 :: a4 :: a5 :: a6 :: a7 :: a8 :: a9 :: a10 :: a11 :: a12 :: some v :: z) H) : gName 13 v (a0 :: a1 :: a2 :: a3 :: a4 :: a5 :: a6 :: a7 :: a8 :: a9 :: a10 :: a11 :: a12 :: b :: z) H QG := q
theorem r_g14 {a0 a1 a2 a3 a4 a5 a6 a7 a8 a9 a10 a11 a12 a13 b : Option V} {z : L2.St} (q : QG (a0 :: a1 :: a2 :: a3 :: a4 :: a5 :: a6 :: a7 :: a8 :: a9 :: a10 :: a11 :: a12 :: a13 :: some v :: z) H) : gName 14 v (a0 :: a1 :: a2 :: a3 :: a4 :: a5 :: a6 :: a7 :: a8 :: a9 :: a10 :: a11 :: a12 :: a13 :: b :: z) H QG := q
theorem r_g15 {a0 a1 a2 a3 a4 a5 a6 a7 a8 a9 a10 a11 a12 a13 a14 b : Option V} {z : L2.St} (q : QG (a0 :: a1 :: a2 :: a3 :: a4 :: a5 :: a6 :: a7 :: a8 :: a9 :: a10 :: a11 :: a12 :: a13 :: a14 :: some v :: z) H) : gName 15 v (a0 :: a1 :: a2 :: a3 :: a4 :: a5 :: a6 :: a7 :: a8 :: a9 :: a10 :: a11 :: a12 :: a13 :: a14 :: b :: z) H QG := q
theorem r_g16 {a0 a1 a2 a3 a4 a5 a6 a7 a8 a9 a10 a11 a12 a13 a14 a15 b : Option V} {z : L2.St} (q : QG (a0 :: a1 :: a2 :: a3 :: a4 :: a5 :: a6 :: a7 :: a8 :: a9 :: a10 :: a11 :: a12 :: a13 :: a14 :: a15 :: some v :: z) H) : gName 16 v (a0 :: a1 :: a2 :: a3 :: a4 :: a5 :: a6 :: a7 :: a8 :: a9 :: a10 :: a11 :: a12 :: a13 :: a14 :: a15 :: b :: z) H QG := q
theorem r_g17 {a0 a1 a2 a3 a4 a5 a6 a7 a8 a9 a10 a11 a12 a13 a14 a15 a16 b : Option V} {z : L2.St} (q : QG (a0 :: a1 :: a2 :: a3 :: a4 :: a5 :: a6 :: a7 :: a8 :: a9 :: a10 :: a11 :: a12 :: a13 :: a14 :: a15 :: a16 :: some v :: z) H) : gName 17 v (a0 :: a1 :: a2 :: a3 :: a4 :: a5 :: a6 :: a7 :: a8 :: a9 :: a10 :: a11 :: a12 :: a13 :: a14 :: a15 :: a16 :: b :: z) H QG := q
theorem r_g18 {a0 a1 a2 a3 a4 a5 a6 a7 a8 a9 a10 a11 a12 a13 a14 a15 a16 a17 b : Option V} {z : L2.St} (q : QG (a0 :: a1 :: a2 :: a3 :: a4 :: a5 :: a6 :: a7 :: a8 :: a9 :: a10 :: a11 :: a12 :: a13 :: a14 :: a15 :: a16 :: a17 :: some v :: z) H) : gName 18 v (a0 :: a1 :: a2 :: a3 :: a4 :: a5 :: a6 :: a7 :: a8 :: a9 :: a10 :: a11 :: a12 :: a13 :: a14 :: a15 :: a16 :: a17 :: b :: z) H QG := q
theorem r_g19 {a0 a1 a2 a3 a4 a5 a6 a7 a8 a9 a10 a11 a12 a13 a14 a15 a16 a17 a18 b : Option V} {z : L2.St} (q : QG (a0 :: a1 :: a2 :: a3 :: a4 :: a5 :: a6 :: a7 :: a8 :: a9 :: a10 :: a11 :: a12 :: a13 :: a14 :: a15 :: a16 :: a17 :: a18 :: some v :: z) H) : gName 19 v (a0 :: a1 :: a2 :: a3 :: a4 :: a5 :: a6 :: a7 :: a8 :: a9 :: a10 :: a11 :: a12 :: a13 :: a14 :: a15 :: a16 :: a17 :: a18 :: b :: z) H QG := q
theorem r_g20 {a0 a1 a2 a3 a4 a5 a6 a7 a8 a9 a10 a11 a12 a13 a14 a15 a16 a17 a18 a19 b : Option V} {z : L2.St} (q : QG (a0 :: a1 :: a2 :: a3 :: a4 :: a5 :: a6 :: a7 :: a8 :: a9 :: a10 :: a11 :: a12 :: a13 :: a14 :: a15 :: a16 :: a17 :: a18 :: a19 :: some v :: z) H) : gName 20 v (a0 :: a1 :: a2 :: a3 :: a4 :: a5 :: a6 :: a7 :: a8 :: a9 :: a10 :: a11 :: a12 :: a13 :: a14 :: a15 :: a16 :: a17 :: a18 :: a19 :: b :: z) H QG := q
theorem r_g21 {a0 a1 a2 a3 a4 a5 a6 a7 a8 a9 a10 a11 a12 a13 a14 a15 a16 a17 a18 a19 a20 b : Option V} {z : L2.St} (q : QG (a0 :: a1 :: a2 :: a3 :: a4 :: a5 :: a6 :: a7 :: a8 :: a9 :: a10 :: a11 :: a12 :: a13 :: a14 :: a15 :: a16 :: a17 :: a18 :: a19 :: a20 :: some v :: z) H) : gName 21 v (a0 :: a1 :: a2 :: a3 :: a4 :: a5 :: a6 :: a7 :: a8 :: a9 :: a10 :: a11 :: a12 :: a13 :: a14 :: a15 :: a16 :: a17 :: a18 :: a19 :: a20 :: b :: z) H QG := q
theorem r_aug0 {z : L2.St} {tp : TIp} (q : te (some v :: z) H fun y H1 => tp v y H1 fun w H2 => D.nx (some w :: z) H2) : tAug 0 te tp D (some v :: z) H := ⟨v, rfl, q⟩
theorem r_aug1 {a0 : Option V} {z : L2.St} {tp : TIp} (q : te (a0 :: some v :: z) H fun y H1 => tp v y H1 fun w H2 => D.nx (a0 :: some w :: z) H2) : tAug 1 te tp D (a0 :: some v :: z) H := ⟨v, rfl, q⟩
theorem r_aug2 {a0 a1 : Option V} {z : L2.St} {tp : TIp} (q : te (a0 :: a1 :: some v :: z) H fun y H1 => tp v y H1 fun w H2 => D.nx (a0 :: a1 :: some w :: z) H2) : tAug 2 te tp D (a0 :: a1 :: some v :: z) H := ⟨v, rfl, q⟩
theorem r_aug3 {a0 a1 a2 : Option V} {z : L2.St} {tp : TIp} (q : te (a0 :: a1 :: a2 :: some v :: z) H fun y H1 => tp v y H1 fun w H2 => D.nx (a0 :: a1 :: a2 :: some w :: z) H2) : tAug 3 te tp D (a0 :: a1 :: a2 :: some v :: z) H := ⟨v, rfl, q⟩
theorem r_aug4 {a0 a1 a2 a3 : Option V} {z : L2.St} {tp : TIp} (q : te (a0 :: a1 :: a2 :: a3 :: some v :: z) H fun y H1 => tp v y H1 fun w H2 => D.nx (a0 :: a1 :: a2 :: a3 :: some w :: z) H2) : tAug 4 te tp D (a0 :: a1 :: a2 :: a3 :: some v :: z) H := ⟨v, rfl, q⟩
theorem r_aug5 {a0 a1 a2 a3 a4 : Option V} {z : L2.St} {tp : TIp} (q : te (a0 :: a1 :: a2 :: a3 :: a4 :: some v :: z) H fun y H1 => tp v y H1 fun w H2 => D.nx (a0 :: a1 :: a2 :: a3 :: a4 :: some w :: z) H2) : tAug 5 te tp D (a0 :: a1 :: a2 :: a3 :: a4 :: some v :: z) H := ⟨v, rfl, q⟩
theorem r_aug6 {a0 a1 a2 a3 a4 a5 : Option V} {z : L2.St} {tp : TIp} (q : te (a0 :: a1 :: a2 :: a3 :: a4 :: a5 :: some v :: z) H fun y H1 => tp v y H1 fun w H2 => D.nx (a0 :: a1 :: a2 :: a3 :: a4 :: a5 :: some w :: z) H2) : tAug 6 te tp D (a0 :: a1 :: a2 :: a3 :: a4 :: a5 :: some v :: z) H := ⟨v, rfl, q⟩
theorem r_aug7 {a0 a1 a2 a3 a4 a5 a6 : Option V} {z : L2.St} {tp : TIp} (q : te (a0 :: a1 :: a2 :: a3 :: a4 :: a5 :: a6 :: some v :: z) H fun y H1 => tp v y H1 fun w H2 => D.nx (a0 :: a1 :: a2 :: a3 :: a4 :: a5 :: a6 :: some w :: z) H2) : tAug 7 te tp D (a0 :: a1 :: a2 :: a3 :: a4 :: a5 :: a6 :: some v :: z) H := ⟨v, rfl, q⟩
theorem r_aug8 {a0 a1 a2 a3 a4 a5 a6 a7 : Option V} {z : L2.St} {tp : TIp} (q : te (a0 :: a1 :: a2 :: a3 :: a4 :: a5 :: a6 :: a7 :: some v :: z) H fun y H1 => tp v y H1 fun w H2 => D.nx (a0 :: a1 :: a2 :: a3 :: a4 :: a5 :: a6 :: a7 :: some w :: z) H2) : tAug 8 te tp D (a0 :: a1 :: a2 :: a3 :: a4 :: a5 :: a6 :: a7 :: some v :: z) H := ⟨v, rfl, q⟩
theorem r_aug9 {a0 a1 a2 a3 a4 a5 a6 a7 a8 : Option V} {z : L2.St} {tp : TIp} (q : te (a0 :: a1 :: a2 :: a3 :: a4 :: a5 :: a6 :: a7 :: a8 :: some v :: z) H fun y H1 => tp v y H1 fun w H2 => D.nx (a0 :: a1 :: a2 :: a3 :: a4 :: a5 :: a6 :: a7 :: a8 :: some w :: z) H2) : tAug 9 te tp D (a0 :: a1 :: a2 :: a3 :: a4 :: a5 :: a6 :: a7 :: a8 :: some v :: z) H := ⟨v, rfl, q⟩
theorem r_aug10 {a0 a1 a2 a3 a4 a5 a6 a7 a8 a9 : Option V} {z : L2.St} {tp : TIp} (q : te (a0 :: a1 :: a2 :: a3 :: a4 :: a5 :: a6 :: a7 :: a8 :: a9 :: some v :: z) H fun y H1 => tp v y H1 fun w H2 => D.nx (a0 :: a1 :: a2 :: a3 :: a4 :: a5 :: a6 :: a7 :: a8 :: a9 :: some w :: z) H2) : tAug 10 te tp D (a0 :: a1 :: a2 :: a3 :: a4 :: a5 :: a6 :: a7 :: a8 :: a9 :: some v :: z) H := ⟨v, rfl, q⟩
theorem r_aug11 {a0 a1 a2 a3 a4 a5 a6 a7 a8 a9 a10 : Option V} {z : L2.St} {tp : TIp} (q : te (a0 :: a1 :: a2 :: a3 :: a4 :: a5 :: a6 :: a7 :: a8 :: a9 :: a10 :: some v :: z) H fun y H1 => tp v y H1 fun w H2 => D.nx (a0 :: a1 :: a2 :: a3 :: a4 :: a5 :: a6 :: a7 :: a8 :: a9 :: a10 :: some w :: z) H2) : tAug 11 te tp D (a0 :: a1 :: a2 :: a3 :: a4 :: a5 :: a6 :: a7 :: a8 :: a9 :: a10 :: some v :: z) H := ⟨v, rfl, q⟩
theorem r_aug12 {a0 a1 a2 a3 a4 a5 a6 a7 a8 a9 a10 a11 : Option V} {z : L2.St} {tp : TIp} (q : te (a0 :: a1 :: a2 :: a3 :: a4 :: a5 :: a6 :: a7 :: a8 :: a9 :: a10 :: a11 :: some v :: z) H fun y H1 => tp v y H1 fun w H2 => D.nx (a0 :: a1 :: a2 :: a3 :: a4 :: a5 :: a6 :: a7 :: a8 :: a9 :: a10 :: a11 :: some w :: z) H2) : tAug 12 te tp D (a0 :: a1 :: a2 :: a3 :: a4 :: a5 :: a6 :: a7 :: a8 :: a9 :: a10 :: a11 :: some v :: z) H := ⟨v, rfl, q⟩
theorem r_aug13 {a0 a1 a2 a3 a4 a5 a6 a7 a8 a9 a10 a11 a12 : Option V} {z : L2.St} {tp : TIp} (q : te (a0 :: a1 :: a2 :: a3 :: a4 :: a5 :: a6 :: a7 :: a8 :: a9 :: a10 :: a11 :: a12 :: some v :: z) H fun y H1 => tp v y H1 fun w H2 => D.nx (a0 :: a1 :: a2 :: a3 :: a4 :: a5 :: a6 :: a7 :: a8 :: a9 :: a10 :: a11 :: a12 :: some w :: z) H2) : tAug 13 te tp D (a0 :: a1 :: a2 :: a3 :: a4 :: a5 :: a6 :: a7 :: a8 :: a9 :: a10 :: a11 :: a12 :: some v :: z) H := ⟨v, rfl, q⟩
theorem r_aug14 {a0 a1 a2 a3 a4 a5 a6 a7 a8 a9 a10 a11 a12 a13 : Option V} {z : L2.St} {tp : TIp} (q : te (a0 :: a1 :: a2 :: a3 :: a4 :: a5 :: a6 :: a7 :: a8 :: a9 :: a10 :: a11 :: a12 :: a13 :: some v :: z) H fun y H1 => tp v y H1 fun w H2 => D.nx (a0 :: a1 :: a2 :: a3 :: a4 :: a5 :: a6 :: a7 :: a8 :: a9 :: a10 :: a11 :: a12 :: a13 :: some w :: z) H2) : tAug 14 te tp D (a0 :: a1 :: a2 :: a3 :: a4 :: a5 :: a6 :: a7 :: a8 :: a9 :: a10 :: a11 :: a12 :: a13 :: some v :: z) H := ⟨v, rfl, q⟩
theorem r_aug15 {a0 a1 a2 a3 a4 a5 a6 a7 a8 a9 a10 a11 a12 a13 a14 : Option V} {z : L2.St} {tp : TIp} (q : te (a0 :: a1 :: a2 :: a3 :: a4 :: a5 :: a6 :: a7 :: a8 :: a9 :: a10 :: a11 :: a12 :: a13 :: a14 :: some v :: z) H fun y H1 => tp v y H1 fun w H2 => D.nx (a0 :: a1 :: a2 :: a3 :: a4 :: a5 :: a6 :: a7 :: a8 :: a9 :: a10 :: a11 :: a12 :: a13 :: a14 :: some w :: z) H2) : tAug 15 te tp D (a0 :: a1 :: a2 :: a3 :: a4 :: a5 :: a6 :: a7 :: a8 :: a9 :: a10 :: a11 :: a12 :: a13 :: a14 :: some v :: z) H := ⟨v, rfl, q⟩
theorem r_aug16 {a0 a1 a2 a3 a4 a5 a6 a7 a8 a9 a10 a11 a12 a13 a14 a15 : Option V} {z : L2.St} {tp : TIp} (q : te (a0 :: a1 :: a2 :: a3 :: a4 :: a5 :: a6 :: a7 :: a8 :: a9 :: a10 :: a11 :: a12 :: a13 :: a14 :: a15 :: some v :: z) H fun y H1 => tp v y H1 fun w H2 => D.nx (a0 :: a1 :: a2 :: a3 :: a4 :: a5 :: a6 :: a7 :: a8 :: a9 :: a10 :: a11 :: a12 :: a13 :: a14 :: a15 :: some w :: z) H2) : tAug 16 te tp D (a0 :: a1 :: a2 :: a3 :: a4 :: a5 :: a6 :: a7 :: a8 :: a9 :: a10 :: a11 :: a12 :: a13 :: a14 :: a15 :: some v :: z) H := ⟨v, rfl, q⟩
theorem r_aug17 {a0 a1 a2 a3 a4 a5 a6 a7 a8 a9 a10 a11 a12 a13 a14 a15 a16 : Option V} {z : L2.St} {tp : TIp} (q : te (a0 :: a1 :: a2 :: a3 :: a4 :: a5 :: a6 :: a7 :: a8 :: a9 :: a10 :: a11 :: a12 :: a13 :: a14 :: a15 :: a16 :: some v :: z) H fun y H1 => tp v y H1 fun w H2 => D.nx (a0 :: a1 :: a2 :: a3 :: a4 :: a5 :: a6 :: a7 :: a8 :: a9 :: a10 :: a11 :: a12 :: a13 :: a14 :: a15 :: a16 :: some w :: z) H2) : tAug 17 te tp D (a0 :: a1 :: a2 :: a3 :: a4 :: a5 :: a6 :: a7 :: a8 :: a9 :: a10 :: a11 :: a12 :: a13 :: a14 :: a15 :: a16 :: some v :: z) H := ⟨v, rfl, q⟩
theorem r_aug18 {a0 a1 a2 a3 a4 a5 a6 a7 a8 a9 a10 a11 a12 a13 a14 a15 a16 a17 : Option V} {z : L2.St} {tp : TIp} (q : te (a0 :: a1 :: a2 :: a3 :: a4 :: a5 :: a6 :: a7 :: a8 :: a9 :: a10 :: a11 :: a12 :: a13 :: a14 :: a15 :: a16 :: a17 :: some v :: z) H fun y H1 => tp v y H1 fun w H2 => D.nx (a0 :: a1 :: a2 :: a3 :: a4 :: a5 :: a6 :: a7 :: a8 :: a9 :: a10 :: a11 :: a12 :: a13 :: a14 :: a15 :: a16 :: a17 :: some w :: z) H2) : tAug 18 te tp D (a0 :: a1 :: a2 :: a3 :: a4 :: a5 :: a6 :: a7 :: a8 :: a9 :: a10 :: a11 :: a12 :: a13 :: a14 :: a15 :: a16 :: a17 :: some v :: z) H := ⟨v, rfl, q⟩
theorem r_aug19 {a0 a1 a2 a3 a4 a5 a6 a7 a8 a9 a10 a11 a12 a13 a14 a15 a16 a17 a18 : Option V} {z : L2.St} {tp : TIp} (q : te (a0 :: a1 :: a2 :: a3 :: a4 :: a5 :: a6 :: a7 :: a8 :: a9 :: a10 :: a11 :: a12 :: a13 :: a14 :: a15 :: a16 :: a17 :: a18 :: some v :: z) H fun y H1 => tp v y H1 fun w H2 => D.nx (a0 :: a1 :: a2 :: a3 :: a4 :: a5 :: a6 :: a7 :: a8 :: a9 :: a10 :: a11 :: a12 :: a13 :: a14 :: a15 :: a16 :: a17 :: a18 :: some w :: z) H2) : tAug 19 te tp D (a0 :: a1 :: a2 :: a3 :: a4 :: a5 :: a6 :: a7 :: a8 :: a9 :: a10 :: a11 :: a12 :: a13 :: a14 :: a15 :: a16 :: a17 :: a18 :: some v :: z) H := ⟨v, rfl, q⟩
theorem r_aug20 {a0 a1 a2 a3 a4 a5 a6 a7 a8 a9 a10 a11 a12 a13 a14 a15 a16 a17 a18 a19 : Option V} {z : L2.St} {tp : TIp} (q : te (a0 :: a1 :: a2 :: a3 :: a4 :: a5 :: a6 :: a7 :: a8 :: a9 :: a10 :: a11 :: a12 :: a13 :: a14 :: a15 :: a16 :: a17 :: a18 :: a19 :: some v :: z) H fun y H1 => tp v y H1 fun w H2 => D.nx (a0 :: a1 :: a2 :: a3 :: a4 :: a5 :: a6 :: a7 :: a8 :: a9 :: a10 :: a11 :: a12 :: a13 :: a14 :: a15 :: a16 :: a17 :: a18 :: a19 :: some w :: z) H2) : tAug 20 te tp D (a0 :: a1 :: a2 :: a3 :: a4 :: a5 :: a6 :: a7 :: a8 :: a9 :: a10 :: a11 :: a12 :: a13 :: a14 :: a15 :: a16 :: a17 :: a18 :: a19 :: some v :: z) H := ⟨v, rfl, q⟩
theorem r_aug21 {a0 a1 a2 a3 a4 a5 a6 a7 a8 a9 a10 a11 a12 a13 a14 a15 a16 a17 a18 a19 a20 : Option V} {z : L2.St} {tp : TIp} (q : te (a0 :: a1 :: a2 :: a3 :: a4 :: a5 :: a6 :: a7 :: a8 :: a9 :: a10 :: a11 :: a12 :: a13 :: a14 :: a15 :: a16 :: a17 :: a18 :: a19 :: a20 :: some v :: z) H fun y H1 => tp v y H1 fun w H2 => D.nx (a0 :: a1 :: a2 :: a3 :: a4 :: a5 :: a6 :: a7 :: a8 :: a9 :: a10 :: a11 :: a12 :: a13 :: a14 :: a15 :: a16 :: a17 :: a18 :: a19 :: a20 :: some w :: z) H2) : tAug 21 te tp D (a0 :: a1 :: a2 :: a3 :: a4 :: a5 :: a6 :: a7 :: a8 :: a9 :: a10 :: a11 :: a12 :: a13 :: a14 :: a15 :: a16 :: a17 :: a18 :: a19 :: a20 :: some v :: z) H := ⟨v, rfl, q⟩
theorem r_ip {f : Int → Int → Int} {i j : Int} (q : Q (.int (f i j)) H) : ipI f (.int i) (.int j) H Q := ⟨i, j, rfl, rfl, q⟩
end

/-! ### instances in isinstance -/
structure InsI (K : PySem.W.Frag) (C : Addr) : Prop where
  cl : Cls K C
  ha : PySem.W.findIn K (.ref C) "__class__" = some (some (.builtin "object.__class__"))
  hn : PySem.W.specialIn K (.builtin "object.__class__") "__get__" = some (some (.builtin "getset_descriptor.__get__"))
  htk : PySem.W.takesIn K (.builtin "object.__class__") = some true
  hm : PySem.W.mroIn K C (.type "object") = some true
  own : PySem.W.kitOne K (.ref C) (.ref C) = some true
def insB (K : PySem.W.Frag) (C : Addr) : Bool := decide (PySem.W.findIn K (.ref C) "__class__" = some (some (.builtin "object.__class__"))) && (decide (PySem.W.specialIn K (.builtin "object.__class__") "__get__" = some (some (.builtin "getset_descriptor.__get__"))) &&
  (decide (PySem.W.takesIn K (.builtin "object.__class__") = some true) && (decide (PySem.W.mroIn K C (.type "object") = some true) && decide (PySem.W.kitOne K (.ref C) (.ref C) = some true))))
theorem insB_ok {K : PySem.W.Frag} {C : Addr} (cl : Cls K C) (h : insB K C = true) : InsI K C := by
  obtain ⟨h1, h⟩ := Bool.and_eq_true_iff.mp h
  obtain ⟨h2, h⟩ := Bool.and_eq_true_iff.mp h
  obtain ⟨h3, h⟩ := Bool.and_eq_true_iff.mp h
  obtain ⟨h4, h5⟩ := Bool.and_eq_true_iff.mp h
  exact ⟨cl, of_decide_eq_true h1, of_decide_eq_true h2, of_decide_eq_true h3, of_decide_eq_true h4, of_decide_eq_true h5⟩
theorem InsI.ty {K : PySem.W.Frag} {C a dx : Addr} {H : Hp} {fs : List (Str × V)} (I : InsI K C) (e : H a = some (.ins C dx fs)) : TyX K H (.ref a) (.ref C) := .base (.ins e I.cl I.ha I.hn I.htk I.hm)
/-! ### comprehensions and loops with the slots written out -/
section
variable {K : PySem.W.Frag} {g : TG} {tt : TT} {te : TE} {vs : List Nat} {σ : L2.St} {H1 : Hp} {D : Addr} {Qd : Hp → Prop}
theorem lc_rangeS {lo : Int} {n : Nat} (σ' : L2.St) (hσ : wipe σ vs = σ') (Pv : Nat → Hp → Prop) (h0 : Pv 0 (upd H1 D (.lst [])))
    (hs : ∀ i H, i < n → Pv i H → g (.int (lo + i)) σ' H fun σ2 H2 => wipe σ2 vs = σ' ∧ tt σ2 H2 fun b H3 =>
      if b = true then te σ2 H3 fun y H4 => ∃ acc, H4 D = some (.lst acc) ∧ acc.length < sizeLine ∧ Pv (i + 1) (upd H4 D (.lst (acc ++ [y]))) else Pv (i + 1) H3) (hd : ∀ H, Pv n H → Qd H) :
    ∃ W : Nat → Nat → Hp → Prop, (∃ m, W 0 m (upd H1 D (.lst []))) ∧ ∀ i m H, W i m H →
      ((Itr lo n).stop i H ∧ Qd H) ∨ ((Itr lo n).go i H ∧ ∃ Nx : Hp → Prop, (∀ H', Nx H' → ∃ m', m' < m ∧ W (i + 1) m' H') ∧ ∀ x H', (Itr lo n).yld i H x H' → g x (wipe σ vs) H' fun σ2 H2 => wipe σ2 vs = wipe σ vs ∧ tt σ2 H2 fun b H3 =>
        if b = true then te σ2 H3 fun y H4 => ∃ acc, H4 D = some (.lst acc) ∧ acc.length < sizeLine ∧ Nx (upd H4 D (.lst (acc ++ [y]))) else Nx H3) := by
  subst hσ
  exact lc_range Pv h0 hs hd
theorem lc_listS {a : Addr} {xs : List V} (σ' : L2.St) (hσ : wipe σ vs = σ') (Pv : Nat → Hp → Prop) (h0 : Pv 0 (upd H1 D (.lst []))) (hl : ∀ i H, i ≤ xs.length → Pv i H → SqL K H a xs)
    (hs : ∀ i x H, xs[i]? = some x → Pv i H → g x σ' H fun σ2 H2 => wipe σ2 vs = σ' ∧ tt σ2 H2 fun b H3 =>
      if b = true then te σ2 H3 fun y H4 => ∃ acc, H4 D = some (.lst acc) ∧ acc.length < sizeLine ∧ Pv (i + 1) (upd H4 D (.lst (acc ++ [y]))) else Pv (i + 1) H3) (hd : ∀ H, Pv xs.length H → Qd H) :
    ∃ W : Nat → Nat → Hp → Prop, (∃ m, W 0 m (upd H1 D (.lst []))) ∧ ∀ i m H, W i m H →
      ((Itl K a).stop i H ∧ Qd H) ∨ ((Itl K a).go i H ∧ ∃ Nx : Hp → Prop, (∀ H', Nx H' → ∃ m', m' < m ∧ W (i + 1) m' H') ∧ ∀ x H', (Itl K a).yld i H x H' → g x (wipe σ vs) H' fun σ2 H2 => wipe σ2 vs = wipe σ vs ∧ tt σ2 H2 fun b H3 =>
        if b = true then te σ2 H3 fun y H4 => ∃ acc, H4 D = some (.lst acc) ∧ acc.length < sizeLine ∧ Nx (upd H4 D (.lst (acc ++ [y]))) else Nx H3) := by
  subst hσ
  exact lc_list Pv h0 hl hs hd
end
/-- the reading of a for loop, its iterator told by its end -/
def rFor (g : TG) (tb : TS) (D : Ends) (σ : L2.St) (J : It) (H1 : Hp) : Prop := ∃ W : Nat → Nat → L2.St → Hp → Prop, (∃ m, W 0 m σ H1) ∧ ∀ i m σ H, W i m σ H →
  (J.stop i H ∧ D.nx σ H) ∨ (J.go i H ∧ ∃ N : L2.St → Hp → Prop, (∀ σ' H', N σ' H' → ∃ m', m' < m ∧ W (i + 1) m' σ' H') ∧ ∀ x H', J.yld i H x H' → g x σ H' fun σ2 H2 => tb { D with nx := N, ct := N, bk := D.nx } σ2 H2)
theorem r_for {wi : TI} {g : TG} {tb : TS} {D : Ends} {σ : L2.St} {H : Hp} (q : wi σ H fun J H1 => rFor g tb D σ J H1) : tFor wi g tb D σ H := q
theorem r_forR {lo : Int} {n : Nat} {g : TG} {tb : TS} {D : Ends} {σ : L2.St} {H : Hp} (Pv : Nat → L2.St → Hp → Prop) (h0 : Pv 0 σ H)
    (hs : ∀ i σ H, i < n → Pv i σ H → g (.int (lo + i)) σ H fun σ2 H2 => tb { D with nx := Pv (i + 1), ct := Pv (i + 1), bk := D.nx } σ2 H2) (hd : ∀ σ H, Pv n σ H → D.nx σ H) : rFor g tb D σ (Itr lo n) H := for_range Pv h0 hs hd
theorem r_forL {K : PySem.W.Frag} {a : Addr} {xs : List V} {g : TG} {tb : TS} {D : Ends} {σ : L2.St} {H : Hp} (Pv : Nat → L2.St → Hp → Prop) (h0 : Pv 0 σ H) (hl : ∀ i σ H, i ≤ xs.length → Pv i σ H → SqL K H a xs)
    (hs : ∀ i x σ H, xs[i]? = some x → Pv i σ H → g x σ H fun σ2 H2 => tb { D with nx := Pv (i + 1), ct := Pv (i + 1), bk := D.nx } σ2 H2) (hd : ∀ σ H, Pv xs.length σ H → D.nx σ H) : rFor g tb D σ (Itl K a) H := for_list Pv h0 hl hs hd
theorem Dr.mut {a p : Addr} {H H' : Hp} {o : HO} (x : Dr a H H') (hp : H p = none) (n : p ≠ a) : Dr a H (L2.upd H' p o) := by
  obtain ⟨c0, c1, c2, h⟩ := x.src
  refine ⟨⟨c0, c1, c2, by rw [upd_ne (Ne.symm n)]; exact h⟩, fun b u nb e => ?_⟩
  rw [upd_ne (ne_of_none e hp)]
  exact x.old b u nb e
/-- all that stands of a list stands, a draw's source apart -/
theorem Dr.keep {a b : Addr} {H H' : Hp} {o : HO} (x : Dr a H H') (n : b ≠ a) (h : H b = some o) : H' b = some o := x.old b o n h
theorem Src.ne_ins {H : Hp} {a b C dx : Addr} {fs : List (Str × V)} (x : Src H a) (h : H b = some (.ins C dx fs)) : b ≠ a := by
  obtain ⟨c0, c1, c2, e⟩ := x
  exact ne_of h e (by intro z; cases z)
theorem Src.ne_tup {H : Hp} {a b : Addr} {xs : List V} (x : Src H a) (h : H b = some (.tup xs)) : b ≠ a := by
  obtain ⟨c0, c1, c2, e⟩ := x
  exact ne_of h e (by intro z; cases z)
theorem Src.ne_lst4 {H : Hp} {a b : Addr} {xs : List V} (x : Src H a) (h : H b = some (.lst xs)) (n : xs.length ≠ 3 := by simp) : b ≠ a := by
  obtain ⟨c0, c1, c2, e⟩ := x
  refine ne_of h e fun z => n ?_
  cases z
  rfl
theorem r_isiT {K : PySem.W.Frag} {H : Hp} {Q : VK} {x : V} {T T' : String} {b : Bool} (ty : TyX K H x (.type T)) (e : kitB T T' = some b) (q : Q (.bl b) H) : rIsi K [x, .ty T'] H Q := r_isi (.ty T') ty (kit_ty e) q
theorem r_isiC {K : PySem.W.Frag} {H : Hp} {Q : VK} {a C dx : Addr} {fs : List (Str × V)} (I : InsI K C) (e : H a = some (.ins C dx fs)) (q : Q (.bl true) H) : rIsi K [.ref a, .ref C] H Q := r_isi (.own C) (I.ty e) I.own q
theorem max_le {ns : List Int} {m b : Int} (hm : m ∈ ns) (h : ∀ n ∈ ns, n ≤ b) : m ≤ b := h m hm
theorem take_map_bl {bs : List Bool} (h : ∀ b ∈ bs, b = true) : bs.all id = true := by
  rw [List.all_eq_true]
  intro b hb
  rw [h b hb]
  rfl
theorem iteNt {A B : Prop} (h : B) : if (!true) = true then A else B := iteF h
theorem iteNf {A B : Prop} (h : A) : if (!false) = true then A else B := iteT h
theorem r_newS {o : HO} {H : Hp} {Q : VK} (q : ∀ (p : Addr) (H' : Hp), H p = none → Same H H' → H' p = some o → Q (.ref p) H') : rNew o H Q := fun p hp => q p _ hp (same_new hp) upd_same
theorem Src.same {H H' : Hp} {a : Addr} (x : Src H a) (s : Same H H') : Src H' a := by
  obtain ⟨c0, c1, c2, h⟩ := x
  exact ⟨c0, c1, c2, s _ _ h⟩
theorem Dr.same {a : Addr} {H H1 H2 : Hp} (x : Dr a H H1) (s : Same H1 H2) : Dr a H H2 := ⟨x.src.same s, fun b o n h => s b o (x.old b o n h)⟩
theorem Dr.ofSame {a : Addr} {H H1 : Hp} (x : Src H a) (s : Same H H1) : Dr a H H1 := ⟨x.same s, fun b o _ h => s b o h⟩
/-! ### sum of a tuple of ints -/
def rSumT (K : PySem.W.Frag) : List V → Hp → VK → Prop := fun vs H Q => ∃ (a : Addr) (ns : List Int), vs = [V.ref a] ∧ SqT K H a (ns.map V.int) ∧ Q (.int ns.sum) H
theorem preSum_list (ns : List Int) : ∀ j, PySem.preSum (fun i => ns.getD i 0) j = (ns.take j).sum
  | 0 => rfl
  | j + 1 => by
    show PySem.preSum (fun i => ns.getD i 0) j + ns.getD j 0 = _
    rw [preSum_list ns j, List.getD_eq_getElem?_getD, List.take_add_one, List.sum_append]
    cases ns[j]? with
    | none => rfl
    | some z =>
      show (ns.take j).sum + z = (ns.take j).sum + ([z] : List Int).sum
      rw [List.sum_cons]
      show _ = _ + (z + 0)
      rw [Int.add_zero]
theorem c_sumT {X : Cx} (hc : X.calm = true) : CallR X (.builtin "sum") (rSumT X.K) := by
  intro pins s σ H vs us Q I r h
  obtain ⟨a, ns, rfl, hs, q⟩ := h
  obtain ⟨its, rv, hl, _⟩ := I.tuple hs
  rw [Vals.ref1 r]
  have hh : X.A.in1.handled = none := by
    have := I.ok.hd hc
    simpa using this
  obtain ⟨o, ho, hrest⟩ := id hl
  have hlt : a < s.heap.objs.size := Heap.lt_size ho
  have hlen : its.length = ns.length := by rw [← rv.length, List.length_map]
  refine PySem.call_sum_walkG (wpAny_pyIter_tuple (show s.heap.IsTuple a its.toArray from hl) ?_)
  refine ⟨s.heap.objs.size, _, [s.heap.objs.size], _, _, _, fun i => ns.getD i 0, rfl, Walks.tuple (A := X.A.in1) hh s.heap.objs.size a (Nat.ne_of_lt hlt) its.toArray, ⟨⟨_, Heap.get?_push_size _ rfl, rfl, rfl⟩, IsTup.push hl _⟩, fun b hb => ?_, fun i v hv => ?_, fun h' tk t' hk => ?_⟩
  · rw [Heap.size_push]
    simp only [List.mem_cons, List.not_mem_nil, or_false] at hb
    rcases hb with rfl | rfl
    · exact Nat.lt_succ_self _
    · exact Nat.lt_succ_of_lt hlt
  · have hv2 : its[i]? = some v := by simpa using hv
    have hi : i < its.length := (List.getElem?_eq_some_iff.mp hv2).1
    obtain ⟨u, hu, ru⟩ := rv.get (i := i) (x := V.int (ns.getD i 0)) (by
      rw [List.getElem?_map, List.getD_eq_getElem?_getD, List.getElem?_eq_getElem (by omega : i < ns.length)]
      rfl)
    rw [hv2] at hu
    obtain ⟨t, e⟩ := ru
    exact ⟨t, by rw [Option.some.inj hu, e]⟩
  · have e : PySem.preSum (fun i => ns.getD i 0) its.toArray.size = ns.sum := by
      rw [preSum_list, List.size_toArray, List.take_of_length_le (by omega)]
    rw [e]
    exact ⟨.int ns.sum, H, I.kept (t' := tk) (fun b o e => hk b o (fun z => by
      rw [List.mem_singleton] at z
      rw [z] at e
      exact absurd (Heap.lt_size e) (Nat.lt_irrefl _)) (Heap.get?_push_of_some _ e)), ⟨_, rfl⟩, q⟩
theorem r_sumT {K : PySem.W.Frag} {H : Hp} {Q : VK} {a : Addr} {ns : List Int} (h : SqT K H a (ns.map V.int)) (q : Q (.int ns.sum) H) : rSumT K [.ref a] H Q := ⟨a, ns, rfl, h, q⟩
/-! ### while -/
def rWh (tb : TS) (D : Ends) (Pv : Nat → L2.St → Hp → Prop) (m : Nat) (σ : L2.St) (b : Bool) (H1 : Hp) : Prop :=
  if b = true then ∃ N : L2.St → Hp → Prop, (∀ σ' H', N σ' H' → ∃ m', m' < m ∧ Pv m' σ' H') ∧ tb { D with nx := N, ct := N, bk := D.nx } σ H1 else D.nx σ H1
theorem r_while {c : TT} {tb : TS} {D : Ends} {σ : L2.St} {H : Hp} (Pv : Nat → L2.St → Hp → Prop) (m0 : Nat) (h0 : Pv m0 σ H) (hs : ∀ m σ H, Pv m σ H → c σ H fun b H1 => rWh tb D Pv m σ b H1) : tWhile c tb D σ H := ⟨Pv, ⟨m0, h0⟩, hs⟩
theorem r_whT {tb : TS} {D : Ends} {Pv : Nat → L2.St → Hp → Prop} {m : Nat} {σ : L2.St} {H1 : Hp} (q : tb { D with nx := fun σ' H' => ∃ m', m' < m ∧ Pv m' σ' H', ct := fun σ' H' => ∃ m', m' < m ∧ Pv m' σ' H', bk := D.nx } σ H1) : rWh tb D Pv m σ true H1 := by
  unfold rWh
  rw [if_pos rfl]
  exact ⟨_, fun _ _ h => h, q⟩
theorem r_whF {tb : TS} {D : Ends} {Pv : Nat → L2.St → Hp → Prop} {m : Nat} {σ : L2.St} {H1 : Hp} (q : D.nx σ H1) : rWh tb D Pv m σ false H1 := by
  unfold rWh
  rw [if_neg Bool.false_ne_true]
  exact q
theorem r_whD {tb : TS} {D : Ends} {Pv : Nat → L2.St → Hp → Prop} {m : Nat} {σ : L2.St} {H1 : Hp} {p : Prop} [Decidable p] (h1 : p → tb { D with nx := fun σ' H' => ∃ m', m' < m ∧ Pv m' σ' H', ct := fun σ' H' => ∃ m', m' < m ∧ Pv m' σ' H', bk := D.nx } σ H1) (h2 : ¬ p → D.nx σ H1) : rWh tb D Pv m σ (decide p) H1 := by
  by_cases h : p
  · rw [decide_eq_true h]
    exact r_whT (h1 h)
  · rw [decide_eq_false h]
    exact r_whF (h2 h)
theorem ix_mod {xs : List V} {z : Int} {r n : Nat} {v : V} (e : z = ((r % n : Nat) : Int)) (h : xs[r % n]? = some v) : atI xs z = some v := at_of e h
/-! ### dicts with int keys -/
section
variable {σ : L2.St} {H : Hp} {Q : VK} {D : Ends} {ty td tv : TE} {v : V}
def rDk (x y : V) (H : Hp) (R : Option V → Prop) : Prop := ∃ a o, x = .ref a ∧ DGet H a y o ∧ R o
theorem r_dnotin (q : ty σ H fun y H1 => td σ H1 fun x H2 => rDk x y H2 fun o => Q (.bl (!o.isSome)) H2) : tDNotIn ty td σ H Q := q
theorem r_din (q : ty σ H fun y H1 => td σ H1 fun x H2 => rDk x y H2 fun o => Q (.bl o.isSome) H2) : tDIn ty td σ H Q := q
theorem r_dk {a : Addr} {kvs : List (Key × V)} {k : Int} {R : Option V → Prop} (h : H a = some (.dK kvs)) (q : R (valV kvs (Sum.inl k))) : rDk (.ref a) (.int k) H R := ⟨a, _, rfl, DGet.k (k := Sum.inl k) h, q⟩
def rDg (x y : V) (H : Hp) (Q : VK) : Prop := ∃ a v, x = .ref a ∧ DGet H a y (some v) ∧ Q v H
theorem r_dget (q : td σ H fun x H1 => ty σ H1 fun y H2 => rDg x y H2 Q) : tDGet td ty σ H Q := q
theorem r_dg {a : Addr} {kvs : List (Key × V)} {k : Int} (h : H a = some (.dK kvs)) (e : valV kvs (Sum.inl k) = some v) (q : Q v H) : rDg (.ref a) (.int k) H Q := ⟨a, v, rfl, by rw [← e]; exact DGet.k (k := Sum.inl k) h, q⟩
def rDp (x y v : V) (H : Hp) (Qn : Hp → Prop) : Prop := ∃ a H4, x = .ref a ∧ DPut H a y v H4 ∧ Qn H4
theorem r_dput (q : tv σ H fun v H1 => td σ H1 fun x H2 => ty σ H2 fun y H3 => rDp x y v H3 fun H4 => D.nx σ H4) : sDPut td ty tv D σ H := q
theorem r_dp {a : Addr} {kvs : List (Key × V)} {k : Int} {Qn : Hp → Prop} (h : H a = some (.dK kvs)) (hl : kvs.length < 100000) (q : Qn (upd H a (.dK (putK kvs (Sum.inl k) v)))) : rDp (.ref a) (.int k) v H Qn := ⟨a, _, rfl, DPut.k (k := Sum.inl k) h (szl hl), q⟩
theorem r_dnew (q : rNew (.dK []) H Q) : tDNewK σ H Q := q
end
/-- the list of f 0 .. f (n - 1) -/
def tabL (f : Nat → V) (n : Nat) : List V := (List.range n).map f
theorem tabL_len (f : Nat → V) (n : Nat) : (tabL f n).length = n := by simp [tabL]
theorem tabL_get (f : Nat → V) {n i : Nat} (h : i < n) : (tabL f n)[i]? = some (f i) := by
  unfold tabL
  rw [List.getElem?_map, List.getElem?_range h]
  rfl
theorem tabL_succ (f : Nat → V) (n : Nat) : tabL f (n + 1) = tabL f n ++ [f n] := by
  unfold tabL
  rw [List.range_succ, List.map_append]
  rfl
theorem tabL_last (f : Nat → V) (n : Nat) : atI (tabL f (n + 1)) (-1) = some (f n) := by
  rw [tabL_succ]
  exact atI_last _ _
theorem tabL_at (f : Nat → V) {n i : Nat} {z : Int} (e : z = (i : Int)) (h : i < n) : atI (tabL f n) z = some (f i) := at_of e (tabL_get f h)
/-! == and != of rows of ints -/
theorem dpInts {K : PySem.W.Frag} {H : Hp} : ∀ is : List Int, DpAll K H (is.map V.int) (is.map PyData.int)
  | [] => .nil
  | i :: is => .cons (.int i) (dpInts is)
theorem eqvInts : ∀ is js : List Int, PyData.eqvAll (is.map PyData.int) (js.map PyData.int) = decide (is = js)
  | [], [] => by simp [PyData.eqvAll]
  | [], _ :: _ => by simp [PyData.eqvAll]
  | _ :: _, [] => by simp [PyData.eqvAll]
  | a :: is, b :: js => by
    show (PyData.eqv (.int a) (.int b) && PyData.eqvAll (is.map PyData.int) (js.map PyData.int)) = _
    rw [eqvInts is js]
    show ((a == b) && decide (is = js)) = decide (a :: is = b :: js)
    by_cases h : a = b <;> by_cases h2 : is = js <;> simp [h, h2]
theorem layInts : ∀ is : List Int, PyData.canLayAll0 (is.map PyData.int) = true ∧ PyData.depthAll (is.map PyData.int) = 0
  | [] => ⟨rfl, rfl⟩
  | _ :: is => by simp [PyData.canLayAll0, PyData.canLay0, PyData.depthAll, PyData.depth, layInts is]
theorem shL (is : List Int) : SeqAt.shaped (.list (is.map PyData.int)) = true := by simp [SeqAt.shaped, PyData.canLay0, PyData.depth, layInts is]
theorem shT (is : List Int) : SeqAt.shaped (.tuple (is.map PyData.int)) = true := by simp [SeqAt.shaped, PyData.canLay0, PyData.depth, layInts is]
section
variable {K : PySem.W.Frag} {H : Hp} {Q : VK} {a b : Addr} {is js : List Int}
theorem r_eqTT (h : SqT K H a (is.map V.int)) (g : SqT K H b (js.map V.int)) (q : Q (.bl (decide (is = js))) H) : rEqD K (.ref a) (.ref b) H Q :=
  ⟨_, _, .tup h (dpInts is), .tup g (dpInts js), shT is, shT js, by rw [show PyData.eqv (.tuple (is.map PyData.int)) (.tuple (js.map PyData.int)) = decide (is = js) from eqvInts is js]; exact q⟩
theorem r_neTT (h : SqT K H a (is.map V.int)) (g : SqT K H b (js.map V.int)) (q : Q (.bl (!decide (is = js))) H) : rNeD K (.ref a) (.ref b) H Q :=
  ⟨_, _, .tup h (dpInts is), .tup g (dpInts js), shT is, shT js, by rw [show PyData.eqv (.tuple (is.map PyData.int)) (.tuple (js.map PyData.int)) = decide (is = js) from eqvInts is js]; exact q⟩
theorem r_eqLL (h : SqL K H a (is.map V.int)) (g : SqL K H b (js.map V.int)) (q : Q (.bl (decide (is = js))) H) : rEqD K (.ref a) (.ref b) H Q :=
  ⟨_, _, .lst h (dpInts is), .lst g (dpInts js), shL is, shL js, by rw [show PyData.eqv (.list (is.map PyData.int)) (.list (js.map PyData.int)) = decide (is = js) from eqvInts is js]; exact q⟩
theorem r_neLL (h : SqL K H a (is.map V.int)) (g : SqL K H b (js.map V.int)) (q : Q (.bl (!decide (is = js))) H) : rNeD K (.ref a) (.ref b) H Q :=
  ⟨_, _, .lst h (dpInts is), .lst g (dpInts js), shL is, shL js, by rw [show PyData.eqv (.list (is.map PyData.int)) (.list (js.map PyData.int)) = decide (is = js) from eqvInts is js]; exact q⟩
end
/-- another cell than one that was free -/
theorem Same.ne_free {H H' : Hp} {a b : Addr} {o : HO} (h : H a = some o) (f : H b = none) : a ≠ b := ne_of_none h f
def rTri (vs : List V) (R : V → V → V → Prop) : Prop := ∃ u v w, vs = [u, v, w] ∧ R u v w
theorem r_par3 {tr : TA} {D : Ends} {σ : L2.St} {H : Hp} {i j l : Nat} (q : tr σ H fun vs H1 => rTri vs fun u v w => gName i u σ H1 fun σ' H' => gName j v σ' H' fun σ2 H2 => gName l w σ2 H2 D.nx) : tPar3 i j l tr D σ H := q
theorem r_tri {u v w : V} {R : V → V → V → Prop} (q : R u v w) : rTri [u, v, w] R := ⟨u, v, w, rfl, q⟩
theorem ix_listK {X : Cx} {K : PySem.W.Frag} (h : X.K = K) : IxR X (rIxL K) := h ▸ ix_list
theorem ix_tupK {X : Cx} {K : PySem.W.Frag} (h : X.K = K) : IxR X (rIxT K) := h ▸ ix_tup
theorem c_lenK {X : Cx} {K : PySem.W.Frag} (h : X.K = K) : CallR X (.builtin "len") (rLenL K) := h ▸ c_len
theorem r_slT {K : PySem.W.Frag} {H : Hp} {Q : VK} {a : Addr} {xs : List V} {k : Nat} (h : SqT K H a xs) (hk : k < xs.length) (q : rNew (.tup (xs.take k)) H Q) : rSlT K (.ref a) none (some (k : Int)) H Q := by
  have e : HT.sIx xs.length xs.length (some (k : Int)) = k := by
    rw [HT.sIx_nat]
    exact Nat.min_eq_left (Nat.le_of_lt hk)
  have e0 : cutV xs none (some (k : Int)) = xs.take k := by
    show (xs.drop 0).take (HT.sIx xs.length xs.length (some (k : Int)) - 0) = _
    rw [e]
    rfl
  refine ⟨a, xs, rfl, h, fun z => ?_, ?_⟩
  · have := z.2
    rw [e] at this
    omega
  · rw [e0]
    exact q
theorem But.mut {a p : Addr} {H H' : Hp} {o : HO} (x : But a H H') (hp : H p = none) : But a H (L2.upd H' p o) := fun b u n e => by
  rw [upd_ne (ne_of_none e hp)]
  exact x b u n e
theorem But.same {a : Addr} {H H1 H2 : Hp} (x : But a H H1) (s : Same H1 H2) : But a H H2 := fun b o n h => s b o (x b o n h)
theorem Src.upd_ne {H : Hp} {a p : Addr} {o : HO} (x : Src H a) (n : p ≠ a) : Src (L2.upd H p o) a := by
  obtain ⟨c0, c1, c2, h⟩ := x
  exact ⟨c0, c1, c2, by rw [L2.upd_ne (Ne.symm n)]; exact h⟩
theorem tabL_atA (f : Nat → V) {n i : Nat} {z : Int} {zs : List V} (e : z = (i : Int)) (h : i < n) : atI (tabL f n ++ zs) z = some (f i) := by
  refine at_of e ?_
  rw [List.getElem?_append_left (by rw [tabL_len]; exact h)]
  exact tabL_get f h
/-! for i, x in enumerate(xs) -/
def rEn (K : PySem.W.Frag) (vs : List V) (H : Hp) (R : Addr → Prop) : Prop := ∃ a xs, vs = [V.ref a] ∧ SqL K H a xs ∧ R a
theorem r_enum {K : PySem.W.Frag} {tr : TA} {σ : L2.St} {H : Hp} {R : It → Hp → Prop} (q : tr σ H fun vs H1 => rEn K vs H1 fun a => R (Ite K a) H1) : iEnum K tr σ H R := q
theorem r_en {K : PySem.W.Frag} {H : Hp} {a : Addr} {xs : List V} {R : Addr → Prop} (h : SqL K H a xs) (q : R a) : rEn K [.ref a] H R := ⟨a, xs, rfl, h, q⟩
theorem r_forE {K : PySem.W.Frag} {a : Addr} {xs : List V} {g : TG} {tb : TS} {D : Ends} {σ : L2.St} {H : Hp} (Pv : Nat → L2.St → Hp → Prop) (h0 : Pv 0 σ H) (hl : ∀ i σ H, i ≤ xs.length → Pv i σ H → SqL K H a xs)
    (hs : ∀ i x σ H T H', xs[i]? = some x → Pv i σ H → H T = none → Same H H' → H' T = some (.tup [.int (i : Nat), x]) → g (.ref T) σ H' fun σ2 H2 => tb { D with nx := Pv (i + 1), ct := Pv (i + 1), bk := D.nx } σ2 H2) (hd : ∀ σ H, Pv xs.length σ H → D.nx σ H) : rFor g tb D σ (Ite K a) H := by
  refine ⟨fun i m σ H => m = xs.length - i ∧ i ≤ xs.length ∧ Pv i σ H, ⟨_, rfl, Nat.zero_le _, h0⟩, ?_⟩
  rintro i m σ H ⟨rfl, hi, h⟩
  rcases Nat.lt_or_ge i xs.length with z | z
  · refine .inr ⟨⟨xs, xs[i], hl i σ H hi h, List.getElem?_eq_getElem z⟩, Pv (i + 1), fun σ' H' p => ⟨_, ?_, rfl, z, p⟩, ?_⟩
    · omega
    · rintro v H' ⟨T, x, rfl, hT, rfl, hx⟩
      exact hs i x σ H T _ (hx xs (hl i σ H hi h)) h hT (same_new hT) upd_same
  · have e : i = xs.length := by omega
    subst e
    exact .inl ⟨⟨xs, hl _ σ H hi h, Nat.le_refl _⟩, hd σ H h⟩
/-- the way past a test that may be left out: first what follows, then the test's own way to it -/
theorem r_decK {p : Prop} [Decidable p] {A B : Prop} (q : B) (h1 : B → p → A) : if decide p = true then A else B := by
  by_cases h : p
  · rw [decide_eq_true h]
    exact h1 q h
  · rw [decide_eq_false h]
    exact q
theorem r_neB {i j : Bool} {H : Hp} {Q : VK} (q : Q (.bl (!decide (i = j))) H) : rNe (.bl i) (.bl j) H Q := ⟨rfl, by simpa using q⟩
theorem r_eqB {i j : Bool} {H : Hp} {Q : VK} (q : Q (.bl (decide (i = j))) H) : rEq (.bl i) (.bl j) H Q := ⟨rfl, by simpa using q⟩
theorem r_BM0 {K : PySem.W.Frag} {to : TE} {σ : L2.St} {H : Hp} {Q : VK} {T : String} {rm : V → List V → Hp → VK → Prop} (q : to σ H fun x H1 => rTy K T x H1 (rm x [] H1 Q)) : tBM0 K T rm to σ H Q := q
theorem r_reverse {l : Addr} {xs : List V} {H : Hp} {Q : VK} (h : H l = some (.lst xs)) (q : Q .non (upd H l (.lst xs.reverse))) : rReverse (.ref l) [] H Q := ⟨l, xs, rfl, rfl, h, q⟩
def rRgA (x : V) (R : Int → Int → Prop) : Prop := ∃ n, x = .int n ∧ R 0 n
def rRgL (a b : Int) (H : Hp) (Q : VK) : Prop := RgOk a b ∧ ∀ q, H q = none → Q (.ref q) (upd H q (.lst (rgV a b)))
theorem r_lstRg {ta : TE} {σ : L2.St} {H : Hp} {Q : VK} (q : ta σ H fun x H1 => rRgA x fun a b => rRgL a b H1 Q) : tLstRg (tRg1 ta) σ H Q := q
theorem r_rgA {n : Int} {R : Int → Int → Prop} (q : R 0 n) : rRgA (.int n) R := ⟨n, rfl, q⟩
theorem r_rgL {b : Int} {H : Hp} {Q : VK} (h0 : 0 ≤ b) (h1 : b ≤ 16777216) (q : rNew (.lst (rgV 0 b)) H Q) : rRgL 0 b H Q := ⟨RgOk.of_le (Int.le_refl 0) h1 (by decide) h0, q⟩
/-! == of a list of a row of ints and ints -/
theorem eqvHT (A B I J : List Int) : PyData.eqv (.list (.tuple (A.map PyData.int) :: I.map PyData.int)) (.list (.tuple (B.map PyData.int) :: J.map PyData.int)) = (decide (A = B) && decide (I = J)) := by
  show (PyData.eqvAll (A.map PyData.int) (B.map PyData.int) && PyData.eqvAll (I.map PyData.int) (J.map PyData.int)) = _
  rw [eqvInts, eqvInts]
theorem eqvHL (A B I J : List Int) : PyData.eqv (.list (.list (A.map PyData.int) :: I.map PyData.int)) (.list (.list (B.map PyData.int) :: J.map PyData.int)) = (decide (A = B) && decide (I = J)) := by
  show (PyData.eqvAll (A.map PyData.int) (B.map PyData.int) && PyData.eqvAll (I.map PyData.int) (J.map PyData.int)) = _
  rw [eqvInts, eqvInts]
theorem shHT (A I : List Int) : SeqAt.shaped (.list (.tuple (A.map PyData.int) :: I.map PyData.int)) = true := by simp [SeqAt.shaped, PyData.canLay0, PyData.depth, PyData.canLayAll0, PyData.depthAll, layInts]
theorem shHL (A I : List Int) : SeqAt.shaped (.list (.list (A.map PyData.int) :: I.map PyData.int)) = true := by simp [SeqAt.shaped, PyData.canLay0, PyData.depth, PyData.canLayAll0, PyData.depthAll, layInts]
theorem r_neHT {K : PySem.W.Frag} {H : Hp} {Q : VK} {a b t u : Addr} {A B I J : List Int} (h : SqL K H a (.ref t :: I.map V.int)) (ht : SqT K H t (A.map V.int)) (g : SqL K H b (.ref u :: J.map V.int)) (gu : SqT K H u (B.map V.int))
    (q : Q (.bl (!(decide (A = B) && decide (I = J)))) H) : rNeD K (.ref a) (.ref b) H Q :=
  ⟨_, _, .lst h (.cons (.tup ht (dpInts A)) (dpInts I)), .lst g (.cons (.tup gu (dpInts B)) (dpInts J)), shHT A I, shHT B J, by rw [eqvHT]; exact q⟩
theorem r_eqHL {K : PySem.W.Frag} {H : Hp} {Q : VK} {a b t u : Addr} {A B I J : List Int} (h : SqL K H a (.ref t :: I.map V.int)) (ht : SqL K H t (A.map V.int)) (g : SqL K H b (.ref u :: J.map V.int)) (gu : SqL K H u (B.map V.int))
    (q : Q (.bl (decide (A = B) && decide (I = J))) H) : rEqD K (.ref a) (.ref b) H Q :=
  ⟨_, _, .lst h (.cons (.lst ht (dpInts A)) (dpInts I)), .lst g (.cons (.lst gu (dpInts B)) (dpInts J)), shHL A I, shHL B J, by rw [eqvHL]; exact q⟩
theorem mem_rgV {a b : Int} {v : V} (h : v ∈ rgV a b) : ∃ i : Int, v = .int i ∧ a ≤ i ∧ i < b := by
  unfold rgV at h
  obtain ⟨n, hn, rfl⟩ := List.mem_map.mp h
  have := List.mem_range.mp hn
  exact ⟨_, rfl, by omega, by omega⟩
end Kr

/-! Packing rows into heap pages: the plain mathematics (no Python here). -/
namespace Pk
/-- the length of a row -/
def lenAt (ls : List Int) (r : Nat) : Int := ls.getD (r % ls.length) 0
/-- how many units k rows from row r on have -/
def pre (ls : List Int) (r : Nat) : Nat → Int
  | 0 => 0
  | k + 1 => pre ls r k + lenAt ls (r + k)
/-- lengths that may be packed -/
structure Ok (ls : List Int) (sz : Int) : Prop where
  l1 : 1 ≤ ls.length
  l6 : ls.length ≤ 12
  all : ∀ l ∈ ls, 1 ≤ l ∧ l ≤ sz
  s64 : sz ≤ 1000
section
variable {ls : List Int} {sz : Int}
theorem len_pos (o : Ok ls sz) (r : Nat) : 1 ≤ lenAt ls r ∧ lenAt ls r ≤ sz := by
  have h : r % ls.length < ls.length := Nat.mod_lt _ o.l1
  unfold lenAt
  rw [List.getD_eq_getElem?_getD, List.getElem?_eq_getElem h]
  exact o.all _ (List.getElem_mem h)
theorem len_at (o : Ok ls sz) (r : Nat) : ls[r % ls.length]? = some (lenAt ls r) := by
  have h : r % ls.length < ls.length := Nat.mod_lt _ o.l1
  unfold lenAt
  rw [List.getD_eq_getElem?_getD, List.getElem?_eq_getElem h]
  rfl
theorem len_mod {r s : Nat} (h : r % ls.length = s % ls.length) : lenAt ls r = lenAt ls s := by
  unfold lenAt
  rw [h]
theorem add_mod_eq {n r s k : Nat} (h : r % n = s % n) : (r + k) % n = (s + k) % n := by
  rw [Nat.add_mod, h, ← Nat.add_mod]
theorem pre_mod {r s : Nat} (h : r % ls.length = s % ls.length) : ∀ k, pre ls r k = pre ls s k
  | 0 => rfl
  | k + 1 => by
    show pre ls r k + lenAt ls (r + k) = pre ls s k + lenAt ls (s + k)
    rw [pre_mod h k, len_mod (add_mod_eq h)]
theorem pre_add (r : Nat) (a : Nat) : ∀ b, pre ls r (a + b) = pre ls r a + pre ls (r + a) b
  | 0 => by
    show pre ls r a = pre ls r a + 0
    omega
  | b + 1 => by
    show pre ls r (a + b) + lenAt ls (r + (a + b)) = pre ls r a + (pre ls (r + a) b + lenAt ls (r + a + b))
    rw [pre_add r a b, Nat.add_assoc r a b]
    omega
theorem pre_mono (o : Ok ls sz) (r : Nat) {a b : Nat} (h : a ≤ b) : pre ls r a + ((b : Int) - a) ≤ pre ls r b := by
  induction b with
  | zero =>
    have : a = 0 := by omega
    subst this
    simp
  | succ b ih =>
    have l := (len_pos o (r + b)).1
    by_cases e : a = b + 1
    · subst e
      omega
    · have := ih (by omega)
      show pre ls r a + (((b + 1 : Nat) : Int) - a) ≤ pre ls r b + lenAt ls (r + b)
      omega
theorem pre_ge (o : Ok ls sz) (r k : Nat) : (k : Int) ≤ pre ls r k := by
  have := pre_mono o r (Nat.zero_le k)
  have e : pre ls r 0 = 0 := rfl
  omega
/-- k rows from r on fit, one more does not -/
def Fill (ls : List Int) (sz : Int) (r k : Nat) : Prop := pre ls r k ≤ sz ∧ sz < pre ls r (k + 1)
theorem Fill.inj (o : Ok ls sz) {r k j : Nat} (h : Fill ls sz r k) (g : Fill ls sz r j) : k = j := by
  rcases Nat.lt_trichotomy k j with z | z | z
  · have := pre_mono o r (show k + 1 ≤ j from z)
    have h2 := h.2
    have g1 := g.1
    omega
  · exact z
  · have := pre_mono o r (show j + 1 ≤ k from z)
    have h1 := h.1
    have g2 := g.2
    omega
theorem Fill.le (o : Ok ls sz) {r k : Nat} (h : Fill ls sz r k) : (k : Int) ≤ sz := by
  have := pre_ge o r k
  have := h.1
  omega
theorem Fill.pos (o : Ok ls sz) {r k : Nat} (h : Fill ls sz r k) : 1 ≤ k := by
  rcases k with _ | k
  · have h2 : sz < pre ls r 1 := h.2
    have e : pre ls r 1 = 0 + lenAt ls (r + 0) := rfl
    have := (len_pos o (r + 0)).2
    omega
  · omega
theorem Fill.mod {r s k : Nat} (h : r % ls.length = s % ls.length) (f : Fill ls sz r k) : Fill ls sz s k := by
  unfold Fill
  rw [← pre_mod h, ← pre_mod h]
  exact f
/-- the greedy count, with fuel -/
def cntF (ls : List Int) (r : Nat) (left : Int) : Nat → Nat
  | 0 => 0
  | f + 1 => if lenAt ls r ≤ left then cntF ls (r + 1) (left - lenAt ls r) f + 1 else 0
theorem pre_one (r : Nat) (k : Nat) : pre ls r (k + 1) = lenAt ls r + pre ls (r + 1) k := by
  have e := pre_add (ls := ls) r 1 k
  rw [Nat.add_comm k 1, e]
  show (0 + lenAt ls (r + 0)) + pre ls (r + 1) k = lenAt ls r + pre ls (r + 1) k
  rw [Nat.add_zero]
  omega
theorem cntF_fill (o : Ok ls sz) : ∀ (f r : Nat) (left : Int), 0 ≤ left → left < f → pre ls r (cntF ls r left f) ≤ left ∧ left < pre ls r (cntF ls r left f + 1)
  | 0, r, left, h0, h1 => by omega
  | f + 1, r, left, h0, h1 => by
    have lp := (len_pos o r).1
    unfold cntF
    split
    · rename_i h
      have ih := cntF_fill o f (r + 1) (left - lenAt ls r) (by omega) (by omega)
      rw [pre_one, pre_one]
      omega
    · rename_i h
      have e : pre ls r 1 = lenAt ls r := by
        rw [pre_one]
        show lenAt ls r + 0 = _
        omega
      exact ⟨h0, by rw [e]; omega⟩
def cnt (ls : List Int) (sz : Int) (r : Nat) : Nat := cntF ls r sz (sz.toNat + 1)
theorem cnt_fill (o : Ok ls sz) (r : Nat) : Fill ls sz r (cnt ls sz r) := by
  have := (len_pos o r).1
  have := (len_pos o r).2
  exact cntF_fill o _ r sz (by omega) (by omega)
theorem cnt_is (o : Ok ls sz) {r k : Nat} (h : Fill ls sz r k) : cnt ls sz r = k := (cnt_fill o r).inj o h
theorem cnt_mod (o : Ok ls sz) {r s : Nat} (h : r % ls.length = s % ls.length) : cnt ls sz r = cnt ls sz s := cnt_is o ((cnt_fill o s).mod h.symm)
theorem cnt_pos (o : Ok ls sz) (r : Nat) : 1 ≤ cnt ls sz r := (cnt_fill o r).pos o
theorem cnt_le (o : Ok ls sz) (r : Nat) : (cnt ls sz r : Int) ≤ sz := (cnt_fill o r).le o
/-- the first row of each heap page -/
def st (ls : List Int) (sz : Int) : Nat → Nat
  | 0 => 0
  | m + 1 => st ls sz m + cnt ls sz (st ls sz m)
theorem st_succ (m : Nat) : st ls sz (m + 1) = st ls sz m + cnt ls sz (st ls sz m) := rfl
theorem st_lt (o : Ok ls sz) (m : Nat) : st ls sz m < st ls sz (m + 1) := by
  have := cnt_pos o (st ls sz m)
  rw [st_succ]
  omega
theorem st_mono (o : Ok ls sz) {a b : Nat} (h : a < b) : st ls sz a < st ls sz b := by
  induction b with
  | zero => omega
  | succ b ih =>
    have l := st_lt o b
    rcases Nat.lt_or_ge a b with z | z
    · have := ih z
      omega
    · have : a = b := by omega
      subst this
      exact l
theorem st_le (o : Ok ls sz) {a b : Nat} (h : a ≤ b) : st ls sz a ≤ st ls sz b := by
  rcases Nat.lt_or_ge a b with z | z
  · exact Nat.le_of_lt (st_mono o z)
  · have : a = b := by omega
    subst this
    exact Nat.le_refl _
theorem st_ge (o : Ok ls sz) (m : Nat) : m ≤ st ls sz m := by
  induction m with
  | zero => exact Nat.zero_le _
  | succ m ih =>
    have := st_lt o m
    omega
theorem st_up (o : Ok ls sz) (m : Nat) : (st ls sz m : Int) ≤ m * sz := by
  induction m with
  | zero => simp [st]
  | succ m ih =>
    have := cnt_le o (st ls sz m)
    have e : ((m + 1 : Nat) : Int) * sz = m * sz + sz := by
      rw [Int.natCast_add, Int.add_mul]
      simp
    rw [st_succ, e, Int.natCast_add]
    omega
/-- places that are equal lead on alike -/
theorem st_alike (o : Ok ls sz) {a b : Nat} (h : st ls sz a % ls.length = st ls sz b % ls.length) : ∀ t, st ls sz (a + t) % ls.length = st ls sz (b + t) % ls.length ∧ st ls sz (a + t) - st ls sz a = st ls sz (b + t) - st ls sz b
  | 0 => ⟨h, by simp⟩
  | t + 1 => by
    obtain ⟨h1, h2⟩ := st_alike o h t
    have e := cnt_mod (sz := sz) o h1
    have g1 : st ls sz (a + (t + 1)) = st ls sz (a + t) + cnt ls sz (st ls sz (a + t)) := rfl
    have g2 : st ls sz (b + (t + 1)) = st ls sz (b + t) + cnt ls sz (st ls sz (b + t)) := rfl
    have k1 := st_le o (show a ≤ a + t by omega)
    have k2 := st_le o (show b ≤ b + t by omega)
    rw [g1, g2, e]
    exact ⟨add_mod_eq h1, by omega⟩
/-- a cycle: from page j on all comes again k - j pages and so many rows later -/
structure Cyc (ls : List Int) (sz : Int) (j k : Nat) : Prop where
  lt : j < k
  eq : st ls sz j % ls.length = st ls sz k % ls.length
  dis : ∀ a b, a < b → b < k → st ls sz a % ls.length ≠ st ls sz b % ls.length
/-- how many rows a cycle has -/
def rws (ls : List Int) (sz : Int) (j k : Nat) : Nat := st ls sz k - st ls sz j
theorem Cyc.rows (c : Cyc ls sz j k) (o : Ok ls sz) : 1 ≤ rws ls sz j k := by
  have := st_mono o c.lt
  unfold rws
  omega
theorem Cyc.step (c : Cyc ls sz j k) (o : Ok ls sz) {m : Nat} (h : j ≤ m) : st ls sz (m + (k - j)) = st ls sz m + rws ls sz j k := by
  obtain ⟨t, rfl⟩ := Nat.exists_eq_add_of_le h
  have := (st_alike o c.eq t).2
  have k1 := st_le o (show j ≤ j + t by omega)
  have k2 := st_le o (show k ≤ k + t by omega)
  have k3 := st_mono o c.lt
  have lt := c.lt
  have e : j + t + (k - j) = k + t := by omega
  rw [e]
  unfold rws
  omega
theorem Cyc.steps (c : Cyc ls sz j k) (o : Ok ls sz) {m : Nat} (h : j ≤ m) : ∀ t, st ls sz (m + t * (k - j)) = st ls sz m + t * rws ls sz j k
  | 0 => by simp
  | t + 1 => by
    have ih := Cyc.steps c o h t
    have e : m + (t + 1) * (k - j) = (m + t * (k - j)) + (k - j) := by
      rw [Nat.succ_mul]
      omega
    rw [e, c.step o (show j ≤ m + t * (k - j) by omega), ih, Nat.succ_mul]
    omega
theorem Cyc.place (c : Cyc ls sz j k) (o : Ok ls sz) {m : Nat} (h : j ≤ m) (t : Nat) : st ls sz (m + t * (k - j)) % ls.length = st ls sz m % ls.length := by
  induction t with
  | zero => simp
  | succ t ih =>
    have lt := c.lt
    have h1 : j ≤ m + t * (k - j) := by omega
    obtain ⟨u, hu⟩ := Nat.exists_eq_add_of_le h1
    have al := (st_alike o c.eq u).1
    have e : m + (t + 1) * (k - j) = k + u := by
      rw [Nat.succ_mul]
      omega
    rw [e, ← al, ← hu, ih]
/-- different places are no more than the lengths -/
theorem dis_le (o : Ok ls sz) {k : Nat} (dis : ∀ a b, a < b → b < k → st ls sz a % ls.length ≠ st ls sz b % ls.length) : k ≤ ls.length := by
  have key : ∀ (n k : Nat) (f : Nat → Nat), (∀ a, a < k → f a < n) → (∀ a b, a < b → b < k → f a ≠ f b) → k ≤ n := by
    intro n
    induction n with
    | zero =>
      intro k f h _
      rcases k with _ | k
      · exact Nat.le_refl _
      · exact absurd (h 0 (by omega)) (by omega)
    | succ n ih =>
      intro k f h d
      rcases k with _ | k
      · omega
      · -- move the value n out of the way
        have := ih k (fun a => if f a = n then f k else f a) (fun a ha => by
          show (if f a = n then f k else f a) < n
          have h1 := h a (by omega)
          have h2 := h k (by omega)
          have h3 := d a k ha (by omega)
          split <;> omega) (fun a b hab hb => by
          show (if f a = n then f k else f a) ≠ (if f b = n then f k else f b)
          have h3 := d a k (by omega) (by omega)
          have h4 := d b k hb (by omega)
          have h5 := d a b hab (by omega)
          split <;> split <;> omega)
        omega
  exact key ls.length k (fun a => st ls sz a % ls.length) (fun a _ => Nat.mod_lt _ o.l1) dis
theorem Cyc.le (c : Cyc ls sz j k) (o : Ok ls sz) : k ≤ ls.length := dis_le o c.dis
/-- how many whole cycles off a row is -/
theorem Cyc.turns (c : Cyc ls sz j k) (o : Ok ls sz) (r : Nat) : ∃ t : Nat, (if ((r : Int) - (st ls sz j : Nat)) / (rws ls sz j k : Nat) > 0 then ((r : Int) - (st ls sz j : Nat)) / (rws ls sz j k : Nat) else 0) = (t : Int) ∧
    t * rws ls sz j k ≤ r ∧ (t = 0 ∨ st ls sz j + t * rws ls sz j k ≤ r) ∧ r - t * rws ls sz j k < st ls sz k ∧ t ≤ r := by
  have hR := c.rows o
  have hk := st_mono o c.lt
  have hRd : st ls sz j + rws ls sz j k = st ls sz k := by unfold rws; omega
  generalize rws ls sz j k = R at *
  generalize hsj : st ls sz j = S at *
  have hdm := Int.emod_add_mul_ediv ((r : Int) - (S : Nat)) (R : Nat)
  have hm0 := Int.emod_nonneg ((r : Int) - (S : Nat)) (show ((R : Nat) : Int) ≠ 0 by omega)
  have hm1 := Int.emod_lt_of_pos ((r : Int) - (S : Nat)) (show (0 : Int) < ((R : Nat) : Int) by omega)
  generalize ((r : Int) - (S : Nat)) / ((R : Nat) : Int) = D at *
  generalize ((r : Int) - (S : Nat)) % ((R : Nat) : Int) = M at *
  by_cases h : D > 0
  · rw [if_pos h]
    obtain ⟨t, rfl⟩ := Int.eq_ofNat_of_zero_le (show 0 ≤ D by omega)
    have e : ((t * R : Nat) : Int) = (R : Int) * t := by rw [Int.natCast_mul, Int.mul_comm]
    have hle : t ≤ t * R := Nat.le_mul_of_pos_right t hR
    refine ⟨t, rfl, ?_, .inr ?_, ?_, ?_⟩ <;> omega
  · rw [if_neg h]
    refine ⟨0, rfl, by simp, .inl rfl, ?_, by omega⟩
    have : (R : Int) * D ≤ 0 := Int.mul_nonpos_of_nonneg_of_nonpos (by omega) (by omega)
    simp
    omega
/-- the page of a row, by the cycle: t whole cycles off -/
theorem Cyc.on (c : Cyc ls sz j k) (o : Ok ls sz) {r t m : Nat} (h1 : t * rws ls sz j k ≤ r) (h2 : t = 0 ∨ st ls sz j + t * rws ls sz j k ≤ r) (hm : st ls sz m ≤ r - t * rws ls sz j k ∧ r - t * rws ls sz j k < st ls sz (m + 1)) :
    st ls sz (m + t * (k - j)) ≤ r ∧ r < st ls sz (m + t * (k - j) + 1) := by
  rcases h2 with rfl | h2
  · simpa using hm
  · have hj : j ≤ m := by
      rcases Nat.lt_or_ge m j with z | z
      · have := st_le o (show m + 1 ≤ j from z)
        omega
      · exact z
    have e1 := c.steps o hj t
    have e2 := c.steps o (show j ≤ m + 1 by omega) t
    have e3 : m + 1 + t * (k - j) = m + t * (k - j) + 1 := by omega
    rw [e3] at e2
    omega
/-- the page of a row -/
def On (ls : List Int) (sz : Int) (m r : Nat) : Prop := st ls sz m ≤ r ∧ r < st ls sz (m + 1)
theorem On.inj (o : Ok ls sz) {m n r : Nat} (h : On ls sz m r) (g : On ls sz n r) : m = n := by
  rcases Nat.lt_trichotomy m n with z | z | z
  · have := st_le o (show m + 1 ≤ n from z)
    have h2 := h.2
    have g1 := g.1
    omega
  · exact z
  · have := st_le o (show n + 1 ≤ m from z)
    have h1 := h.1
    have g2 := g.2
    omega
theorem on_ex (o : Ok ls sz) (r : Nat) : ∃ m, On ls sz m r := by
  induction r with
  | zero =>
    exact ⟨0, Nat.le_refl _, by have := st_lt o 0; have e : st ls sz 0 = 0 := rfl; omega⟩
  | succ r ih =>
    obtain ⟨m, h1, h2⟩ := ih
    by_cases z : r + 1 < st ls sz (m + 1)
    · exact ⟨m, by omega, z⟩
    · exact ⟨m + 1, by omega, by have := st_lt o (m + 1); omega⟩
theorem On.mono (o : Ok ls sz) {m n r s : Nat} (h : On ls sz m r) (g : On ls sz n s) (l : r ≤ s) : m ≤ n := by
  rcases Nat.lt_or_ge n m with z | z
  · have := st_le o (show n + 1 ≤ m from z)
    have := h.1
    have := g.2
    omega
  · exact z
theorem fit_le (o : Ok ls sz) {r e : Nat} (h : pre ls r e ≤ sz) : e ≤ cnt ls sz r := by
  rcases Nat.lt_or_ge (cnt ls sz r) e with z | z
  · have := pre_mono o r (show cnt ls sz r + 1 ≤ e from z)
    have h2 := (cnt_fill o r).2
    omega
  · exact z
/-- places of a cycle come again -/
theorem Cyc.again (c : Cyc ls sz j k) (o : Ok ls sz) {m : Nat} (h : j ≤ m) : st ls sz (m + (k - j)) % ls.length = st ls sz m % ls.length := by
  have := c.place o h 1
  rwa [Nat.one_mul] at this
/-- every page's place is that of one of the first pages -/
theorem Cyc.near (c : Cyc ls sz j k) (o : Ok ls sz) : ∀ m, j ≤ m → ∃ i, j ≤ i ∧ i < k ∧ st ls sz m % ls.length = st ls sz i % ls.length := by
  intro m
  induction m using Nat.strongRecOn with
  | _ m ih =>
    intro h
    rcases Nat.lt_or_ge m k with z | z
    · exact ⟨m, h, z, rfl⟩
    · have lt := c.lt
      obtain ⟨i, h1, h2, h3⟩ := ih (m - (k - j)) (by omega) (by omega)
      refine ⟨i, h1, h2, ?_⟩
      rw [← h3]
      have := c.again o (show j ≤ m - (k - j) by omega)
      rwa [show m - (k - j) + (k - j) = m by omega] at this
/-- a search by first page, then by pages, ends at the cycle -/
theorem Cyc.only (c : Cyc ls sz j k) (o : Ok ls sz) {f p : Nat} (hf : f ≤ j) (hp : 1 ≤ p) (hs : f = j → p ≤ k - j) (e : st ls sz f % ls.length = st ls sz (f + p) % ls.length) : f = j ∧ p = k - j := by
  have lt := c.lt
  rcases Nat.lt_or_ge f j with z | z
  · exfalso
    rcases Nat.lt_or_ge (f + p) k with y | y
    · exact c.dis f (f + p) (by omega) y e
    · obtain ⟨i, h1, h2, h3⟩ := c.near o (f + p) (by omega)
      exact c.dis f i (by omega) h2 (e.trans h3)
  · have hj : f = j := by omega
    have := hs hj
    refine ⟨hj, ?_⟩
    rcases Nat.lt_or_ge (f + p) k with y | y
    · exact absurd e (c.dis f (f + p) (by omega) y)
    · omega
/-- how many whole cycles off a page is -/
theorem Cyc.pturns (c : Cyc ls sz j k) (m : Nat) : ∃ t : Nat, (if ((m : Int) - (j : Nat)) / ((k - j : Nat) : Int) > 0 then ((m : Int) - (j : Nat)) / ((k - j : Nat) : Int) else 0) = (t : Int) ∧
    t * (k - j) ≤ m ∧ (t = 0 ∨ j ≤ m - t * (k - j)) ∧ m - t * (k - j) < k ∧ t ≤ m := by
  have lt := c.lt
  have hR : 0 < k - j := by omega
  have hjk : j + (k - j) = k := by omega
  generalize k - j = R at *
  have hdm := Int.emod_add_mul_ediv ((m : Int) - (j : Nat)) (R : Nat)
  have hm0 := Int.emod_nonneg ((m : Int) - (j : Nat)) (show ((R : Nat) : Int) ≠ 0 by omega)
  have hm1 := Int.emod_lt_of_pos ((m : Int) - (j : Nat)) (show (0 : Int) < ((R : Nat) : Int) by omega)
  generalize ((m : Int) - (j : Nat)) / ((R : Nat) : Int) = D at *
  generalize ((m : Int) - (j : Nat)) % ((R : Nat) : Int) = M at *
  by_cases h : D > 0
  · rw [if_pos h]
    obtain ⟨t, rfl⟩ := Int.eq_ofNat_of_zero_le (show 0 ≤ D by omega)
    have e : ((t * R : Nat) : Int) = (R : Int) * t := by rw [Int.natCast_mul, Int.mul_comm]
    have hle : t ≤ t * R := Nat.le_mul_of_pos_right t hR
    refine ⟨t, rfl, ?_, .inr ?_, ?_, ?_⟩ <;> omega
  · rw [if_neg h]
    refine ⟨0, rfl, by simp, .inl rfl, ?_, by omega⟩
    have : (R : Int) * D ≤ 0 := Int.mul_nonpos_of_nonneg_of_nonpos (by omega) (by omega)
    simp
    omega
/-- the first row of a page, by the cycle: t whole cycles off -/
theorem Cyc.start (c : Cyc ls sz j k) (o : Ok ls sz) {m t : Nat} (h1 : t * (k - j) ≤ m) (h2 : t = 0 ∨ j ≤ m - t * (k - j)) : st ls sz m = st ls sz (m - t * (k - j)) + t * rws ls sz j k := by
  rcases h2 with rfl | h2
  · simp
  · have := c.steps o h2 t
    rwa [Nat.sub_add_cancel h1] at this
/-! settings that pack alike -/
theorem lenAt_scale (ls : List Int) (t : Int) (r : Nat) : lenAt (ls.map fun l => l * t) r = lenAt ls r * t := by
  unfold lenAt
  rw [List.length_map, List.getD_eq_getElem?_getD, List.getD_eq_getElem?_getD, List.getElem?_map]
  cases ls[r % ls.length]? with
  | none => simp
  | some v => rfl
theorem pre_scale (ls : List Int) (t : Int) (r : Nat) : ∀ k, pre (ls.map fun l => l * t) r k = pre ls r k * t
  | 0 => by simp [pre]
  | k + 1 => by
    show pre (ls.map fun l => l * t) r k + lenAt (ls.map fun l => l * t) (r + k) = (pre ls r k + lenAt ls (r + k)) * t
    rw [pre_scale ls t r k, lenAt_scale, Int.add_mul]
theorem cnt_scale {ls2 : List Int} {sz2 t d : Int} (o : Ok ls sz) (o2 : Ok ls2 sz2) (hp : ∀ r k, pre ls2 r k = pre ls r k * t) (hs : sz2 = sz * t + d) (d0 : 0 ≤ d) (d1 : d < t) (r : Nat) : cnt ls2 sz2 r = cnt ls sz r := by
  have f := cnt_fill o r
  have h1 : pre ls r (cnt ls sz r) * t ≤ sz * t := Int.mul_le_mul_of_nonneg_right f.1 (by omega)
  have h2 : (sz + 1) * t ≤ pre ls r (cnt ls sz r + 1) * t := Int.mul_le_mul_of_nonneg_right (by have := f.2; omega) (by omega)
  rw [Int.add_mul, Int.one_mul] at h2
  refine cnt_is o2 ⟨?_, ?_⟩
  · rw [hp]
    omega
  · rw [hp]
    omega
theorem st_like {ls2 : List Int} {sz2 : Int} (h : ∀ r, cnt ls2 sz2 r = cnt ls sz r) : ∀ m, st ls2 sz2 m = st ls sz m
  | 0 => rfl
  | m + 1 => by rw [st_succ, st_succ, st_like h m, h]
theorem lenAt_twice (ls : List Int) (r : Nat) : lenAt (ls ++ ls) r = lenAt ls r := by
  unfold lenAt
  rcases Nat.eq_zero_or_pos ls.length with z | z
  · have e : ls = [] := List.eq_nil_of_length_eq_zero z
    subst e
    rfl
  · have hm : r % (ls.length + ls.length) % ls.length = r % ls.length := Nat.mod_mod_of_dvd r ⟨2, by omega⟩
    have hlt : r % (ls.length + ls.length) < ls.length + ls.length := Nat.mod_lt _ (by omega)
    rw [List.length_append, List.getD_eq_getElem?_getD, List.getD_eq_getElem?_getD, ← hm]
    generalize r % (ls.length + ls.length) = i at hlt
    rcases Nat.lt_or_ge i ls.length with y | y
    · rw [List.getElem?_append_left y, Nat.mod_eq_of_lt y]
    · have e : i % ls.length = i - ls.length := by
        rw [Nat.mod_eq_sub_mod y, Nat.mod_eq_of_lt (by omega)]
      rw [List.getElem?_append_right y, e]
theorem pre_twice (ls : List Int) (r : Nat) : ∀ k, pre (ls ++ ls) r k = pre ls r k
  | 0 => rfl
  | k + 1 => by
    show pre (ls ++ ls) r k + lenAt (ls ++ ls) (r + k) = pre ls r k + lenAt ls (r + k)
    rw [pre_twice ls r k, lenAt_twice]
theorem cnt_same {ls2 : List Int} (o : Ok ls sz) (o2 : Ok ls2 sz) (hp : ∀ r k, pre ls2 r k = pre ls r k) (r : Nat) : cnt ls2 sz r = cnt ls sz r := by
  have f := cnt_fill o r
  refine cnt_is o2 ⟨?_, ?_⟩
  · rw [hp]
    exact f.1
  · rw [hp]
    exact f.2
theorem Cyc.uniq {ls2 : List Int} {sz2 : Int} {j2 k2 : Nat} (c : Cyc ls sz j k) (c2 : Cyc ls2 sz2 j2 k2) (hl : ls2.length = ls.length) (hs : ∀ m, st ls2 sz2 m = st ls sz m) : j2 = j ∧ k2 = k := by
  have e1 := c.eq
  have e2 := c2.eq
  have d2 := c2.dis
  rw [hl, hs, hs] at e2
  simp only [hl, hs] at d2
  have l1 := c.lt
  have l2 := c2.lt
  have hk : k2 = k := by
    rcases Nat.lt_trichotomy k2 k with z | z | z
    · exact absurd e2 (c.dis j2 k2 l2 z)
    · exact z
    · exact absurd e1 (d2 j k l1 z)
  subst hk
  refine ⟨?_, rfl⟩
  rcases Nat.lt_trichotomy j2 j with z | z | z
  · exact absurd (e2.trans e1.symm) (c.dis j2 j z l1)
  · exact z
  · exact absurd (e1.trans e2.symm) (c.dis j j2 z l2)
theorem Cyc.twice {ls2 : List Int} {sz2 : Int} {j2 k2 : Nat} (o : Ok ls sz) (o2 : Ok ls2 sz2) (c : Cyc ls sz j k) (c2 : Cyc ls2 sz2 j2 k2) (hl : ls2.length = ls.length + ls.length) (hs : ∀ m, st ls2 sz2 m = st ls sz m) :
    j2 = j ∧ ∃ u, k2 - j2 = u * (k - j) ∧ rws ls2 sz2 j2 k2 = u * rws ls sz j k := by
  have l1 := c.lt
  have l2 := c2.lt
  have down : ∀ {a b : Nat}, a % (ls.length + ls.length) = b % (ls.length + ls.length) → a % ls.length = b % ls.length := fun {a b} h => by
    have h1 : a % (ls.length + ls.length) % ls.length = a % ls.length := Nat.mod_mod_of_dvd a ⟨2, by omega⟩
    have h2 : b % (ls.length + ls.length) % ls.length = b % ls.length := Nat.mod_mod_of_dvd b ⟨2, by omega⟩
    rw [← h1, ← h2, h]
  have e2 := c2.eq
  rw [hl, hs, hs] at e2
  have q2 := down e2
  have d2 := c2.dis
  simp only [hl, hs] at d2
  have mono := st_mono o l1
  -- the rows of a cycle are a multiple of the lengths
  have hR : ls.length ∣ rws ls sz j k := by
    have e := c.eq
    have er : st ls sz k = st ls sz j + rws ls sz j k := by unfold rws; omega
    rw [er] at e
    have a1 := Nat.div_add_mod (st ls sz j) ls.length
    have a2 := Nat.div_add_mod (st ls sz j + rws ls sz j k) ls.length
    rw [← e] at a2
    refine ⟨(st ls sz j + rws ls sz j k) / ls.length - st ls sz j / ls.length, ?_⟩
    rw [Nat.mul_sub]
    omega
  have hj1 : j ≤ j2 := by
    rcases Nat.lt_or_ge j2 j with z | z
    · exfalso
      rcases Nat.lt_or_ge k2 k with y | y
      · exact c.dis j2 k2 l2 y q2
      · obtain ⟨i, h1, h2, h3⟩ := c.near o k2 (by omega)
        exact c.dis j2 i (by omega) h2 (q2.trans h3)
    · exact z
  have hj2 : j2 ≤ j := by
    rcases Nat.lt_or_ge j j2 with z | z
    · exfalso
      have hm : j2 ≤ j + (2 * j2) * (k - j) := by
        have : 2 * j2 * 1 ≤ 2 * j2 * (k - j) := Nat.mul_le_mul_left _ (by omega)
        omega
      obtain ⟨i, h1, h2, h3⟩ := c2.near o2 (j + (2 * j2) * (k - j)) hm
      rw [hl, hs, hs, c.steps o (Nat.le_refl j)] at h3
      obtain ⟨g, hg⟩ := hR
      have e4 : 2 * j2 * rws ls sz j k = (ls.length + ls.length) * (j2 * g) := by
        rw [hg]
        have a1 : (ls.length + ls.length) = 2 * ls.length := by omega
        rw [a1, Nat.mul_assoc, Nat.mul_assoc, Nat.mul_left_comm j2 ls.length g]
      rw [e4, Nat.add_mul_mod_self_left] at h3
      exact d2 j i (by omega) h2 h3
    · exact z
  have ej : j2 = j := by omega
  subst ej
  refine ⟨rfl, (k2 - j2) / (k - j2), ?_⟩
  have hdm := Nat.div_add_mod (k2 - j2) (k - j2)
  have hv : (k2 - j2) % (k - j2) < k - j2 := Nat.mod_lt _ (by omega)
  generalize (k2 - j2) / (k - j2) = u at *
  generalize (k2 - j2) % (k - j2) = v at *
  have v0 : v = 0 := by
    rcases Nat.eq_zero_or_pos v with z | z
    · exact z
    · exfalso
      have ek : k2 = (j2 + v) + u * (k - j2) := by
        rw [Nat.mul_comm u]
        omega
      rw [ek, c.place o (by omega) u] at q2
      exact c.dis j2 (j2 + v) (by omega) (by omega) q2
  subst v0
  have ed : k2 - j2 = u * (k - j2) := by
    rw [Nat.mul_comm u]
    omega
  refine ⟨ed, ?_⟩
  have ek : k2 = j2 + u * (k - j2) := by omega
  have es := c.steps o (Nat.le_refl j2) u
  rw [← ek] at es
  unfold rws at es ⊢
  rw [hs, hs, es]
  omega
end
end Pk

namespace Kr
open L2 PySem PySem.Spec PyProof.Rows
/-! ### x *= y -/
def ipM : TIp := fun x y H Q => ∃ i j : Int, x = .int i ∧ y = .int j ∧ CMulW i j ∧ Q (.int (i * j)) H
theorem ip_mul {X : Cx} : PIp X .Mult ipM := by
  intro pins s0 st0 H x y v u Q I r1 r2 h
  obtain ⟨i, j, rfl, rfl, hm, q⟩ := h
  obtain ⟨t, rfl⟩ := r1
  obtain ⟨t', rfl⟩ := r2
  exact imul_int ⟨.int _, H, I.tok _, ⟨_, rfl⟩, q⟩ hm.ok
theorem r_ipM {i j : Int} {H : Hp} {Q : VK} (h : CMulW i j) (q : Q (.int (i * j)) H) : ipM (.int i) (.int j) H Q := ⟨i, j, rfl, rfl, h, q⟩
/-! ### a, b = xs for a list -/
theorem r_gLst {K : PySem.W.Frag} {n : Nat} {gs : TGs} {a : Addr} {xs : List V} {st0 : L2.St} {H : Hp} {QG : L2.St → Hp → Prop} (h : SqL K H a xs) (e : xs.length = n) (q : gs xs st0 H QG) : gLst K n gs (.ref a) st0 H QG := ⟨a, xs, rfl, h, e, q⟩
theorem pg_tupK {X : Cx} {K : PySem.W.Frag} {pos : Pos} {es : List Expr} {k : Nat} {t : TGs} {n : Nat} (hK : X.K = K) (hc : X.calm = true) (h : PGs X es t)
    (hn : (assignEach es X.env).length = n := by rfl) (hst : (assignEach es X.env).findIdx? (·.1) = none := by rfl) : PG X (.Tuple es k pos) (gTup K n t) := hK ▸ pg_tup hc h hn hst
/-! ### dicts with texts as keys -/
section
variable {H : Hp} {Q : VK} {v : V} {st0 : L2.St}
theorem r_dgS {a : Addr} {kvs : List (Key × V)} {k : Str} (h : H a = some (.dK kvs)) (e : valV kvs (Sum.inr k) = some v) (q : Q v H) : rDg (.ref a) (.str k) H Q := ⟨a, v, rfl, by rw [← e]; exact DGet.k (k := Sum.inr k) h, q⟩
theorem r_dpS {a : Addr} {kvs : List (Key × V)} {k : Str} {Qn : Hp → Prop} (h : H a = some (.dK kvs)) (hl : kvs.length < 100000) (q : Qn (upd H a (.dK (putK kvs (Sum.inr k) v)))) : rDp (.ref a) (.str k) v H Qn := ⟨a, _, rfl, DPut.k (k := Sum.inr k) h (szl hl), q⟩
def rDispE (p : Addr) (ps : List (V × V)) (H2 : Hp) (Q : VK) : Prop := H2 p = some (.dK []) ∧ ∃ kvs : List (Key × V), ps = kvs.map (fun kv => (kV kv.1, kv.2)) ∧ kvs.length ≤ 15 ∧ Q (.ref p) (upd H2 p (.dK (mergeK [] kvs)))
theorem r_disp {trs : List (TE × TE)} (q : ∀ p, H p = none → tPairs trs st0 (upd H p (.dK [])) fun ps H2 => rDispE p ps H2 Q) : tDisp trs st0 H Q := q
theorem r_pairs {tk tv : TE} {r : List (TE × TE)} {QP : List (V × V) → Hp → Prop} (q : tk st0 H fun x H1 => tv st0 H1 fun y H2 => tPairs r st0 H2 fun ps H3 => QP ((x, y) :: ps) H3) : tPairs ((tk, tv) :: r) st0 H QP := q
theorem r_pairs0 {QP : List (V × V) → Hp → Prop} (q : QP [] H) : tPairs [] st0 H QP := q
theorem r_dispE {p : Addr} {ps : List (V × V)} (kvs : List (Key × V)) (h : H p = some (.dK [])) (e : ps = kvs.map (fun kv => (kV kv.1, kv.2))) (hl : kvs.length ≤ 15) (q : Q (.ref p) (upd H p (.dK (mergeK [] kvs)))) : rDispE p ps H Q := ⟨h, kvs, e, hl, q⟩
end
/-! ### list(range(a, b)), whatever its ends -/
section
variable {prog : Program} {w : World} {A : Around} {E : Value → Shared → Prop} {s : Shared}
/-- what a walk over an iterator at the heap's end makes of an empty list at S -/
theorem long_loop {R : Result → Shared → Prop} {n : Nat} {lo : Int} (hh : A.handled = none) (hz : n ≤ sizeLine) (it S : Addr) (ne : S ≠ it) (out : Value) (c0 : Nat) (s1 : Shared)
    (hit : IsLongIter s1.heap it (lo + ((0 : Nat) : Int) * 1) ((n : Int) - ((0 : Nat) : Int)) 1) (hS : s1.heap.get? S = some { cls := .type "list", data := .seq #[] c0 })
    (hR : ∀ h2 tk2 items c2, (∀ b o, b ≠ S → b ≠ it → s1.heap.get? b = some o → h2.get? b = some o) → h2.get? S = some { cls := .type "list", dict := none, data := .seq items c2, slots := #[] } →
      ItemsOf (fun i v => ∃ t, v = .int (lo + i * 1) t) items n → R (.ok (.ret out)) { s1 with heap := h2, toks := tk2 }) :
    codeAny (model prog w) A (.builtin "list.extend.loop" ⟨[.ref S, .ref it, out], []⟩) R s1 := by
  have ws := (Walks.longrange (prog := prog) (w := w) (A := A.in1) hh it lo 1 n).toS
  refine codeAny_extend_loopS ws hz S (fun m => ne (List.mem_singleton.mp m)) out n 0 s1 #[] c0 rfl (Nat.zero_le n) hit hS (ItemsOf.nil _) ?_
  intro s2 items c2 mv hS2 got
  rw [Moved.eq_with mv]
  refine hR s2.heap s2.toks items c2 (fun b o n1 n2 e => mv.heap b o (fun m => ?_) e) hS2 got
  rcases List.mem_cons.mp m with z | z
  · exact n1 z
  · exact n2 (List.mem_singleton.mp z)
theorem long_extend {R : Result → Shared → Prop} {r : Addr} {a b : Int} {t u v : Tok} {n : Nat} (hh : A.handled = none) (hr : IsRange s.heap r a b 1 t u v) (big : Builtin.Range.small a b 1 = false)
    (hn : Builtin.Range.rangeSize a b 1 = n) (hz : n ≤ 2 ^ 24) (S : Addr) (out : Value) (c0 : Nat) (hS : s.heap.get? S = some { cls := .type "list", data := .seq #[] c0 })
    (hR : ∀ h2 tk2 items c2, (∀ b o, b ≠ S → s.heap.get? b = some o → h2.get? b = some o) → h2.get? S = some { cls := .type "list", dict := none, data := .seq items c2, slots := #[] } →
      ItemsOf (fun i v => ∃ t, v = .int (a + i * 1) t) items n → R (.ok (.ret out)) { s with heap := h2, toks := tk2 }) :
    wpAny (model prog w) A.in1 (Builtin.List.listExtendWith (.ref S) (.ref r) out)
      (fun z s2 => match z with | .done f => R (.ok f) s2 | .again c2 => c2.quiet = true ∧ codeAny (model prog w) A c2 R s2) (fun x s2 => R (.error x) s2) s := by
  have nr : S ≠ r := fun z => by
    rw [z, hr] at hS
    simp at hS
  have lt : S < s.heap.objs.size := Heap.lt_size hS
  have nI : S ≠ s.heap.objs.size := Nat.ne_of_lt lt
  have loop : ∀ (h1 : Heap) (c1 tk1 : Nat), IsLongIter h1 s.heap.objs.size (a + ((0 : Nat) : Int) * 1) ((n : Int) - ((0 : Nat) : Int)) 1 → (∀ b o, b ≠ S → s.heap.get? b = some o → h1.get? b = some o) → h1.get? S = some { cls := .type "list", data := .seq #[] c1 } →
      codeAny (model prog w) A (.builtin "list.extend.loop" ⟨[.ref S, .ref s.heap.objs.size, out], []⟩) R { s with heap := h1, toks := tk1 } := fun h1 c1 tk1 x1 x2 x3 =>
    long_loop hh (by rw [sizeLine_eq]; omega) _ S nI out c1 _ x1 x3 fun h2 tk2 items c2 y1 y2 y3 => hR h2 tk2 items c2 (fun b o nb e => y1 b o nb (Nat.ne_of_lt (Heap.lt_size e)) (x2 b o nb e)) y2 y3
  unfold Builtin.List.listExtendWith
  refine wpAny_bind (wpAny_typeOf (T := "range") ⟨_, hr, rfl⟩ ?_)
  have k1 : Builtin.List.listSameRef (.ref S) (.ref r) = false := by simp [Builtin.List.listSameRef, nr]
  have k2 : (Value.type "range" == Value.type "tuple") = false := by decide
  have k3 : (Value.type "range" == Value.type "list") = false := by decide
  simp only [k1, k3, k2, Bool.or_false, Bool.false_eq_true, if_false]
  refine wpAny_bind (wpAny_pyIter_longrange hr big ?_)
  refine wpAny_bind (wpAny_holding (wpAny_hint_range (n := n) (Heap.get?_push_of_some _ hr) hn hz ?_))
  have i1 : IsLongIter (s.heap.push { cls := .type "longrange_iterator", data := .fields #[rawInt a, rawInt (Builtin.Range.rangeSize a b 1), rawInt 1] }) s.heap.objs.size (a + ((0 : Nat) : Int) * 1) ((n : Int) - ((0 : Nat) : Int)) 1 := by
    show IsLongIter _ _ _ _ _
    rw [hn]
    simpa using Heap.get?_push_size _ rfl
  have g1 := Heap.get?_push_of_some { cls := .type "longrange_iterator", data := .fields #[rawInt a, rawInt (Builtin.Range.rangeSize a b 1), rawInt 1] } hS
  refine wpAny_ite_split (fun _ => ?_) fun _ => wpAny_pure ⟨plainId_quiet F.plain_extend_loop _, loop _ c0 _ i1 (fun b o _ e => Heap.get?_push_of_some _ e) g1⟩
  refine wpAny_bind (wpAny_rule (wpAny_bind ?_))
  show wpAny _ _ (updateSeq S (·.push .none) >>= fun _ => updateSeq S (·.pop)) _ _ _
  refine wpAny_bind (wpAny_updateSeq g1 rfl ?_)
  have g2 := Heap.get?_update_self (Obj.mapSeq (·.push Value.none)) g1 rfl
  refine wpAny_updateSeq (hz := by seq_fits) g2 rfl ?_
  have g3 := Heap.get?_update_self (Obj.mapSeq (·.pop)) g2 rfl
  refine wpAny_pure ⟨plainId_quiet F.plain_extend_loop _, loop _ _ _ ?_ (fun b o nb e => ?_) g3⟩
  · exact (Heap.get?_update_other _ _ nI).trans ((Heap.get?_update_other _ _ nI).trans i1)
  · exact (Heap.get?_update_other _ _ (Ne.symm nb)).trans ((Heap.get?_update_other _ _ (Ne.symm nb)).trans (Heap.get?_push_of_some _ e))
theorem long_init {R : Result → Shared → Prop} {r : Addr} {a b : Int} {t u v : Tok} {n : Nat} (hh : A.handled = none) (hr : IsRange s.heap r a b 1 t u v) (big : Builtin.Range.small a b 1 = false)
    (hn : Builtin.Range.rangeSize a b 1 = n) (hz : n ≤ 2 ^ 24) (S : Addr) (hS : s.heap.get? S = some { cls := .type "list", data := .seq #[] })
    (hR : ∀ h2 tk2 items c2, (∀ b o, b ≠ S → s.heap.get? b = some o → h2.get? b = some o) → h2.get? S = some { cls := .type "list", dict := none, data := .seq items c2, slots := #[] } →
      ItemsOf (fun i v => ∃ t, v = .int (a + i * 1) t) items n → R (.ok (.ret .none)) { s with heap := h2, toks := tk2 }) :
    wpAny (model prog w) A.in1 (Builtin.«list.__init__» ⟨[.ref S, .ref r], []⟩)
      (fun z s2 => match z with | .done f => R (.ok f) s2 | .again c2 => c2.quiet = true ∧ codeAny (model prog w) A c2 R s2) (fun x s2 => R (.error x) s2) s := by
  have nr : S ≠ r := fun z => by
    rw [z, hr] at hS
    simp at hS
  show wpAny _ _ (do
    let old ← Builtin.List.listItems (.ref S)
    Builtin.List.listUpdate (.ref S) (fun _ => #[])
    letGo old.toList.reverse
    Builtin.List.listExtendWith (.ref S) (.ref r) .none) _ _ s
  refine wpAny_bind ?_
  unfold Builtin.List.listItems
  refine wpAny_bind (wpAny_seqItems hS rfl (wpAny_pure ?_))
  show wpAny _ _ (updateSeq S (fun _ => #[]) >>= fun _ => letGo (#[] : Array Value).toList.reverse >>= fun _ =>
    Builtin.List.listExtendWith (.ref S) (.ref r) .none) _ _ s
  refine wpAny_bind (wpAny_updateSeq hS rfl ?_)
  have g2 := Heap.get?_update_self (Obj.mapSeq (fun _ => (#[] : Array Value))) hS rfl
  have els : ∀ b o, b ≠ S → s.heap.get? b = some o → (s.heap.update S (Obj.mapSeq (fun _ => (#[] : Array Value)))).get? b = some o :=
    fun b o nb e => (Heap.get?_update_other _ _ (Ne.symm nb)).trans e
  refine wpAny_bind (wpAny_letGo ?_)
  exact long_extend hh (els r _ (Ne.symm nr) hr) big hn hz S .none _ g2 fun h2 tk2 items c2 x1 x2 x3 => hR h2 tk2 items c2 (fun b o nb e => x1 b o nb (els b o nb e)) x2 x3
theorem long_list {Q : Value → Shared → Prop} {r : Addr} {a b : Int} {t u v : Tok} {n : Nat} (hh : A.handled = none) (hr : IsRange s.heap r a b 1 t u v) (big : Builtin.Range.small a b 1 = false)
    (hn : Builtin.Range.rangeSize a b 1 = n) (hz : n ≤ 2 ^ 24)
    (hQ : ∀ h2 tk2 items c2, (∀ b o, s.heap.get? b = some o → h2.get? b = some o) → h2.get? s.heap.objs.size = some { cls := .type "list", dict := none, data := .seq items c2, slots := #[] } →
      ItemsOf (fun i v => ∃ t, v = .int (a + i * 1) t) items n → Q (.ref s.heap.objs.size) { s with heap := h2, toks := tk2 }) :
    wpAny (model prog w) A (call (.type "list") [.ref r]) Q E s := by
  refine callType_codes (Q₁ := fun x s1 => x = .ref s.heap.objs.size ∧ s1 = { s with heap := s.heap.push { cls := .type "list", data := .seq #[] } }) F.called_list (F.typeCall_list_1 _) F.entry_list_init (code_list_new _ ⟨rfl, rfl⟩) ?_
  rintro _ _ ⟨rfl, rfl⟩
  have g : (s.heap.push { cls := .type "list", data := .seq #[] }).get? s.heap.objs.size = some { cls := .type "list", data := .seq #[] } := Heap.get?_push_size _ rfl
  refine ⟨⟨_, g, rfl⟩, F.args_list_init_2 _ _, ?_⟩
  refine long_init (A := A.in1) hh (Heap.get?_push_of_some _ hr) big hn hz _ g fun h2 tk2 items c2 x1 x2 x3 => ⟨rfl, ?_⟩
  exact hQ h2 tk2 items c2 (fun b o e => x1 b o (Nat.ne_of_lt (Heap.lt_size e)) (Heap.get?_push_of_some _ e)) x2 x3
end
section
variable {X : Cx} {e : Expr} {te : L2.St → Hp → (Int → Int → Hp → Prop) → Prop}
def rRgW2 (a b : Int) (H : Hp) (Q : VK) : Prop := (b - a).toNat ≤ 2 ^ 24 ∧ ∀ q, H q = none → Q (.ref q) (upd H q (.lst (rgV a b)))
def tLstRgW (te : L2.St → Hp → (Int → Int → Hp → Prop) → Prop) : TE := fun st0 H Q => te st0 H fun a b H1 => rRgW2 a b H1 Q
theorem pe_listRgW {p pos : Pos} (hc : X.calm = true) (hg : Gl X "list") (hm : X.mg "list" = none) (he : PRg X e te) (na : starEach [e] X.env = (false, eval e X.env) :: starEach [] X.env := by rfl) : PE X (.Call (.Name "list" p) [e] [] pos) (tLstRgW te) := by
  refine ⟨fun pins s0 st0 H Q I h => ?_⟩
  refine Call_ (ld_blt I hg hm boot_list (PyProof.Rows.callWith_type1 (args_cons (thn (he pins s0 st0 H _ I h) fun x s1 ⟨r, a, b, t, u, v, H1, ex, hr, I1, hz, q⟩ => args_nil ?_) na) na))
  subst ex
  have fin : ∀ h2 tk2 items c2, (∀ b o, s1.heap.get? b = some o → h2.get? b = some o) → h2.get? s1.heap.objs.size = some { cls := .type "list", dict := none, data := .seq items c2, slots := #[] } →
      ItemsOf (fun i v => ∃ t, v = .int (a + i * 1) t) items (b - a).toNat → EP X pins st0 Q (.ref s1.heap.objs.size) { s1 with heap := h2, toks := tk2 } := fun h2 tk2 items c2 keep at2 got => by
    refine ⟨.ref s1.heap.objs.size, upd H1 s1.heap.objs.size (.lst (rgV a b)), I1.laid keep (Nat.le_refl _) (show ObjOk X.prog X.w _ _ _ (.lst (rgV a b)) from ⟨?_, items.toList, c2, vals_rg got, ?_⟩), rfl, q _ (I1.hok.fresh (Nat.le_refl _))⟩
    · rw [rgV_length, sizeLine_eq]
      omega
    · rw [Array.toArray_toList]
      exact at2
  cases hsm : Builtin.Range.small a b 1 with
  | true => exact call_list_range (n := (b - a).toNat) (I1.ok.hd hc) hr hsm (rangeSize_nat a b) hz fin
  | false => exact long_list (n := (b - a).toNat) (I1.ok.hd hc) hr hsm (rangeSize_nat a b) hz fin
end
section
variable {st0 : L2.St} {H : Hp} {Q : VK}
theorem r_lstRgW {te : L2.St → Hp → (Int → Int → Hp → Prop) → Prop} (q : te st0 H fun a b H1 => rRgW2 a b H1 Q) : tLstRgW te st0 H Q := q
def rRg2P (x y : V) (R : Int → Int → Prop) : Prop := ∃ i j, x = .int i ∧ y = .int j ∧ R i j
theorem r_tRg2 {ta tb : TE} {R : Int → Int → Hp → Prop} (q : ta st0 H fun x H1 => tb st0 H1 fun y H2 => rRg2P x y fun i j => R i j H2) : tRg2 ta tb st0 H R := q
theorem r_rg2P {i j : Int} {R : Int → Int → Prop} (q : R i j) : rRg2P (.int i) (.int j) R := ⟨i, j, rfl, rfl, q⟩
theorem r_rgW2 {a b : Int} (h : (b - a).toNat ≤ 2 ^ 24) (q : rNew (.lst (rgV a b)) H Q) : rRgW2 a b H Q := ⟨h, q⟩
end
/-! ### == of a row of ints, or None -/
section
variable {K : PySem.W.Frag} {H : Hp} {Q : VK} {a b : Addr} {is js : List Int}
theorem r_eqNN (q : Q (.bl true) H) : rEqD K .non .non H Q := ⟨_, _, .non, .non, rfl, rfl, q⟩
theorem r_neNN (q : Q (.bl false) H) : rNeD K .non .non H Q := ⟨_, _, .non, .non, rfl, rfl, q⟩
end
theorem rgV_get {a b : Int} {i : Nat} (h : i < (b - a).toNat) : (rgV a b)[i]? = some (.int (a + (i : Nat))) := by
  unfold rgV
  rw [List.getElem?_map, List.getElem?_range h]
  rfl
end Kr

/-! Turns: the plain mathematics (no Python here). -/
namespace Tm
/-- a place -/
inductive Pl where
  | use (k : Nat)
  | lst (k : Nat)
  deriving DecidableEq
def Pl.n : Pl → Nat
  | .use k => k
  | .lst k => k
/-- all places ahead that used and front have -/
def base (a n : Nat) : List Pl := (List.range a).map .use ++ (List.range n).map .lst
theorem mem_use {a n k : Nat} : Pl.use k ∈ base a n ↔ k < a := by
  unfold base
  simp
theorem mem_lst {a n k : Nat} : Pl.lst k ∈ base a n ↔ k < n := by
  unfold base
  simp
theorem base_len (a n : Nat) : (base a n).length = a + n := by simp [base]
theorem base_nodup (a n : Nat) : (base a n).Nodup := by
  unfold base
  rw [List.nodup_append]
  refine ⟨?_, ?_, ?_⟩
  · exact List.nodup_iff_pairwise_ne.mpr (List.pairwise_map.mpr ((List.pairwise_lt_range (n := a)).imp fun h e => by have := Pl.use.inj e; omega))
  · exact List.nodup_iff_pairwise_ne.mpr (List.pairwise_map.mpr ((List.pairwise_lt_range (n := n)).imp fun h e => by have := Pl.lst.inj e; omega))
  · intro x hx y hy e
    simp only [List.mem_map] at hx hy
    obtain ⟨i, _, rfl⟩ := hx
    obtain ⟨j, _, rfl⟩ := hy
    cases e
theorem permOf : ∀ {L S : List Pl}, L.Nodup → (∀ x ∈ L, x ∈ S) → S.length ≤ L.length → L.Perm S
  | [], S, _, _, h => by
    have : S = [] := List.eq_nil_of_length_eq_zero (by simpa using h)
    rw [this]
  | x :: r, S, nd, sub, h => by
    have hx := sub x (by simp)
    have nd' := List.nodup_cons.mp nd
    have ih := permOf (L := r) (S := S.erase x) nd'.2 (fun y hy => by
      have ne : y ≠ x := fun e => nd'.1 (e ▸ hy)
      exact (List.mem_erase_of_ne ne).mpr (sub y (by simp [hy]))) (by
      rw [List.length_erase_of_mem hx]
      simp at h
      omega)
    exact (ih.cons x).trans (List.perm_cons_erase hx).symm
/-- a Turn: used, front, fresh, and how many are in use ahead -/
structure Tn where
  u : List Pl
  f : List Pl
  n : Nat
  a : Nat
structure Tn.Pm (T : Tn) : Prop where
  perm : (T.u ++ T.f).Perm (base T.a T.n)
structure Tn.Ok (T : Tn) : Prop extends T.Pm where
  can : ∀ g, T.f = g ++ [.lst (T.n - 1)] → T.n = 0
/-- the origin of a place behind -/
def Tn.or (T : Tn) : Pl → Pl
  | .use k => T.u.getD k (.use 0)
  | .lst k => if k < T.f.length then T.f.getD k (.use 0) else .lst (k - T.f.length + T.n)
/-- a place where so many are in use -/
def Vd (b : Nat) : Pl → Prop
  | .use k => k < b
  | .lst _ => True
theorem getD_at {l : List Pl} {k : Nat} (h : k < l.length) : l.getD k (.use 0) = l[k] := by
  rw [List.getD_eq_getElem?_getD, List.getElem?_eq_getElem h]
  rfl
theorem Tn.Pm.len {T : Tn} (o : T.Pm) : T.u.length + T.f.length = T.a + T.n := by
  have := o.perm.length_eq
  rw [List.length_append, base_len] at this
  exact this
theorem Tn.Pm.nd {T : Tn} (o : T.Pm) : (T.u ++ T.f).Nodup := o.perm.nodup_iff.mpr (base_nodup _ _)
theorem Tn.Pm.bd {T : Tn} (o : T.Pm) {p : Pl} (h : p ∈ T.u ++ T.f) : p ∈ base T.a T.n := o.perm.mem_iff.mp h
theorem Tn.or_use {T : Tn} {k : Nat} (h : k < T.u.length) : T.or (.use k) = T.u[k] := getD_at h
theorem Tn.or_frn {T : Tn} {k : Nat} (h : k < T.f.length) : T.or (.lst k) = T.f[k] := by
  show (if k < T.f.length then _ else _) = _
  rw [if_pos h]
  exact getD_at h
theorem Tn.or_bck {T : Tn} {k : Nat} (h : T.f.length ≤ k) : T.or (.lst k) = .lst (k - T.f.length + T.n) := if_neg (by omega)
theorem Tn.Pm.or_vd {T : Tn} (o : T.Pm) {p : Pl} (h : Vd T.u.length p) : Vd T.a (T.or p) := by
  have mem : ∀ {q : Pl}, q ∈ T.u ++ T.f → Vd T.a q := fun {q} hq => by
    have := o.bd hq
    cases q with
    | use k => exact mem_use.mp this
    | lst k => exact trivial
  cases p with
  | use k =>
    rw [Tn.or_use h]
    exact mem (List.mem_append.mpr (.inl (List.getElem_mem _)))
  | lst k =>
    rcases Nat.lt_or_ge k T.f.length with z | z
    · rw [Tn.or_frn z]
      exact mem (List.mem_append.mpr (.inr (List.getElem_mem _)))
    · rw [Tn.or_bck z]
      exact trivial
/-- where a place of used and front stands -/
theorem nd_get {l : List Pl} (nd : l.Nodup) {i j : Nat} (hi : i < l.length) (hj : j < l.length) (e : l[i] = l[j]) : i = j := by
  have p := List.nodup_iff_pairwise_ne.mp nd
  rw [List.pairwise_iff_getElem] at p
  rcases Nat.lt_trichotomy i j with z | z | z
  · exact absurd e (p i j hi hj z)
  · exact z
  · exact absurd e.symm (p j i hj hi z)
theorem Tn.Pm.or_inj {T : Tn} (o : T.Pm) {p q : Pl} (hp : Vd T.u.length p) (hq : Vd T.u.length q) (e : T.or p = T.or q) : p = q := by
  -- each place behind as an index of used ++ front, or a place behind it
  have key : ∀ {p : Pl}, Vd T.u.length p → (∃ i, ∃ hi : i < (T.u ++ T.f).length, T.or p = (T.u ++ T.f)[i] ∧ ((p = .use i ∧ i < T.u.length) ∨ (∃ j, p = .lst j ∧ i = T.u.length + j ∧ j < T.f.length))) ∨ ∃ j, p = .lst j ∧ T.f.length ≤ j ∧ T.or p = .lst (j - T.f.length + T.n) := fun {p} h => by
    cases p with
    | use k =>
      refine .inl ⟨k, by rw [List.length_append]; exact Nat.lt_of_lt_of_le h (Nat.le_add_right _ _), ?_, .inl ⟨rfl, h⟩⟩
      rw [Tn.or_use h, List.getElem_append_left h]
    | lst k =>
      rcases Nat.lt_or_ge k T.f.length with z | z
      · refine .inl ⟨T.u.length + k, by rw [List.length_append]; omega, ?_, .inr ⟨k, rfl, rfl, z⟩⟩
        rw [Tn.or_frn z, List.getElem_append_right (by omega)]
        congr 1
        omega
      · exact .inr ⟨k, rfl, z, Tn.or_bck z⟩
  have far : ∀ {i j : Nat} (hi : i < (T.u ++ T.f).length), (T.u ++ T.f)[i] ≠ .lst (j + T.n) := fun {i j} hi z => by
    have := o.bd (List.getElem_mem hi)
    rw [z] at this
    have := mem_lst.mp this
    omega
  rcases key hp with ⟨i, hi, e1, c1⟩ | ⟨i, rfl, hi, e1⟩ <;> rcases key hq with ⟨j, hj, e2, c2⟩ | ⟨j, rfl, hj, e2⟩
  · have ij := nd_get o.nd hi hj (by rw [← e1, ← e2, e])
    subst ij
    rcases c1 with ⟨rfl, h1⟩ | ⟨x, rfl, h1, h2⟩ <;> rcases c2 with ⟨rfl, h3⟩ | ⟨y, rfl, h3, h4⟩
    · rfl
    · omega
    · omega
    · congr 1
      omega
  · exact absurd (by rw [← e1, e, e2]) (far hi)
  · exact absurd (by rw [← e2, ← e, e1]) (far hj)
  · rw [e1, e2] at e
    have := Pl.lst.inj e
    congr 1
    omega
/-- each place ahead is an origin: in used, in front, or behind -/
theorem Tn.Pm.cases {T : Tn} (o : T.Pm) {q : Pl} (h : Vd T.a q) : (∃ k, k < T.u.length ∧ T.u[k]? = some q) ∨ (∃ k, k < T.f.length ∧ T.f[k]? = some q) ∨ ∃ k, q = .lst k ∧ T.n ≤ k := by
  have mem : q ∈ base T.a T.n → (∃ k, k < T.u.length ∧ T.u[k]? = some q) ∨ (∃ k, k < T.f.length ∧ T.f[k]? = some q) := fun hq => by
    rcases List.mem_append.mp (o.perm.mem_iff.mpr hq) with h | h
    · obtain ⟨i, hi, e⟩ := List.mem_iff_getElem.mp h
      exact .inl ⟨i, hi, by rw [List.getElem?_eq_getElem hi, e]⟩
    · obtain ⟨i, hi, e⟩ := List.mem_iff_getElem.mp h
      exact .inr ⟨i, hi, by rw [List.getElem?_eq_getElem hi, e]⟩
  cases q with
  | use k =>
    rcases mem (mem_use.mpr h) with h | h
    · exact .inl h
    · exact .inr (.inl h)
  | lst k =>
    rcases Nat.lt_or_ge k T.n with z | z
    · rcases mem (mem_lst.mpr z) with h | h
      · exact .inl h
      · exact .inr (.inl h)
    · exact .inr (.inr ⟨k, rfl, z⟩)
theorem Tn.Pm.or_sur {T : Tn} (o : T.Pm) {q : Pl} (h : Vd T.a q) : ∃ p, Vd T.u.length p ∧ T.or p = q := by
  rcases o.cases h with ⟨k, hk, e⟩ | ⟨k, hk, e⟩ | ⟨k, rfl, hk⟩
  · refine ⟨.use k, hk, ?_⟩
    rw [Tn.or_use hk]
    rw [List.getElem?_eq_getElem hk] at e
    exact Option.some.inj e
  · refine ⟨.lst k, trivial, ?_⟩
    rw [Tn.or_frn hk]
    rw [List.getElem?_eq_getElem hk] at e
    exact Option.some.inj e
  · refine ⟨.lst (k - T.n + T.f.length), trivial, ?_⟩
    rw [Tn.or_bck (by omega)]
    congr 1
    omega
/-- what tells the same origins is the same -/
theorem Tn.Ok.ext {T S : Tn} (o : T.Ok) (q : S.Ok) (hu : T.u.length = S.u.length) (he : ∀ p, Vd T.u.length p → T.or p = S.or p) : T = S := by
  have half : ∀ {T S : Tn}, T.Ok → S.Ok → (∀ k, T.or (.lst k) = S.or (.lst k)) → T.f.length ≤ S.f.length := fun {T S} o q he => by
    rcases Nat.lt_or_ge S.f.length T.f.length with z | z
    · exfalso
      -- far behind both fronts
      have e1 := he T.f.length
      rw [Tn.or_bck (Nat.le_refl _), Tn.or_bck (by omega)] at e1
      have e2 := Pl.lst.inj e1
      have e3 := he (T.f.length - 1)
      rw [Tn.or_frn (by omega), Tn.or_bck (by omega)] at e3
      have hn : T.n = 0 := o.can (T.f.take (T.f.length - 1)) (by
        have hne : T.f ≠ [] := by
          intro h
          rw [h] at z
          simp at z
        have := List.dropLast_concat_getLast hne
        rw [List.dropLast_eq_take] at this
        rw [List.getLast_eq_getElem, e3] at this
        rw [show T.f.length - 1 - S.f.length + S.n = T.n - 1 by omega] at this
        exact this.symm)
      omega
    · exact z
  have hl : ∀ k, T.or (.lst k) = S.or (.lst k) := fun k => he _ trivial
  have f1 := half o q hl
  have f2 := half q o (fun k => (hl k).symm)
  have fl : T.f.length = S.f.length := by omega
  have ef : T.f = S.f := by
    refine List.ext_getElem fl fun i h1 h2 => ?_
    have := hl i
    rw [Tn.or_frn h1, Tn.or_frn h2] at this
    exact this
  have eu : T.u = S.u := by
    refine List.ext_getElem hu fun i h1 h2 => ?_
    have := he (.use i) h1
    rw [Tn.or_use h1, Tn.or_use h2] at this
    exact this
  have en : T.n = S.n := by
    have := hl T.f.length
    rw [Tn.or_bck (Nat.le_refl _), Tn.or_bck (by omega)] at this
    have := Pl.lst.inj this
    omega
  have l1 := o.toPm.len
  have l2 := q.toPm.len
  cases T
  cases S
  simp only at *
  subst ef eu en
  congr 1
  omega
/-- a front that ends as it goes on behind it may be shorter -/
theorem Tn.Pm.shorter {u g : List Pl} {n a : Nat} (o : (⟨u, g ++ [.lst (n - 1)], n, a⟩ : Tn).Pm) (h : 0 < n) : (⟨u, g, n - 1, a⟩ : Tn).Pm ∧ ∀ p, (⟨u, g, n - 1, a⟩ : Tn).or p = (⟨u, g ++ [.lst (n - 1)], n, a⟩ : Tn).or p := by
  refine ⟨⟨?_⟩, fun p => ?_⟩
  · have e : base a n = base a (n - 1) ++ [Pl.lst (n - 1)] := by
      obtain ⟨m, rfl⟩ : ∃ m, n = m + 1 := ⟨n - 1, by omega⟩
      unfold base
      rw [Nat.add_sub_cancel, List.range_succ, List.map_append, List.append_assoc]
      rfl
    have p := o.perm
    show (u ++ g).Perm (base a (n - 1))
    have p2 : ((u ++ g) ++ [Pl.lst (n - 1)]).Perm (base a (n - 1) ++ [Pl.lst (n - 1)]) := by
      rw [← e, List.append_assoc]
      exact p
    exact (List.perm_append_right_iff _).mp p2
  · cases p with
    | use k => rfl
    | lst k =>
      show (if k < g.length then _ else _) = (if k < (g ++ [Pl.lst (n - 1)]).length then _ else _)
      simp only [List.length_append, List.length_singleton]
      by_cases h1 : k < g.length
      · rw [if_pos h1, if_pos (by omega), List.getD_eq_getElem?_getD, List.getD_eq_getElem?_getD, List.getElem?_append_left h1]
      · rw [if_neg h1]
        by_cases h2 : k < g.length + 1
        · have hk : k = g.length := by omega
          rw [if_pos h2, hk, List.getD_eq_getElem?_getD, List.getElem?_append_right (Nat.le_refl _)]
          simp
        · rw [if_neg h2]
          show Pl.lst (k - g.length + (n - 1)) = Pl.lst (k - (g.length + 1) + n)
          congr 1
          omega
/-! joined -/
/-- the parts of first.then(later), with m = max of the first's front and the later's fresh -/
def joinU (S T : Tn) : List Pl := T.u.map S.or
def joinF (S T : Tn) (m : Nat) : List Pl := (List.range (T.f.length + m - T.n)).map fun k => S.or (T.or (.lst k))
theorem join_ok {S T : Tn} (o : S.Pm) (q : T.Pm) (hm : T.a = S.u.length) {m : Nat} (h1 : S.f.length ≤ m) (h2 : T.n ≤ m) :
    (⟨joinU S T, joinF S T m, m - S.f.length + S.n, S.a⟩ : Tn).Pm ∧ ∀ p, Vd T.u.length p → (⟨joinU S T, joinF S T m, m - S.f.length + S.n, S.a⟩ : Tn).or p = S.or (T.or p) := by
  have vT : ∀ {p : Pl}, Vd T.u.length p → Vd S.u.length (T.or p) := fun h => hm ▸ q.or_vd h
  have hor : ∀ p, Vd T.u.length p → (⟨joinU S T, joinF S T m, m - S.f.length + S.n, S.a⟩ : Tn).or p = S.or (T.or p) := fun p hp => by
    cases p with
    | use k =>
      have hk : k < T.u.length := hp
      show (joinU S T).getD k (.use 0) = S.or (T.or (.use k))
      rw [Tn.or_use hk, List.getD_eq_getElem?_getD]
      unfold joinU
      rw [List.getElem?_map, List.getElem?_eq_getElem hk]
      rfl
    | lst k =>
      show (if k < (joinF S T m).length then _ else _) = _
      have hl : (joinF S T m).length = T.f.length + m - T.n := by simp [joinF]
      rw [hl]
      by_cases h : k < T.f.length + m - T.n
      · rw [if_pos h, List.getD_eq_getElem?_getD]
        unfold joinF
        rw [List.getElem?_map, List.getElem?_range h]
        rfl
      · rw [if_neg h, Tn.or_bck (by omega), Tn.or_bck (by omega)]
        show Pl.lst (k - (T.f.length + m - T.n) + (m - S.f.length + S.n)) = Pl.lst (k - T.f.length + T.n - S.f.length + S.n)
        congr 1
        omega
  refine ⟨⟨?_⟩, hor⟩
  -- the places behind whose origins these are
  have hl : (joinU S T ++ joinF S T m).length = T.u.length + (T.f.length + m - T.n) := by simp [joinU, joinF]
  have lS := o.len
  have lT := q.len
  have at_ : ∀ i (hi : i < (joinU S T ++ joinF S T m).length), ∃ p, Vd T.u.length p ∧ (joinU S T ++ joinF S T m)[i] = S.or (T.or p) ∧ (p = .use i ∧ i < T.u.length ∨ ∃ j, p = .lst j ∧ i = T.u.length + j ∧ j < T.f.length + m - T.n) := fun i hi => by
    have ul : (joinU S T).length = T.u.length := by simp [joinU]
    rcases Nat.lt_or_ge i T.u.length with z | z
    · refine ⟨.use i, z, ?_, .inl ⟨rfl, z⟩⟩
      rw [List.getElem_append_left (by omega), Tn.or_use z]
      simp [joinU]
    · refine ⟨.lst (i - T.u.length), trivial, ?_, .inr ⟨_, rfl, by omega, by omega⟩⟩
      rw [List.getElem_append_right (by omega)]
      simp only [joinF, List.getElem_map, List.getElem_range]
      rw [ul]
  show (joinU S T ++ joinF S T m).Perm (base S.a (m - S.f.length + S.n))
  refine permOf (List.nodup_iff_pairwise_ne.mpr ?_) (fun x hx => ?_) ?_
  · rw [List.pairwise_iff_getElem]
    intro i j hi hj hij e
    obtain ⟨p, vp, ep, cp⟩ := at_ i hi
    obtain ⟨r, vr, er, cr⟩ := at_ j hj
    rw [ep, er] at e
    have := q.or_inj vp vr (o.or_inj (vT vp) (vT vr) e)
    subst this
    rcases cp with ⟨rfl, h⟩ | ⟨x, rfl, h, _⟩
    · rcases cr with ⟨h3, h4⟩ | ⟨y, h3, _⟩
      · have := Pl.use.inj h3
        omega
      · cases h3
    · rcases cr with ⟨h3, h4⟩ | ⟨y, h3, h4, _⟩
      · cases h3
      · have := Pl.lst.inj h3
        omega
  · obtain ⟨i, hi, rfl⟩ := List.mem_iff_getElem.mp hx
    obtain ⟨p, vp, ep, cp⟩ := at_ i hi
    rw [ep]
    have v := o.or_vd (vT vp)
    -- the place in between lies in the first m of the list, or is in use
    have mid : ∀ k, T.or p = .lst k → k < m := fun k e => by
      rcases cp with ⟨rfl, h⟩ | ⟨x, rfl, _, h⟩
      · have := q.bd (List.mem_append.mpr (.inl (List.getElem_mem h)))
        rw [← Tn.or_use h, e] at this
        have := mem_lst.mp this
        omega
      · rcases Nat.lt_or_ge x T.f.length with z | z
        · have := q.bd (List.mem_append.mpr (.inr (List.getElem_mem z)))
          rw [← Tn.or_frn z, e] at this
          have := mem_lst.mp this
          omega
        · rw [Tn.or_bck z] at e
          have := Pl.lst.inj e
          omega
    have inb : ∀ {y : Pl}, y ∈ S.u ++ S.f → y ∈ base S.a (m - S.f.length + S.n) := fun {y} hy => by
      have := o.bd hy
      cases y with
      | use k => exact mem_use.mpr (mem_use.mp this)
      | lst k => exact mem_lst.mpr (by have := mem_lst.mp this; omega)
    cases e : T.or p with
    | use k =>
      have hk : k < S.u.length := by
        have := vT vp
        rw [e] at this
        exact this
      rw [Tn.or_use hk]
      exact inb (List.mem_append.mpr (.inl (List.getElem_mem _)))
    | lst k =>
      have hk := mid k e
      rcases Nat.lt_or_ge k S.f.length with z | z
      · rw [Tn.or_frn z]
        exact inb (List.mem_append.mpr (.inr (List.getElem_mem _)))
      · rw [Tn.or_bck z]
        exact mem_lst.mpr (by omega)
  · rw [hl, base_len]
    omega
/-! numbers of places, sorted -/
def Pl.uN : Pl → Option Nat
  | .use k => some k
  | .lst _ => none
def Pl.lN : Pl → Option Nat
  | .use _ => none
  | .lst k => some k
theorem base_uN (a n : Nat) : (base a n).filterMap Pl.uN = List.range a := by
  unfold base
  rw [List.filterMap_append, List.filterMap_map, List.filterMap_map]
  have h1 : (List.range a).filterMap (Pl.uN ∘ Pl.use) = List.range a := by
    show (List.range a).filterMap some = _
    simp
  have h2 : (List.range n).filterMap (Pl.uN ∘ Pl.lst) = [] := by
    show (List.range n).filterMap (fun _ => none) = _
    simp
  rw [h1, h2, List.append_nil]
theorem base_lN (a n : Nat) : (base a n).filterMap Pl.lN = List.range n := by
  unfold base
  rw [List.filterMap_append, List.filterMap_map, List.filterMap_map]
  have h1 : (List.range a).filterMap (Pl.lN ∘ Pl.use) = [] := by
    show (List.range a).filterMap (fun _ => none) = _
    simp
  have h2 : (List.range n).filterMap (Pl.lN ∘ Pl.lst) = List.range n := by
    show (List.range n).filterMap some = _
    simp
  rw [h1, h2, List.nil_append]
/-- rising, and the numbers below n in some order: these numbers -/
theorem sorted_range {xs : List Int} {n : Nat} (p : xs.Perm ((List.range n).map fun k : Nat => (k : Int))) (s : xs.Pairwise (· ≤ ·)) : xs = (List.range n).map fun k : Nat => (k : Int) := by
  have hl : xs.length = n := by simpa using p.length_eq
  have nd : xs.Nodup := p.nodup_iff.mpr (List.nodup_iff_pairwise_ne.mpr (List.pairwise_map.mpr ((List.pairwise_lt_range (n := n)).imp fun h e => by omega)))
  have up : ∀ i j (hi : i < xs.length) (hj : j < xs.length), i < j → xs[i] + 1 ≤ xs[j] := fun i j hi hj h => by
    have h1 := List.pairwise_iff_getElem.mp s i j hi hj h
    have h2 := List.pairwise_iff_getElem.mp (List.nodup_iff_pairwise_ne.mp nd) i j hi hj h
    omega
  have bd : ∀ x ∈ xs, 0 ≤ x ∧ x < n := fun x hx => by
    have := p.mem_iff.mp hx
    simp only [List.mem_map, List.mem_range] at this
    obtain ⟨k, hk, rfl⟩ := this
    omega
  have lo : ∀ i (hi : i < xs.length), (i : Int) ≤ xs[i] := by
    intro i
    induction i with
    | zero => exact fun hi => (bd _ (List.getElem_mem hi)).1
    | succ i ih =>
      intro hi
      have h1 := ih (by omega)
      have h2 := up i (i + 1) (by omega) hi (by omega)
      omega
  have hi : ∀ d i (hi : i < xs.length), xs.length = i + d + 1 → xs[i] ≤ i := by
    intro d
    induction d with
    | zero =>
      intro i hi e
      have := (bd _ (List.getElem_mem hi)).2
      omega
    | succ d ih =>
      intro i hi e
      have h1 := ih (i + 1) (by omega) (by omega)
      have h2 := up i (i + 1) hi (by omega) (by omega)
      omega
  refine List.ext_getElem (by simp [hl]) fun i h1 h2 => ?_
  have a1 := lo i h1
  have a2 := hi (xs.length - i - 1) i h1 (by omega)
  simp only [List.getElem_map, List.getElem_range]
  omega
end Tm

namespace Kr
open L2 PySem PySem.Spec PyProof.Rows
/-- what == and != ask of a class with a def of its own for == -/
structure OwnE (K : PySem.W.Frag) (C f : Addr) : Prop where
  eq : PySem.W.findIn K (.ref C) "__eq__" = some (some (.ref f))
  fn : PySem.W.isFn K (.ref f) = true
  ne : PySem.W.findIn K (.ref C) "__ne__" = some (some (.builtin "object.__ne__"))
  mo : PySem.W.mroIn K C (.type "object") = some true
/-- what may stand right of it -/
inductive Rgt (C : Addr) (H : Hp) : V → Value → Prop
  | ins {b dy : Addr} {gs : List (Str × V)} (e : H b = some (.ins C dy gs)) : Rgt C H (.ref b) (.ref C)
  | lst {b : Addr} {xs : List V} (e : H b = some (.lst xs)) : Rgt C H (.ref b) (.type "list")
  | tup {b : Addr} {xs : List V} (e : H b = some (.tup xs)) : Rgt C H (.ref b) (.type "tuple")
  | int (i : Int) : Rgt C H (.int i) (.type "int")
  | non : Rgt C H .non (.type "NoneType")
theorem Rgt.first {K : PySem.W.Frag} {C : Addr} {H : Hp} {y : V} {t : Value} (r : Rgt C H y t) : PySem.W.notFirst K C t = true := by
  have key : ∀ T, fastBuiltinMro T = some [.type T, .type "object"] → PySem.W.notFirst K C (.type T) = true := fun T e => by
    have z : PySem.W.subIn K (.type T) (.ref C) = some false := by
      show (fastBuiltinMro T).map (·.contains (.ref C)) = some false
      rw [e]
      simp
    unfold PySem.W.notFirst
    rw [z]
    simp
  cases r with
  | ins _ => simp [PySem.W.notFirst]
  | lst _ => exact key "list" (by decide +kernel)
  | tup _ => exact key "tuple" (by decide +kernel)
  | int _ => exact key "int" (by decide +kernel)
  | non => exact key "NoneType" (by decide +kernel)
theorem Rgt.looks {X : Cx} {pins : List (Addr × Obj)} {σ : L2.St} {H : Hp} {s : Shared} {C : Addr} {y : V} {t v : Value} {M : Model} (r : Rgt C H y t) (I : Inv X pins σ H s) (rv : RelV y v) : PySem.W.Looks M s.heap (typeOf v) t := by
  cases r with
  | ins e =>
    cases rv
    obtain ⟨m, J, _⟩ := ins_get I.hok e
    obtain ⟨od, J, _⟩ := J.look
    exact J.type
  | lst e =>
    cases rv
    obtain ⟨z, its, k, r, e⟩ := I.hok _ _ e
    exact (PySem.W.Looks.ld e).andThen .now
  | tup e =>
    cases rv
    obtain ⟨its, r, ⟨o, e, c, z⟩, _⟩ := I.tuple (SqT.of e)
    exact c ▸ (PySem.W.Looks.ld e).andThen .now
  | int i =>
    obtain ⟨k, rfl⟩ := rv
    exact PySem.W.Looks.of_pure rfl
  | non =>
    obtain rfl : v = Value.none := rv
    exact PySem.W.Looks.of_pure rfl
section
variable {prog : Program} {w : World} {A : Around} {E : Value → Shared → Prop} {s : Shared} {K : PySem.W.Frag} {x C f : Addr} {ox : Obj} {od : Option Obj} {b tb : Value}
theorem OwnE.entry (O : OwnE K C f) (X : K.In s.heap) (I : PySem.W.InstAt s.heap x ox C od) (hu : A.units < cLine) {Q : Fin → Shared → Prop}
    (h : wpAny (model prog w) A (call (.ref f) [.ref x, b]) (fun v s' => ∃ r, v = .bool r ∧ Q (.done (.ret (.bool (!r)))) s') E s) : wpAny (model prog w) A (Builtin.«object.__ne__» ⟨[.ref x, b], []⟩) Q E s := by
  have one : wpAny (model prog w) A (callSpecialIfBound? (.ref x) "__eq__" [b]) (fun r s' => ∃ k, r = some (.bool k) ∧ Q (.done (.ret (.bool (!k)))) s') E s :=
    PySem.W.ifBound_K X I O.eq O.fn (wpAny_mono h (fun v s' hv => by obtain ⟨r, rfl, q⟩ := hv; exact ⟨r, rfl, q⟩) fun _ _ e => e)
  unfold Builtin.«object.__ne__»
  repeat (first
    | with_reducible refine wpAny_cRoomFor hu ?_
    | (refine wpAny_bind (m := callSpecialIfBound? (.ref x) _ [b]) (wpAny_mono one (fun r s' hr => ?_) fun _ _ e => e); obtain ⟨k, rfl, q⟩ := hr; first | exact wpAny_bind (wpAny_truthy_bool (wpAny_pure q)))
    | wp_step)
theorem OwnE.cmpNe (O : OwnE K C f) (X : K.In s.heap) (I : PySem.W.InstAt s.heap x ox C od) (hu : A.units + 1 < cLine) {Q : Option Value → Shared → Prop}
    (h : wpAny (model prog w) A.in1 (call (.ref f) [.ref x, b]) (fun v s' => ∃ r, v = .bool r ∧ Q (some (.bool (!r))) s') E s) : wpAny (model prog w) A (tryCompare (.ref x) "__ne__" b) Q E s := by
  have one : wpAny (model prog w) A (call (.builtin "object.__ne__") [.ref x, b]) (fun v s' => ∃ r, v = .bool (!r) ∧ Q (some (.bool (!r))) s') E s :=
    wpAny_call (codeAny_call_builtin F.cmp_object.ne.plain F.cmpEntry_ne (PySem.W.check_slot F.cmpKind_ne F.cmpSplit_ne (I.type.andThen (PySem.W.looks_mroIn X O.mo)) (F.cmpArgs_ne _ _)
      (O.entry (A := A.in1) X I hu (wpAny_mono h (fun v s' hv => by obtain ⟨r, rfl, q⟩ := hv; exact ⟨r, rfl, r, rfl, q⟩) fun _ _ e => e))))
  unfold tryCompare
  have two : wpAny (model prog w) A (callSpecialIfBound? (.ref x) "__ne__" [b]) (fun r s' => ∃ k, r = some (.bool (!k)) ∧ Q (some (.bool (!k))) s') E s := by
    simp only [callSpecialIfBound?, bindSpecialIfBound?]
    refine wpAny_holding (wpAny_bind (wpAny_bind (wpAny_bind (I.type.here ((PySem.W.looks_findIn X O.ne).here ?_)))))
    refine wpAny_bind (wpAny_askSetting (wpAny_ite ?_))
    have fin : wpAny (model prog w) A (call (.builtin "object.__ne__") ([.ref x] ++ [b]) >>= fun v => pure (some v)) (fun r s' => ∃ k, r = some (.bool (!k)) ∧ Q (some (.bool (!k))) s') E s :=
      wpAny_bind (wpAny_mono one (fun v s' hv => by obtain ⟨r, rfl, q⟩ := hv; exact wpAny_pure ⟨r, rfl, q⟩) fun _ _ e => e)
    split
    · exact wpAny_bind (wpAny_of_eq (F.cmp_object.ne.bind _) (wpAny_pure (by exact fin)))
    · exact wpAny_tryCatch (wpAny_bind (wpAny_of_eq (F.cmp_object.ne.bind _) (wpAny_pure (by exact fin))))
  refine wpAny_bind (wpAny_mono two (fun r s' hr => ?_) fun _ _ e => e)
  obtain ⟨k, rfl, q⟩ := hr
  exact wpAny_pure q
theorem OwnE.rcNe (O : OwnE K C f) (X : K.In s.heap) (I : PySem.W.InstAt s.heap x ox C od) (hb : PySem.W.Looks (model prog w) s.heap (typeOf b) tb) (hn : PySem.W.notFirst K C tb = true) (hu : A.units + 1 < cLine) {Q : Value → Shared → Prop}
    (h : wpAny (model prog w) A.in1 (call (.ref f) [.ref x, b]) (fun v s' => ∃ r, v = .bool r ∧ Q (.bool (!r)) s') E s) : wpAny (model prog w) A (richCompare .NotEq (.ref x) b) Q E s := by
  have one : wpAny (model prog w) A (tryCompare (.ref x) "__ne__" b) (fun r s' => ∃ v, r = some v ∧ Q v s') E s :=
    O.cmpNe X I hu (wpAny_mono h (fun v s' hv => by obtain ⟨r, rfl, q⟩ := hv; exact ⟨r, rfl, _, rfl, q⟩) fun _ _ e => e)
  unfold richCompare
  simp only [oneThing_ref]
  rw [cmpInfo_NotEq]
  refine wpAny_holding (wpAny_bind (wpAny_cRoomFor (Nat.lt_of_succ_lt hu) ?_))
  refine wpAny_bind (I.type.here (wpAny_bind (hb.here ?_)))
  split
  · rename_i q
    have e : PySem.W.subIn K tb (.ref C) = some false := by
      rcases Bool.or_eq_true_iff.mp hn with e | e
      · rw [beq_iff_eq.mp e] at q
        simp at q
      · exact beq_iff_eq.mp e
    refine wpAny_bind ((PySem.W.looks_subIn X e).here ?_)
    simp only [Bool.false_eq_true, if_false]
    refine wpAny_bind (wpAny_mono one (fun r s' z => ?_) fun _ _ e => e)
    obtain ⟨v, rfl, hq⟩ := z
    exact wpAny_pure hq
  · refine wpAny_bind (wpAny_pure ?_)
    simp only [Bool.false_eq_true, if_false]
    refine wpAny_bind (wpAny_mono one (fun r s' z => ?_) fun _ _ e => e)
    obtain ⟨v, rfl, hq⟩ := z
    exact wpAny_pure hq
end
section
variable {X : Cx} {C f : Addr} {fd : FuncData} {ps : List Str} {sp : Sp} {n : Nat}
def rOwnC (C : Addr) (sp : Sp) (neg : Bool) : R2 := fun x y H Q => ∃ a dx fs t, x = .ref a ∧ H a = some (.ins C dx fs) ∧ Rgt C H y t ∧ sp [x, y] H (fun v H' => ∃ k, v = .bl k ∧ Q (.bl (if neg then !k else k)) H') E0
theorem own_call (F : FnOk X.prog X.w X.K X.mg X.base CX0 n f fd ps sp) (hb : Binds X.K fd ps []) {A : Around} (hr : Room n A) {pins : List (Addr × Obj)} {s : Shared} {σ : L2.St} {H : Hp} (e0 : Env0 X.prog X.w X.K X.mg X.base A X.stack s H) (I : Inv X pins σ H s)
    {x y : V} {v u : Value} (rx : RelV x v) (ry : RelV y u) {Q : VK} (q : sp [x, y] H Q E0) : wpAny (model X.prog X.w) A (call (.ref f) [v, u]) (EP X pins σ Q) X.xe s := by
  have hl := F.len _ _ _ _ q
  have r2 : Vals [x, y] [v, u] := .cons rx (.cons ry .nil)
  refine wpAny_call (codeAny_mono (F.run A X.stack s H ⟨[v, u], []⟩ [v, u] [x, y] _ E0 hr e0 (by
    have := hb s [v, u] I.kIn (by simpa using hl)
    simpa using this) r2 q) fun r s' hq => ?_)
  cases r with
  | error e => exact pass0 pins σ H s e s' I hq
  | ok fl =>
    cases fl with
    | ret w => exact I.after hq
    | next => exact False.elim hq
    | brk => exact False.elim hq
    | cont => exact False.elim hq
theorem op_eqOwn (O : OwnE X.K C f) (F : FnOk X.prog X.w X.K X.mg X.base CX0 n f fd ps sp) (hb : Binds X.K fd ps []) (hr : Room n X.A) : OpR X (compareOp .Eq) (rOwnC C sp false) := by
  intro pins s σ H x y v u Q I rx ry h
  obtain ⟨a, dx, fs, t, rfl, ha, rg, q⟩ := h
  obtain rfl : v = Value.ref a := rx
  obtain ⟨mA, J, _⟩ := ins_get I.hok ha
  obtain ⟨od, J, _⟩ := J.look
  obtain ⟨m, hF⟩ := I.fr
  refine PySem.W.cmp_K (op := .Eq) (tb := t) hr.units0 hF I.ok.mod.kin J (rg.looks I ry) rg.first O.eq O.fn ?_
  refine wpAny_mono (own_call F hb hr I.env0 I (x := .ref a) (v := .ref a) rfl ry q) (fun w s' z => ?_) fun _ _ x => x
  obtain ⟨z', H', I', rz, k, rfl, qz⟩ := z
  obtain rfl : w = Value.bool k := rz
  exact ⟨.bl k, H', I', rfl, qz⟩
theorem op_neOwn (O : OwnE X.K C f) (F : FnOk X.prog X.w X.K X.mg X.base CX0 n f fd ps sp) (hb : Binds X.K fd ps []) (hr : Room (n + 1) X.A) : OpR X (compareOp .NotEq) (rOwnC C sp true) := by
  intro pins s σ H x y v u Q I rx ry h
  obtain ⟨a, dx, fs, t, rfl, ha, rg, q⟩ := h
  obtain rfl : v = Value.ref a := rx
  obtain ⟨mA, J, _⟩ := ins_get I.hok ha
  obtain ⟨od, J, _⟩ := J.look
  refine O.rcNe I.kIn J (rg.looks I ry) rg.first (by have := hr.units; omega) ?_
  refine wpAny_mono (own_call F hb hr.in1 I.env0.in1 I (x := .ref a) (v := .ref a) rfl ry q) (fun w s' z => ?_) fun _ _ x => x
  obtain ⟨z', H', I', rz, k, rfl, qz⟩ := z
  obtain rfl : w = Value.bool k := rz
  exact ⟨k, rfl, .bl (!k), H', I', rfl, qz⟩
end
/-- what the class keeps besides: no != of its own; what is no Settings -/
structure NeI (K : PySem.W.Frag) (C : Addr) : Prop where
  ne : PySem.W.findIn K (.ref C) "__ne__" = some (some (.builtin "object.__ne__"))
  mo : PySem.W.mroIn K C (.type "object") = some true
  kt : PySem.W.kitOne K (.type "tuple") (.ref C) = some false
  kl : PySem.W.kitOne K (.type "list") (.ref C) = some false
  ki : PySem.W.kitOne K (.type "int") (.ref C) = some false
def neB (K : PySem.W.Frag) (C : Addr) : Bool := decide (PySem.W.findIn K (.ref C) "__ne__" = some (some (.builtin "object.__ne__"))) && (decide (PySem.W.mroIn K C (.type "object") = some true) && (decide (PySem.W.kitOne K (.type "tuple") (.ref C) = some false) && (decide (PySem.W.kitOne K (.type "list") (.ref C) = some false) && decide (PySem.W.kitOne K (.type "int") (.ref C) = some false))))
theorem neB_ok {K : PySem.W.Frag} {C : Addr} (h : neB K C = true) : NeI K C := by
  unfold neB at h
  simp only [Bool.and_eq_true, decide_eq_true_eq] at h
  exact ⟨h.1, h.2.1, h.2.2.1, h.2.2.2.1, h.2.2.2.2⟩
theorem op_eqM {X : Cx} {C : Addr} {k : Nat} {ps : List Str} {sp : Sp} (h : MtH X.prog X.w X.K X.mg X.base CX0 k C "__eq__" ps sp) (e : NeI X.K C) (hr : Room k X.A) : OpR X (compareOp .Eq) (rOwnC C sp false) := by
  obtain ⟨f, fd, M, hb, F⟩ := h
  exact op_eqOwn ⟨M.at_, M.fn, e.ne, e.mo⟩ F hb hr
theorem op_neM {X : Cx} {C : Addr} {k : Nat} {ps : List Str} {sp : Sp} (h : MtH X.prog X.w X.K X.mg X.base CX0 k C "__eq__" ps sp) (e : NeI X.K C) (hr : Room (k + 1) X.A) : OpR X (compareOp .NotEq) (rOwnC C sp true) := by
  obtain ⟨f, fd, M, hb, F⟩ := h
  exact op_neOwn ⟨M.at_, M.fn, e.ne, e.mo⟩ F hb hr
theorem c_isiK {X : Cx} {K : PySem.W.Frag} (h : X.K = K) : CallR X (.builtin "isinstance") (rIsi K) := h ▸ call_isi
end Kr

namespace KrE
open Kr L2 PySem PySem.Spec PyProof.Rows
open PySem.HandSPX PySem.W Builtin Builtin.ObjectAttr
section
variable {prog : Program} {w : World} {A : Around} {E : Value → Shared → Prop} {R : Result → Shared → Prop} {hp : Heap} {g : Array GenState} {d : Drawn} {t : Nat} {os : OsState} {B : String} {bmB : List Value}
/-- the first field of an exception in the making, whatever built-in class it rests on -/
theorem first_field {K : W.Frag} {name : Str} {tk : Tok} {v : Value} {x C : Addr} {fv : Array Value} {cd : ClassData} (SF : StoreFacts B bmB "object.__setattr__" "object")
    (X : K.In hp) (hx : hp.get? x = some { cls := .ref C, data := .fields fv }) (hcd : W.clsIn K C = some cd) (ho : excOver K C bmB = true) (hh : cd.hasDict = true) (ht : takerIn K C name = some none)
    (hq : ∀ h' tk' dx, (∀ b o, b ≠ x → hp.get? b = some o → h'.get? b = some o) → hp.objs.size ≤ dx → dx ≠ x → h'.get? x = some { cls := .ref C, dict := some dx, data := .fields fv } →
      h'.Ns1 dx (fun y => if y = name then some v else none) → R (.ok (.ret .none)) ⟨h', g, d, tk', os⟩) :
    codeAny (model prog w) A (.call (.builtin "object.__setattr__") ⟨[.ref x, .str name tk, v], []⟩) R ⟨hp, g, d, t, os⟩ := by
  refine osa_openX (C := C) (od := none) (r := none) SF X (show InstAt hp x _ C none from ⟨hx, rfl, rfl, trivial⟩) ho ht fun b => ?_
  have hcls : W.Looks (model prog w) hp (classData C) cd := W.looks_clsIn X hcd
  have hxs : x ≠ hp.objs.size := Nat.ne_of_lt (Heap.lt_size hx)
  show wpAny _ _ (storeInOwnDict (.ref x) (.ref C) (.str name tk) name v b) _ _ _
  obtain ⟨nm, bs, mro, ns, qn, hd, sn, sb, ab, col, del⟩ := cd
  dsimp only at hh
  subst hh
  unfold storeInOwnDict ownDictForStores
  repeat (first | with_reducible refine store_in_new ?_ ?_ | with_reducible refine wpAny_loadPart_at hx ?_ | with_reducible refine hcls.at ?_ | wp_step)
  · exact ⟨_, #[], _, (Heap.get?_update_ne _ _ _ _ hxs.symm).trans (Heap.get?_push_at rfl rfl), rfl, fun e he => absurd he (by simp), fun _ => rfl⟩
  · intro h' tk' hn' hs
    have hx1 : (hp.push { cls := .type "dict", data := .dict #[] }).get? x = some { cls := .ref C, data := .fields fv } := Heap.get?_push_of_some _ hx
    refine hq h' tk' hp.objs.size (fun b o hb e => ?_) (Nat.le_refl _) hxs.symm ?_ hn'
    · exact (hs.2 b (Nat.ne_of_lt (Heap.lt_size e))).trans ((Heap.get?_update_ne _ _ _ _ hb).trans (Heap.get?_push_of_some _ e))
    · exact (hs.2 x hxs).trans (Heap.get?_update_self _ hx1 rfl)
end
/-- the built-in classes above -/
def lkTail : List Value := [.type "LookupError", .type "Exception", .type "BaseException", .type "object"]
/-- an own class over LookupError: what the written part says of it -/
structure ErrC (K : PySem.W.Frag) (C : Addr) : Prop where
  ini : PySem.W.excInitIn K C lkTail "LookupError.__new__" = true
  ov : PySem.W.excOver K C lkTail = true
  dc : PySem.W.hasDictIn K C = true
  sa : PySem.W.findIn K (.ref C) "__setattr__" = some (some (.builtin "object.__setattr__"))
  exC : PySem.W.subIn K (.ref C) (.type "BaseException") = some true
  tyC : PySem.W.typeIn K (.ref C) = some (.type "type")
  kC : PySem.W.keepIn K (.ref C) = true
section
variable {X : Cx} {pins : List (Addr × Obj)} {σ : L2.St} {H : Hp} {s : Shared} {a C : Addr} {f : Str} {y : V} {u : Value} {Q : Unit → Shared → Prop} {E : Value → Shared → Prop} {A : Around}
theorem put_first (T : ErrC X.K C) (I : Inv X pins σ H s) (e : H a = some (exo a C none)) (ht : PySem.W.takerIn X.K C f = some none) (ry : RelV y u)
    (h : ∀ dx s', H dx = none → dx ≠ a → Inv X pins σ (upd (upd H dx (exd dx [(f, y)])) a (exo a C (some dx))) s' → Q () s') : wpAny (model X.prog X.w) A (setAttr (.ref a) f u) Q E s := by
  obtain ⟨cd, hcl, hdc⟩ := any_some T.dc
  obtain ⟨t1, ho⟩ := exo_at I.hok e
  obtain ⟨hp, g, d, t, os⟩ := s
  refine PySem.W.set_plain I.kIn (od := none) (show PySem.W.InstAt hp a _ C none from ⟨ho, rfl, rfl, trivial⟩) T.sa ?_
  refine first_field PySem.F.store_LookupError I.kIn ho hcl T.ov hdc ht fun h' tk' dx k dn dne hx hn => ?_
  have free : H dx = none := I.hok.fresh dn
  have old : ∀ {b : Addr} {o : Obj}, hp.get? b = some o → b ≠ dx := fun q z => absurd (Heap.lt_size q) (by rw [z]; exact Nat.not_lt.mpr dn)
  have off : ∀ {b : Addr}, H b = none → b ≠ a := fun n z => by rw [z, e] at n; cases n
  have fix : ∀ {b : Addr} {o : HO}, H b = some o → o ≠ exo a C none → upd (upd H dx (exd dx [(f, y)])) a (exo a C (some dx)) b = some o := fun {b o} q z => by
    have n1 : b ≠ a := fun w => z (by rw [w, e] at q; exact (Option.some.inj q).symm)
    rw [upd_ne n1, upd_ne (ne_of_none q free)]
    exact q
  have un : Un X.fs [] H (upd (upd H dx (exd dx [(f, y)])) a (exo a C (some dx))) hp h' := by
    refine ⟨fun b o q n _ _ => k b o (off n) q, fun b o q n _ _ => ⟨o.slots, k b o (off n) q⟩, fun b o q n _ => by rw [upd_ne (off n), upd_ne (old q)]; exact n, fun b o q _ => ?_, fun b xs q => fix q (Ne.symm exo_tup), fun b o v q => fix q (Ne.symm exo_frz), fun b ps q => ⟨#[], by rw [fix q (Ne.symm exo_tbl)]; simp⟩⟩
    by_cases hb : b = a
    · exact ⟨_, by rw [hb]; exact hx⟩
    · exact ⟨o, k b o hb q⟩
  refine h dx _ free dne (I.un (t' := tk') un fun b o q => ?_)
  by_cases hb : b = a
  · subst hb
    rw [upd_same] at q
    obtain rfl := Option.some.inj q
    exact exo_ok hx
  rw [upd_ne hb] at q
  by_cases hd : b = dx
  · subst hd
    rw [upd_same] at q
    obtain rfl := Option.some.inj q
    exact exd_ok hn (relO_put (fs := []) ry fun _ => True.intro)
  rw [upd_ne hd] at q
  refine (I.hok b o q).stay (fun c v hc z => k c v ?_ z) (fun c hc => fix hc (Ne.symm exo_own)) fun c xs hc => fix hc (Ne.symm exo_tup)
  rcases hc with rfl | hc
  · exact hb
  · intro w
    rw [w, e] at hc
    exact exo_own (Option.some.inj hc)
end
/-- self.f = y, the first field of an exception in the making -/
def tErs (K : PySem.W.Frag) (f : Str) (to te : TE) : TS := fun D σ H => te σ H fun y H1 => to σ H1 fun x H2 => ∃ a C : Addr, x = .ref a ∧ ErrC K C ∧ PySem.W.takerIn K C f = some none ∧ H2 a = some (exo a C none) ∧
  ∀ dx, H2 dx = none → dx ≠ a → D.nx σ (upd (upd H2 dx (exd dx [(f, y)])) a (exo a C (some dx)))
section
variable {X : Cx} {o e : Expr} {es : List Expr} {to te : TE} {ta : TA} {f : Str} {p p' pos : Pos}
theorem ps_ers (ho : PE X o to) (he : PE X e te) (hs : swapsWith e (some (.Attribute o f p')) pos.line X.env = pure false := by rfl) : PS X (.Assign [.Attribute o f p'] e pos) (tErs X.K f to te) := by
  refine ⟨fun pins s0 st0 H D I h => ?_⟩
  refine plainObj_wpAny_Assign_Attribute (thn (he.run pins s0 st0 H _ I h) fun v s1 ⟨y, H1, I1, r1, q1⟩ => thn (ho.run pins s1 st0 H1 _ I1 q1) fun u s2 ⟨x, H2, I2, r2, a, C, ex, T, ht, ea, q⟩ => ?_) hs
  subst ex
  obtain rfl : u = Value.ref a := r2
  exact put_first T I2 ea ht r1 fun dx s' n1 n2 J => ⟨st0, _, J, q dx n1 n2⟩
theorem pmk_err {CX : CXT} {x : Str} {C fI : Addr} {k : Nat} {fd : FuncData} {ps : List Str} {sp : Sp} (T : ErrC X.K C) (iC : PySem.W.findIn X.K (.ref C) "__init__" = some (some (.ref fI))) (tI : PySem.W.typeIn X.K (.ref fI) = some (.type "function"))
    (F1 : FnOk X.prog X.w X.K X.mg X.base CX k fI fd ps sp) (hr : Room (k + 1) X.A) (hb : Binds X.K fd ps []) (hx : Passes CX X (fun _ _ _ => False)) (hg : Gl X x) (hm : X.mg x = some (.ref C)) (ha : PA X (e :: es) ta)
    (hdb : (x == ("__debug__" : Str)) = false := by decide) (he : starEach (e :: es) X.env = (false, eval e X.env) :: starEach es X.env := by rfl) (hpl : (backTo pos (starEach es X.env)).any (·.1) = false := by rfl) :
    PMk X (.Call (.Name x p) (e :: es) [] pos) (tMkO C sp [] ta) := by
  intro pins s0 st0 H Q I h
  refine wpAny_Call_Name_kw (ld_glob I hg hm ?_ hdb)
  refine PySem.W.callWith_K (h₀ := X.base) I.ok.mod.kin T.kC (thn (ha.run pos pins s0 st0 H _ I h) fun us s1 ⟨vs, H1, I1, r1, hz, q1⟩ => ⟨I1.kIn, ?_⟩) he hpl
  show wpAny _ _ (call (.ref C) us) _ _ _
  obtain ⟨nm, N, qn, bs, bm, hdct, sn, sub, ab, col, dd, k0, k1, k2, k3, k5, hC, hT⟩ := PySem.W.excInit_of I1.kIn T.ini
  obtain ⟨hp, g, dr, tk, os⟩ := s1
  have le1 : hp.objs.size ≤ hp.objs.size + 1 := Nat.le_succ _
  have free := I1.hok.fresh le1
  have hq := q1 _ free
  have grown : ∀ b o, hp.get? b = some o → ((hp.push (PySem.W.kdv_tup us)).push (PySem.HandSPX.excO C hp.objs.size)).get? b = some o := fun b o z => Heap.get?_push_of_some _ (Heap.get?_push_of_some _ z)
  have made : ((hp.push (PySem.W.kdv_tup us)).push (PySem.HandSPX.excO C hp.objs.size)).get? (hp.objs.size + 1) = some (PySem.HandSPX.excO C hp.objs.size) := by heap_get
  have I2 : Inv X pins st0 (upd H1 (hp.objs.size + 1) (exo (hp.objs.size + 1) C none)) ⟨(hp.push (PySem.W.kdv_tup us)).push (PySem.HandSPX.excO C hp.objs.size), g, dr, tk, os⟩ := I1.laid (t' := tk) (a := hp.objs.size + 1) (o := exo (hp.objs.size + 1) C none) (h' := (hp.push (PySem.W.kdv_tup us)).push (PySem.HandSPX.excO C hp.objs.size)) grown le1 (exo_ok made)
  have r2 : Vals (V.ref (hp.objs.size + 1) :: (vs ++ [])) (Value.ref (hp.objs.size + 1) :: (us ++ [])) := .cons rfl (r1.append .nil)
  have hl : (Value.ref (hp.objs.size + 1) :: us ++ []).length = ps.length := r2.length.symm.trans (F1.len _ _ _ _ hq)
  have few : us.length ≤ sizeLine := by
    have := Paired.length r1
    rw [sizeLine_eq]
    omega
  have bound : BindsTo ⟨(hp.push (PySem.W.kdv_tup us)).push (PySem.HandSPX.excO C hp.objs.size), g, dr, tk, os⟩ fd ⟨Value.ref (hp.objs.size + 1) :: us, []⟩ (ps.zip (Value.ref (hp.objs.size + 1) :: (us ++ []))) := hb _ (Value.ref (hp.objs.size + 1) :: us) I2.kIn hl
  refine wpAny_call (PySem.HandSPX.call_own PySem.F.excBase_LookupError hT hC (PySem.W.looks_findIn I1.kIn iC) (fun self => PySem.W.bind_fn I1.kIn self tI) few
    (codeAny_mono (F1.run _ X.stack _ _ ⟨Value.ref (hp.objs.size + 1) :: us, []⟩ (Value.ref (hp.objs.size + 1) :: (us ++ [])) _ _ (fun _ _ _ => False) (hr.make C us []) (I2.env0.make C us []) bound r2 hq) fun r s' z => ?_))
  cases r with
  | error er => exact hx pins st0 _ _ er s' I2 z
  | ok fl =>
    cases fl with
    | ret u =>
      obtain ⟨v, H2, os2, bare2, un2, hok2, rv, ev, d, fs, ea, ed, hd1, q2⟩ := z
      subst ev
      obtain ⟨h2, g2, d2, t2, os'⟩ := s'
      exact ⟨rv, mk_end (raises_own T.exC T.tyC) I1 le1 grown un2 hok2 os2 bare2 ea ed hd1 q2⟩
    | next => exact False.elim z
    | brk => exact False.elim z
    | cont => exact False.elim z
end
/-- the error class of the module's name x, its __init__ keeping sp -/
def ErH (P : Program) (w : World) (K : PySem.W.Frag) (mg : Str → Option Value) (base : Heap) (CX : CXT) (k : Nat) (x : Str) (C : Addr) (ps : List Str) (sp : Sp) : Prop :=
  ∃ (f : Addr) (fd : FuncData), mg x = some (.ref C) ∧ ErrC K C ∧ PySem.W.findIn K (.ref C) "__init__" = some (some (.ref f)) ∧ PySem.W.typeIn K (.ref f) = some (.type "function") ∧ Binds K fd ps [] ∧ FnOk P w K mg base CX k f fd ps sp
section
variable {X : Cx} {C : Addr} {k : Nat} {x : Str} {ps : List Str} {sp : Sp} {e : Expr} {es : List Expr} {ta : TA} {p pos : Pos}
theorem pmk_mk (h : ErH X.prog X.w X.K X.mg X.base CX0 k x C ps sp) (hr : Room (k + 1) X.A) (ha : PA X (e :: es) ta) (hg : Gl X x := by rfl)
    (hdb : (x == ("__debug__" : Str)) = false := by decide) (he : starEach (e :: es) X.env = (false, eval e X.env) :: starEach es X.env := by rfl) (hpl : (backTo pos (starEach es X.env)).any (·.1) = false := by rfl) :
    PMk X (.Call (.Name x p) (e :: es) [] pos) (tMkO C sp [] ta) := by
  obtain ⟨f, fd, hm, T, iC, tI, hb, F⟩ := h
  exact pmk_err T iC tI F hr hb pass0 hg hm ha hdb he hpl
end
def rErs (K : PySem.W.Frag) (f : Str) (y x : V) (H : Hp) (Qn : Hp → Prop) : Prop := ∃ a C : Addr, x = .ref a ∧ ErrC K C ∧ PySem.W.takerIn K C f = some none ∧ H a = some (exo a C none) ∧ ∀ dx, H dx = none → dx ≠ a → Qn (upd (upd H dx (exd dx [(f, y)])) a (exo a C (some dx)))
theorem r_sErs {K : PySem.W.Frag} {f : Str} {to te : TE} {D : Ends} {σ : L2.St} {H : Hp} (q : te σ H fun y H1 => to σ H1 fun x H2 => rErs K f y x H2 fun H3 => D.nx σ H3) : tErs K f to te D σ H := q
theorem r_ers {K : PySem.W.Frag} {f : Str} {y : V} {a C : Addr} {H : Hp} {Qn : Hp → Prop} (T : ErrC K C) (t : PySem.W.takerIn K C f = some none) (h : H a = some (exo a C none)) (q : ∀ dx, H dx = none → dx ≠ a → Qn (upd (upd H dx (exd dx [(f, y)])) a (exo a C (some dx)))) : rErs K f y (.ref a) H Qn := ⟨a, C, rfl, T, t, h, q⟩
/-- the making of an error, told by its end -/
def rMkE (C : Addr) (sp : Sp) (vs : List V) (H1 : Hp) (Q : XK) : Prop := vs.length ≤ 1000 ∧ ∀ a, H1 a = none → sp (.ref a :: (vs ++ [])) (upd H1 a (exo a C none))
  (fun v H2 => v = .non ∧ ∃ (d : Addr) (fs : List (Str × V)), H2 a = some (exo a C (some d)) ∧ H2 d = some (exd d fs) ∧ H1 d = none ∧ Q (.ref C) (some d) (upd (del H2 a) d (.xd fs))) (fun _ _ _ => False)
theorem r_mkE {C : Addr} {sp : Sp} {ta : TA} {σ : L2.St} {H : Hp} {Q : XK} (q : ta σ H fun vs H1 => rMkE C sp vs H1 Q) : tMkO C sp [] ta σ H Q := q
def errB (K : PySem.W.Frag) (C : Addr) : Bool := PySem.W.excInitIn K C lkTail "LookupError.__new__" && (PySem.W.excOver K C lkTail && (PySem.W.hasDictIn K C && (decide (PySem.W.findIn K (.ref C) "__setattr__" = some (some (.builtin "object.__setattr__"))) &&
  (decide (PySem.W.subIn K (.ref C) (.type "BaseException") = some true) && (decide (PySem.W.typeIn K (.ref C) = some (.type "type")) && PySem.W.keepIn K (.ref C))))))
theorem errB_ok {K : PySem.W.Frag} {C : Addr} (h : errB K C = true) : ErrC K C := by
  unfold errB at h
  simp only [Bool.and_eq_true, decide_eq_true_eq] at h
  exact ⟨h.1, h.2.1, h.2.2.1, h.2.2.2.1, h.2.2.2.2.1, h.2.2.2.2.2.1, h.2.2.2.2.2.2⟩
/-- the making of an error with one field -/
theorem r_mk1 {C : Addr} {f : Str} {v : V} {H1 : Hp} {Q : XK} {sp : Sp} (hsp : ∀ a H (Q' : VK), H a = some (exo a C none) → (∀ d, H d = none → d ≠ a → Q' .non (upd (upd H d (exd d [(f, v)])) a (exo a C (some d)))) → sp [.ref a, v] H Q' (fun _ _ _ => False))
    (q : ∀ d H', Same H1 H' → H1 d = none → H' d = some (.xd [(f, v)]) → Q (.ref C) (some d) H') : rMkE C sp [v] H1 Q := by
  refine ⟨by simp, fun a ha => hsp a _ _ upd_same fun d hd hda => ⟨rfl, d, [(f, v)], upd_same, by rw [upd_ne hda]; exact upd_same, by rw [upd_ne hda] at hd; exact hd, ?_⟩⟩
  rw [upd_ne hda] at hd
  refine q d _ (fun b o e => ?_) hd upd_same
  have n1 : b ≠ d := ne_of_none e hd
  have n2 : b ≠ a := ne_of_none e ha
  rw [upd_ne n1, del_ne n2, upd_ne n2, upd_ne n1, upd_ne n2]
  exact e
end KrE

namespace KrE
open Kr L2 PySem PySem.Spec PyProof.Rows
/-- what the body's exception asks where the first clause takes it by a name, in slot i -/
def wFst (K : PySem.W.Frag) (c : Value) (i : Nat) (ts : Addr → Value → Option Addr → TS) (D : Ends) : WX := fun cls d σ H => PySem.W.exmOne K cls c = some true ∧ ∀ a, H a = none →
  ts a cls d { nx := fun σ2 H2 => D.nx (σ2.set i none) H2, rt := D.rt, bk := fun σ2 H2 => D.bk (σ2.set i none) H2, ct := fun σ2 H2 => D.ct (σ2.set i none) H2 } (σ.set i (some (.ref a))) H
section
variable {X : Cx} {x n : Str} {c : Value} {i : Nat} {body suite : List Stmt} {b0 : Stmt} {np pos pos' : Pos} {tb : WX → TS} {ts : Addr → Value → Option Addr → TS} {hds : List ExceptHandler}
/-- try: .. except X as n: suite, further clauses behind it: where the first clause takes all that comes -/
theorem ps_try_first (hs : X.stack = X.env :: X.outer) (hf : X.env.frame = some X.env.locals) (hN : X.N.Nodup) (hi : X.N[i]? = some n) (hln : X.env.kindOf n = some .local) (hc : Names X x c)
    (hb : ∀ (W : WX) (pn : List (Addr × Obj)) (xe : Value → Shared → Prop), Takes (X.tr pn xe) W → PassesOwn (model X.prog X.w) X.A X.env xe → PSs (X.tr pn xe) body (tb W))
    (hsu : ∀ (a : Addr) (oe : Obj) (cls : Value) (d : Option Addr) (pn : List (Addr × Obj)), Zc cls d oe → (∃ vs, oe.data = .fields vs) → PSs (X.suite a ((a, oe) :: pn)) (b0 :: suite) (ts a cls d)) :
    PS X (.Try body (.ExceptHandler (some (.Name x np)) (some n) (b0 :: suite) pos' :: hds) [] [] pos) (fun D σ H => tb (wFst X.K c i ts D) D σ H) := by
  refine ⟨fun pins s0 st0 H D I h => ?_⟩
  have ok := I.ok
  have hfr : X.A.frames = some (X.env :: X.outer) := by rw [ok.frames, hs]
  refine wpAny_Try_except ?_
  refine wpAny_mono ((hb (wFst X.K c i ts D) (X.pn ++ pins) (fun e s1 => wpAny (model X.prog X.w) X.A (noteFrame e X.env) (fun _ s2 => wpAny (model X.prog X.w) X.A (setFlight e none) (fun _ s3 =>
    wpAny (model X.prog X.w) X.A (handleBy e X.env (.ExceptHandler (some (.Name x np)) (some n) (b0 :: suite) pos' :: hds)) (SP X pins D) X.xe s3) X.xe s2) X.xe s1) (fun u s' xx => ?_) PassesOwn.looking).run [] s0 st0 H D (I.toTry _) h) (fun f s1 z => ?_) (fun _ _ he => he)
  · obtain ⟨a, B, sI, pins', st1, H1, cls, d, rfl, J', nb, up, sky, na, os, ag, hit, go⟩ := xx
    have J : Inv X pins st1 H1 sI := J'.ofTry ok
    rw [hs] at sky
    show wpAny (model X.prog X.w) X.A (noteFrame (.ref a) X.env) _ _ _
    refine Sky.land Zc.steady hfr hf sky fun h3 fl3 up3 => ?_
    have J3 : Inv X pins st1 H1 { s' with heap := h3 } := J.landed nb fl3.1 (up.trans up3) os ag
    obtain ⟨oe3, vs3, he3, hz3, hd3⟩ := fl3.there
    have nfr : a ∉ frs (X.env :: X.outer) := fun hm => by
      obtain ⟨_, o', e', hnf⟩ := fl3.2.2.1.mem hm
      rw [he3] at e'
      obtain rfl := Option.some.inj e'
      exact hnf _ hd3
    have nL : a ≠ X.env.locals := fun z => nfr (List.mem_filterMap.mpr ⟨X.env, List.mem_cons_self, by rw [hf, z]⟩)
    have nF : a ∉ X.fs := fun hm => by
      obtain ⟨e, he, q⟩ := List.mem_filterMap.mp hm
      exact nfr (List.mem_filterMap.mpr ⟨e, List.mem_cons_of_mem _ he, q⟩)
    have S3 := J3.suite he3 hd3 na nL nF
    refine wpAny_handleBy_cons (codeAny_handlers_test ?_) (by intro q; cases q)
    have ty : PySem.W.Looks (model X.prog X.w) h3 (typeOf (.ref a)) cls := fun A Q E s k q => wpAny_typeOf_ref (k _ _ he3) (by rw [hz3.1]; exact q)
    have asked : ∀ {Q : Value → Shared → Prop} {E : Value → Shared → Prop}, Q c { s' with heap := h3 } → wpAny (model X.prog X.w) (X.A.mark (some (.ref a))) (eval (.Name x np) X.env) Q E { s' with heap := h3 } := fun {Q E} q => by
      obtain ⟨hg, hdbg, hm | ⟨hm, hv, hnn⟩⟩ := hc
      · exact ld_glob (X := X.suite a ((a, oe3) :: (X.pn ++ pins))) S3 hg hm q hdbg
      · exact ld_blt (X := X.suite a ((a, oe3) :: (X.pn ++ pins))) S3 hg hm hv q hnn hdbg
    refine asked ((PySem.W.exm_one (M := model X.prog X.w) J3.kIn ty hit).here (codeAny_handlers_suite_as (HandSPX.lands_againZ fl3 fun h4 fl4 up4 => ?_)))
    have J4 : Inv X pins st1 H1 { s' with heap := h4 } := J.landed nb fl4.1 ((up.trans up3).trans up4) os ag
    obtain ⟨oe4, vs4, he4, hz4, hd4⟩ := fl4.there
    have S4 := J4.suite he4 hd4 na nL nF
    refine store_ok (X := X.suite a ((a, oe4) :: (X.pn ++ pins))) (v := .ref a) S4 hN hi (.inl hln) rfl (fun s5 S5 => ?_) (.inr hln)
    refine wpAny_mono ((hsu a oe4 cls d (X.pn ++ pins) hz4 ⟨_, hd4⟩).run [] s5 _ H1 _ S5 (go a na)) (fun f s6 z => ?_) (fun _ _ z => False.elim z)
    have off : ∀ {st6 : L2.St} {H6 : Hp} {Q : Shared → Prop}, Inv (X.suite a ((a, oe4) :: (X.pn ++ pins))) [] st6 H6 s6 → (∀ s7, Inv X pins (st6.set i none) H6 s7 → Q s7) →
        wpAny (model X.prog X.w) X.A (do bindName X.env n .none; unbindBehindTheSuite X.env n pos') (fun _ s7 => Q s7) X.xe s6 := fun S6 hq => gone_ok (S6.unsuite ok) hN hi hln hq
    cases f with
    | next =>
      obtain ⟨st6, H6, S6, q6⟩ := z
      exact off S6 fun s7 J7 => ⟨_, _, J7, q6⟩
    | brk =>
      obtain ⟨st6, H6, S6, q6⟩ := z
      exact off S6 fun s7 J7 => ⟨_, _, J7, q6⟩
    | cont =>
      obtain ⟨st6, H6, S6, q6⟩ := z
      exact off S6 fun s7 J7 => ⟨_, _, J7, q6⟩
    | ret u =>
      obtain ⟨v6, st6, H6, S6, r6, q6⟩ := z
      exact off S6 fun s7 J7 => ⟨_, _, _, J7, r6, q6⟩
  · cases f with
    | next =>
      obtain ⟨st2, H2, J2, q⟩ := z
      exact wpAny_execs_nil ⟨st2, H2, J2.ofTry ok, q⟩
    | brk =>
      obtain ⟨st2, H2, J2, q⟩ := z
      exact ⟨st2, H2, J2.ofTry ok, q⟩
    | cont =>
      obtain ⟨st2, H2, J2, q⟩ := z
      exact ⟨st2, H2, J2.ofTry ok, q⟩
    | ret u =>
      obtain ⟨v, st2, H2, J2, r, q⟩ := z
      exact ⟨v, st2, H2, J2.ofTry ok, r, q⟩
end
end KrE

namespace KrE
open Kr L2 PySem PySem.Spec PyProof.Rows
/-! ### an object made by keywords where an error may leave, told by the slots as they stand -/
def tMakeKS (C : Addr) (n m : Nat) (sp : Sp) (E : L2.St → XK) (t tk : TA) : TE := fun σ H Q => t σ H fun vs H1 => tk σ H1 fun zs H2 => vs.length = n ∧ zs.length = m ∧ rMk C sp (E σ) (fun s => s :: vs ++ zs) H2 Q
section
variable {X : Cx} {CX : CXT} {k n : Nat} {C : Addr} {ps ks : List Str} {sp : Sp} {E : L2.St → XK} {x : Str} {p pos : Pos} {e : Expr} {es : List Expr} {kws : List Keyword} {t tk : TA}
theorem pe_mkES (h : MkK X.prog X.w X.K X.mg X.base CX k x C ps (n + 1) ks sp) (hr : Room (k + 1) X.A) (hx : ∀ σ, PassesAt CX X σ (E σ)) (ha : PA X (e :: es) t) (hkw : PK X kws tk) (hg : Gl X x := by rfl)
    (hall : (backToKw pos (keywordEach kws X.env)).all (·.1.isSome) = true := by rfl) (hks : (backToKw pos (keywordEach kws X.env)).filterMap (·.1) = ks := by rfl) (hdb : (x == ("__debug__" : Str)) = false := by decide)
    (he : starEach (e :: es) X.env = (false, eval e X.env) :: starEach es X.env := by rfl) (hpl : ((backTo pos (starEach (e :: es) X.env)).any (·.1) || (backToKw pos (keywordEach kws X.env)).any (·.1.isNone)) = false := by rfl) :
    PE X (.Call (.Name x p) (e :: es) kws pos) (tMakeKS C n ks.length sp E t tk) := by
  obtain ⟨f, fd, hm, M, hb, F⟩ := h
  refine ⟨fun pins s0 st0 H Q I hq0 => ?_⟩
  refine wpAny_Call_Name_kw (ld_glob I hg hm ?_ hdb)
  refine PySem.W.callWith_KW (h₀ := X.base) I.ok.mod.kin M.kp hall (thn (ha.run pos pins s0 st0 H _ I hq0) fun us s1 ⟨vs, H1, I1, r1, q1⟩ => thn (hkw.run pos pins s1 st0 H1 _ I1 q1) fun ws s2 ⟨zs, H2, I2, r2, l1, l2, q2⟩ => ⟨I2.kIn, ?_⟩) hpl he
  rw [hks]
  have made := Inv.made (C := C) I2
  have free1 : H2 (s2.heap.objs.size + 1) = none := I2.hok.fresh (Nat.le_succ _)
  have free0 : H2 s2.heap.objs.size = none := I2.hok.fresh (Nat.le_refl _)
  have promise := q2 (s2.heap.objs.size + 1) s2.heap.objs.size free1 free0 (Nat.ne_of_lt (Nat.lt_succ_self _))
  have rs : Vals (V.ref (s2.heap.objs.size + 1) :: vs) (Value.ref (s2.heap.objs.size + 1) :: us) := .cons rfl r1
  have many : (Value.ref (s2.heap.objs.size + 1) :: us).length = n + 1 := by rw [List.length_cons, ← r1.length, l1]
  refine wpAny_call (make_map (f := f) I2.kIn M.makes M.init (beq_iff_eq.mp M.fn) (codeAny_mono (F.run _ X.stack _ _ ⟨Value.ref (s2.heap.objs.size + 1) :: us, ks.zip ws⟩ _ _ _ (E st0) (hr.make C us (ks.zip ws))
    (made.env0.make C us (ks.zip ws)) (hb.to _ (Value.ref (s2.heap.objs.size + 1) :: us) ws made.kIn many (r2.length.symm.trans l2)) (hb.rel rs r2) promise) fun r s3 z => ?_))
  cases r with
  | error er => exact hx st0 pins _ _ er s3 made z
  | ok fl =>
    cases fl with
    | ret u =>
      obtain ⟨v, H3, I3, rv, ev, q3⟩ := made.after z
      subst ev
      exact ⟨rv, V.ref (s2.heap.objs.size + 1), H3, I3, rfl, q3⟩
    | next => exact False.elim z
    | brk => exact False.elim z
    | cont => exact False.elim z
end
theorem r_mkKS {C : Addr} {n m : Nat} {sp : Sp} {E : L2.St → XK} {t tk : TA} {σ : L2.St} {H : Hp} {Q : VK} (q : t σ H fun vs H1 => tk σ H1 fun zs H2 => vs.length = n ∧ zs.length = m ∧ rMk C sp (E σ) (fun s => s :: vs ++ zs) H2 Q) : tMakeKS C n m sp E t tk σ H Q := q
end KrE
namespace PySem.W
open PySem PySem.Spec PySem.Calls PyProof.Rows
section
variable {prog : Program} {w : World} {A : Around} {E : Value → Shared → Prop} {s : Shared} {K : Frag} {x D : Addr} {ox : Obj} {od : Option Obj}
theorem kr_dataFound {C : Addr} {name : Str} {a g : Value} (hc : (clsIn K C).isSome = true) (ha : findIn K (.ref C) name = some (some a)) (hg : specialIn K a "__get__" = some (some g)) (ht : takesIn K a = some true) : findObj K C od name = some (.bind g a) := by
  obtain ⟨cd, e⟩ := Option.isSome_iff_exists.mp hc
  unfold findObj
  simp [e, ha, hg, ht]
/-- what an own class of errors says of __class__ -/
structure KrErrT (K : Frag) (D : Addr) : Prop where
  ga : findIn K (.ref D) "__getattribute__" = some (some (.builtin "BaseException.__getattribute__"))
  gt : findIn K (.ref D) "__getattr__" = some none
  sb : subIn K (.ref D) (.type "BaseException") = some true
  dc : hasDictIn K D = true
  ca : findIn K (.ref D) "__class__" = some (some (.builtin "object.__class__"))
  cg : specialIn K (.builtin "object.__class__") "__get__" = some (some (.builtin "getset_descriptor.__get__"))
  ct : takesIn K (.builtin "object.__class__") = some true
  mo : mroIn K D (.type "object") = some true
def krErrT (K : Frag) (D : Addr) : Bool := decide (findIn K (.ref D) "__getattribute__" = some (some (.builtin "BaseException.__getattribute__"))) && (decide (findIn K (.ref D) "__getattr__" = some none) && (decide (subIn K (.ref D) (.type "BaseException") = some true) && (hasDictIn K D &&
  (decide (findIn K (.ref D) "__class__" = some (some (.builtin "object.__class__"))) && (decide (specialIn K (.builtin "object.__class__") "__get__" = some (some (.builtin "getset_descriptor.__get__"))) && (decide (takesIn K (.builtin "object.__class__") = some true) && decide (mroIn K D (.type "object") = some true)))))))
theorem krErrT_ok {K : Frag} {D : Addr} (h : krErrT K D = true) : KrErrT K D := by
  unfold krErrT at h
  simp only [Bool.and_eq_true, decide_eq_true_eq] at h
  exact ⟨h.1, h.2.1, h.2.2.1, h.2.2.2.1, h.2.2.2.2.1, h.2.2.2.2.2.1, h.2.2.2.2.2.2.1, h.2.2.2.2.2.2.2⟩
theorem kr_class {Q : Option Value → Shared → Prop} (T : KrErrT K D) (X : K.In s.heap) (I : InstAt s.heap x ox D od) (h : Q (some (.ref D)) { s with toks := s.toks + 1 }) : wpAny (model prog w) A (getAttr? (.ref x) "__class__") Q E s := by
  have found : findObj K D od "__class__" = some (.bind (.builtin "getset_descriptor.__get__") (.builtin "object.__class__")) := kr_dataFound (by obtain ⟨cd, e, _⟩ := any_some T.dc; rw [e]; rfl) T.ca T.cg T.ct
  obtain ⟨hp, g, d, t, os⟩ := s
  have lt := I.type (M := model prog w)
  have lg := looks_findIn (M := model prog w) X T.ga
  have lh := looks_findIn (M := model prog w) X T.gt
  have lf := looks_find (M := model prog w) X I found
  have below : Looks (model prog w) hp (isInstance (.ref x) (.type "BaseException")) true := lt.andThen (looks_subIn X T.sb)
  have n0 : (false && onTheHeap (Value.builtin "BaseException.__getattribute__")) = false := rfl
  have n1 : (onTheHeap (Value.ref D) && Value.builtin "BaseException.__getattribute__" == Value.builtin "object.__getattribute__") = false := by
    have : (Value.builtin "BaseException.__getattribute__" == Value.builtin "object.__getattribute__") = false := by decide +kernel
    rw [this]
    rfl
  unfold getAttr? getAttrBy? getAttrBy
  refine wpAny_bind (wpAny_mkText (wpAny_bind (wpAny_attempt (wpAny_holding (wpAny_bind (lt.at (wpAny_bind (lg.at ?_))))))))
  show wpAny _ _ (if (onTheHeap (Value.ref D) && Value.builtin "BaseException.__getattribute__" == Value.builtin "object.__getattribute__") = true then _ else _) _ _ _
  rw [n1, if_neg Bool.false_ne_true]
  unfold getAttrByItsOwn hookBefore
  refine wpAny_bind ?_
  rw [if_pos (show onTheHeap (Value.ref D) = true from rfl)]
  refine lh.at (wpAny_bind (wpAny_attempt (wpAny_holding ?_)))
  unfold callGetattribute
  rw [n0, if_neg Bool.false_ne_true]
  unfold boundAndCalled
  rw [PySem.F.excAttr_ValueError.ga.bind (.ref x)]
  refine wpAny_bind (wpAny_pure ?_)
  show wpAny _ _ (call (.builtin "BaseException.__getattribute__") [.ref x, .str "__class__" t]) _ _ _
  refine wpAny_call (codeAny_call_builtin PySem.F.excAttr_ValueError.ga.plain PySem.F.entry_bexc_ga (@check_slot (model prog w) _ _ ⟨hp, g, d, t + 1, os⟩ "BaseException.__getattribute__" "BaseException" "__getattribute__" (.ref x) [.str "__class__" t] [] _ (by decide +kernel) (by decide +kernel) below (PySem.F.args_bexc_ga (.ref x) (.str "__class__" t)) ?_))
  unfold Builtin.«object.__getattribute__»
  refine wpAny_bind (wpAny_of_eq (a := ((Value.ref x : Value), [Value.str "__class__" t])) (by first | rfl | (simp only [slotArgs]; rfl)) (wpAny_bind (wpAny_pure (wpAny_bind (lt.at (wpAny_bind (lf.at ?_)))))))
  show wpAny _ _ (holding [Value.builtin "object.__class__"] (call (.builtin "getset_descriptor.__get__") [.builtin "object.__class__", .ref x, .ref D]) >>= ret) _ _ _
  refine wpAny_bind (wpAny_holding (wpAny_call (class_get (s := ⟨hp, g, d, t + 1, os⟩) (ox := ox) (od := od) X I T.mo (wpAny_pure ?_))))
  show wpAny _ _ (handedOut (.ref D)) _ _ _
  rw [handedOut_of (v := .ref D) rfl]
  first
    | exact wpAny_pure (wpAny_pure h)
    | exact wpAny_pure h
    | exact wpAny_pure (wpAny_bind (wpAny_pure (wpAny_pure h)))
theorem kr_kitx (T : KrErrT K D) : KitX K (.ref x) (.ref D) (fun h => InstAt h x ox D od) := by
  obtain ⟨cd, ec, _⟩ := any_some T.dc
  unfold clsIn at ec
  split at ec
  rotate_left
  · cases ec
  rename_i c1 d1 cd1 sl1 ho
  refine ⟨fun _ _ _ I => I.type, fun _ _ Y _ => ?_, fun h tp dd its n sl Y htp => ?_, fun Y I k => kr_class T Y I k⟩
  · intro A' Q' E' s' k q
    unfold isType loadHead
    exact wpAny_bind (wpAny_loadPart (k _ _ (Y _ _ ho)) (wpAny_pure q))
  · refine Bool.eq_false_iff.mpr fun q => ?_
    have e : D = tp := Value.ref.inj (beq_iff_eq.mp q)
    subst e
    cases (Y _ _ ho).symm.trans htp
end
end PySem.W
namespace KrE
open Kr L2 PySem PySem.Spec PyProof.Rows
/-- isinstance(e, c), e the error that the suite holds, with its fields -/
def rIsD (K : PySem.W.Frag) (a : Addr) (cls : Value) (d : Option Addr) (C : Addr) : List V → Hp → VK → Prop := fun xs H Q => ∃ (c : V) (cv : Value) (b : Bool) (dd : Addr) (fs : List (Str × V)), xs = [.ref a, c] ∧ cls = .ref C ∧ d = some dd ∧ H dd = some (.xd fs) ∧ (∀ u, RelV c u → u = cv) ∧ PySem.W.kitOne K (.ref C) cv = some b ∧ Q (.bl b) H
theorem c_isD {X : Cx} {a C : Addr} {oe : Obj} {cls : Value} {d : Option Addr} {pn : List (Addr × Obj)} (T : PySem.W.KrErrT X.K C) (hz : Zc cls d oe) (hf : ∃ vs, oe.data = .fields vs) : CallR (X.suite a ((a, oe) :: pn)) (.builtin "isinstance") (rIsD X.K a cls d C) := by
  intro pins s0 st0 H xs us Q I r h
  obtain ⟨c, cv, b, dd, fs, rfl, rfl, rfl, ea, hcv, e, q⟩ := h
  obtain ⟨u1, u2, rfl, rx, rt⟩ : ∃ u1 u2, us = [u1, u2] ∧ RelV (.ref a) u1 ∧ RelV c u2 := by
    cases r with
    | cons rx rr =>
      cases rr with
      | cons rt rr =>
        cases rr
        exact ⟨_, _, rfl, rx, rt⟩
  obtain rfl : u1 = Value.ref a := rx
  obtain rfl := hcv _ rt
  obtain ⟨at1, -⟩ := I.pin (a, oe) (List.mem_append.mpr (.inl List.mem_cons_self))
  obtain ⟨vs, hv⟩ := hf
  obtain ⟨mA, hns, -⟩ : ObjOk X.prog X.w H s0.heap dd (.xd fs) := I.hok dd _ ea
  obtain ⟨od, ho, -⟩ := lookIn_ns hns
  have J : PySem.W.InstAt s0.heap a oe C (some od) := ⟨at1, hz.1, by unfold PySem.W.notCls; rw [hv] <;> rfl, by rw [hz.2]; exact ho⟩
  exact PySem.W.kia_one (PySem.W.kr_kitx T) I.kIn J e (fun z => nomatch z) fun tk => ⟨.bl b, H, I.kept (t' := tk) fun _ _ z => z, rfl, q⟩
theorem r_isD {K : PySem.W.Frag} {a C dd : Addr} {H : Hp} {Q : VK} {fs : List (Str × V)} {T : Addr} {b : Bool} (h : H dd = some (.xd fs)) (e : PySem.W.kitOne K (.ref C) (.ref T) = some b) (q : Q (.bl b) H) : rIsD K a (.ref C) (some dd) C [.ref a, .ref T] H Q := ⟨_, _, b, dd, fs, rfl, rfl, rfl, h, fun u r => r, e, q⟩
def rXf (a : Addr) (cls : Value) (d : Option Addr) (C : Addr) (f : Str) (x : V) (H : Hp) (Q : VK) : Prop := x = .ref a ∧ cls = .ref C ∧ ∃ (dd : Addr) (fs : List (Str × V)) (v : V), d = some dd ∧ H dd = some (.xd fs) ∧ fs.lookup f = some v ∧ Q v H
theorem r_tXf {a C : Addr} {cls : Value} {d : Option Addr} {f : Str} {te : TE} {σ : L2.St} {H : Hp} {Q : VK} (q : te σ H fun x H1 => rXf a cls d C f x H1 Q) : tXf a cls d C f te σ H Q := q
theorem r_xf {a C dd : Addr} {f : Str} {H : Hp} {Q : VK} {fs : List (Str × V)} {v : V} (h : H dd = some (.xd fs)) (l : fs.lookup f = some v) (q : Q v H) : rXf a (.ref C) (some dd) C f (.ref a) H Q := ⟨rfl, rfl, dd, fs, v, rfl, h, l, q⟩
end KrE

namespace KrL
open Kr L2 PySem PySem.Spec PyProof.Rows LamX
/-! ### a def whose code object is known -/
theorem okC {P : Program} {w : World} {K : PySem.W.Frag} {mg : Str → Option Value} {base : Heap} {nm qual : Str} {params : Arguments} {body : List Stmt} {scope : Scope} {f c : Addr} {fd : FuncData} {CX : CXT} {N ps : List Str} {k : Nat} {sp : Sp}
    (F : FunD K nm qual params body scope [] [] f fd) (hc : fd.code = .ref c) (S : FnScope N ps scope) (ln : ∀ vs H Q E, sp vs H Q E → vs.length = ps.length)
    (hb : ∀ (A : Around) (outer : List Env) (s : Shared) (H : Hp) (vs : List V) (Q : VK) (E : XK), Room k (A.deeper (envOfC qual scope s.heap.objs.size f (.ref c))) → sp vs H Q E →
      ∃ t, PSs (cxOf CX P w K mg base N qual scope f (.ref c) A outer s H E) body t ∧ t { nx := fun _ H' => Q .non H', rt := Q } (L2.start N vs) H) : FnOk P w K mg base CX (k + 1) f fd ps sp := by
  obtain ⟨oc, od, dV, kV, doc, pm, an, cdv, ct, osl, e, lk, hcd, -, -⟩ := F.ex
  subst e
  have e2 : cdv = .ref c := hc
  subst e2
  exact fn_of lk hcd S ln hb
/-- the def p of the program is made with the code object and the table that cT finds -/
theorem code_cT {K : PySem.W.Frag} {p : He.Defn} {nm qual : Str} {params : Arguments} {body : List Stmt} {scope : Scope} {fd : FuncData} (F : FunD K nm qual params body scope [] [] (He.fAd K p) fd) : fd.code = .ref (He.cT K p).1 := by
  obtain ⟨oc, od, dV, kV, doc, pm, an, cdv, ct, osl, e, lk, hcd, -, -⟩ := F.ex
  obtain ⟨c, hc⟩ := He.codeIn_ref hcd
  have e1 : fd.code = .ref c := by
    subst e
    exact hc
  have e2 : He.codeOf K p = c := He.codeOf_eq lk e1
  rw [e1]
  show Value.ref c = Value.ref (He.codeOf K p)
  rw [e2]
/-! ### the lambda called, where what it raises is wished for at the slots as they stand -/
section
variable {X : Cx} {pins : List (Addr × Obj)} {st0 : L2.St} {H : Hp} {s0 : Shared}
theorem act_at {Eg : XK} {CXg : CXT} {Ng : List Str} {qg : Str} {sg : Scope} {g f co : Addr} {cdg pm ctv : Value} {params : Arguments} {body : Expr} {scope : Scope} {k i : Nat} {a : Str} {pn : List (Addr × Obj)} {xe : Value → Shared → Prop} {W : WX} {tb : XK → TE} {p1 p2 : Pos}
    (I : Inv X pins st0 H s0) (L : LamS X.env.scope scope) (hf : s0.heap.get? f = some (PySem.W.kla_obj "<lambda>" (X.env.qual ++ "<lambda>") params body scope (cloFrom X.env.cells scope.names []) pm co ctv)) (hfn : H f = none) (hfr : f ∉ frs X.stack)
    (hbind : bindArgs (PySem.W.kla_fn "<lambda>" (X.env.qual ++ "<lambda>") params body scope (cloFrom X.env.cells scope.names []) pm (.ref co) ctv) ⟨[], []⟩ = pure [])
    (tk : Takes ((cxOf CXg X.prog X.w X.K X.mg X.base Ng qg sg g cdg X.A X.stack s0 H Eg).tr pn xe) W) (hr : Room (k + 1) (X.A.deeper (envOfC qg sg s0.heap.objs.size g cdg)))
    (hbody : ∀ (A : Around) (outer : List Env) (s : Shared) (H : Hp) (E1 : XK), Room k (A.deeper (lamEnv X scope s.heap.objs.size f co)) → PE (lamCx X A outer s H E1 scope f co) body (tb E1))
    (hN : Ng[i]? = some a) (hv : Vis sg a) (hd : (a == ("__debug__" : Str)) = false := by decide) (hcd : (a == ("__classdict__" : Str)) = false := by decide) :
    PE ((cxOf CXg X.prog X.w X.K X.mg X.base Ng qg sg g cdg X.A X.stack s0 H Eg).tr pn xe) (.Call (.Name a p1) [] [] p2)
      (fun stZ HZ Q => stZ[i]? = some (some (.ref f)) ∧ HZ co = some (CodeO co (X.env.qual ++ "<lambda>")) ∧ ∃ E : XK, (∀ cls d H', E cls d H' → W cls d stZ H') ∧ tb E st0 HZ Q) := by
  refine ⟨fun pinsZ sZ stZ HZ Q IZ hz => ?_⟩
  obtain ⟨hs, hc, E, hW, ht⟩ := hz
  refine wpAny_Call_Name_kw (thn ((pe_var (pos := p1) (i := i) hN hv hd hcd).run pinsZ sZ stZ HZ (fun v H1 => v = .ref f ∧ H1 = HZ) IZ ⟨.ref f, hs, rfl, rfl⟩) fun u s1 ⟨v, H1, I1, r1, q1⟩ => ?_)
  obtain ⟨ev, eH⟩ := q1
  subst ev
  rw [eH] at I1
  obtain rfl : u = Value.ref f := r1
  have at1 := I1.base.keep f _ hf hfn hfr (fun z => nomatch (show f ∈ ([] : List Addr) from z))
  refine PySem.W.callWith_F0 ⟨_, _, _, _, at1⟩ ?_
  have un : Un (frs X.stack) [] H HZ s0.heap s1.heap := I1.base
  obtain ⟨⟨oc, vs, t, hoc, hdc, hvc⟩, -, -⟩ := I1.hok co _ hc
  have rc : codeAny (model X.prog X.w) (X.A.deeper (envOfC qg sg s0.heap.objs.size g cdg)) (.call (.ref f) ⟨[], []⟩) (CR (L2.CX X.prog X.w) (envOfC qg sg s0.heap.objs.size g cdg :: X.stack) X.prog X.w HZ s1 Q E) s1 := by
    refine PySem.W.kla_callFunE hr.depth at1 rfl L.co L.gen rfl ⟨co, oc, vs, t, rfl, hoc, hdc, hvc⟩ ?_
    rw [hbind]
    refine wpAny_pure (wpAny_newFunctionEnv (fun y hy => (L.own y hy).2) (fun y hy => absurd hy (by simp)) (fun hh hns hsb => ⟨I1.nolimit.fresh _ hsb, ?_⟩) L.kind)
    show codeAny _ _ (.expr body (lamEnv X scope s1.heap.objs.size f co)) _ _
    have kp : ∀ b o, s1.heap.get? b = some o → hh.get? b = some o := fun b o e => hsb.extBut b o (Nat.ne_of_lt (Heap.lt_size e)) (Heap.get?_push_of_some _ e)
    have J := lam_start2 (E := E) (f := f) (c' := co) (tk := s1.toks + ([] : List (Str × Value)).length) I L I1.env0 hr.hd un hns kp
    refine PySem.W.kla_codeExpr (wpAny_mono ((hbody _ _ s1 HZ E (hr.deeper _)).run [] _ _ HZ Q J ht) (fun v s2 hq => ?_) fun e s2 hq => hq)
    obtain ⟨v2, H2, J2, rv, q⟩ := hq
    exact ⟨v2, H2, J2.os, J2.bare, J2.base, J2.hok, rv, q⟩
  refine wpAny_call (codeAny_mono rc fun r s2 hq => ?_)
  cases r with
  | error e =>
    exact tk e s2 (XE.of_call I1 hW hq)
  | ok fl =>
    cases fl with
    | ret u => exact I1.after hq
    | next => exact False.elim hq
    | brk => exact False.elim hq
    | cont => exact False.elim hq
end
/-- what a def makes of the lambda that it gets: it calls it by its parameter's name -/
def Gives (X : Cx) (Ng : List Str) (x : Str) (sg : Scope) (g : Addr) (cdg : Value) (bg : List Stmt) (a : Str) (TT : (XK → Hp → VK → Prop) → Hp → VK → Prop) : Prop :=
  ∀ (q : Str) (f co : Addr) (s0 : Shared) (H : Hp) (Q : VK) (tl : XK → Hp → VK → Prop),
    (∀ (W : WX) (pn : List (Addr × Obj)) (xe : Value → Shared → Prop) (p1 p2 : Pos), Takes ((cxOf C8.CX0 X.prog X.w X.K X.mg X.base Ng x sg g cdg X.A X.stack s0 H C8.E0).tr pn xe) W →
      PE ((cxOf C8.CX0 X.prog X.w X.K X.mg X.base Ng x sg g cdg X.A X.stack s0 H C8.E0).tr pn xe) (.Call (.Name a p1) [] [] p2) (fun stZ HZ Q => stZ[0]? = some (some (.ref f)) ∧ HZ co = some (CodeO co q) ∧ ∃ E : XK, (∀ cls d H', E cls d H' → W cls d stZ H') ∧ tl E HZ Q)) →
    H co = some (CodeO co q) → TT tl H Q →
    ∃ t, PSs (cxOf C8.CX0 X.prog X.w X.K X.mg X.base Ng x sg g cdg X.A X.stack s0 H C8.E0).nox bg t ∧ t { nx := fun _ H' => Q .non H', rt := Q } (L2.start Ng [.ref f]) H
/-- the module's def x takes a lambda and makes TT of it -/
def LamH (P : Program) (w : World) (K : PySem.W.Frag) (mg : Str → Option Value) (base : Heap) (x : Str) (TT : (XK → Hp → VK → Prop) → Hp → VK → Prop) : Prop :=
  ∃ (a : Str) (g : Addr) (fd : FuncData) (pg : Arguments) (bg : List Stmt) (sg : Scope) (Ng : List Str), mg x = some (.ref g) ∧ FunD K x x pg bg sg [] [] g fd ∧ L2.Binds K fd [a] [] ∧ FnScope Ng [a] sg ∧ Ng[0]? = some a ∧ Vis sg a ∧ (a == ("__debug__" : Str)) = false ∧ (a == ("__classdict__" : Str)) = false ∧
    ∀ (X : Cx) (cdv : Value), X.prog = P → X.w = w → X.K = K → X.mg = mg → X.base = base → Gives X Ng x sg g cdv bg a TT
section
variable {X : Cx}
theorem pe_lam {T : List (Addr × Str)} {TT : (XK → Hp → VK → Prop) → Hp → VK → Prop} {x : Str} {c P : Addr} {k : Nat} {params : Arguments} {body : Expr} {scope : Scope} {t : XK → TE} {p lpos pos : Pos} (h : LamH X.prog X.w X.K X.mg X.base x TT)
    (TB : TabB X.base X.mg c P) (hcode : X.env.code = .ref c) (hmT : (P, X.env.qual ++ "<lambda>") ∈ T) (hu : ∀ p ∈ T, p.1 = P → p.2 = X.env.qual ++ "<lambda>") (hr : Room (k + 2) X.A) (L : LamS X.env.scope scope)
    (hbody : ∀ (A : Around) (outer : List Env) (s : Shared) (H : Hp) (E1 : XK) (f co : Addr), Room k (A.deeper (lamEnv X scope s.heap.objs.size f co)) → PE (lamCx X A outer s H E1 scope f co) body (t E1)) (hg : Gl X x := by rfl)
    (hdef : defaultsOf params X.env = ([], []) := by rfl) (hbind : ∀ (q : Str) (cl : List (Str × Addr)) (pm cv ctv : Value), bindArgs (PySem.W.kla_fn "<lambda>" q params body scope cl pm cv ctv) ⟨[], []⟩ = pure [] := by intros; rfl) (hdb : (x == ("__debug__" : Str)) = false := by decide) :
    PE X (.Call (.Name x p) [.Lambda params body scope lpos] [] pos) (tLam T TT t) := by
  obtain ⟨a, g, fd, pg, bg, sg, Ng, hm, F, hb, Sg, hNg, hva, hd, hcd, hG⟩ := h
  obtain ⟨oc, od, dV, kV, doc, pm, an, cdv, ct, osl, efd, lk, hcg, -, -⟩ := F.ex
  subst efd
  refine ⟨fun pins s0 st0 H Q I hz => ?_⟩
  obtain ⟨hT, hz⟩ := hz
  refine wpAny_Call_Name_kw (ld_glob I hg hm ?_ hdb)
  refine PySem.W.callWith_K (h₀ := X.base) I.ok.mod.kin F.kp ?_ (by rfl) (by rfl)
  show wpAny _ _ (spliced ((false, eval (.Lambda params body scope lpos) X.env) :: backTo pos (starEach [] X.env))) _ _ s0
  refine Calls.spliced_cons (lam_make2 I TB hcode hmT hu hT hdef (L.has I.ok) fun f co pm1 ctv H1 s1 I1 eN T1 hf hfn hfr hco => ?_)
  refine Calls.spliced_nil ⟨I1.kIn, ?_⟩
  have rc : codeAny (model X.prog X.w) X.A (.call (.ref g) ⟨[.ref f], []⟩) (CR C8.CX0 X.stack X.prog X.w H1 s1 Q C8.E0) s1 := by
    refine run_ofS (N := Ng) (ps := [a]) (us := [.ref f]) (vs := [.ref f]) lk hcg Sg hr I1.env0 (hb s1 [.ref f] I1.kIn rfl) (.cons rfl .nil) rfl fun hr1 => ?_
    obtain ⟨t1, ht1, hq1⟩ := hG X cdv rfl rfl rfl rfl rfl (X.env.qual ++ "<lambda>") f co s1 H1 Q (fun E1 H2 Q2 => t E1 st0 H2 Q2) (fun W pn xe p1 p2 tk => act_at (i := 0) I1 L hf hfn hfr (hbind _ _ _ _ _) tk hr1 (fun A outer s H E1 hr2 => hbody A outer s H E1 f co hr2) hNg hva hd hcd) hco (hz H1 eN T1)
    exact ⟨t1, ht1.nox, hq1⟩
  refine wpAny_call (codeAny_mono rc fun r s2 hq => ?_)
  cases r with
  | error e => exact (show False from hq).elim
  | ok fl =>
    cases fl with
    | ret u => exact I1.after hq
    | next => exact False.elim hq
    | brk => exact False.elim hq
    | cont => exact False.elim hq
end
theorem tbu_ok {T : List (Addr × Str)} {P : Addr} {q : Str} (h : (T.all fun p => !decide (p.1 = P) || decide (p.2 = q)) = true) : ∀ p ∈ T, p.1 = P → p.2 = q := fun p hp e => by
  have := List.all_eq_true.mp h p hp
  simpa [e] using this
/-! ### calls that may raise -/
section
variable {X : Cx} {CX : CXT} {k : Nat} {C : Addr} {ps : List Str} {sp : Sp} {E : XK} {x m : Str} {p pos apos : Pos} {e o : Expr} {es : List Expr} {ta : TE} {t : TA}
theorem pe_mtE (h : MtH X.prog X.w X.K X.mg X.base CX k C m ps sp) (c : Cls X.K C) (hr : Room k X.A) (hx : Passes CX X E) (he : PE X o ta) (ha : PA X (e :: es) t) {pl : Sem Bool}
    (hst : starEach (e :: es) X.env = (false, eval e X.env) :: starEach es X.env := by rfl) (hpl : (backTo pos (starEach es X.env)).any (·.1) = false := by rfl)
    (ht : eval (.Call (.Attribute o m apos) (e :: es) [] pos) X.env = (do
      let ov ← eval o X.env
      standAt apos.atName
      let (f, first) ← holding [ov] (getMethod ov m pl)
      callWith pos f first (backTo pos (starEach (e :: es) X.env)) (backToKw pos (keywordEach [] X.env))) := by rfl) : PE X (.Call (.Attribute o m apos) (e :: es) [] pos) (tMeth C m sp [] E ta t) := by
  obtain ⟨f, fd, hm, hb, F⟩ := h
  exact pe_meth he c hm F hr hb .nil hx ha hst hpl ht
theorem pe_mkP (h : MkH X.prog X.w X.K X.mg X.base CX k x C ps sp) (hr : Room (k + 1) X.A) (hx : Passes CX X E) (ha : PA X (e :: es) t) (hg : Gl X x := by rfl) (hdb : (x == ("__debug__" : Str)) = false := by decide)
    (he : starEach (e :: es) X.env = (false, eval e X.env) :: starEach es X.env := by rfl) (hpl : (backTo pos (starEach es X.env)).any (·.1) = false := by rfl) : PE X (.Call (.Name x p) (e :: es) [] pos) (tMake C sp [] E t) := by
  obtain ⟨f, fd, hm, M, hb, F⟩ := h
  exact pe_make M F hr hg hm hb .nil hx ha hdb he hpl
end
section
variable {H H1 H2 : Hp}
theorem r_lam {T : List (Addr × Str)} {TT : (XK → Hp → VK → Prop) → Hp → VK → Prop} {t : XK → TE} {st0 : L2.St} {Q : VK} (hT : Tabs T H) (q : ∀ H1, ExtN H H1 → Tabs T H1 → TT (fun E1 H2 Q2 => t E1 st0 H2 Q2) H1 Q) : tLam T TT t st0 H Q := ⟨hT, q⟩
theorem ExtN.of_same (s : Same H H1) : ExtN H H1 := fun b o e _ => s b o e
end
theorem r_clear {l : Addr} {xs : List V} {H : Hp} {Q : VK} (h : H l = some (.lst xs)) (q : Q .non (upd H l (.lst []))) : rClear (.ref l) [] H Q := ⟨l, xs, rfl, rfl, h, q⟩
theorem op_inK {X : Cx} {K : PySem.W.Frag} (h : X.K = K) : OpR X (compareOp .In) (rIn K false) := h ▸ op_in_seq
theorem op_ninK {X : Cx} {K : PySem.W.Frag} (h : X.K = K) : OpR X (compareOp .NotIn) (rIn K true) := h ▸ op_notIn_seq
theorem lk_relabel {env : Env} {sc : Scope} {x : Str} (h : sc.names.lookup x = some .cell ∨ sc.names.lookup x = some .free) : (relabel sc env).names.lookup x = some .cell ∨ (relabel sc env).names.lookup x = some .free := by
  unfold relabel
  generalize sc.names = names at h ⊢
  show (names.map fun (n, k) => if (k == NameKind.free && env.scope.kind == .function && env.kindOf n == some .cell) then (n, NameKind.cell) else (n, k)).lookup x = some .cell ∨ (names.map fun (n, k) => if (k == NameKind.free && env.scope.kind == .function && env.kindOf n == some .cell) then (n, NameKind.cell) else (n, k)).lookup x = some .free
  induction names with
  | nil => simp at h
  | cons y r ih =>
    obtain ⟨n, k⟩ := y
    rw [List.map_cons]
    generalize List.map _ r = r' at ih ⊢
    show List.lookup x ((if (k == NameKind.free && env.scope.kind == .function && env.kindOf n == some .cell) = true then (n, NameKind.cell) else (n, k)) :: r') = some .cell ∨ List.lookup x ((if (k == NameKind.free && env.scope.kind == .function && env.kindOf n == some .cell) = true then (n, NameKind.cell) else (n, k)) :: r') = some .free
    by_cases hc : (k == NameKind.free && env.scope.kind == .function && env.kindOf n == some .cell) = true
    · rw [if_pos hc]
      cases hx : x == n with
      | true => simp [List.lookup_cons, hx]
      | false =>
        simp only [List.lookup_cons, hx] at h ⊢
        exact ih h
    · rw [if_neg hc]
      cases hx : x == n with
      | true =>
        simp only [List.lookup_cons, hx] at h ⊢
        exact h
      | false =>
        simp only [List.lookup_cons, hx] at h ⊢
        exact ih h
/-- a comprehension's block within another's -/
theorem blk_in {X : Cx} {N : List Str} {sc scope : Scope} {own : List (Str × Nat)} {s : Shared} {H : Hp} {C : Addr} {cl : List (Str × Addr)} {fp : List Addr} (hN : X.N = N) (h : blkC N sc scope own = true) : BlkOk (X.blk s H sc (compEnvC sc cl C X.env) fp).N (X.blk s H sc (compEnvC sc cl C X.env) fp).env.scope scope own := by
  subst hN
  have b := blkOk_by h
  refine ⟨b.kind, b.uniq, b.ix, fun y hy e => ?_, b.own⟩
  show (relabel sc X.env).names.lookup y.1 = some .cell ∨ (relabel sc X.env).names.lookup y.1 = some .free
  exact lk_relabel (b.free y hy e)
theorem sl_listK {X : Cx} {K : PySem.W.Frag} (h : X.K = K) : SlR X (rSlL K) := h ▸ sl_list
theorem op_catSK {X : Cx} {K : PySem.W.Frag} (h : X.K = K) : OpR X (binaryOp .Add) (rCatS K) := h ▸ op_catS
theorem op_eqDK {X : Cx} {K : PySem.W.Frag} (h : X.K = K) (hu : X.A.units + 64 < cLine) : OpR X (compareOp .Eq) (rEqD K) := h ▸ op_eqD hu
theorem op_neDK {X : Cx} {K : PySem.W.Frag} (h : X.K = K) (hu : X.A.units + 64 < cLine) : OpR X (compareOp .NotEq) (rNeD K) := h ▸ op_neD hu
theorem un65 {A : Around} {k : Nat} (hr : Room k A) : A.units + 65 < cLine := by
  have := hr.un
  omega
theorem pi_listK {X : Cx} {K : PySem.W.Frag} {tg l : Expr} {tl : TE} (h : X.K = K) (hl : PE X l tl) : PI X tg l (iList K tl) := h ▸ pi_list hl
theorem pi_tupK {X : Cx} {K : PySem.W.Frag} {tg l : Expr} {tl : TE} (h : X.K = K) (hl : PE X l tl) : PI X tg l (iTup K tl) := h ▸ pi_tup hl
end KrL

/-! Defs that ask for texts of things by repr: no such asking is under way where they begin. -/
namespace KrG
open Kr L2 PySem PySem.Spec PyProof.Rows LamX
/-- a def's promise where nothing is being told by repr -/
structure FnOkG (P : Program) (w : World) (K : PySem.W.Frag) (mg : Str → Option Value) (base : Heap) (CX : CXT) (k : Nat) (f : Addr) (fd : FuncData) (ps : List Str) (sp : Sp) : Prop where
  ln : ∀ vs H Q E, sp vs H Q E → vs.length = ps.length
  go : ∀ (A : Around) (outer : List Env) (s : Shared) (H : Hp) (args : Args) (us : List Value) (vs : List V) (Q : VK) (E : XK), A.guards = some [] → Room k A → Env0 P w K mg base A outer s H → BindsTo s fd args (ps.zip us) → Vals vs us → sp vs H Q E →
    codeAny (model P w) A (.call (.ref f) args) (CR CX outer P w H s Q E) s
theorem grd_deeper (A : Around) (e : Env) : (A.deeper e).guards = A.guards := by
  first | rfl | (cases A; simp [Around.deeper])
section
variable {P : Program} {w : World} {K : PySem.W.Frag} {mg : Str → Option Value} {base : Heap} {nm qual : Str} {params : Arguments} {body : List Stmt} {scope : Scope} {f c : Addr} {fd : FuncData} {N ps : List Str} {k : Nat} {sp : Sp}
theorem okG (F : FunD K nm qual params body scope [] [] f fd) (S : FnScope N ps scope) (ln : ∀ vs H Q E, sp vs H Q E → vs.length = ps.length)
    (hb : ∀ (cdv : Value) (A : Around) (outer : List Env) (s : Shared) (H : Hp) (vs : List V) (Q : VK) (E : XK), fd.code = cdv → (A.deeper (envOfC qual scope s.heap.objs.size f cdv)).guards = some [] → Room k (A.deeper (envOfC qual scope s.heap.objs.size f cdv)) → sp vs H Q E →
      ∃ t, PSs (cxOf C8.CX0 P w K mg base N qual scope f cdv A outer s H E) body t ∧ t { nx := fun _ H' => Q .non H', rt := Q } (L2.start N vs) H) : FnOkG P w K mg base C8.CX0 (k + 1) f fd ps sp := by
  obtain ⟨oc, od, dV, kV, doc, pm, an, cdv, ct, osl, efd, lk, hcd, -, -⟩ := F.ex
  subst efd
  refine ⟨ln, fun A outer s H args us vs Q E hg hr e0 hbd rv hsp => ?_⟩
  refine run_ofS (N := N) lk hcd S hr e0 hbd rv (ln _ _ _ _ hsp) fun hr1 => ?_
  exact hb cdv A outer s H vs Q E rfl (by rw [grd_deeper]; exact hg) hr1 hsp
end
section
variable (P : Program) (w : World) (K : PySem.W.Frag) (mg : Str → Option Value) (base : Heap) (CX : CXT) (k : Nat)
def FnHG (x : Str) (ps : List Str) (sp : Sp) : Prop := ∃ (f : Addr) (fd : FuncData), mg x = some (.ref f) ∧ PySem.W.keepIn K (.ref f) = true ∧ Binds K fd ps [] ∧ FnOkG P w K mg base CX k f fd ps sp
end
theorem FnHG.of {P : Program} {w : World} {K : PySem.W.Frag} {mg : Str → Option Value} {base : Heap} {CX : CXT} {k : Nat} {x : Str} {fd : FuncData} {params : Arguments} {body : List Stmt} {scope : Scope} {ps : List Str} {sp : Sp} {qual : Str}
    (F : FunD K x qual params body scope [] [] (He.ga K x) fd) (g : mg x = some (.ref (He.ga K x))) (b : Binds K fd ps []) (ok : FnOkG P w K mg base CX k (He.ga K x) fd ps sp) : FnHG P w K mg base CX k x ps sp := ⟨_, _, g, F.kp, b, ok⟩
section
variable {X : Cx} {k : Nat} {ps : List Str} {sp : Sp} {x : Str} {p pos : Pos} {e : Expr} {es : List Expr} {t : TA}
theorem pe_clG (h : FnHG X.prog X.w X.K X.mg X.base C8.CX0 k x ps sp) (hgd : X.A.guards = some []) (hr : Room k X.A) (ha : PA X (e :: es) t) (hg : Gl X x := by rfl) (hdb : (x == ("__debug__" : Str)) = false := by decide)
    (he : starEach (e :: es) X.env = (false, eval e X.env) :: starEach es X.env := by rfl) (hpl : (backTo pos (starEach es X.env)).any (·.1) = false := by rfl) : PE X (.Call (.Name x p) (e :: es) [] pos) (tCall sp [] E0 t) := by
  obtain ⟨f, fd, hm, hk, hb, F⟩ := h
  refine ⟨fun pins s0 st0 H Q I hq => ?_⟩
  refine wpAny_Call_Name_kw (ld_glob I hg hm ?_ hdb)
  refine PySem.W.callWith_K (h₀ := X.base) I.ok.mod.kin hk (thn (ha.run pos pins s0 st0 H _ I hq) fun us s1 ⟨vs, H1, I1, r1, q1⟩ => ⟨I1.kIn, ?_⟩) he hpl
  have q2 : sp vs H1 Q E0 := by
    have z : sp (vs ++ []) H1 Q E0 := q1
    rwa [List.append_nil] at z
  have hl : us.length = ps.length := by rw [← r1.length]; exact F.ln _ _ _ _ q2
  have hbd := hb s1 us I1.kIn (by simpa using hl)
  rw [List.append_nil] at hbd
  refine wpAny_call (codeAny_mono (F.go X.A X.stack s1 H1 ⟨us, []⟩ us vs Q E0 hgd hr I1.env0 hbd r1 q2) fun r s2 hq2 => ?_)
  cases r with
  | error er => exact (show False from hq2).elim
  | ok fl =>
    cases fl with
    | ret u => exact I1.after hq2
    | next => exact False.elim hq2
    | brk => exact False.elim hq2
    | cont => exact False.elim hq2
end
/-! ### defs that take a lambda, where nothing is being told by repr -/
def GivesG (X : Cx) (Ng : List Str) (x : Str) (sg : Scope) (g : Addr) (cdg : Value) (bg : List Stmt) (a : Str) (TT : (XK → Hp → VK → Prop) → Hp → VK → Prop) : Prop :=
  ∀ (q : Str) (f co : Addr) (s0 : Shared) (H : Hp) (Q : VK) (tl : XK → Hp → VK → Prop), (X.A.deeper (envOfC x sg s0.heap.objs.size g cdg)).guards = some [] → Room 1 (X.A.deeper (envOfC x sg s0.heap.objs.size g cdg)) →
    (∀ (W : WX) (pn : List (Addr × Obj)) (xe : Value → Shared → Prop) (p1 p2 : Pos), Takes ((cxOf C8.CX0 X.prog X.w X.K X.mg X.base Ng x sg g cdg X.A X.stack s0 H C8.E0).tr pn xe) W →
      PE ((cxOf C8.CX0 X.prog X.w X.K X.mg X.base Ng x sg g cdg X.A X.stack s0 H C8.E0).tr pn xe) (.Call (.Name a p1) [] [] p2) (fun stZ HZ Q => stZ[0]? = some (some (.ref f)) ∧ HZ co = some (CodeO co q) ∧ ∃ E : XK, (∀ cls d H', E cls d H' → W cls d stZ H') ∧ tl E HZ Q)) →
    H co = some (CodeO co q) → TT tl H Q →
    ∃ t, PSs (cxOf C8.CX0 X.prog X.w X.K X.mg X.base Ng x sg g cdg X.A X.stack s0 H C8.E0).nox bg t ∧ t { nx := fun _ H' => Q .non H', rt := Q } (L2.start Ng [.ref f]) H
def LamHG (P : Program) (w : World) (K : PySem.W.Frag) (mg : Str → Option Value) (base : Heap) (x : Str) (TT : (XK → Hp → VK → Prop) → Hp → VK → Prop) : Prop :=
  ∃ (a : Str) (g : Addr) (fd : FuncData) (pg : Arguments) (bg : List Stmt) (sg : Scope) (Ng : List Str), mg x = some (.ref g) ∧ FunD K x x pg bg sg [] [] g fd ∧ L2.Binds K fd [a] [] ∧ FnScope Ng [a] sg ∧ Ng[0]? = some a ∧ Vis sg a ∧ (a == ("__debug__" : Str)) = false ∧ (a == ("__classdict__" : Str)) = false ∧
    ∀ (X : Cx) (cdv : Value), X.prog = P → X.w = w → X.K = K → X.mg = mg → X.base = base → GivesG X Ng x sg g cdv bg a TT
section
variable {X : Cx}
theorem pe_lamG {T : List (Addr × Str)} {TT : (XK → Hp → VK → Prop) → Hp → VK → Prop} {x : Str} {c P : Addr} {k : Nat} {params : Arguments} {body : Expr} {scope : Scope} {t : XK → TE} {p lpos pos : Pos} (hgd : X.A.guards = some []) (h : LamHG X.prog X.w X.K X.mg X.base x TT)
    (TB : TabB X.base X.mg c P) (hcode : X.env.code = .ref c) (hmT : (P, X.env.qual ++ "<lambda>") ∈ T) (hu : ∀ p ∈ T, p.1 = P → p.2 = X.env.qual ++ "<lambda>") (hr : Room (k + 2) X.A) (L : LamS X.env.scope scope)
    (hbody : ∀ (A : Around) (outer : List Env) (s : Shared) (H : Hp) (E1 : XK) (f co : Addr), Room k (A.deeper (lamEnv X scope s.heap.objs.size f co)) → PE (lamCx X A outer s H E1 scope f co) body (t E1)) (hg : Gl X x := by rfl)
    (hdef : defaultsOf params X.env = ([], []) := by rfl) (hbind : ∀ (q : Str) (cl : List (Str × Addr)) (pm cv ctv : Value), bindArgs (PySem.W.kla_fn "<lambda>" q params body scope cl pm cv ctv) ⟨[], []⟩ = pure [] := by intros; rfl) (hdb : (x == ("__debug__" : Str)) = false := by decide) :
    PE X (.Call (.Name x p) [.Lambda params body scope lpos] [] pos) (tLam T TT t) := by
  obtain ⟨a, g, fd, pg, bg, sg, Ng, hm, F, hb, Sg, hNg, hva, hd, hcd, hG⟩ := h
  obtain ⟨oc, od, dV, kV, doc, pm, an, cdv, ct, osl, efd, lk, hcg, -, -⟩ := F.ex
  subst efd
  refine ⟨fun pins s0 st0 H Q I hz => ?_⟩
  obtain ⟨hT, hz⟩ := hz
  refine wpAny_Call_Name_kw (ld_glob I hg hm ?_ hdb)
  refine PySem.W.callWith_K (h₀ := X.base) I.ok.mod.kin F.kp ?_ (by rfl) (by rfl)
  show wpAny _ _ (spliced ((false, eval (.Lambda params body scope lpos) X.env) :: backTo pos (starEach [] X.env))) _ _ s0
  refine Calls.spliced_cons (lam_make2 I TB hcode hmT hu hT hdef (L.has I.ok) fun f co pm1 ctv H1 s1 I1 eN T1 hf hfn hfr hco => ?_)
  refine Calls.spliced_nil ⟨I1.kIn, ?_⟩
  have rc : codeAny (model X.prog X.w) X.A (.call (.ref g) ⟨[.ref f], []⟩) (CR C8.CX0 X.stack X.prog X.w H1 s1 Q C8.E0) s1 := by
    refine run_ofS (N := Ng) (ps := [a]) (us := [.ref f]) (vs := [.ref f]) lk hcg Sg hr I1.env0 (hb s1 [.ref f] I1.kIn rfl) (.cons rfl .nil) rfl fun hr1 => ?_
    obtain ⟨t1, ht1, hq1⟩ := hG X cdv rfl rfl rfl rfl rfl (X.env.qual ++ "<lambda>") f co s1 H1 Q (fun E1 H2 Q2 => t E1 st0 H2 Q2) (by rw [grd_deeper]; exact hgd) (hr1.mono (by omega)) (fun W pn xe p1 p2 tk => KrL.act_at (i := 0) I1 L hf hfn hfr (hbind _ _ _ _ _) tk hr1 (fun A outer s H E1 hr2 => hbody A outer s H E1 f co hr2) hNg hva hd hcd) hco (hz H1 eN T1)
    exact ⟨t1, ht1.nox, hq1⟩
  refine wpAny_call (codeAny_mono rc fun r s2 hq => ?_)
  cases r with
  | error e => exact (show False from hq).elim
  | ok fl =>
    cases fl with
    | ret u => exact I1.after hq
    | next => exact False.elim hq
    | brk => exact False.elim hq
    | cont => exact False.elim hq
end
/-! ### repr -/
mutual
/-- what a value in memory tells: nothing, a truth value, a number, a text, a list, a tuple, an empty dict -/
inductive Dr (H : Hp) : V → PyData → Prop
  | non : Dr H .non .none
  | bl (b : Bool) : Dr H (.bl b) (.bool b)
  | int (i : Int) : Dr H (.int i) (.int i)
  | str (x : Str) : Dr H (.str x) (.str x)
  | lst {a : Addr} {xs : List V} {ds : List PyData} : H a = some (.lst xs) → DrAll H xs ds → Dr H (.ref a) (.list ds)
  | tup {a : Addr} {xs : List V} {ds : List PyData} : H a = some (.tup xs) → DrAll H xs ds → Dr H (.ref a) (.tuple ds)
  | dct {a : Addr} : H a = some (.dK []) → Dr H (.ref a) (.dict [])
inductive DrAll (H : Hp) : List V → List PyData → Prop
  | nil : DrAll H [] []
  | cons {v : V} {vs : List V} {d : PyData} {ds : List PyData} : Dr H v d → DrAll H vs ds → DrAll H (v :: vs) (d :: ds)
end
mutual
theorem Dr.xn {H H1 : Hp} (x : ExtN H H1) : ∀ {v : V} {d : PyData}, Dr H v d → Dr H1 v d
  | _, _, .non => .non
  | _, _, .bl b => .bl b
  | _, _, .int i => .int i
  | _, _, .str y => .str y
  | _, _, .lst h a => .lst (x _ _ h (fun _ z => by cases z)) (DrAll.xn x a)
  | _, _, .tup h a => .tup (x _ _ h (fun _ z => by cases z)) (DrAll.xn x a)
  | _, _, .dct h => .dct (x _ _ h (fun _ z => by cases z))
theorem DrAll.xn {H H1 : Hp} (x : ExtN H H1) : ∀ {vs : List V} {ds : List PyData}, DrAll H vs ds → DrAll H1 vs ds
  | _, _, .nil => .nil
  | _, _, .cons h a => .cons (Dr.xn x h) (DrAll.xn x a)
end
section
variable {X : Cx} {pins : List (Addr × Obj)} {σ : L2.St} {H : Hp} {s : Shared}
mutual
theorem Dr.reads (I : Inv X pins σ H s) (hno : ∀ o, H sysModules ≠ some o) : ∀ (d : PyData) (v : V) (u : Value), Dr H v d → RelV v u → ∃ as, Reads s.heap u d as ∧ sysModules ∉ as
  | .none, _, _, h, r => by
    cases h
    cases r
    exact ⟨_, Reads.none, by simp⟩
  | .bool b, _, _, h, r => by
    cases h
    cases r
    exact ⟨_, Reads.bool b, by simp⟩
  | .int i, _, _, h, r => by
    cases h
    obtain ⟨t, rfl⟩ := r
    exact ⟨_, Reads.int i t, by simp⟩
  | .str x, _, _, h, r => by
    cases h
    obtain ⟨t, rfl⟩ := r
    exact ⟨_, Reads.str x t, by simp⟩
  | .list ds, _, _, h, r => by
    cases h with
    | @lst a xs _ hs ha =>
      cases r
      obtain ⟨-, its, n, rv, ho⟩ : ObjOk X.prog X.w H s.heap a (.lst xs) := I.hok a _ hs
      obtain ⟨as, hr, hn⟩ := Dr.readsAll I hno ds _ its ha rv
      refine ⟨_, Reads.list ho rfl rfl (by simpa using hr), fun hm => ?_⟩
      rcases List.mem_cons.mp hm with e | hm
      · exact hno _ (by rw [e]; exact hs)
      · exact hn hm
  | .tuple ds, _, _, h, r => by
    cases h with
    | tup hs ha =>
      cases r
      obtain ⟨its, rv, ⟨o, ho, hc, n, hd⟩, _⟩ := I.tuple (SqT.of hs)
      obtain ⟨as, hr, hn⟩ := Dr.readsAll I hno ds _ its ha rv
      exact ⟨_, Reads.tuple ho hc hd (by simpa using hr), hn⟩
  | .dict kvs, _, _, h, r => by
    cases h with
    | @dct a hs =>
      cases r
      obtain ⟨-, hsm, vs, kv, o, es, ep, ho, ex, hd, -, hp, -⟩ : ObjOk X.prog X.w H s.heap a (.dK []) := I.hok a _ hs
      cases kv
      have e0 : es.toList = [] := by
        cases q : es.toList with
        | nil => rfl
        | cons x l =>
          rw [q] at hp
          cases hp
      refine ⟨_, Reads.dict (as := []) (bs := []) ho ex.1 hd (by rw [e0]; exact .nil) (by rw [e0]; exact .nil), fun hm => ?_⟩
      rcases List.mem_append.mp hm with hm | hm
      · rcases List.mem_cons.mp hm with e | hm
        · rw [← e] at hsm
          simp at hsm
        · cases hm
      · cases hm
theorem Dr.readsAll (I : Inv X pins σ H s) (hno : ∀ o, H sysModules ≠ some o) : ∀ (ds : List PyData) (vs : List V) (us : List Value), DrAll H vs ds → Vals vs us → ∃ as, ReadsAll s.heap us ds as ∧ sysModules ∉ as
  | [], _, _, h, r => by
    cases h
    cases r
    exact ⟨_, ReadsAll.nil, by simp⟩
  | d :: ds, _, _, h, r => by
    cases h with
    | cons h1 h2 =>
      cases r with
      | cons r1 r2 =>
        obtain ⟨as, q1, n1⟩ := Dr.reads I hno d _ _ h1 r1
        obtain ⟨bs, q2, n2⟩ := Dr.readsAll I hno ds _ _ h2 r2
        exact ⟨_, ReadsAll.cons q1 q2, fun hm => (List.mem_append.mp hm).elim n1 n2⟩
end
end
/-- repr(x) -/
def rRep : List V → Hp → VK → Prop := fun xs H Q => ∃ v d, xs = [v] ∧ Dr H v d ∧ d.showable = true ∧ d.depth ≤ 50 ∧ d.shown.length ≤ sizeLine ∧ Q (.str d.shown) H
theorem c_repr {X : Cx} (hgd : X.A.guards = some []) (hu : X.A.units + 64 < cLine) (hk : (X.K.lookup sysModules).isSome = true) : CallR X (.builtin "repr") rRep := by
  intro pins s0 st0 H xs us Q I r h
  obtain ⟨v, d, rfl, hd, hs, hdp, hz, q⟩ := h
  obtain ⟨u, rfl, ru⟩ := vals1 r
  have hno : ∀ o, H sysModules ≠ some o := fun o e => by
    obtain ⟨o2, e2⟩ := Option.isSome_iff_exists.mp hk
    have := (I.bs _ _ (I.mod.kin _ _ e2)).2
    rw [e] at this
    cases this
  cases v with
  | non =>
    obtain rfl : u = Value.none := ru
    cases hd
    exact PySem.P.repr_of_none ⟨.str _, H, I.tok _, ⟨_, rfl⟩, q⟩
  | bl b =>
    obtain rfl : u = Value.bool b := ru
    cases hd
    exact PySem.P.repr_of_bool ⟨.str _, H, I.tok _, ⟨_, rfl⟩, by cases b <;> exact q⟩
  | int i =>
    obtain ⟨t, rfl⟩ := ru
    cases hd
    exact PySem.P.repr_of_int (of_decide_eq_true hs) ⟨.str _, H, I.tok _, ⟨_, rfl⟩, q⟩
  | str x =>
    obtain ⟨t, rfl⟩ := ru
    cases hd
    exact PySem.P.repr_of_str ⟨.str _, H, I.tok _, ⟨_, rfl⟩, q⟩ hz
  | ref a =>
    obtain rfl : u = Value.ref a := ru
    obtain ⟨as, hr, hn⟩ := Dr.reads I hno d (.ref a) (.ref a) hd rfl
    refine repr_of_reads' hr hs (fun _ => hn) hgd (by omega) (fun _ _ e => e) (fun h' u tk keep => ?_) hz
    exact ⟨.str d.shown, H, I.kept keep, ⟨_, rfl⟩, q⟩
  | _ => cases hd
theorem r_rep {H : Hp} {Q : VK} {v : V} {d : PyData} (hd : Dr H v d) (hs : d.showable = true) (hp : d.depth ≤ 50) (hz : d.shown.length ≤ sizeLine) (q : Q (.str d.shown) H) : rRep [v] H Q := ⟨v, d, rfl, hd, hs, hp, hz, q⟩
/-! ### the head's facts, sys.modules among what is written -/
def frS (n : Nat) (g : Addr → Option Obj) : PySem.W.Frag := He.frT g (sysModules :: He.asD g n)
def obsS (n : Nat) (fa : List He.Fa) (fn : List He.DefD) (tf : List He.Defn) (ex : PySem.W.Frag → Bool) (g : Addr → Option Obj) : He.AlX := (He.obsT fa fn [] (frS n g), ex (frS n g) && He.tabsB g tf (frS n g))
theorem saysS {n : Nat} {fa : List He.Fa} {fn : List He.DefD} {tf : List He.Defn} {ex : PySem.W.Frag → Bool} {w : World} {h : Heap} (e : obsS n fa fn tf ex h.get? = He.valX fn [] w) : He.SaysX fa fn [] tf ex w h (frS n h.get?) := by
  obtain ⟨e1, e2⟩ := Prod.mk.inj e
  obtain ⟨h1, h2⟩ := Bool.and_eq_true_iff.mp e2
  have key : ∀ p ∈ tf, PySem.W.codeHdIn (frS n h.get?) (He.cT (frS n h.get?) p).1 (He.cT (frS n h.get?) p).2 = true ∧ ∃ o, h.get? (He.cT (frS n h.get?) p).2 = some o ∧ He.emptyTab o = true := fun p hp => by
    obtain ⟨h3, h4⟩ := Bool.and_eq_true_iff.mp (List.all_eq_true.mp h2 p hp)
    refine ⟨h3, ?_⟩
    cases q : h.get? (He.cT (frS n h.get?) p).2 with
    | none =>
      rw [q] at h4
      cases h4
    | some o =>
      rw [q] at h4
      exact ⟨o, rfl, h4⟩
  refine ⟨e1, h1, fun p hp => (key p hp).1, fun p hp => ?_, fun p hp => ?_⟩
  · obtain ⟨-, o, q, z⟩ := key p hp
    exact He.frT_none q z
  · obtain ⟨-, o, q, z⟩ := key p hp
    rw [q, He.emptyTab_eq z]
def hookS (n : Nat) (fa : List He.Fa) (fn : List He.DefD) (tf : List He.Defn) (ex : PySem.W.Frag → Bool) : PySem.W.Hook where
  α := He.AlX
  obs := fun s => obsS n fa fn tf ex s.heap.get?
  val := fun w => He.valX fn [] w
  says := fun w h => ∃ K : PySem.W.Frag, K.In h ∧ He.SaysX fa fn [] tf ex w h K
  of := fun _ _ e => ⟨_, He.frT_in, saysS e⟩
  keeps := fun _ _ _ ⟨K, hK, c⟩ k => ⟨K, PySem.W.Frag.In.keeps hK k, ⟨c.t, c.more, c.hd, c.out, fun p hp => k _ _ (c.empty p hp)⟩⟩
theorem obsS_eq {n : Nat} {fa : List He.Fa} {fn : List He.DefD} {tf : List He.Defn} {ex : PySem.W.Frag → Bool} {g : Addr → Option Obj} {s : Shared} (h : ∀ a, g a = s.heap.get? a) : obsS n fa fn tf ex g = (hookS n fa fn tf ex).obs s := by
  have e : g = s.heap.get? := funext h
  rw [e] <;> rfl
/-! ### the end of a law whose defs are of this kind -/
section
variable {P : Program} {w : World} {K : PySem.W.Frag} {mg mb : Str → Option Value} {k : Nat} {fa a : Addr} {cs : List (Addr × Addr)} {fd : FuncData} {x : Str} {sp : Sp} {s1 : Shared} {vs : List Value} {ns : List Int}
/-- what is told of memory at the law's call: the tables, and the script where the written part has it not -/
noncomputable def Hp0 (K : PySem.W.Frag) (cs : List (Addr × Addr)) (a : Addr) (o : Obj) (ns : List Int) : Hp := fun b => by
  classical
  exact if b ∈ cs.map (·.2) then some (.tbl #[]) else if b = a ∧ K.lookup a = none then some (.frz o (.lst (ns.map V.int))) else none
theorem hp0_tab {o : Obj} {b : Addr} (h : b ∈ cs.map (·.2)) : Hp0 K cs a o ns b = some (.tbl #[]) := by
  unfold Hp0
  rw [if_pos h]
theorem hp0_cases {o : Obj} {b : Addr} {u : HO} (e : Hp0 K cs a o ns b = some u) : (b ∈ cs.map (·.2) ∧ u = .tbl #[]) ∨ (b ∉ cs.map (·.2) ∧ b = a ∧ K.lookup a = none ∧ u = .frz o (.lst (ns.map V.int))) := by
  unfold Hp0 at e
  split at e
  · rename_i h
    exact .inl ⟨h, (Option.some.inj e).symm⟩
  · rename_i h
    split at e
    · rename_i h2
      exact .inr ⟨h, h2.1, h2.2, (Option.some.inj e).symm⟩
    · cases e
theorem lawG (KX : K.In s1.heap) (hns : s1.heap.Ns mainGlobals mg) (hb : s1.heap.Ns builtinsNs mb) (hbb : ∀ y : Str, y ≠ "__name__" → mb y = bootBuiltins y) (hlim : s1.heap.NoLimit) (hg : s1.gens = #[])
    (hT : ∀ p ∈ cs, s1.heap.get? p.2 = some { cls := .none, data := .fields #[] }) (nT : ∀ p ∈ cs, K.lookup p.2 = none) (C : ∀ p ∈ cs, PySem.W.CodeHd s1.heap p.1 p.2)
    (hbm : ∃ (bm : Addr) (ob : Obj), mg "__builtins__" = some (.ref bm) ∧ bm ≠ builtinsNs ∧ s1.heap.get? bm = some ob ∧ ob.cls = .type "module" ∧ ob.dict = some builtinsNs ∧ ob.data = .plain)
    (ha : s1.heap.get? a = some { cls := .type "list", data := .seq vs.toArray }) (hi : IntsAre vs ns) (hl : ns.length ≤ sizeLine) (hr : Room k callerA)
    (F : ∀ base : Heap, K.In base → base.Ns mainGlobals mg → (∀ p ∈ cs, TabB base mg p.1 p.2) → FnOkG P w K mg base C8.CX0 k fa fd [x] sp) (hbind : ∀ (s : Shared) (u : Value), BindsTo s fd ⟨[u], []⟩ [(x, u)])
    (hsp : ∀ H : Hp, (∀ p ∈ cs, H p.2 = some (.tbl #[])) → SqL K H a (ns.map V.int) → sp [.ref a] H (fun v _ => v = .bl true) fun _ _ _ => False) :
    codeAny (model P w) callerA (.call (.ref fa) ⟨[.ref a], []⟩) (fun r s2 => r = .ok (.ret (.bool true)) ∧ OldK s1.heap s2.heap ∧ s2.os = s1.os ∧ AllBare s2.gens) s1 := by
  have rv := vals_ints hi
  have hlv := hi.length
  have tabAt : ∀ b ∈ cs.map (·.2), s1.heap.get? b = some { cls := .none, data := .fields #[] } := fun b hm => by
    obtain ⟨p, hp, rfl⟩ := List.mem_map.mp hm
    exact hT p hp
  generalize hO : ({ cls := .type "list", data := .seq vs.toArray } : Obj) = oa at ha
  have hdat : oa.data = .seq vs.toArray := by rw [← hO]
  have aT : a ∉ cs.map (·.2) := fun z => by
    have q := (tabAt a z).symm.trans ha
    rw [← hO] at q
    cases q
  have lstOk : ∀ H : Hp, ObjOk P w H s1.heap a (.lst (ns.map V.int)) := fun H => ⟨by rw [List.length_map]; exact hl, vs, _, rv, by rw [hO]; exact ha⟩
  -- the told memory
  obtain ⟨H, hH⟩ : ∃ H, H = Hp0 K cs a oa ns := ⟨_, rfl⟩
  have hc : ∀ {b u}, H b = some u → (b ∈ cs.map (·.2) ∧ u = .tbl #[]) ∨ (b ∉ cs.map (·.2) ∧ b = a ∧ K.lookup a = none ∧ u = .frz oa (.lst (ns.map V.int))) := fun {b u} e => by
    rw [hH] at e
    exact hp0_cases e
  have ht : ∀ p ∈ cs, H p.2 = some (.tbl #[]) := fun p hp => by
    rw [hH]
    exact hp0_tab (List.mem_map.mpr ⟨p, hp, rfl⟩)
  have hS : SqL K H a (ns.map V.int) := by
    cases q : K.lookup a with
    | some o2 =>
      have e := (KX a o2 q).symm.trans ha
      cases e
      exact .inr ⟨_, vs.toArray, _, q, by rw [← hO], by rw [← hO], by rw [← hO], by rw [List.size_toArray, hlv]; exact hl, by simpa using rv⟩
    | none =>
      refine .inl (.inr ⟨oa, ?_⟩)
      rw [hH]
      unfold Hp0
      rw [if_neg aT, if_pos ⟨rfl, q⟩]
  have hok : HOk P w H s1.heap := fun b u e => by
    rcases hc e with ⟨hb1, rfl⟩ | ⟨-, rfl, -, rfl⟩
    · exact tabAt b hb1
    · exact ⟨ha, lstOk H⟩
  have off : ∀ {b : Addr} {o : Obj}, s1.heap.get? b = some o → o.data ≠ .fields #[] → o.data ≠ .seq vs.toArray → H b = none := fun {b o} e n1 n2 => by
    cases q : H b with
    | none => rfl
    | some u =>
      exfalso
      rcases hc q with ⟨hb1, -⟩ | ⟨-, rfl, -, -⟩
      · exact n1 (by rw [Option.some.inj (e.symm.trans (tabAt b hb1))])
      · exact n2 (by rw [Option.some.inj (e.symm.trans ha)]; exact hdat)
  have keepNs : ∀ {b : Addr} {m : Str → Option Value}, s1.heap.Ns b m → (hidT s1.heap H).Ns b m := fun {b m} ⟨o, es, ep, e, hd, rest⟩ =>
    ⟨o, es, ep, hidT_get e (off e (by rw [hd]; intro z; cases z) (by rw [hd]; intro z; cases z)), hd, rest⟩
  have hKb : K.In (hidT s1.heap H) := fun b o e => hidT_get (KX b o e) (by
    cases q : H b with
    | none => rfl
    | some u =>
      exfalso
      rcases hc q with ⟨hb1, -⟩ | ⟨-, rfl, n, -⟩
      · obtain ⟨p, hp, rfl⟩ := List.mem_map.mp hb1
        rw [nT p hp] at e
        cases e
      · rw [n] at e
        cases e)
  have hM : L2.Mod K mg (hidT s1.heap H) := ⟨hKb, keepNs hns, ⟨mb, keepNs hb, hbb⟩, by obtain ⟨mc, m1, m2⟩ := hlim; exact ⟨mc, keepNs m1, m2⟩⟩
  have notDict : ∀ {b : Addr} {m : Str → Option Value} {o : Obj}, s1.heap.Ns b m → s1.heap.get? b = some o → ∃ es ep, o.data = .dict es ep := fun {b m o} ⟨o2, es, ep, e, hd, _⟩ e2 => by
    cases e.symm.trans e2
    exact ⟨es, ep, hd⟩
  have TB : ∀ p ∈ cs, TabB (hidT s1.heap H) mg p.1 p.2 := fun p hp => by
    refine ⟨?_, ?_, fun z => ?_⟩
    · obtain ⟨o, us, file, tf, flags, tg, inF, text, tt, e1, r1, r2, r3, rest⟩ := C p hp
      refine ⟨o, us, file, tf, flags, tg, inF, text, tt, hidT_get e1 (off e1 (fun z => ?_) fun z => ?_), r1, r2, r3, rest⟩
      · rw [r2] at z
        cases z
        simp at r3
      · rw [r2] at z
        cases z
    · obtain ⟨bm, ob, b1, b2, b3, b4, b5, b6⟩ := hbm
      refine ⟨bm, ob, b1, b2, fun q => ?_, fun q => ?_, hidT_get b3 (off b3 (by rw [b6]; intro z; cases z) (by rw [b6]; intro z; cases z)), b4, b5, b6⟩
      · rw [q] at b3
        obtain ⟨es, ep, hd⟩ := notDict hns b3
        rw [b6] at hd
        cases hd
      · rw [q, hT p hp] at b3
        cases b3
        cases b6
    · obtain ⟨es, ep, hd⟩ := notDict hns (by rw [z]; exact hT p hp)
      cases hd
  have e0 : Env0 P w K mg (hidT s1.heap H) callerA [] s1 H := ⟨rfl, hM, fun b o e => of_hidT e, Nat.le_of_eq (hidT_size _ _), trivial, fun b z => absurd (show b ∈ ([] : List Addr) from z) (by simp), hok, .of_eq hg⟩
  refine codeAny_mono ((F _ hKb (keepNs hns) TB).go callerA [] s1 H ⟨[.ref a], []⟩ [.ref a] [.ref a] _ _ rfl hr e0 (hbind s1 (.ref a)) (.cons rfl .nil) (hsp H ht hS)) fun r s2 hq => ?_
  cases r with
  | error e => exact (show False from hq).elim
  | ok fl =>
    cases fl with
    | next => exact False.elim hq
    | brk => exact False.elim hq
    | cont => exact False.elim hq
    | ret u =>
      obtain ⟨v, H2, os, bare, un, hok2, rv2, ev⟩ := hq
      have ev2 : v = .bl true := ev
      subst ev2
      obtain rfl : u = Value.bool true := rv2
      have stays : ∀ b o, b ∉ cs.map (·.2) → s1.heap.get? b = some o → s2.heap.get? b = some o := fun b o nb e => by
        cases q : H b with
        | none => exact un.keep b o e q (by intro z; exact absurd (show b ∈ ([] : List Addr) from z) (by simp)) (by simp)
        | some u =>
          rcases hc q with ⟨hb1, -⟩ | ⟨-, rfl, -, rfl⟩
          · exact absurd hb1 nb
          · obtain ⟨e2, -⟩ := hok2 b _ (un.frzs b oa _ q)
            rw [← Option.some.inj (e.symm.trans ha)] at e2
            exact e2
      have grows : ∀ p ∈ cs, ∃ more : Array Value, s2.heap.get? p.2 = some { cls := .none, data := .fields more } := fun p hp => by
        obtain ⟨more, z⟩ := un.tbls p.2 #[] (ht p hp)
        exact ⟨_, hok2 p.2 _ z⟩
      refine ⟨rfl, ⟨fun b o e => ?_, fun b o e => ?_⟩, os, bare⟩
      · by_cases hb1 : b ∈ cs.map (·.2)
        · obtain ⟨p, hp, rfl⟩ := List.mem_map.mp hb1
          obtain ⟨more, hm⟩ := grows p hp
          cases (hT p hp).symm.trans e
          exact .inr (.inl ⟨((C p hp).tab (hT p hp)).isCodeTable, rfl, #[], more, rfl, by rw [Array.empty_append]; exact hm⟩)
        · exact .inl (stays b o hb1 e)
      · by_cases hb1 : b ∈ cs.map (·.2)
        · obtain ⟨p, hp, rfl⟩ := List.mem_map.mp hb1
          obtain ⟨more, hm⟩ := grows p hp
          exact ⟨_, hm⟩
        · exact ⟨o, stays b o hb1 e⟩
end
theorem walkG {l : PySem.W.OpenLaw} {n k : Nat} {q : Program} {loose : List Str} {XP : (Str → Option Value) → Heap → Prop} {YP : World → Heap → Prop} {d : DefRec} {x : Str} (hn : l.most = some n) (hn2 : n ≤ sizeLine) (hdf : d.params.defaults = []) (hr : Room k callerA)
    (F : ∀ (w : World) (mg : Str → Option Value) (fa : Addr) (h : Heap), YP w h → h.Ns mainGlobals mg → mg d.name = some (.ref fa) → ∃ (K : PySem.W.Frag) (fd : FuncData) (cs : List (Addr × Addr)) (sp : Sp), K.In h ∧
      (∀ p ∈ cs, h.get? p.2 = some { cls := .none, data := .fields #[] }) ∧ (∀ p ∈ cs, K.lookup p.2 = none) ∧ (∀ p ∈ cs, PySem.W.CodeHd h p.1 p.2) ∧ (∀ (s : Shared) (u : Value), BindsTo s fd ⟨[u], []⟩ [(x, u)]) ∧
      (∀ (H : Hp) (a : Addr) (ns : List Int), ns.length ≤ n → (∀ p ∈ cs, H p.2 = some (.tbl #[])) → SqL K H a (ns.map V.int) → sp [.ref a] H (fun v _ => v = .bl true) fun _ _ _ => False) ∧
      ∀ base : Heap, K.In base → base.Ns mainGlobals mg → (∀ p ∈ cs, TabB base mg p.1 p.2) → FnOkG l.prog w K mg base C8.CX0 k fa fd [x] sp) :
    PySem.W.WalkO q loose XP YP l.row.toRowW d [] (fun f vs => PySem.call f vs) := by
  refine Att.attach_callB hn hdf fun w s0 s1 mg mb fa o pm cd doc a vs ns G Y ho hd hcd hmg hobj hints hlen hbits hgn => ?_
  obtain ⟨K, fd, cs, sp, KX, c1, c2, c3, c4, c5, c6⟩ := F w mg fa _ Y G.T.g hmg
  exact lawG KX G.T.g G.T.b G.T.builtins G.T.nolimit hgn c1 c2 c3 G.T.bmain hobj hints (Nat.le_trans hlen hn2) hr c6 c4 fun H h1 h2 => c5 H a ns hlen h1 h2
end KrG

namespace Kw
open Kr L2 PySem PySem.Spec PyProof.Rows
def top (i : Nat) : Stmt := PySem.Challenge.pw_keeprows_k22_what_is_no_turn.main.body.getD i (.Pass ⟨0, 0, 0, 0⟩)
abbrev s_InvalidArgument___init__ : Stmt := inClass (top 3) 0
abbrev N_InvalidArgument___init__ : List Str := ["self", "part"]
theorem st_InvalidArgument___init__ (v0 v1 : V) : L2.start N_InvalidArgument___init__ [v0, v1] = [some v0, some v1] := rfl
theorem sc_InvalidArgument___init__ : FnScope N_InvalidArgument___init__ ["self", "part"] (defScope s_InvalidArgument___init__) := ⟨rfl, rfl, rfl, by decide +kernel, rfl, by decide +kernel, by decide +kernel⟩
abbrev s_is_from : Stmt := top 5
abbrev N_is_from : List Str := ["number", "least"]
theorem st_is_from (v0 v1 : V) : L2.start N_is_from [v0, v1] = [some v0, some v1] := rfl
theorem sc_is_from : FnScope N_is_from ["number", "least"] (defScope s_is_from) := ⟨rfl, rfl, rfl, by decide +kernel, rfl, by decide +kernel, by decide +kernel⟩
abbrev s_is_place : Stmt := top 7
abbrev N_is_place : List Str := ["place", "where", "number"]
theorem st_is_place (v0 : V) : L2.start N_is_place [v0] = [some v0, none, none] := rfl
theorem sc_is_place : FnScope N_is_place ["place"] (defScope s_is_place) := ⟨rfl, rfl, rfl, by decide +kernel, rfl, by decide +kernel, by decide +kernel⟩
abbrev s_are_places : Stmt := top 8
abbrev N_are_places : List Str := ["places", "place"]
theorem st_are_places (v0 : V) : L2.start N_are_places [v0] = [some v0, none] := rfl
theorem sc_are_places : FnScope N_are_places ["places"] (defScope s_are_places) := ⟨rfl, rfl, rfl, by decide +kernel, rfl, by decide +kernel, by decide +kernel⟩
abbrev s_are_once : Stmt := top 9
abbrev N_are_once : List Str := ["places", "fresh", "used", "listed", "where", "number"]
theorem st_are_once (v0 v1 : V) : L2.start N_are_once [v0, v1] = [some v0, some v1, none, none, none, none] := rfl
theorem sc_are_once : FnScope N_are_once ["places", "fresh"] (defScope s_are_once) := ⟨rfl, rfl, rfl, by decide +kernel, rfl, by decide +kernel, by decide +kernel⟩
abbrev s_Turn___init__ : Stmt := inClass (top 10) 0
abbrev N_Turn___init__ : List Str := ["self", "used", "front", "fresh", "many", "number", "place"]
theorem st_Turn___init__ (v0 v1 v2 v3 : V) : L2.start N_Turn___init__ [v0, v1, v2, v3] = [some v0, some v1, some v2, some v3, none, none, none] := rfl
theorem sc_Turn___init__ : FnScope N_Turn___init__ ["self", "used", "front", "fresh"] (defScope s_Turn___init__) := ⟨rfl, rfl, rfl, by decide +kernel, rfl, by decide +kernel, by decide +kernel⟩
abbrev s_Turn___eq__ : Stmt := inClass (top 10) 1
abbrev N_Turn___eq__ : List Str := ["self", "other"]
theorem st_Turn___eq__ (v0 v1 : V) : L2.start N_Turn___eq__ [v0, v1] = [some v0, some v1] := rfl
theorem sc_Turn___eq__ : FnScope N_Turn___eq__ ["self", "other"] (defScope s_Turn___eq__) := ⟨rfl, rfl, rfl, by decide +kernel, rfl, by decide +kernel, by decide +kernel⟩
abbrev s_Turn_used : Stmt := inClass (top 10) 2
abbrev N_Turn_used : List Str := ["self"]
theorem st_Turn_used (v0 : V) : L2.start N_Turn_used [v0] = [some v0] := rfl
theorem sc_Turn_used : FnScope N_Turn_used ["self"] (defScope s_Turn_used) := ⟨rfl, rfl, rfl, by decide +kernel, rfl, by decide +kernel, by decide +kernel⟩
abbrev s_Turn_front : Stmt := inClass (top 10) 3
abbrev N_Turn_front : List Str := ["self"]
theorem st_Turn_front (v0 : V) : L2.start N_Turn_front [v0] = [some v0] := rfl
theorem sc_Turn_front : FnScope N_Turn_front ["self"] (defScope s_Turn_front) := ⟨rfl, rfl, rfl, by decide +kernel, rfl, by decide +kernel, by decide +kernel⟩
abbrev s_Turn_fresh : Stmt := inClass (top 10) 4
abbrev N_Turn_fresh : List Str := ["self"]
theorem st_Turn_fresh (v0 : V) : L2.start N_Turn_fresh [v0] = [some v0] := rfl
theorem sc_Turn_fresh : FnScope N_Turn_fresh ["self"] (defScope s_Turn_fresh) := ⟨rfl, rfl, rfl, by decide +kernel, rfl, by decide +kernel, by decide +kernel⟩
abbrev s_Turn_ahead : Stmt := inClass (top 10) 5
abbrev N_Turn_ahead : List Str := ["self"]
theorem st_Turn_ahead (v0 : V) : L2.start N_Turn_ahead [v0] = [some v0] := rfl
theorem sc_Turn_ahead : FnScope N_Turn_ahead ["self"] (defScope s_Turn_ahead) := ⟨rfl, rfl, rfl, by decide +kernel, rfl, by decide +kernel, by decide +kernel⟩
abbrev s_Turn_behind : Stmt := inClass (top 10) 6
abbrev N_Turn_behind : List Str := ["self"]
theorem st_Turn_behind (v0 : V) : L2.start N_Turn_behind [v0] = [some v0] := rfl
theorem sc_Turn_behind : FnScope N_Turn_behind ["self"] (defScope s_Turn_behind) := ⟨rfl, rfl, rfl, by decide +kernel, rfl, by decide +kernel, by decide +kernel⟩
abbrev s__law_digits : Stmt := top 12
abbrev N__law_digits : List Str := ["cell", "many", "digits", "rest", "number", "k"]
theorem st__law_digits (v0 v1 : V) : L2.start N__law_digits [v0, v1] = [some v0, some v1, none, none, none, none] := rfl
theorem sc__law_digits : FnScope N__law_digits ["cell", "many"] (defScope s__law_digits) := ⟨rfl, rfl, rfl, by decide +kernel, rfl, by decide +kernel, by decide +kernel⟩
abbrev s__law_next : Stmt := top 13
abbrev N__law_next : List Str := ["source", "many"]
theorem st__law_next (v0 v1 : V) : L2.start N__law_next [v0, v1] = [some v0, some v1] := rfl
theorem sc__law_next : FnScope N__law_next ["source", "many"] (defScope s__law_next) := ⟨rfl, rfl, rfl, by decide +kernel, rfl, by decide +kernel, by decide +kernel⟩
abbrev s__law_mixed : Stmt := top 14
abbrev N__law_mixed : List Str := ["source", "some", "left", "found"]
theorem st__law_mixed (v0 v1 : V) : L2.start N__law_mixed [v0, v1] = [some v0, some v1, none, none] := rfl
theorem sc__law_mixed : FnScope N__law_mixed ["source", "some"] (defScope s__law_mixed) := ⟨rfl, rfl, rfl, by decide +kernel, rfl, by decide +kernel, by decide +kernel⟩
abbrev s__law_drawn : Stmt := top 15
abbrev N__law_drawn : List Str := ["source", "ahead", "fresh", "mixed", "many", "k"]
theorem st__law_drawn (v0 v1 : V) : L2.start N__law_drawn [v0, v1] = [some v0, some v1, none, none, none, none] := rfl
theorem sc__law_drawn : FnScope N__law_drawn ["source", "ahead"] (defScope s__law_drawn) := ⟨rfl, rfl, rfl, by decide +kernel, rfl, by decide +kernel, by decide +kernel⟩
abbrev s__law_part : Stmt := top 16
abbrev N__law_part : List Str := ["ask", "e"]
theorem st__law_part (v0 : V) : L2.start N__law_part [v0] = [some v0, none] := rfl
theorem sc__law_part : FnScope N__law_part ["ask"] (defScope s__law_part) := ⟨rfl, rfl, rfl, by decide +kernel, rfl, by decide +kernel, by decide +kernel⟩
abbrev s__law_odd_places : Stmt := top 17
abbrev N__law_odd_places : List Str := ["source", "row", "odd", "at", "some", "one"]
theorem st__law_odd_places (v0 v1 : V) : L2.start N__law_odd_places [v0, v1] = [some v0, some v1, none, none, none, none] := rfl
theorem sc__law_odd_places : FnScope N__law_odd_places ["source", "row"] (defScope s__law_odd_places) := ⟨rfl, rfl, rfl, by decide +kernel, rfl, by decide +kernel, by decide +kernel⟩
abbrev s__law_not_once : Stmt := top 18
abbrev N__law_not_once : List Str := ["source", "parts", "ahead", "used", "front", "fresh", "some", "more", "one"]
theorem st__law_not_once (v0 v1 v2 : V) : L2.start N__law_not_once [v0, v1, v2] = [some v0, some v1, some v2, none, none, none, none, none, none] := rfl
theorem sc__law_not_once : FnScope N__law_not_once ["source", "parts", "ahead"] (defScope s__law_not_once) := ⟨rfl, rfl, rfl, by decide +kernel, rfl, by decide +kernel, by decide +kernel⟩
abbrev s_are_once__r : Stmt := top 9
abbrev N_are_once__r : List Str := ["places", "fresh", "used", "listed", "where", "number"]
theorem st_are_once__r (v0 v1 : V) : L2.start N_are_once__r [v0, v1] = [some v0, some v1, none, none, none, none] := rfl
theorem sc_are_once__r : FnScope N_are_once__r ["places", "fresh"] (defScope s_are_once__r) := ⟨rfl, rfl, rfl, by decide +kernel, rfl, by decide +kernel, by decide +kernel⟩
abbrev s_is_from__r : Stmt := top 5
abbrev N_is_from__r : List Str := ["number", "least"]
theorem st_is_from__r (v0 v1 : V) : L2.start N_is_from__r [v0, v1] = [some v0, some v1] := rfl
theorem sc_is_from__r : FnScope N_is_from__r ["number", "least"] (defScope s_is_from__r) := ⟨rfl, rfl, rfl, by decide +kernel, rfl, by decide +kernel, by decide +kernel⟩
abbrev s_is_place__r : Stmt := top 7
abbrev N_is_place__r : List Str := ["place", "where", "number"]
theorem st_is_place__r (v0 : V) : L2.start N_is_place__r [v0] = [some v0, none, none] := rfl
theorem sc_is_place__r : FnScope N_is_place__r ["place"] (defScope s_is_place__r) := ⟨rfl, rfl, rfl, by decide +kernel, rfl, by decide +kernel, by decide +kernel⟩
abbrev s_are_places__r : Stmt := top 8
abbrev N_are_places__r : List Str := ["places", "place"]
theorem st_are_places__r (v0 : V) : L2.start N_are_places__r [v0] = [some v0, none] := rfl
theorem sc_are_places__r : FnScope N_are_places__r ["places"] (defScope s_are_places__r) := ⟨rfl, rfl, rfl, by decide +kernel, rfl, by decide +kernel, by decide +kernel⟩
abbrev s_Turn___init____r : Stmt := inClass (top 10) 0
abbrev N_Turn___init____r : List Str := ["self", "used", "front", "fresh", "many", "number", "place"]
theorem st_Turn___init____r (v0 v1 v2 v3 : V) : L2.start N_Turn___init____r [v0, v1, v2, v3] = [some v0, some v1, some v2, some v3, none, none, none] := rfl
theorem sc_Turn___init____r : FnScope N_Turn___init____r ["self", "used", "front", "fresh"] (defScope s_Turn___init____r) := ⟨rfl, rfl, rfl, by decide +kernel, rfl, by decide +kernel, by decide +kernel⟩
abbrev s__law_right : Stmt := top 19
abbrev N__law_right : List Str := ["source", "ahead", "parts", "fresh", "bad", "first", "second", "some", "kept", "used", "front", "number", "at"]
theorem st__law_right (v0 : V) : L2.start N__law_right [v0] = [some v0, none, none, none, none, none, none, none, none, none, none, none, none] := rfl
theorem sc__law_right : FnScope N__law_right ["source"] (defScope s__law_right) := ⟨rfl, rfl, rfl, by decide +kernel, rfl, by decide +kernel, by decide +kernel⟩
abbrev s_law : Stmt := top 20
abbrev N_law : List Str := ["script", "cell", "source", "turn"]
theorem st_law (v0 : V) : L2.start N_law [v0] = [some v0, none, none, none] := rfl
theorem sc_law : FnScope N_law ["script"] (defScope s_law) := ⟨rfl, rfl, rfl, by decide +kernel, rfl, by decide +kernel, by decide +kernel⟩
def Tb (K : PySem.W.Frag) : List (Addr × Str) := [((He.cT K ("_law_right", none)).2, (("_law_right" : Str) ++ ".<locals>.") ++ "<lambda>")]
theorem tbm__law_right (K : PySem.W.Frag) : ((He.cT K ("_law_right", none)).2, (("_law_right" : Str) ++ ".<locals>.") ++ "<lambda>") ∈ Tb K := List.mem_cons_self
theorem tb0 {K : PySem.W.Frag} {H : Hp} (h : ∀ p ∈ ([("_law_right", none)] : List He.Defn).map (He.cT K), H p.2 = some (.tbl #[])) : LamX.Tabs (Tb K) H := by
  intro p hp
  simp only [Tb, List.mem_cons, List.not_mem_nil, or_false] at hp
  rcases hp with rfl
  · exact LamX.TabS.nil (h _ (List.mem_map.mpr ⟨("_law_right", none), by simp, rfl⟩))
/-- a positive number of at most forty digits: what draws are limited by -/
def Lim (n : Int) : Prop := 0 < n ∧ n ≤ 10 ^ 40
theorem Lim.div {n : Int} (h : Lim n) : CDivW 0 n := wide_div (b := 200) h.1 (by have := h.1; have := h.2; omega) (by decide) (by decide)
theorem emod_lt {a n : Int} (h : 0 < n) : 0 ≤ a % n ∧ a % n < n := ⟨Int.emod_nonneg _ (by omega), Int.emod_lt_of_pos _ h⟩
theorem mod_fit {a n : Int} (h : 0 < n) (hn : n < 2 ^ 64) : -(2 ^ 64) < a % n ∧ a % n < 2 ^ 64 := by
  have := @emod_lt a n h
  omega
/-- what drawn parts of settings keep -/
structure PartsOk (ls : List Int) (room fo re ev ke : Int) : Prop where
  l1 : 1 ≤ ls.length
  l6 : ls.length ≤ 6
  all : ∀ l ∈ ls, 1 ≤ l ∧ l ≤ room
  r1 : 1 ≤ room
  r64 : room ≤ 64
  fo : 2 ≤ fo ∧ fo ≤ 8
  re : 1 ≤ re ∧ re ≤ 16
  ev : 1 ≤ ev ∧ ev ≤ 40
  ke : 1 ≤ ke ∧ ke ≤ 100
/-- the bounds of the j-th further part -/
def Bd (j : Nat) (v : Int) : Prop := match j with
  | 0 => 2 ≤ v ∧ v ≤ 8
  | 1 => 1 ≤ v ∧ v ≤ 16
  | 2 => 1 ≤ v ∧ v ≤ 40
  | _ => 1 ≤ v ∧ v ≤ 100
/-- what a list of lengths keeps -/
structure LensOk (ls : List Int) (sz : Int) : Prop where
  l1 : 1 ≤ ls.length
  l6 : ls.length ≤ 6
  all : ∀ l ∈ ls, 1 ≤ l ∧ l ≤ sz
  r64 : sz ≤ 64
/-- what settings keep -/
structure SetOk (ls : List Int) (sz fo re ev ke : Int) : Prop extends LensOk ls sz where
  fo : 2 ≤ fo ∧ fo ≤ 8
  re : 1 ≤ re ∧ re ≤ 16
  ev : 1 ≤ ev ∧ ev ≤ 40
  ke : 1 ≤ ke ∧ ke ≤ 100
theorem PartsOk.set {ls : List Int} {room fo re ev ke : Int} (p : PartsOk ls room fo re ev ke) : SetOk ls room fo re ev ke := ⟨⟨p.l1, p.l6, p.all, p.r64⟩, p.fo, p.re, p.ev, p.ke⟩
/-- the attributes of Settings, in the order in which they are stored -/
def setF (t : Addr) (sz fo re ev ke : Int) : List (Str × V) := [("lengths", .ref t), ("size", .int sz), ("fanout", .int fo), ("records", .int re), ("every", .int ev), ("keep", .int ke)]
/-- Settings at a -/
def SetAt (K : PySem.W.Frag) (H : Hp) (a : Addr) (ls : List Int) (sz fo re ev ke : Int) : Prop := ∃ dx t, H a = some (.ins (He.ga K "Settings") dx (setF t sz fo re ev ke)) ∧ H t = some (.tup (ls.map V.int))
theorem SetAt.same {K : PySem.W.Frag} {H H' : Hp} {a : Addr} {ls : List Int} {sz fo re ev ke : Int} (h : SetAt K H a ls sz fo re ev ke) (s : Same H H') : SetAt K H' a ls sz fo re ev ke := by
  obtain ⟨dx, t, h1, h2⟩ := h
  exact ⟨dx, t, s _ _ h1, s _ _ h2⟩
theorem SetAt.dr {K : PySem.W.Frag} {H H' : Hp} {b a : Addr} {ls : List Int} {sz fo re ev ke : Int} (h : SetAt K H a ls sz fo re ev ke) (hs : Src H b) (s : Dr b H H') : SetAt K H' a ls sz fo re ev ke := by
  obtain ⟨dx, t, h1, h2⟩ := h
  exact ⟨dx, t, s.old _ _ (hs.ne_ins h1) h1, s.old _ _ (hs.ne_tup h2) h2⟩
/-- the list of the bounds of the other parts at L -/
def Bnds (H : Hp) (L : Addr) (m : Int) : Prop := ∃ t1 t2 t3 t4 t5 : Addr, H L = some (.lst [.ref t1, .ref t2, .ref t3, .ref t4, .ref t5]) ∧ H t1 = some (.tup [.str "size", .int m, .int 64]) ∧ H t2 = some (.tup [.str "fanout", .int 2, .int 8]) ∧
  H t3 = some (.tup [.str "records", .int 1, .int 16]) ∧ H t4 = some (.tup [.str "every", .int 1, .int 40]) ∧ H t5 = some (.tup [.str "keep", .int 1, .int 100])
/-- the further parts by their names -/
def givD (v1 v2 v3 v4 v5 : V) : List (Key × V) := [(.inr "size", v1), (.inr "fanout", v2), (.inr "records", v3), (.inr "every", v4), (.inr "keep", v5)]
open Tm
def _root_.Tm.Pl.w : Pl → Str
  | .use _ => "use"
  | .lst _ => "list"
/-- a place in memory -/
abbrev plO (p : Pl) : HO := .tup [.str p.w, .int p.n]
/-- a row of places -/
structure PlL (H : Hp) (vs : List V) (ps : List Pl) : Prop where
  len : vs.length = ps.length
  at_ : ∀ (i : Nat) (p : Pl), ps[i]? = some p → ∃ t, vs[i]? = some (V.ref t) ∧ H t = some (plO p)
theorem PlL.nil {H : Hp} : PlL H [] [] := ⟨rfl, fun i p h => by simp at h⟩
theorem PlL.same {H H' : Hp} {vs : List V} {ps : List Pl} (h : PlL H vs ps) (s : Same H H') : PlL H' vs ps := ⟨h.len, fun i p e => by
  obtain ⟨t, h1, h2⟩ := h.at_ i p e
  exact ⟨t, h1, s _ _ h2⟩⟩
theorem PlL.keep {H H' : Hp} {x : Addr} {vs : List V} {ps : List Pl} (h : PlL H vs ps) (s : ∀ b xs, H b = some (.tup xs) → H' b = some (.tup xs)) : PlL H' vs ps := ⟨h.len, fun i p e => by
  obtain ⟨t, h1, h2⟩ := h.at_ i p e
  exact ⟨t, h1, s _ _ h2⟩⟩
theorem PlL.snoc {H : Hp} {vs : List V} {ps : List Pl} {t : Addr} {p : Pl} (h : PlL H vs ps) (e : H t = some (plO p)) : PlL H (vs ++ [.ref t]) (ps ++ [p]) := by
  refine ⟨by rw [List.length_append, List.length_append, h.len]; rfl, fun i q hq => ?_⟩
  rcases Nat.lt_or_ge i ps.length with z | z
  · rw [List.getElem?_append_left z] at hq
    rw [List.getElem?_append_left (by rw [h.len]; exact z)]
    exact h.at_ i q hq
  · rw [List.getElem?_append_right z] at hq
    rw [List.getElem?_append_right (by rw [h.len]; exact z), h.len]
    rcases Nat.eq_zero_or_pos (i - ps.length) with y | y
    · rw [y] at hq ⊢
      cases hq
      exact ⟨t, rfl, e⟩
    · rw [List.getElem?_eq_none (by simp; omega)] at hq
      cases hq
theorem PlL.app {H : Hp} {vs ws : List V} {ps qs : List Pl} (h : PlL H vs ps) (g : PlL H ws qs) : PlL H (vs ++ ws) (ps ++ qs) := by
  refine ⟨by rw [List.length_append, List.length_append, h.len, g.len], fun i q hq => ?_⟩
  rcases Nat.lt_or_ge i ps.length with z | z
  · rw [List.getElem?_append_left z] at hq
    rw [List.getElem?_append_left (by rw [h.len]; exact z)]
    exact h.at_ i q hq
  · rw [List.getElem?_append_right z] at hq
    rw [List.getElem?_append_right (by rw [h.len]; exact z), h.len]
    exact g.at_ _ q hq
theorem PlL.get {H : Hp} {vs : List V} {ps : List Pl} {i : Nat} (h : PlL H vs ps) (hi : i < ps.length) : ∃ t, vs[i]? = some (V.ref t) ∧ H t = some (plO ps[i]) := h.at_ i _ (List.getElem?_eq_getElem hi)
/-- the item that a walk comes to -/
theorem PlL.item {H : Hp} {vs : List V} {ps : List Pl} {i : Nat} {x : V} (h : PlL H vs ps) (e : vs[i]? = some x) : ∃ (t : Addr) (hi : i < ps.length), x = .ref t ∧ H t = some (plO ps[i]) := by
  have hi : i < ps.length := by
    rw [← h.len]
    exact (List.getElem?_eq_some_iff.mp e).1
  obtain ⟨t, h1, h2⟩ := h.get hi
  rw [e] at h1
  exact ⟨t, hi, Option.some.inj h1, h2⟩
theorem PlL.take {H : Hp} {vs : List V} {ps : List Pl} (h : PlL H vs ps) (k : Nat) : PlL H (vs.take k) (ps.take k) := by
  refine ⟨by rw [List.length_take, List.length_take, h.len], fun i q hq => ?_⟩
  rw [List.getElem?_take] at hq ⊢
  split at hq
  · rename_i hlt
    rw [if_pos hlt]
    exact h.at_ i q hq
  · cases hq
theorem PlL.drop {H : Hp} {vs : List V} {ps : List Pl} (h : PlL H vs ps) (k : Nat) : PlL H (vs.drop k) (ps.drop k) := by
  refine ⟨by rw [List.length_drop, List.length_drop, h.len], fun i q hq => ?_⟩
  rw [List.getElem?_drop] at hq ⊢
  exact h.at_ _ q hq
/-! data -/
def plD (p : Pl) : PyData := .tuple [.str p.w, .int p.n]
theorem dpPl {K : PySem.W.Frag} {H : Hp} {t : Addr} {p : Pl} (h : H t = some (plO p)) : Dp K H (.ref t) (plD p) := .tup (SqT.of h) (.cons (.str _) (.cons (.int _) .nil))
theorem dpPls {K : PySem.W.Frag} {H : Hp} : ∀ {vs : List V} {ps : List Pl}, PlL H vs ps → DpAll K H vs (ps.map plD)
  | [], [], _ => .nil
  | [], _ :: _, h => by have := h.len; simp at this
  | _ :: _, [], h => by have := h.len; simp at this
  | v :: vs, p :: ps, h => by
    obtain ⟨t, h1, h2⟩ := h.at_ 0 p rfl
    cases h1
    refine .cons (dpPl h2) (dpPls ⟨by have := h.len; simpa using this, fun i q hq => ?_⟩)
    exact h.at_ (i + 1) q hq
theorem eqvPl (p q : Pl) : PyData.eqv (plD p) (plD q) = decide (p = q) := by
  show ((p.w == q.w) && (((p.n : Int) == (q.n : Int)) && true)) = _
  cases p with
  | use k =>
    cases q with
    | use j =>
      have : ((k : Int) == (j : Int)) = decide (k = j) := by
        rw [Bool.eq_iff_iff, beq_iff_eq, decide_eq_true_iff]
        omega
      simp [Pl.w, Pl.n, this]
    | lst j =>
      have : ((Pl.use k).w == (Pl.lst j).w) = false := by
        show (("use" : Str) == ("list" : Str)) = false
        decide +kernel
      rw [this]
      simp
  | lst k =>
    cases q with
    | use j =>
      have : ((Pl.lst k).w == (Pl.use j).w) = false := by
        show (("list" : Str) == ("use" : Str)) = false
        decide +kernel
      rw [this]
      simp
    | lst j =>
      have : ((k : Int) == (j : Int)) = decide (k = j) := by
        rw [Bool.eq_iff_iff, beq_iff_eq, decide_eq_true_iff]
        omega
      simp [Pl.w, Pl.n, this]
theorem eqvPls : ∀ ps qs : List Pl, PyData.eqvAll (ps.map plD) (qs.map plD) = decide (ps = qs)
  | [], [] => by simp [PyData.eqvAll]
  | [], _ :: _ => by simp [PyData.eqvAll]
  | _ :: _, [] => by simp [PyData.eqvAll]
  | p :: ps, q :: qs => by
    show (PyData.eqv (plD p) (plD q) && PyData.eqvAll (ps.map plD) (qs.map plD)) = _
    rw [eqvPl, eqvPls ps qs]
    by_cases h : p = q <;> by_cases h2 : ps = qs <;> simp [h, h2]
theorem okW (p : Pl) : PyData.strOk p.w = true := by
  cases p with
  | use k =>
    show PyData.strOk ("use" : Str) = true
    decide +kernel
  | lst k =>
    show PyData.strOk ("list" : Str) = true
    decide +kernel
theorem layPls : ∀ ps : List Pl, PyData.canLayAll0 (ps.map plD) = true ∧ PyData.depthAll (ps.map plD) ≤ 1
  | [] => ⟨rfl, by simp [PyData.depthAll]⟩
  | p :: ps => by
    obtain ⟨h1, h2⟩ := layPls ps
    refine ⟨?_, ?_⟩
    · simp [PyData.canLayAll0, PyData.canLay0, plD, h1, okW]
    · simp only [List.map_cons, PyData.depthAll, plD, PyData.depth]
      omega
theorem shPl (p : Pl) : SeqAt.shaped (plD p) = true := by simp [SeqAt.shaped, plD, PyData.canLay0, PyData.depth, PyData.canLayAll0, PyData.depthAll, okW]
theorem shPls (ps : List Pl) : SeqAt.shaped (.list (ps.map plD)) = true := by
  obtain ⟨h1, h2⟩ := layPls ps
  unfold SeqAt.shaped
  simp only [PyData.canLay0, PyData.depth, h1, Bool.true_and, Bool.and_true]
  exact decide_eq_true (by omega)
section
variable {K : PySem.W.Frag} {H : Hp} {Q : VK} {a b : Addr} {vs ws : List V} {ps qs : List Pl} {p q : Pl}
theorem r_eqPl (h : H a = some (plO p)) (g : H b = some (plO q)) (k : Q (.bl (decide (p = q))) H) : rEqD K (.ref a) (.ref b) H Q := ⟨_, _, dpPl h, dpPl g, shPl p, shPl q, by rw [eqvPl]; exact k⟩
theorem r_nePl (h : H a = some (plO p)) (g : H b = some (plO q)) (k : Q (.bl (!decide (p = q))) H) : rNeD K (.ref a) (.ref b) H Q := ⟨_, _, dpPl h, dpPl g, shPl p, shPl q, by rw [eqvPl]; exact k⟩
theorem r_eqPls (h : H a = some (.lst vs)) (h' : PlL H vs ps) (g : H b = some (.lst ws)) (g' : PlL H ws qs) (k : Q (.bl (decide (ps = qs))) H) : rEqD K (.ref a) (.ref b) H Q :=
  ⟨_, _, .lst (SqL.of h) (dpPls h'), .lst (SqL.of g) (dpPls g'), shPls ps, shPls qs, by rw [show PyData.eqv (.list (ps.map plD)) (.list (qs.map plD)) = decide (ps = qs) from eqvPls ps qs]; exact k⟩
theorem r_nePls (h : H a = some (.lst vs)) (h' : PlL H vs ps) (g : H b = some (.lst ws)) (g' : PlL H ws qs) (k : Q (.bl (!decide (ps = qs))) H) : rNeD K (.ref a) (.ref b) H Q :=
  ⟨_, _, .lst (SqL.of h) (dpPls h'), .lst (SqL.of g) (dpPls g'), shPls ps, shPls qs, by rw [show PyData.eqv (.list (ps.map plD)) (.list (qs.map plD)) = decide (ps = qs) from eqvPls ps qs]; exact k⟩
end
/-- front[many - 1] == ("list", fresh - 1), fresh maybe 0 -/
theorem eqvPlZ (p : Pl) (z : Int) : PyData.eqv (plD p) (.tuple [.str "list", .int z]) = decide (p.w = "list" ∧ (p.n : Int) = z) := by
  show ((p.w == ("list" : Str)) && (((p.n : Int) == z) && true)) = _
  by_cases h : p.w = "list" <;> by_cases h2 : (p.n : Int) = z <;> simp [h, h2]
def rgI (n : Nat) : List Int := (List.range n).map fun k : Nat => (k : Int)
theorem rgV_nat (n : Nat) : rgV 0 (n : Int) = (rgI n).map V.int := by
  unfold rgV rgI
  rw [show ((n : Int) - 0).toNat = n by omega, List.map_map]
  congr 1
  funext i
  show V.int (0 + (i : Int)) = V.int i
  rw [Int.zero_add]
/-! goals -/
def _root_.Tm.Pl.key (p : Pl) : List Key := [.inr p.w, .inl p.n]
theorem key_inj {p q : Pl} (h : p.key = q.key) : p = q := by
  cases p with
  | use k =>
    cases q with
    | use j =>
      have : (k : Int) = (j : Int) := Sum.inl.inj (List.cons.inj (List.cons.inj h).2).1
      rw [show k = j by omega]
    | lst j => exact absurd (Sum.inr.inj (List.cons.inj h).1) (show ¬ (("use" : Str) = ("list" : Str)) by decide +kernel)
  | lst k =>
    cases q with
    | use j => exact absurd (Sum.inr.inj (List.cons.inj h).1) (show ¬ (("list" : Str) = ("use" : Str)) by decide +kernel)
    | lst j =>
      have : (k : Int) = (j : Int) := Sum.inl.inj (List.cons.inj (List.cons.inj h).2).1
      rw [show k = j by omega]
theorem key_kV (p : Pl) : [V.str p.w, V.int p.n] = p.key.map kV := rfl
/-- what the dict of goals tells, u and f being entered -/
structure GoA (H : Hp) (kvs : List (List Key × V)) (u f : List Pl) : Prop where
  n : kvs.length ≤ u.length + f.length
  gu : ∀ (i : Nat) (p : Pl), u[i]? = some p → ∃ t, valV kvs p.key = some (.ref t) ∧ H t = some (plO (.use i))
  gf : ∀ (i : Nat) (p : Pl), f[i]? = some p → ∃ t, valV kvs p.key = some (.ref t) ∧ H t = some (plO (.lst i))
  no : ∀ p : Pl, p ∉ u → p ∉ f → valV kvs p.key = none
theorem GoA.same {H H' : Hp} {kvs : List (List Key × V)} {u f : List Pl} (h : GoA H kvs u f) (s : Same H H') : GoA H' kvs u f :=
  ⟨h.n, fun i p e => by obtain ⟨t, h1, h2⟩ := h.gu i p e; exact ⟨t, h1, s _ _ h2⟩, fun i p e => by obtain ⟨t, h1, h2⟩ := h.gf i p e; exact ⟨t, h1, s _ _ h2⟩, h.no⟩
/-- a Turn at x -/
structure TurnAt (K : PySem.W.Frag) (H : Hp) (x : Addr) (T : Tn) : Prop where
  ok : T.Ok
  ex : ∃ (dx pu pf pg : Addr) (vu vf : List V) (kvs : List (List Key × V)), H x = some (.ins (He.ga K "Turn") dx [("_ahead", .int T.a), ("_used", .ref pu), ("_front", .ref pf), ("_fresh", .int T.n), ("_goals", .ref pg)]) ∧
    H pu = some (.lst vu) ∧ PlL H vu T.u ∧ H pf = some (.lst vf) ∧ PlL H vf T.f ∧ H pg = some (.dT kvs) ∧ GoA H kvs T.u T.f
theorem TurnAt.same {K : PySem.W.Frag} {H H' : Hp} {x : Addr} {T : Tn} (h : TurnAt K H x T) (s : Same H H') : TurnAt K H' x T := by
  obtain ⟨ok, dx, pu, pf, pg, vu, vf, kvs, h1, h2, h3, h4, h5, h6, h7⟩ := h
  exact ⟨ok, dx, pu, pf, pg, vu, vf, kvs, s _ _ h1, s _ _ h2, h3.same s, s _ _ h4, h5.same s, s _ _ h6, h7.same s⟩
theorem TurnAt.fl {K : PySem.W.Frag} {H : Hp} {x : Addr} {T : Tn} (h : TurnAt K H x T) : ∃ (dx pu pf pg : Addr), H x = some (.ins (He.ga K "Turn") dx [("_ahead", .int T.a), ("_used", .ref pu), ("_front", .ref pf), ("_fresh", .int T.n), ("_goals", .ref pg)]) := by
  obtain ⟨ok, dx, pu, pf, pg, vu, vf, kvs, h1, -⟩ := h
  exact ⟨dx, pu, pf, pg, h1⟩
theorem at_neg1 {α : Type} {xs : List α} {i : Nat} {x : α} (h : xs.length = i + 1) (e : xs[i]? = some x) : atI xs (-1) = some x := by
  have := atI_last xs.dropLast x
  rwa [show xs.dropLast ++ [x] = xs by
    have e2 : xs.dropLast = xs.take i := by rw [List.dropLast_eq_take, h, Nat.add_sub_cancel]
    rw [e2]
    have hi : i < xs.length := by omega
    rw [List.getElem?_eq_getElem hi] at e
    have e3 : xs.take (i + 1) = xs.take i ++ [x] := by rw [List.take_add_one, List.getElem?_eq_getElem hi, Option.some.inj e]; rfl
    rw [← e3, List.take_of_length_le (by omega)]] at this
theorem turn_but {K : PySem.W.Frag} {H H2 : Hp} {x dx pu pf pg l : Addr} {vu vf ws : List V} {kvs : List (List Key × V)} {T : Tn} (ok : T.Ok)
    (h1 : H x = some (.ins (He.ga K "Turn") dx [("_ahead", .int T.a), ("_used", .ref pu), ("_front", .ref pf), ("_fresh", .int T.n), ("_goals", .ref pg)]))
    (h2 : H pu = some (.lst vu)) (h3 : PlL H vu T.u) (h4 : H pf = some (.lst vf)) (h5 : PlL H vf T.f) (h6 : H pg = some (.dT kvs)) (h7 : GoA H kvs T.u T.f)
    (hl : H l = some (.lst ws)) (nu : pu ≠ l) (nf : pf ≠ l) (b : But l H H2) : TurnAt K H2 x T := by
  have tp : ∀ c xs, H c = some (.tup xs) → H2 c = some (.tup xs) := fun c xs e => b c _ (ne_of e hl (by intro z; cases z)) e
  refine ⟨ok, dx, pu, pf, pg, vu, vf, kvs, b _ _ (ne_of h1 hl (by intro z; cases z)) h1, b _ _ nu h2, h3.keep (x := x) tp, b _ _ nf h4, h5.keep (x := x) tp, b _ _ (ne_of h6 hl (by intro z; cases z)) h6, ?_⟩
  exact ⟨h7.n, fun i p e => by obtain ⟨t, a1, a2⟩ := h7.gu i p e; exact ⟨t, a1, tp _ _ a2⟩, fun i p e => by obtain ⟨t, a1, a2⟩ := h7.gf i p e; exact ⟨t, a1, tp _ _ a2⟩, h7.no⟩
theorem in_words (p : Pl) : inV (.str p.w) [V.str "use", V.str "list"] = true := by
  cases p with
  | use k =>
    show inV (.str "use") [V.str "use", V.str "list"] = true
    decide +kernel
  | lst k =>
    show inV (.str "list") [V.str "use", V.str "list"] = true
    decide +kernel
/-- the numbers of some places, as ints -/
def nmI (g : Pl → Option Nat) (ps : List Pl) : List Int := (ps.filterMap g).map fun k : Nat => (k : Int)
theorem nmI_snoc (g : Pl → Option Nat) (ps : List Pl) (p : Pl) : nmI g (ps ++ [p]) = nmI g ps ++ (match g p with | some k => [(k : Int)] | none => []) := by
  unfold nmI
  rw [List.filterMap_append, List.map_append]
  cases h : g p with
  | none => simp [h]
  | some k => simp [h]
theorem nmI_le (g : Pl → Option Nat) (ps : List Pl) : (nmI g ps).length ≤ ps.length := by
  unfold nmI
  rw [List.length_map]
  exact List.length_filterMap_le _ _
theorem nm_perm {ps : List Pl} {a n : Nat} (h : ps.Perm (base a n)) : (nmI Pl.uN ps).Perm (rgI a) ∧ (nmI Pl.lN ps).Perm (rgI n) := by
  unfold nmI rgI
  refine ⟨?_, ?_⟩
  · rw [← base_uN a n]
    exact (h.filterMap _).map _
  · rw [← base_lN a n]
    exact (h.filterMap _).map _
theorem rgI_len (n : Nat) : (rgI n).length = n := by simp [rgI]
section
variable {K : PySem.W.Frag} {H : Hp} {Q : VK} {a b : Addr} {v : V} {kvs : List (List Key × V)} {k : List Key}
theorem r_eqPlZ {p : Pl} {z : Int} (h : H a = some (plO p)) (g : H b = some (.tup [.str "list", .int z])) (q : Q (.bl (decide (p.w = "list" ∧ (p.n : Int) = z))) H) : rEqD K (.ref a) (.ref b) H Q := by
  refine ⟨_, .tuple [.str "list", .int z], dpPl h, .tup (SqT.of g) (.cons (.str _) (.cons (.int _) .nil)), shPl p, ?_, ?_⟩
  · simp [SeqAt.shaped, PyData.canLay0, PyData.depth, PyData.canLayAll0, PyData.depthAll]
    decide +kernel
  · rw [eqvPlZ]
    exact q
theorem r_dpT {Qn : Hp → Prop} (h : H a = some (.dT kvs)) (hb : H b = some (.tup (k.map kV))) (hl : kvs.length < 100000) (q : Qn (upd H a (.dT (putK kvs k v)))) : rDp (.ref a) (.ref b) v H Qn := ⟨a, _, rfl, DPut.t h hb (szl hl), q⟩
theorem r_dgT (h : H a = some (.dT kvs)) (hb : H b = some (.tup (k.map kV))) (e : valV kvs k = some v) (q : Q v H) : rDg (.ref a) (.ref b) H Q := ⟨a, v, rfl, by rw [← e]; exact DGet.t h hb, q⟩
theorem r_dkT {R : Option V → Prop} (h : H a = some (.dT kvs)) (hb : H b = some (.tup (k.map kV))) (q : R (valV kvs k)) : rDk (.ref a) (.ref b) H R := ⟨a, _, rfl, DGet.t h hb, q⟩
theorem r_dnewT {st0 : L2.St} (q : rNew (.dT []) H Q) : tDNewT st0 H Q := q
theorem put_len : (putK kvs k v).length ≤ kvs.length + 1 := length_putK kvs k v
end
theorem cut_to {xs : List V} {m : Nat} (h : m ≤ xs.length) : cutV xs none (some (m : Int)) = xs.take m := by
  show (xs.drop 0).take (HT.sIx xs.length xs.length (some (m : Int)) - 0) = _
  rw [HT.sIx_nat, Nat.min_eq_left h]
  rfl
theorem cut_from {xs : List V} {m : Nat} (h : m ≤ xs.length) : cutV xs (some (m : Int)) none = xs.drop m := by
  show (xs.drop (HT.sIx xs.length 0 (some (m : Int)))).take (xs.length - HT.sIx xs.length 0 (some (m : Int))) = _
  rw [HT.sIx_nat, Nat.min_eq_left h, List.take_of_length_le (by rw [List.length_drop]; exact Nat.le_refl _)]
theorem nin_take {u : List Pl} (nd : u.Nodup) {i : Nat} (hi : i < u.length) : u[i] ∉ u.take i := fun h => by
  obtain ⟨j, hj, e⟩ := List.mem_iff_getElem.mp h
  rw [List.getElem_take] at e
  rw [List.length_take] at hj
  have := nd_get nd (by omega) hi e
  omega
theorem GoA.put {H H' : Hp} {kvs : List (List Key × V)} {u f : List Pl} {p : Pl} {t : Addr} (G : GoA H kvs u f) (s : ∀ b xs, H b = some (.tup xs) → H' b = some (.tup xs)) (nu : p ∉ u) (nf : p ∉ f) :
    (f = [] → H' t = some (plO (.use u.length)) → GoA H' (putK kvs p.key (.ref t)) (u ++ [p]) f) ∧ (H' t = some (plO (.lst f.length)) → GoA H' (putK kvs p.key (.ref t)) u (f ++ [p])) := by
  have same : valV (putK kvs p.key (.ref t)) p.key = some (.ref t) := by rw [valV_put, if_pos rfl]
  have other : ∀ q : Pl, q ≠ p → valV (putK kvs p.key (.ref t)) q.key = valV kvs q.key := fun q h => by
    rw [valV_put]
    split
    · rename_i e
      first
        | exact absurd (key_inj e) h
        | exact absurd (key_inj e.symm) h
    · rfl
  have hn := put_len (kvs := kvs) (k := p.key) (v := .ref t)
  have ou : ∀ {i : Nat} {q : Pl}, u[i]? = some q → q ≠ p := fun h e => nu (e ▸ List.mem_of_getElem? h)
  have of' : ∀ {i : Nat} {q : Pl}, f[i]? = some q → q ≠ p := fun h e => nf (e ▸ List.mem_of_getElem? h)
  have oldU : ∀ (i : Nat) (q : Pl), u[i]? = some q → ∃ t', valV (putK kvs p.key (.ref t)) q.key = some (.ref t') ∧ H' t' = some (plO (.use i)) := fun i q h => by
    obtain ⟨t', h1, h2⟩ := G.gu i q h
    exact ⟨t', by rw [other q (ou h)]; exact h1, s _ _ h2⟩
  have oldF : ∀ (i : Nat) (q : Pl), f[i]? = some q → ∃ t', valV (putK kvs p.key (.ref t)) q.key = some (.ref t') ∧ H' t' = some (plO (.lst i)) := fun i q h => by
    obtain ⟨t', h1, h2⟩ := G.gf i q h
    exact ⟨t', by rw [other q (of' h)]; exact h1, s _ _ h2⟩
  have snoc : ∀ {l : List Pl} {i : Nat} {q : Pl}, (l ++ [p])[i]? = some q → l[i]? = some q ∨ (i = l.length ∧ q = p) := fun {l i q} h => by
    rcases Nat.lt_or_ge i l.length with z | z
    · rw [List.getElem?_append_left z] at h
      exact .inl h
    · rw [List.getElem?_append_right z] at h
      rcases Nat.eq_zero_or_pos (i - l.length) with y | y
      · rw [y] at h
        cases h
        exact .inr ⟨by omega, rfl⟩
      · rw [List.getElem?_eq_none (by simp; omega)] at h
        cases h
  refine ⟨fun hf ht => ⟨by rw [List.length_append]; have := G.n; simp; omega, fun i q h => ?_, fun i q h => ?_, fun q h1 h2 => ?_⟩, fun ht => ⟨by rw [List.length_append]; have := G.n; simp; omega, oldU, fun i q h => ?_, fun q h1 h2 => ?_⟩⟩
  · rcases snoc h with h | ⟨rfl, rfl⟩
    · exact oldU i q h
    · exact ⟨t, same, ht⟩
  · exact oldF i q h
  · have ne : q ≠ p := fun e => h1 (by rw [e]; simp)
    rw [other q ne]
    exact G.no q (fun h => h1 (by simp [h])) h2
  · rcases snoc h with h | ⟨rfl, rfl⟩
    · exact oldF i q h
    · exact ⟨t, same, ht⟩
  · have ne : q ≠ p := fun e => h2 (by rw [e]; simp)
    rw [other q ne]
    exact G.no q h1 (fun h => h2 (by simp [h]))
/-- what a joined Turn is -/
structure Jn (S T R : Tn) : Prop where
  ok : R.Ok
  a : R.a = S.a
  u : R.u.length = T.u.length
  org : ∀ p, Vd T.u.length p → R.or p = S.or (T.or p)
  f : R.f.length ≤ S.f.length + T.f.length
  n : R.n ≤ S.n + T.n
/-- a row of Turns -/
structure TnL (K : PySem.W.Frag) (H : Hp) (vs : List V) (Ts : List Tn) : Prop where
  len : vs.length = Ts.length
  at_ : ∀ (i : Nat) (T : Tn), Ts[i]? = some T → ∃ x, vs[i]? = some (V.ref x) ∧ TurnAt K H x T
section
variable {K : PySem.W.Frag} {H H' : Hp} {vs ws : List V} {Ts Us : List Tn}
theorem TnL.nil : TnL K H [] [] := ⟨rfl, fun i p h => by simp at h⟩
theorem TnL.same (h : TnL K H vs Ts) (s : Same H H') : TnL K H' vs Ts := ⟨h.len, fun i p e => by
  obtain ⟨t, h1, h2⟩ := h.at_ i p e
  exact ⟨t, h1, h2.same s⟩⟩
theorem TnL.one {x : Addr} {T : Tn} (e : TurnAt K H x T) : TnL K H [.ref x] [T] := ⟨rfl, fun i q hq => by
  cases i with
  | zero =>
    cases hq
    exact ⟨x, rfl, e⟩
  | succ i => simp at hq⟩
theorem TnL.app (h : TnL K H vs Ts) (g : TnL K H ws Us) : TnL K H (vs ++ ws) (Ts ++ Us) := by
  refine ⟨by rw [List.length_append, List.length_append, h.len, g.len], fun i q hq => ?_⟩
  rcases Nat.lt_or_ge i Ts.length with z | z
  · rw [List.getElem?_append_left z] at hq
    rw [List.getElem?_append_left (by rw [h.len]; exact z)]
    exact h.at_ i q hq
  · rw [List.getElem?_append_right z] at hq
    rw [List.getElem?_append_right (by rw [h.len]; exact z), h.len]
    exact g.at_ _ q hq
theorem TnL.get {i : Nat} (h : TnL K H vs Ts) (hi : i < Ts.length) : ∃ t, vs[i]? = some (V.ref t) ∧ TurnAt K H t Ts[i] := h.at_ i _ (List.getElem?_eq_getElem hi)
theorem TnL.item {i : Nat} {x : V} (h : TnL K H vs Ts) (e : vs[i]? = some x) : ∃ (t : Addr) (hi : i < Ts.length), x = .ref t ∧ TurnAt K H t Ts[i] := by
  have hi : i < Ts.length := by
    rw [← h.len]
    exact (List.getElem?_eq_some_iff.mp e).1
  obtain ⟨t, h1, h2⟩ := h.get hi
  rw [e] at h1
  exact ⟨t, hi, Option.some.inj h1, h2⟩
theorem TnL.take (h : TnL K H vs Ts) (k : Nat) : TnL K H (vs.take k) (Ts.take k) := by
  refine ⟨by rw [List.length_take, List.length_take, h.len], fun i q hq => ?_⟩
  rw [List.getElem?_take] at hq ⊢
  split at hq
  · rename_i hlt
    rw [if_pos hlt]
    exact h.at_ i q hq
  · cases hq
theorem TnL.drop (h : TnL K H vs Ts) (k : Nat) : TnL K H (vs.drop k) (Ts.drop k) := by
  refine ⟨by rw [List.length_drop, List.length_drop, h.len], fun i q hq => ?_⟩
  rw [List.getElem?_drop] at hq ⊢
  exact h.at_ _ q hq
theorem TnL.ref (h : TnL K H vs Ts) : ∀ v ∈ vs, ∃ t, v = V.ref t := fun v hv => by
  obtain ⟨i, hi⟩ := List.getElem?_of_mem hv
  obtain ⟨t, _, e, _⟩ := h.item hi
  exact ⟨t, e⟩
end
/-- Turns that follow one another, from so many pages in use to so many -/
def Ch (a : Nat) : List Tn → Nat → Prop
  | [], b => a = b
  | T :: L, b => T.Ok ∧ T.a = a ∧ Ch T.u.length L b
/-- the origin through all of them -/
def orL : List Tn → Pl → Pl
  | [], p => p
  | T :: L, p => T.or (orL L p)
def wL (L : List Tn) : Nat := (L.map fun T => T.f.length + T.n).sum
theorem Ch.app {a b : Nat} : ∀ {X Y : List Tn}, Ch a (X ++ Y) b ↔ ∃ m, Ch a X m ∧ Ch m Y b
  | [], Y => ⟨fun h => ⟨a, rfl, h⟩, fun ⟨m, e, h⟩ => by cases e; exact h⟩
  | T :: X, Y => by
    show (T.Ok ∧ T.a = a ∧ Ch T.u.length (X ++ Y) b) ↔ _
    rw [Ch.app]
    exact ⟨fun ⟨h1, h2, m, h3, h4⟩ => ⟨m, ⟨h1, h2, h3⟩, h4⟩, fun ⟨m, ⟨h1, h2, h3⟩, h4⟩ => ⟨h1, h2, m, h3, h4⟩⟩
theorem orL_app (p : Pl) : ∀ X Y : List Tn, orL (X ++ Y) p = orL X (orL Y p)
  | [], _ => rfl
  | T :: X, Y => by
    show T.or (orL (X ++ Y) p) = T.or (orL X (orL Y p))
    rw [orL_app p X Y]
theorem wL_app (X Y : List Tn) : wL (X ++ Y) = wL X + wL Y := by simp [wL]
theorem wL_cons (T : Tn) (Y : List Tn) : wL (T :: Y) = T.f.length + T.n + wL Y := by simp [wL]
theorem Ch.vd {p : Pl} : ∀ {L : List Tn} {a b : Nat}, Ch a L b → Vd b p → Vd a (orL L p)
  | [], a, b, h, v => by cases h; exact v
  | T :: L, a, b, ⟨h1, h2, h3⟩, v => by
    have := h1.toPm.or_vd (h3.vd v)
    rw [h2] at this
    exact this
theorem Ch.end_le : ∀ {L : List Tn} {a b : Nat}, Ch a L b → b ≤ a + wL L
  | [], a, b, h => by cases h; simp
  | T :: L, a, b, ⟨h1, h2, h3⟩ => by
    have := h3.end_le
    have := h1.toPm.len
    rw [wL_cons]
    omega
theorem Ch.eq : ∀ {L : List Tn} {a b c : Nat}, Ch a L b → Ch a L c → b = c
  | [], a, b, c, h, g => by cases h; cases g; rfl
  | _ :: _, _, _, _, ⟨_, _, h⟩, ⟨_, _, g⟩ => h.eq g
/-- what is met on the way, at one of them -/
theorem Ch.at_ {a b : Nat} {L : List Tn} {i : Nat} (h : Ch a L b) (hi : i < L.length) : ∃ m, Ch a (L.take i) m ∧ L[i].a = m ∧ L[i].Ok ∧ Ch L[i].u.length (L.drop (i + 1)) b := by
  have e : L = L.take i ++ L[i] :: L.drop (i + 1) := by rw [List.getElem_cons_drop, List.take_append_drop]
  rw [e] at h
  obtain ⟨m, h1, h2, h3, h4⟩ := Ch.app.mp h
  exact ⟨m, h1, h3, h2, h4⟩
theorem split_at {L : List Tn} {i : Nat} (hi : i < L.length) : L = L.take i ++ L[i] :: L.drop (i + 1) := by rw [List.getElem_cons_drop, List.take_append_drop]
theorem el_w {L : List Tn} {i : Nat} (hi : i < L.length) : L[i].f.length + L[i].n ≤ wL L := by
  have e := congrArg wL (split_at hi)
  rw [wL_app, wL_cons] at e
  omega
theorem wL_take (L : List Tn) (i : Nat) : wL (L.take i) ≤ wL L := by
  have e := congrArg wL (List.take_append_drop i L)
  rw [wL_app] at e
  omega
theorem take_snoc {L : List Tn} {i : Nat} (hi : i < L.length) : L.take (i + 1) = L.take i ++ [L[i]] := by
  rw [List.take_add_one, List.getElem?_eq_getElem hi]
  rfl
theorem Ch.to {a b : Nat} {L : List Tn} {i : Nat} (h : Ch a L b) (hi : i < L.length) : Ch a (L.take (i + 1)) L[i].u.length := by
  obtain ⟨m, h1, h2, h3, -⟩ := h.at_ hi
  rw [take_snoc hi]
  exact Ch.app.mpr ⟨m, h1, show L[i].Ok ∧ L[i].a = m ∧ L[i].u.length = _ from ⟨h3, h2, rfl⟩⟩
theorem Ch.u_le {a b : Nat} {L : List Tn} {i : Nat} (h : Ch a L b) (hi : i < L.length) : L[i].u.length ≤ a + wL L := by
  have h1 := (h.to hi).end_le
  have h2 := wL_take L (i + 1)
  omega
theorem Ch.nxt {a b : Nat} {L : List Tn} {i : Nat} (h : Ch a L b) (hi : i + 1 < L.length) : L[i + 1].a = L[i].u.length := by
  obtain ⟨m, h1, h2, -⟩ := h.at_ hi
  rw [h2]
  exact h1.eq (h.to (i := i) (by omega))
theorem Ch.ok {a b : Nat} {L : List Tn} {i : Nat} (h : Ch a L b) (hi : i < L.length) : L[i].Ok := by
  obtain ⟨m, h1, h2, h3, -⟩ := h.at_ hi
  exact h3
theorem Ch.fold {a b : Nat} {X Y : List Tn} {S T R : Tn} (h : Ch a (X ++ S :: T :: Y) b) (j : Jn S T R) :
    Ch a (X ++ [R] ++ Y) b ∧ (∀ p, Vd b p → orL (X ++ [R] ++ Y) p = orL (X ++ S :: T :: Y) p) ∧ wL (X ++ [R] ++ Y) ≤ wL (X ++ S :: T :: Y) := by
  obtain ⟨m, h1, h2, h3, h4, h5, h6⟩ := Ch.app.mp h
  refine ⟨?_, fun p v => ?_, ?_⟩
  · rw [List.append_assoc]
    exact Ch.app.mpr ⟨m, h1, show R.Ok ∧ R.a = m ∧ Ch R.u.length Y b from ⟨j.ok, j.a.trans h3, j.u.symm ▸ h6⟩⟩
  · rw [List.append_assoc, orL_app p X, orL_app p X]
    show orL X (R.or (orL Y p)) = orL X (S.or (T.or (orL Y p)))
    rw [j.org _ (h6.vd v)]
  · have h7 := j.f
    have h8 := j.n
    rw [List.append_assoc, wL_app X, wL_app X, wL_cons, wL_cons]
    show wL X + wL (R :: Y) ≤ _
    rw [wL_cons]
    omega
/-- a Turn is what these are together -/
structure Fd (a : Nat) (L : List Tn) (b : Nat) (R : Tn) : Prop where
  ok : R.Ok
  a : R.a = a
  u : R.u.length = b
  org : ∀ p, Vd b p → R.or p = orL L p
  w : R.f.length + R.n ≤ wL L
theorem Fd.one {T : Tn} (o : T.Ok) : Fd T.a [T] T.u.length T := ⟨o, rfl, rfl, fun _ _ => rfl, by simp [wL]⟩
theorem Fd.eq {a b : Nat} {L : List Tn} {R S : Tn} (h : Fd a L b R) (g : Fd a L b S) : R = S := h.ok.ext g.ok (by rw [h.u, g.u]) fun p v => by
  rw [h.u] at v
  rw [h.org p v, g.org p v]
theorem Fd.join {a b c : Nat} {X Y : List Tn} {S T R : Tn} (h : Fd a X b S) (g : Fd b Y c T) (j : Jn S T R) : Fd a (X ++ Y) c R := by
  refine ⟨j.ok, by rw [j.a, h.a], by rw [j.u, g.u], fun p v => ?_, ?_⟩
  · rw [j.org p (by rw [g.u]; exact v), orL_app, ← g.org p v]
    refine h.org _ ?_
    have := g.ok.toPm.or_vd (p := p) (by rw [g.u]; exact v)
    rw [g.a] at this
    exact this
  · have h1 := h.w
    have h2 := g.w
    have h3 := j.f
    have h4 := j.n
    rw [wL_app]
    omega
theorem Fd.small {a b : Nat} {L : List Tn} {R : Tn} (h : Fd a L b R) : R.u.length ≤ a + wL L := by
  have h1 := h.w
  have h2 := h.ok.toPm.len
  have h3 := h.a
  omega
/-- a source of drawn digits -/
structure Sc (H : Hp) (s : Addr) : Prop where
  ex : ∃ (d : Addr) (ds : List Int) (j : Int), H s = some (.lst [.ref d, .int j]) ∧ H d = some (.lst (ds.map V.int)) ∧ 0 < ds.length ∧ ds.length ≤ 1000 ∧ ∀ x ∈ ds, 0 ≤ x ∧ x < 1009
structure Sx (s : Addr) (H H' : Hp) : Prop where
  sc : Sc H' s
  old : But s H H'
section
variable {K : PySem.W.Frag} {s : Addr} {H H1 H' : Hp}
theorem Sc.same (h : Sc H s) (x : Same H H') : Sc H' s := by
  obtain ⟨d, ds, j, h1, h2, h3⟩ := h.ex
  exact ⟨d, ds, j, x _ _ h1, x _ _ h2, h3⟩
theorem Sx.refl (h : Sc H s) : Sx s H H := ⟨h, But.refl _ _⟩
theorem Sx.of (h : Sc H s) (x : Same H H') : Sx s H H' := ⟨h.same x, But.of_same x⟩
theorem Sx.trans (x : Sx s H H1) (y : Sx s H1 H') : Sx s H H' := ⟨y.sc, x.old.trans y.old⟩
theorem Sx.same (x : Sx s H H1) (y : Same H1 H') : Sx s H H' := ⟨x.sc.same y, x.old.same y⟩
theorem Sc.ne_lst {l : Addr} {ws : List V} (c : Sc H s) (e : H l = some (.lst ws)) (r : ∀ v ∈ ws, ∃ t, v = V.ref t) : l ≠ s := by
  intro z
  obtain ⟨d, ds, j, h1, -⟩ := c.ex
  rw [z, h1] at e
  cases e
  obtain ⟨t, h⟩ := r (.int j) (by simp)
  cases h
theorem Sc.ne_tup {l : Addr} {ws : List V} (c : Sc H s) (e : H l = some (.tup ws)) : l ≠ s := by
  obtain ⟨d, ds, j, h1, -⟩ := c.ex
  exact ne_of e h1 (by intro z; cases z)
theorem Sx.tup {l : Addr} {ws : List V} (x : Sx s H H') (c : Sc H s) (e : H l = some (.tup ws)) : H' l = some (.tup ws) := x.old _ _ (c.ne_tup e) e
theorem Sx.lst {l : Addr} {ws : List V} (x : Sx s H H') (c : Sc H s) (e : H l = some (.lst ws)) (r : ∀ v ∈ ws, ∃ t, v = V.ref t) : H' l = some (.lst ws) := x.old _ _ (c.ne_lst e r) e
theorem PlL.rf {ws : List V} {ps : List Pl} (h : PlL H ws ps) : ∀ v ∈ ws, ∃ t, v = V.ref t := fun v hv => by
  obtain ⟨i, hi⟩ := List.getElem?_of_mem hv
  obtain ⟨t, _, e, _⟩ := h.item hi
  exact ⟨t, e⟩
theorem PlL.sx {ws : List V} {ps : List Pl} (h : PlL H ws ps) (c : Sc H s) (x : Sx s H H') : PlL H' ws ps := h.keep (x := s) fun _ _ e => x.tup c e
theorem TurnAt.sx {a : Addr} {T : Tn} (h : TurnAt K H a T) (c : Sc H s) (x : Sx s H H') : TurnAt K H' a T := by
  obtain ⟨ok, dx, pu, pf, pg, vu, vf, kvs, h1, h2, h3, h4, h5, h6, h7⟩ := h
  obtain ⟨d, ds, j, e, -⟩ := c.ex
  exact turn_but ok h1 h2 h3 h4 h5 h6 h7 e (c.ne_lst h2 h3.rf) (c.ne_lst h4 h5.rf) x.old
theorem TnL.sx {ws : List V} {Ts : List Tn} (h : TnL K H ws Ts) (c : Sc H s) (x : Sx s H H') : TnL K H' ws Ts := ⟨h.len, fun i p e => by
  obtain ⟨t, h1, h2⟩ := h.at_ i p e
  exact ⟨t, h1, h2.sx c x⟩⟩
end
/-- what raising InvalidArgument for the part w asks -/
def RaiA (K : PySem.W.Frag) (H : Hp) (E : XK) (w : Str) : Prop := ∀ d H', Same H H' → H d = none → H' d = some (.xd [("part", .str w)]) → E (.ref (He.ga K "InvalidArgument")) (some d) H'
theorem RaiA.same {K : PySem.W.Frag} {H H1 : Hp} {E : XK} {w : Str} (h : RaiA K H E w) (s : Same H H1) : RaiA K H1 E w := fun d H' s2 hd e => h d H' (s.trans s2) (s.free hd) e
/-- what a lambda's end, or its error, makes of the part -/
def tt__law_part (K : PySem.W.Frag) : (XK → Hp → VK → Prop) → Hp → VK → Prop := fun tl H Q => tl (fun cls d H' => ∃ dd v, cls = .ref (He.ga K "InvalidArgument") ∧ d = some dd ∧ H' dd = some (.xd [("part", v)]) ∧ Q v H') H (fun _ H' => Q .non H')
theorem tt_at {K : PySem.W.Frag} {tl : XK → Hp → VK → Prop} {H : Hp} {Q : VK} (h : ∀ E1 : XK, (∀ w, (∀ H', Same H H' → Q (.str w) H') → RaiA K H E1 w) → tl E1 H (fun _ H' => Q .non H')) : tt__law_part K tl H Q :=
  h _ fun w q d H' s hd e => ⟨d, .str w, rfl, rfl, e, q H' s⟩
open LamX KrL
/-! what stands behind a lambda's making -/
section
variable {K : PySem.W.Frag} {s : Addr} {H H1 H2 : Hp}
theorem PlL.xn {vs : List V} {ps : List Pl} (h : PlL H vs ps) (x : ExtN H H1) : PlL H1 vs ps := h.keep (x := 0) fun b xs e => x b _ e (fun ps z => by cases z)
theorem TurnAt.xn {a : Addr} {T : Tn} (h : TurnAt K H a T) (x : ExtN H H1) : TurnAt K H1 a T := by
  obtain ⟨ok, dx, pu, pf, pg, vu, vf, kvs, h1, h2, h3, h4, h5, h6, h7⟩ := h
  refine ⟨ok, dx, pu, pf, pg, vu, vf, kvs, x _ _ h1 (fun _ z => by cases z), x _ _ h2 (fun _ z => by cases z), h3.xn x, x _ _ h4 (fun _ z => by cases z), h5.xn x, x _ _ h6 (fun _ z => by cases z), ?_⟩
  exact ⟨h7.n, fun i p e => by obtain ⟨t, a1, a2⟩ := h7.gu i p e; exact ⟨t, a1, x _ _ a2 (fun _ z => by cases z)⟩, fun i p e => by obtain ⟨t, a1, a2⟩ := h7.gf i p e; exact ⟨t, a1, x _ _ a2 (fun _ z => by cases z)⟩, h7.no⟩
theorem Sc.xn (c : Sc H s) (x : ExtN H H1) : Sc H1 s := by
  obtain ⟨d, ds, j, h1, h2, h3⟩ := c.ex
  exact ⟨d, ds, j, x _ _ h1 (fun _ z => by cases z), x _ _ h2 (fun _ z => by cases z), h3⟩
theorem tabs_sx {T : List (Addr × Str)} (t : Tabs T H) (c : Sc H s) (x : Sx s H H1) : Tabs T H1 := fun p hp => by
  obtain ⟨ps, h1, h2, h3⟩ := t p hp
  obtain ⟨d, ds, j, e, -⟩ := c.ex
  refine ⟨ps, x.old _ _ (ne_of h1 e (by intro z; cases z)) h1, h2, fun pos cv hc => ?_⟩
  obtain ⟨q, e1, e2⟩ := h3 pos cv hc
  exact ⟨q, e1, x.old _ _ (ne_of e2 e (by intro z; unfold CodeO at z; cases z)) e2⟩
/-- all but the source and the tables stands -/
def BuN (s : Addr) (H H' : Hp) : Prop := ∀ b o, b ≠ s → H b = some o → (∀ ps, o ≠ .tbl ps) → H' b = some o
theorem BuN.of_sx (x : Sx s H H1) : BuN s H H1 := fun b o n e _ => x.old b o n e
theorem BuN.xn (a : BuN s H H1) (x : ExtN H1 H2) : BuN s H H2 := fun b o n e z => x b o (a b o n e z) z
theorem BuN.trans (a : BuN s H H1) (b : BuN s H1 H2) : BuN s H H2 := fun c o n e z => b c o n (a c o n e z) z
end
theorem cut_mem {xs : List V} {lo hi : Option Int} {x : V} (h : x ∈ cutV xs lo hi) : x ∈ xs := List.mem_of_mem_drop (List.mem_of_mem_take h)
theorem cut_len (xs : List V) (lo hi : Option Int) : (cutV xs lo hi).length ≤ xs.length := by
  unfold cutV
  rw [List.length_take, List.length_drop]
  omega
/-- no int, or a bool -/
def NotI (K : PySem.W.Frag) (H : Hp) (v : V) : Prop := (∃ k, v = .bl k) ∨ ∃ T, TyX K H v (.type T) ∧ kitB T "int" = some false
def FromV (K : PySem.W.Frag) (H : Hp) (v : V) (a : Int) (r : Bool) : Prop := (∃ n, v = .int n ∧ r = decide (a ≤ n)) ∨ (NotI K H v ∧ r = false)
/-- r tells whether v is an int from a to b -/
def WithinV (K : PySem.W.Frag) (H : Hp) (v : V) (a b : Int) (r : Bool) : Prop := (∃ n, v = .int n ∧ r = decide (a ≤ n ∧ n ≤ b)) ∨ (NotI K H v ∧ r = false)
section
variable {K : PySem.W.Frag} {H : Hp} {q : Addr}
theorem ni_bl {k : Bool} : NotI K H (.bl k) := .inl ⟨k, rfl⟩
theorem ni_non : NotI K H .non := .inr ⟨"NoneType", .base .non, by decide +kernel⟩
theorem ni_str {x : Str} : NotI K H (.str x) := .inr ⟨"str", .base (.str x), by decide +kernel⟩
theorem ni_lst {xs : List V} (h : H q = some (.lst xs)) : NotI K H (.ref q) := .inr ⟨"list", .base (.lst h), by decide +kernel⟩
theorem ni_tup {xs : List V} (h : H q = some (.tup xs)) : NotI K H (.ref q) := .inr ⟨"tuple", .base (.tup h), by decide +kernel⟩
theorem ni_dct {xs : List (Key × V)} (h : H q = some (.dK xs)) : NotI K H (.ref q) := .inr ⟨"dict", .base (.dK h), by decide +kernel⟩
theorem NotI.within {v : V} {a b : Int} (h : NotI K H v) : WithinV K H v a b false := .inr ⟨h, rfl⟩
theorem NotI.from {v : V} {a : Int} (h : NotI K H v) : FromV K H v a false := .inr ⟨h, rfl⟩
theorem int_out {n a b : Int} (h : ¬ (a ≤ n ∧ n ≤ b)) : WithinV K H (.int n) a b false := .inl ⟨n, rfl, (decide_eq_false h).symm⟩
theorem int_low {n a : Int} (h : ¬ a ≤ n) : FromV K H (.int n) a false := .inl ⟨n, rfl, (decide_eq_false h).symm⟩
end
/-- no number from 0 on -/
def NoNum (K : PySem.W.Frag) (H : Hp) (b : V) : Prop := ∀ H', Same H H' → FromV K H' b 0 false
/-- no place -/
def NoPl (K : PySem.W.Frag) (H : Hp) (v : V) : Prop := (∃ T, TyX K H v (.type T) ∧ kitB T "tuple" = some false) ∨ ∃ (t : Addr) (xs : List V), v = .ref t ∧ H t = some (.tup xs) ∧
  (xs.length ≠ 2 ∨ ∃ a b, xs = [a, b] ∧ ((∃ T, TyX K H a (.type T) ∧ kitB T "str" = some false) ∨ ∃ w, a = .str w ∧ (inV (.str w) [V.str "use", V.str "list"] = false ∨ (inV (.str w) [V.str "use", V.str "list"] = true ∧ NoNum K H b))))
/-- no place where so many are in use -/
def NoAm (K : PySem.W.Frag) (H : Hp) (m : Nat) (v : V) : Prop := NoPl K H v ∨ ∃ (t : Addr) (k : Nat), v = .ref t ∧ H t = some (plO (.use k)) ∧ m ≤ k
/-- where the odd things stand -/
structure OddF (H : Hp) (r1 r2 r3 r4 r5 r6 r7 r8 r9 r10 r11 r12 r13 r14 r15 r16 : Addr) : Prop where
  hr1 : H r1 = some (.tup [])
  hr2 : H r2 = some (.tup [.str "use"])
  hr3 : H r3 = some (.tup [.str "use", .int 0, .int 0])
  hr4 : H r4 = some (.tup [.str "heap", .int 0])
  hr5 : H r5 = some (.tup [.int 0, .str "use"])
  hr6 : H r6 = some (.lst [.str "use", .int 0])
  hr7 : H r7 = some (.tup [.str "use", .non])
  hr8 : H r8 = some (.dK [])
  hr9 : H r9 = some (.tup [.str "use", .int (-1)])
  hr10 : H r10 = some (.tup [.str "list", .int (-1)])
  hr11 : H r11 = some (.tup [.str "list", .bl true])
  hr12 : H r12 = some (.tup [.str "use", .bl false])
  hr13 : H r13 = some (.tup [.str "list", .str "0"])
  hr14 : H r14 = some (.tup [.non, .int 0])
  hr15 : H r15 = some (.tup [.str "use", .int 0])
  hr16 : H r16 = some (.tup [.ref r15, .int 0])
def OddL (r1 r2 r3 r4 r5 r6 r7 r8 r9 r10 r11 r12 r13 r14 r15 r16 : Addr) : List V := [.non, .int 5, .str "use", .ref r1, .ref r2, .ref r3, .ref r4, .ref r5, .ref r6, .ref r7, .ref r8, .ref r9, .ref r10, .ref r11, .ref r12, .ref r13, .ref r14, .ref r16]
theorem OddF.xn {H H1 : Hp} {r1 r2 r3 r4 r5 r6 r7 r8 r9 r10 r11 r12 r13 r14 r15 r16 : Addr} (h : OddF H r1 r2 r3 r4 r5 r6 r7 r8 r9 r10 r11 r12 r13 r14 r15 r16) (x : ExtN H H1) : OddF H1 r1 r2 r3 r4 r5 r6 r7 r8 r9 r10 r11 r12 r13 r14 r15 r16 := ⟨x _ _ h.hr1 (fun _ z => by cases z), x _ _ h.hr2 (fun _ z => by cases z), x _ _ h.hr3 (fun _ z => by cases z), x _ _ h.hr4 (fun _ z => by cases z), x _ _ h.hr5 (fun _ z => by cases z), x _ _ h.hr6 (fun _ z => by cases z), x _ _ h.hr7 (fun _ z => by cases z), x _ _ h.hr8 (fun _ z => by cases z), x _ _ h.hr9 (fun _ z => by cases z), x _ _ h.hr10 (fun _ z => by cases z), x _ _ h.hr11 (fun _ z => by cases z), x _ _ h.hr12 (fun _ z => by cases z), x _ _ h.hr13 (fun _ z => by cases z), x _ _ h.hr14 (fun _ z => by cases z), x _ _ h.hr15 (fun _ z => by cases z), x _ _ h.hr16 (fun _ z => by cases z)⟩
theorem OddF.no {K : PySem.W.Frag} {H : Hp} {r1 r2 r3 r4 r5 r6 r7 r8 r9 r10 r11 r12 r13 r14 r15 r16 : Addr} (h : OddF H r1 r2 r3 r4 r5 r6 r7 r8 r9 r10 r11 r12 r13 r14 r15 r16) {v : V} {i : Nat} (e : (OddL r1 r2 r3 r4 r5 r6 r7 r8 r9 r10 r11 r12 r13 r14 r15 r16)[i]? = some v) : NoPl K H v := by
  rcases i with _ | _ | _ | _ | _ | _ | _ | _ | _ | _ | _ | _ | _ | _ | _ | _ | _ | _ | i
  · cases e
    exact .inl ⟨"NoneType", .base .non, by decide +kernel⟩
  · cases e
    exact .inl ⟨"int", .base (.int _), by decide +kernel⟩
  · cases e
    exact .inl ⟨"str", .base (.str _), by decide +kernel⟩
  · cases e
    exact .inr ⟨_, _, rfl, h.hr1, .inl (by decide)⟩
  · cases e
    exact .inr ⟨_, _, rfl, h.hr2, .inl (by decide)⟩
  · cases e
    exact .inr ⟨_, _, rfl, h.hr3, .inl (by decide)⟩
  · cases e
    exact .inr ⟨_, _, rfl, h.hr4, .inr ⟨_, _, rfl, .inr ⟨_, rfl, .inl (by decide +kernel)⟩⟩⟩
  · cases e
    exact .inr ⟨_, _, rfl, h.hr5, .inr ⟨_, _, rfl, .inl ⟨"int", .base (.int _), by decide +kernel⟩⟩⟩
  · cases e
    exact .inl ⟨"list", .base (.lst h.hr6), by decide +kernel⟩
  · cases e
    exact .inr ⟨_, _, rfl, h.hr7, .inr ⟨_, _, rfl, .inr ⟨_, rfl, .inr ⟨by decide +kernel, fun _ _ => ni_non.from⟩⟩⟩⟩
  · cases e
    exact .inl ⟨"dict", .base (.dK h.hr8), by decide +kernel⟩
  · cases e
    exact .inr ⟨_, _, rfl, h.hr9, .inr ⟨_, _, rfl, .inr ⟨_, rfl, .inr ⟨by decide +kernel, fun _ _ => int_low (by decide)⟩⟩⟩⟩
  · cases e
    exact .inr ⟨_, _, rfl, h.hr10, .inr ⟨_, _, rfl, .inr ⟨_, rfl, .inr ⟨by decide +kernel, fun _ _ => int_low (by decide)⟩⟩⟩⟩
  · cases e
    exact .inr ⟨_, _, rfl, h.hr11, .inr ⟨_, _, rfl, .inr ⟨_, rfl, .inr ⟨by decide +kernel, fun _ _ => ni_bl.from⟩⟩⟩⟩
  · cases e
    exact .inr ⟨_, _, rfl, h.hr12, .inr ⟨_, _, rfl, .inr ⟨_, rfl, .inr ⟨by decide +kernel, fun _ _ => ni_bl.from⟩⟩⟩⟩
  · cases e
    exact .inr ⟨_, _, rfl, h.hr13, .inr ⟨_, _, rfl, .inr ⟨_, rfl, .inr ⟨by decide +kernel, fun _ _ => ni_str.from⟩⟩⟩⟩
  · cases e
    exact .inr ⟨_, _, rfl, h.hr14, .inr ⟨_, _, rfl, .inl ⟨"NoneType", .base .non, by decide +kernel⟩⟩⟩
  · cases e
    exact .inr ⟨_, _, rfl, h.hr16, .inr ⟨_, _, rfl, .inl ⟨"tuple", .base (.tup h.hr15), by decide +kernel⟩⟩⟩
  · simp [OddL] at e
/-- whether v is a list of places -/
def PsR (K : PySem.W.Frag) (H : Hp) (v : V) (r : Bool) : Prop := (r = false ∧ ∃ T, TyX K H v (.type T) ∧ kitB T "list" = some false) ∨
  ∃ (l : Addr) (ws : List V) (f : Nat → Bool), v = .ref l ∧ H l = some (.lst ws) ∧ ws.length ≤ 20000 ∧ (∀ j w H', ws[j]? = some w → Same H H' → if f j = true then ∃ (t : Addr) (p : Pl), w = .ref t ∧ H' t = some (plO p) else NoPl K H' w) ∧ r = ((List.range ws.length).map f).all id
theorem psr_pl {K : PySem.W.Frag} {H : Hp} {l : Addr} {ws : List V} {ps : List Pl} (h : H l = some (.lst ws)) (P : PlL H ws ps) (n : ps.length ≤ 20000) : PsR K H (.ref l) true := by
  refine .inr ⟨l, ws, fun _ => true, rfl, h, by rw [P.len]; exact n, fun j w H' hw s' => ?_, ?_⟩
  · rw [if_pos rfl]
    obtain ⟨t, _, e, ht⟩ := (P.same s').item hw
    exact ⟨t, _, e, ht⟩
  · rw [take_map_bl (fun b hb => by obtain ⟨j, -, e⟩ := List.mem_map.mp hb; exact e.symm)]
/-- places that are not each once ahead -/
def NotOnce (ps : List Pl) (n : Int) : Prop := ¬ (((nmI Pl.lN ps).length : Int) = n ∧ (nmI Pl.lN ps).Perm (rgI (nmI Pl.lN ps).length) ∧ (nmI Pl.uN ps).Perm (rgI (nmI Pl.uN ps).length))
open LamX KrL
/-! the texts of things, and how long they may be -/
structure Tk (H : Hp) (v : V) (d : PyData) (p z : Nat) : Prop where
  r : KrG.Dr H v d
  s : d.showable = true
  p : d.depth ≤ p
  z : d.shown.length ≤ z
theorem text_le : ∀ (ts : List Str) (k : Nat) (acc : Str) (B : Nat), (∀ t ∈ ts, t.length ≤ B) → (textFrom k acc ts).length ≤ acc.length + ts.length * (B + 2)
  | [], k, acc, B, h => by simp [textFrom]
  | t :: r, k, acc, B, h => by
    have ih := text_le r (k + 1) (acc ++ (if k > 0 then ", " else "" : String) ++ t) B fun x hx => h x (List.mem_cons_of_mem _ hx)
    have ht := h t List.mem_cons_self
    have hs : ((if k > 0 then ", " else "" : String) : Str).length ≤ 2 := by
      split
      · decide +kernel
      · decide +kernel
    show (textFrom (k + 1) (acc ++ (if k > 0 then ", " else "" : String) ++ t) r).length ≤ _
    rw [strLen_append, strLen_append] at ih
    rw [List.length_cons, Nat.add_mul, Nat.one_mul]
    omega
theorem shownAll_len : ∀ ds : List PyData, (PyData.shownAll ds).length = ds.length
  | [] => rfl
  | d :: ds => by
    show (PyData.shownAll ds).length + 1 = _
    rw [shownAll_len ds]
    rfl
theorem shownAll_le {B : Nat} : ∀ {ds : List PyData}, (∀ d ∈ ds, d.shown.length ≤ B) → ∀ t ∈ PyData.shownAll ds, t.length ≤ B
  | [], _, t, h => by cases h
  | d :: ds, hd, t, h => by
    rcases List.mem_cons.mp (show t ∈ d.shown :: PyData.shownAll ds from h) with rfl | h
    · exact hd d List.mem_cons_self
    · exact shownAll_le (fun x hx => hd x (List.mem_cons_of_mem _ hx)) t h
theorem piled_le {B : Nat} : ∀ {ts : List Str}, (∀ t ∈ ts, t.length ≤ B) → piled ts ≤ ts.length * (B + 2)
  | [], _ => by simp [piled_nil]
  | t :: ts, h => by
    have ih := piled_le (ts := ts) fun x hx => h x (List.mem_cons_of_mem _ hx)
    have ht := h t List.mem_cons_self
    rw [piled_cons, List.length_cons, Nat.add_mul, Nat.one_mul]
    omega
theorem list_le {B : Nat} {ds : List PyData} (h : ∀ d ∈ ds, d.shown.length ≤ B) : (PyData.list ds).shown.length ≤ ds.length * (B + 2) + 2 := by
  have h1 := text_le (PyData.shownAll ds) 0 "[" B (shownAll_le h)
  rw [shownAll_len] at h1
  show (textFrom 0 "[" (PyData.shownAll ds) ++ "]" : Str).length ≤ _
  rw [strLen_append]
  have e1 : ("[" : Str).length = 1 := by decide +kernel
  have e2 : ("]" : Str).length = 1 := by decide +kernel
  omega
theorem tuple_le {B : Nat} {ds : List PyData} (h : ∀ d ∈ ds, d.shown.length ≤ B) : (PyData.tuple ds).shown.length ≤ ds.length * (B + 2) + 3 := by
  show (("(" : Str) ++ Str.join ", " (PyData.shownAll ds) ++ (if (PyData.shownAll ds).length == 1 then ",)" else ")" : String) : Str).length ≤ _
  rw [strLen_append, strLen_append]
  have e1 : ("(" : Str).length = 1 := by decide +kernel
  have e2 : ((if (PyData.shownAll ds).length == 1 then ",)" else ")" : String) : Str).length ≤ 2 := by
    split
    · decide +kernel
    · decide +kernel
  by_cases z : PyData.shownAll ds = []
  · rw [z]
    have e3 : (Str.join ", " [] : Str).length = 0 := by decide +kernel
    rw [z] at e2
    omega
  · have h2 := join_length_add _ z
    have h3 := piled_le (shownAll_le h)
    rw [shownAll_len] at h3
    omega
theorem showAll_of {ds : List PyData} (h : ∀ d ∈ ds, d.showable = true) : PyData.showableAll ds = true := by
  induction ds with
  | nil => rfl
  | cons d ds ih =>
    show (d.showable && PyData.showableAll ds) = true
    rw [h d List.mem_cons_self, ih fun x hx => h x (List.mem_cons_of_mem _ hx)]
    rfl
theorem depthAll_of {p : Nat} {ds : List PyData} (h : ∀ d ∈ ds, d.depth ≤ p) : PyData.depthAll ds ≤ p := by
  induction ds with
  | nil => simp [PyData.depthAll]
  | cons d ds ih =>
    have := h d List.mem_cons_self
    have := ih fun x hx => h x (List.mem_cons_of_mem _ hx)
    simp only [PyData.depthAll]
    omega
/-- a row of such things -/
inductive TkL (H : Hp) (p z : Nat) : List V → List PyData → Prop
  | nil : TkL H p z [] []
  | cons {v : V} {d : PyData} {vs : List V} {ds : List PyData} : Tk H v d p z → TkL H p z vs ds → TkL H p z (v :: vs) (d :: ds)
theorem TkL.app {H : Hp} {p z : Nat} {vs ws : List V} {ds es : List PyData} (h : TkL H p z vs ds) (g : TkL H p z ws es) : TkL H p z (vs ++ ws) (ds ++ es) := by
  induction h with
  | nil => exact g
  | cons a _ ih => exact .cons a ih
theorem TkL.len {H : Hp} {p z : Nat} {vs : List V} {ds : List PyData} (h : TkL H p z vs ds) : vs.length = ds.length := by
  induction h with
  | nil => rfl
  | cons _ _ ih => simp [ih]
theorem TkL.dr {H : Hp} {p z : Nat} {vs : List V} {ds : List PyData} (h : TkL H p z vs ds) : KrG.DrAll H vs ds := by
  induction h with
  | nil => exact .nil
  | cons a _ ih => exact .cons a.r ih
theorem TkL.all {H : Hp} {p z : Nat} {vs : List V} {ds : List PyData} (h : TkL H p z vs ds) : ∀ d ∈ ds, d.showable = true ∧ d.depth ≤ p ∧ d.shown.length ≤ z := by
  induction h with
  | nil => intro d hd; cases hd
  | cons a _ ih =>
    intro d hd
    rcases List.mem_cons.mp hd with rfl | hd
    · exact ⟨a.s, a.p, a.z⟩
    · exact ih d hd
theorem Tk.lst {H : Hp} {p z : Nat} {a : Addr} {vs : List V} {ds : List PyData} (e : H a = some (.lst vs)) (h : TkL H p z vs ds) : Tk H (.ref a) (.list ds) (p + 1) (vs.length * (z + 2) + 2) := by
  refine ⟨.lst e h.dr, ?_, ?_, ?_⟩
  · show PyData.showableAll ds = true
    exact showAll_of fun d hd => (h.all d hd).1
  · have := depthAll_of fun d hd => (h.all d hd).2.1
    simp only [PyData.depth]
    omega
  · rw [h.len]
    exact list_le fun d hd => (h.all d hd).2.2
theorem Tk.tup {H : Hp} {p z : Nat} {a : Addr} {vs : List V} {ds : List PyData} (e : H a = some (.tup vs)) (h : TkL H p z vs ds) : Tk H (.ref a) (.tuple ds) (p + 1) (vs.length * (z + 2) + 3) := by
  refine ⟨.tup e h.dr, ?_, ?_, ?_⟩
  · show PyData.showableAll ds = true
    exact showAll_of fun d hd => (h.all d hd).1
  · have := depthAll_of fun d hd => (h.all d hd).2.1
    simp only [PyData.depth]
    omega
  · rw [h.len]
    exact tuple_le fun d hd => (h.all d hd).2.2
theorem Tk.le {H : Hp} {v : V} {d : PyData} {p z p' z' : Nat} (h : Tk H v d p z) (a : p ≤ p') (b : z ≤ z') : Tk H v d p' z' := ⟨h.r, h.s, Nat.le_trans h.p a, Nat.le_trans h.z b⟩
theorem log_of {n : Nat} (h : n < 2 ^ 200) : n.log2 < 1920 := by
  rcases Nat.eq_zero_or_pos n with rfl | hp
  · decide
  · exact (Nat.log2_lt (by omega)).mpr (Nat.lt_of_lt_of_le h (Nat.pow_le_pow_right (n := 2) (i := 200) (j := 1920) (by decide) (by decide)))
theorem tk_int {H : Hp} {i : Int} (h : i.natAbs < 2 ^ 200) : Tk H (.int i) (.int i) 0 1950 := by
  have l := log_of h
  refine ⟨.int i, decide_eq_true l, by simp [PyData.depth], ?_⟩
  show (Str.ofString (toString i)).length ≤ 1950
  exact Nat.le_trans (int_text_len_1921 l) (by decide)
theorem tk_w {H : Hp} (p : Pl) : Tk H (.str p.w) (.str p.w) 0 1950 := by
  cases p with
  | use k => exact ⟨.str _, rfl, by simp [PyData.depth], by show (PyData.str "use").shown.length ≤ 1950; decide +kernel⟩
  | lst k => exact ⟨.str _, rfl, by simp [PyData.depth], by show (PyData.str "list").shown.length ≤ 1950; decide +kernel⟩
theorem tk_pl {H : Hp} {t : Addr} {p : Pl} (e : H t = some (plO p)) (n : p.n < 10 ^ 40) : Tk H (.ref t) (plD p) 1 4000 := by
  have h := Tk.tup e (.cons (tk_w p) (.cons (tk_int (i := (p.n : Int)) (by omega)) .nil))
  exact h.le (by omega) (by show 2 * (1950 + 2) + 3 ≤ 4000; omega)
theorem tk_pls {H : Hp} : ∀ {vs : List V} {ps : List Pl}, PlL H vs ps → (∀ p ∈ ps, p.n < 10 ^ 40) → TkL H 4 4000 vs (ps.map plD)
  | [], [], _, _ => .nil
  | [], _ :: _, h, _ => by have := h.len; simp at this
  | _ :: _, [], h, _ => by have := h.len; simp at this
  | v :: vs, p :: ps, h, b => by
    obtain ⟨t, h1, h2⟩ := h.at_ 0 p rfl
    cases h1
    refine .cons ((tk_pl h2 (b p List.mem_cons_self)).le (by omega) (by omega)) (tk_pls ⟨by have := h.len; simpa using this, fun i q hq => ?_⟩ fun q hq => b q (List.mem_cons_of_mem _ hq))
    exact h.at_ (i + 1) q hq
theorem Sc.ne_ob {H : Hp} {s r : Addr} {o : HO} (c : Sc H s) (e : H r = some o) (k : ∀ d j, o ≠ .lst [.ref d, .int j]) : r ≠ s := fun z => by
  obtain ⟨d, ds, j, h1, -⟩ := c.ex
  rw [z, h1] at e
  exact k d j (Option.some.inj e).symm
theorem Sc.ne_free {H : Hp} {s r : Addr} (c : Sc H s) (e : H r = none) : r ≠ s := fun z => by
  obtain ⟨d, ds, j, h1, -⟩ := c.ex
  rw [z, h1] at e
  cases e
theorem PlL.bn {s : Addr} {H H1 : Hp} {vs : List V} {ps : List Pl} (h : PlL H vs ps) (c : Sc H s) (b : BuN s H H1) : PlL H1 vs ps := h.keep (x := s) fun r xs e => b _ _ (c.ne_ob e (by intro d j z; cases z)) e (fun _ z => by cases z)
theorem OddF.bu {H H1 : Hp} {s r1 r2 r3 r4 r5 r6 r7 r8 r9 r10 r11 r12 r13 r14 r15 r16 : Addr} (h : OddF H r1 r2 r3 r4 r5 r6 r7 r8 r9 r10 r11 r12 r13 r14 r15 r16) (c : Sc H s) (x : BuN s H H1) : OddF H1 r1 r2 r3 r4 r5 r6 r7 r8 r9 r10 r11 r12 r13 r14 r15 r16 := ⟨x _ _ (c.ne_ob h.hr1 (by intro d j z; cases z)) h.hr1 (fun _ z => by cases z), x _ _ (c.ne_ob h.hr2 (by intro d j z; cases z)) h.hr2 (fun _ z => by cases z), x _ _ (c.ne_ob h.hr3 (by intro d j z; cases z)) h.hr3 (fun _ z => by cases z), x _ _ (c.ne_ob h.hr4 (by intro d j z; cases z)) h.hr4 (fun _ z => by cases z), x _ _ (c.ne_ob h.hr5 (by intro d j z; cases z)) h.hr5 (fun _ z => by cases z), x _ _ (c.ne_ob h.hr6 (by intro d j z; cases z)) h.hr6 (fun _ z => by cases z), x _ _ (c.ne_ob h.hr7 (by intro d j z; cases z)) h.hr7 (fun _ z => by cases z), x _ _ (c.ne_ob h.hr8 (by intro d j z; cases z)) h.hr8 (fun _ z => by cases z), x _ _ (c.ne_ob h.hr9 (by intro d j z; cases z)) h.hr9 (fun _ z => by cases z), x _ _ (c.ne_ob h.hr10 (by intro d j z; cases z)) h.hr10 (fun _ z => by cases z), x _ _ (c.ne_ob h.hr11 (by intro d j z; cases z)) h.hr11 (fun _ z => by cases z), x _ _ (c.ne_ob h.hr12 (by intro d j z; cases z)) h.hr12 (fun _ z => by cases z), x _ _ (c.ne_ob h.hr13 (by intro d j z; cases z)) h.hr13 (fun _ z => by cases z), x _ _ (c.ne_ob h.hr14 (by intro d j z; cases z)) h.hr14 (fun _ z => by cases z), x _ _ (c.ne_ob h.hr15 (by intro d j z; cases z)) h.hr15 (fun _ z => by cases z), x _ _ (c.ne_ob h.hr16 (by intro d j z; cases z)) h.hr16 (fun _ z => by cases z)⟩
theorem OddF.tk {H : Hp} {r1 r2 r3 r4 r5 r6 r7 r8 r9 r10 r11 r12 r13 r14 r15 r16 : Addr} {v : V} {i : Nat} (e : (OddL r1 r2 r3 r4 r5 r6 r7 r8 r9 r10 r11 r12 r13 r14 r15 r16)[i]? = some v) : ∃ d, ∀ H1, OddF H1 r1 r2 r3 r4 r5 r6 r7 r8 r9 r10 r11 r12 r13 r14 r15 r16 → Tk H1 v d 4 4000 := by
  rcases i with _ | _ | _ | _ | _ | _ | _ | _ | _ | _ | _ | _ | _ | _ | _ | _ | _ | _ | i
  · cases e
    exact ⟨.none, fun H1 h => ⟨.non, by decide +kernel, by decide, by decide +kernel⟩⟩
  · cases e
    exact ⟨.int 5, fun H1 h => ⟨.int _, by decide +kernel, by decide, by decide +kernel⟩⟩
  · cases e
    exact ⟨.str "use", fun H1 h => ⟨.str _, by decide +kernel, by decide, by decide +kernel⟩⟩
  · cases e
    exact ⟨.tuple [], fun H1 h => ⟨.tup h.hr1 .nil, by decide +kernel, by decide, by decide +kernel⟩⟩
  · cases e
    exact ⟨.tuple [.str "use"], fun H1 h => ⟨.tup h.hr2 (.cons (.str _) .nil), by decide +kernel, by decide, by decide +kernel⟩⟩
  · cases e
    exact ⟨.tuple [.str "use", .int (0), .int (0)], fun H1 h => ⟨.tup h.hr3 (.cons (.str _) (.cons (.int _) (.cons (.int _) .nil))), by decide +kernel, by decide, by decide +kernel⟩⟩
  · cases e
    exact ⟨.tuple [.str "heap", .int (0)], fun H1 h => ⟨.tup h.hr4 (.cons (.str _) (.cons (.int _) .nil)), by decide +kernel, by decide, by decide +kernel⟩⟩
  · cases e
    exact ⟨.tuple [.int (0), .str "use"], fun H1 h => ⟨.tup h.hr5 (.cons (.int _) (.cons (.str _) .nil)), by decide +kernel, by decide, by decide +kernel⟩⟩
  · cases e
    exact ⟨.list [.str "use", .int (0)], fun H1 h => ⟨.lst h.hr6 (.cons (.str _) (.cons (.int _) .nil)), by decide +kernel, by decide, by decide +kernel⟩⟩
  · cases e
    exact ⟨.tuple [.str "use", .none], fun H1 h => ⟨.tup h.hr7 (.cons (.str _) (.cons .non .nil)), by decide +kernel, by decide, by decide +kernel⟩⟩
  · cases e
    exact ⟨.dict [], fun H1 h => ⟨.dct h.hr8, by decide +kernel, by decide, by decide +kernel⟩⟩
  · cases e
    exact ⟨.tuple [.str "use", .int (-1)], fun H1 h => ⟨.tup h.hr9 (.cons (.str _) (.cons (.int _) .nil)), by decide +kernel, by decide, by decide +kernel⟩⟩
  · cases e
    exact ⟨.tuple [.str "list", .int (-1)], fun H1 h => ⟨.tup h.hr10 (.cons (.str _) (.cons (.int _) .nil)), by decide +kernel, by decide, by decide +kernel⟩⟩
  · cases e
    exact ⟨.tuple [.str "list", .bool true], fun H1 h => ⟨.tup h.hr11 (.cons (.str _) (.cons (.bl _) .nil)), by decide +kernel, by decide, by decide +kernel⟩⟩
  · cases e
    exact ⟨.tuple [.str "use", .bool false], fun H1 h => ⟨.tup h.hr12 (.cons (.str _) (.cons (.bl _) .nil)), by decide +kernel, by decide, by decide +kernel⟩⟩
  · cases e
    exact ⟨.tuple [.str "list", .str "0"], fun H1 h => ⟨.tup h.hr13 (.cons (.str _) (.cons (.str _) .nil)), by decide +kernel, by decide, by decide +kernel⟩⟩
  · cases e
    exact ⟨.tuple [.none, .int (0)], fun H1 h => ⟨.tup h.hr14 (.cons .non (.cons (.int _) .nil)), by decide +kernel, by decide, by decide +kernel⟩⟩
  · cases e
    exact ⟨.tuple [(.tuple [.str "use", .int (0)]), .int (0)], fun H1 h => ⟨.tup h.hr16 (.cons (.tup h.hr15 (.cons (.str _) (.cons (.int _) .nil))) (.cons (.int _) .nil)), by decide +kernel, by decide, by decide +kernel⟩⟩
  · simp [OddL] at e
theorem up_same {H H5 H6 : Hp} {D : Addr} {o : HO} (s5 : Same H H5) (s6 : Same H5 H6) (hD : H D = none) : Same H (upd H6 D o) := fun b x hb => by
  rw [upd_ne (ne_of_none hb hD)]
  exact s6 _ _ (s5 b x hb)
/-- a row with a thing in it that is no place -/
theorem psr_mid {K : PySem.W.Frag} {H : Hp} {l : Addr} {xs ys : List V} {o : V} {ps qs : List Pl} (h : H l = some (.lst (xs ++ [o] ++ ys))) (PX : PlL H xs ps) (PY : PlL H ys qs) (n : ps.length + qs.length ≤ 19000) (no : ∀ H', Same H H' → NoPl K H' o) : PsR K H (.ref l) false := by
  have lx := PX.len
  have ly := PY.len
  refine .inr ⟨l, xs ++ [o] ++ ys, fun j => !decide (j = xs.length), rfl, h, by simp; omega, fun j w H' hw s' => ?_, ?_⟩
  · rcases Nat.lt_trichotomy j xs.length with z | z | z
    · rw [List.append_assoc, List.getElem?_append_left z] at hw
      rw [if_pos (by simp; omega)]
      obtain ⟨t, _, e, ht⟩ := (PX.same s').item hw
      exact ⟨t, _, e, ht⟩
    · rw [List.append_assoc, List.getElem?_append_right (by omega), z, Nat.sub_self] at hw
      cases hw
      rw [if_neg (by simp [z])]
      exact no H' s'
    · rw [List.getElem?_append_right (by simp; omega)] at hw
      rw [if_pos (by simp; omega)]
      obtain ⟨t, _, e, ht⟩ := (PY.same s').item hw
      exact ⟨t, _, e, ht⟩
  · refine (List.all_eq_false.mpr ⟨false, List.mem_map.mpr ⟨xs.length, List.mem_range.mpr (by simp <;> omega), by simp⟩, by decide⟩).symm
section
theorem rgI_mem {n : Nat} {x : Int} (h : x ∈ rgI n) : 0 ≤ x ∧ x < n := by
  obtain ⟨k, hk, rfl⟩ := List.mem_map.mp h
  have := List.mem_range.mp hk
  omega
theorem rgI_nd (n : Nat) : (rgI n).Nodup := by
  unfold rgI
  exact List.nodup_iff_pairwise_ne.mpr (List.pairwise_map.mpr ((List.pairwise_lt_range (n := n)).imp fun h e => by omega))
theorem NotOnce.perm {ps qs : List Pl} {n : Int} (h : ps.Perm qs) (no : NotOnce ps n) : NotOnce qs n := fun c => no (by
  have h1 : (nmI Pl.lN ps).Perm (nmI Pl.lN qs) := (h.filterMap _).map _
  have h2 : (nmI Pl.uN ps).Perm (nmI Pl.uN qs) := (h.filterMap _).map _
  rw [h1.length_eq, h2.length_eq]
  exact ⟨c.1, h1.trans c.2.1, h2.trans c.2.2⟩)
theorem no_len {ps : List Pl} {n : Int} (h : ((nmI Pl.lN ps).length : Int) ≠ n) : NotOnce ps n := fun c => h c.1
theorem no_bigl {ps : List Pl} {n x : Int} (h : x ∈ nmI Pl.lN ps) (l : ((nmI Pl.lN ps).length : Int) ≤ x) : NotOnce ps n := fun c => by
  have := rgI_mem (c.2.1.mem_iff.mp h)
  omega
theorem no_bigu {ps : List Pl} {n x : Int} (h : x ∈ nmI Pl.uN ps) (l : ((nmI Pl.uN ps).length : Int) ≤ x) : NotOnce ps n := fun c => by
  have := rgI_mem (c.2.2.mem_iff.mp h)
  omega
theorem no_dupl {ps : List Pl} {n : Int} (h : ¬ (nmI Pl.lN ps).Nodup) : NotOnce ps n := fun c => h (c.2.1.nodup_iff.mpr (rgI_nd _))
theorem no_dupu {ps : List Pl} {n : Int} (h : ¬ (nmI Pl.uN ps).Nodup) : NotOnce ps n := fun c => h (c.2.2.nodup_iff.mpr (rgI_nd _))
theorem nm_ll (k : Nat) (b : List Pl) : nmI Pl.lN (.lst k :: b) = (k : Int) :: nmI Pl.lN b := by simp [nmI, Pl.lN]
theorem nm_lu (k : Nat) (b : List Pl) : nmI Pl.lN (.use k :: b) = nmI Pl.lN b := rfl
theorem nm_uu (k : Nat) (b : List Pl) : nmI Pl.uN (.use k :: b) = (k : Int) :: nmI Pl.uN b := by simp [nmI, Pl.uN]
theorem nm_ul (k : Nat) (b : List Pl) : nmI Pl.uN (.lst k :: b) = nmI Pl.uN b := rfl
theorem nm_inl {k : Nat} {b : List Pl} (h : Pl.lst k ∈ b) : (k : Int) ∈ nmI Pl.lN b := List.mem_map.mpr ⟨k, List.mem_filterMap.mpr ⟨_, h, rfl⟩, rfl⟩
theorem nm_inu {k : Nat} {b : List Pl} (h : Pl.use k ∈ b) : (k : Int) ∈ nmI Pl.uN b := List.mem_map.mpr ⟨k, List.mem_filterMap.mpr ⟨_, h, rfl⟩, rfl⟩
variable {b : List Pl} {a n : Nat}
theorem nm_lens (h : b.Perm (base a n)) : (nmI Pl.lN b).length = n ∧ (nmI Pl.uN b).length = a := by
  obtain ⟨h1, h2⟩ := nm_perm h
  rw [h1.length_eq, h2.length_eq, rgI_len, rgI_len]
  exact ⟨rfl, rfl⟩
theorem oc_len (h : b.Perm (base a n)) {m : Int} (ne : (n : Int) ≠ m) : NotOnce b m := no_len (by rw [(nm_lens h).1]; exact ne)
theorem oc_lst (h : b.Perm (base a n)) {k : Nat} : NotOnce (.lst k :: b) n := no_len (by rw [nm_ll, List.length_cons, (nm_lens h).1]; omega)
theorem oc_bigl (h : b.Perm (base a n)) {k : Nat} (hk : n + 1 ≤ k) (m : Int) : NotOnce (.lst k :: b) m := no_bigl (x := k) (by rw [nm_ll]; exact List.mem_cons_self) (by rw [nm_ll, List.length_cons, (nm_lens h).1]; omega)
theorem oc_bigu (h : b.Perm (base a n)) {k : Nat} (hk : a + 1 ≤ k) (m : Int) : NotOnce (.use k :: b) m := no_bigu (x := k) (by rw [nm_uu]; exact List.mem_cons_self) (by rw [nm_uu, List.length_cons, (nm_lens h).2]; omega)
theorem oc_dup {p : Pl} (hp : p ∈ b) (m : Int) : NotOnce (p :: b) m := by
  cases p with
  | use k => exact no_dupu (by rw [nm_uu]; intro z; exact (List.nodup_cons.mp z).1 (nm_inu hp))
  | lst k => exact no_dupl (by rw [nm_ll]; intro z; exact (List.nodup_cons.mp z).1 (nm_inl hp))
/-- one place put for another -/
def rp (n : Nat) (p : Pl) : Pl := if p = .lst 0 then .lst n else p
theorem rp_len (n : Nat) : ∀ b : List Pl, (nmI Pl.lN (b.map (rp n))).length = (nmI Pl.lN b).length
  | [] => rfl
  | p :: b => by
    rw [List.map_cons]
    cases p with
    | use k =>
      rw [show rp n (.use k) = .use k from if_neg (by simp), nm_lu, nm_lu]
      exact rp_len n b
    | lst k =>
      by_cases z : k = 0
      · subst z
        rw [show rp n (.lst 0) = .lst n from if_pos rfl, nm_ll, nm_ll, List.length_cons, List.length_cons, rp_len n b]
      · rw [show rp n (.lst k) = .lst k from if_neg (by simp [z]), nm_ll, nm_ll, List.length_cons, List.length_cons, rp_len n b]
theorem oc_rp (h : b.Perm (base a n)) (n0 : 0 < n) (m : Int) : NotOnce (b.map (rp n)) m := by
  have hb : Pl.lst 0 ∈ b := h.mem_iff.mpr (mem_lst.mpr n0)
  refine no_bigl (x := n) (nm_inl (List.mem_map.mpr ⟨_, hb, if_pos rfl⟩)) ?_
  rw [rp_len, (nm_lens h).1]
  exact Int.le_refl _
end
/-- three arguments that are no Turn -/
structure BT (H : Hp) (l t : Addr) : Prop where
  ex : ∃ (pu pf : Addr) (vu vf : List V) (us fs : List Pl) (k : Int), H t = some (.tup [.ref pu, .ref pf, .int k]) ∧ H pu = some (.lst vu) ∧ PlL H vu us ∧ H pf = some (.lst vf) ∧ PlL H vf fs ∧ us.length ≤ 40 ∧ fs.length ≤ 40 ∧ 0 ≤ k ∧ NotOnce (us ++ fs) k ∧ pu ≠ l ∧ pf ≠ l
theorem BT.same {H H' : Hp} {l t : Addr} (h : BT H l t) (s : Same H H') : BT H' l t := by
  obtain ⟨pu, pf, vu, vf, us, fs, k, h1, h2, h3, h4, h5, h6⟩ := h.ex
  exact ⟨pu, pf, vu, vf, us, fs, k, s _ _ h1, s _ _ h2, h3.same s, s _ _ h4, h5.same s, h6⟩
theorem BT.but {H H' : Hp} {l t : Addr} {ws : List V} (h : BT H l t) (hl : H l = some (.lst ws)) (b : But l H H') : BT H' l t := by
  obtain ⟨pu, pf, vu, vf, us, fs, k, h1, h2, h3, h4, h5, c1, c2, c3, c4, nu, nf⟩ := h.ex
  have tp : ∀ c xs, H c = some (.tup xs) → H' c = some (.tup xs) := fun c xs e => b c _ (ne_of e hl (by intro z; cases z)) e
  exact ⟨pu, pf, vu, vf, us, fs, k, tp _ _ h1, b _ _ nu h2, h3.keep (x := t) tp, b _ _ nf h4, h5.keep (x := t) tp, c1, c2, c3, c4, nu, nf⟩
theorem BT.sx {H H' : Hp} {s l t : Addr} (h : BT H l t) (c : Sc H s) (x : Sx s H H') : BT H' l t := by
  obtain ⟨pu, pf, vu, vf, us, fs, k, h1, h2, h3, h4, h5, h6⟩ := h.ex
  exact ⟨pu, pf, vu, vf, us, fs, k, x.tup c h1, x.lst c h2 h3.rf, h3.sx c x, x.lst c h4 h5.rf, h5.sx c x, h6⟩
theorem BT.self {H : Hp} {l t : Addr} (h : BT H l t) : BT H t t := by
  obtain ⟨pu, pf, vu, vf, us, fs, k, h1, h2, h3, h4, h5, c1, c2, c3, c4, nu, nf⟩ := h.ex
  exact ⟨pu, pf, vu, vf, us, fs, k, h1, h2, h3, h4, h5, c1, c2, c3, c4, ne_of h2 h1 (by intro z; cases z), ne_of h4 h1 (by intro z; cases z)⟩
/-- a row of such -/
def BTs (H : Hp) (l : Addr) (ws : List V) : Prop := ∀ v ∈ ws, ∃ t, v = .ref t ∧ BT H l t
/-- what stands while the row of such is made -/
structure NO (H0 H : Hp) (s l pu pf : Addr) (vu vf : List V) (T : Tn) (ws : List V) : Prop where
  x : Sx s H0 H
  hu : H pu = some (.lst vu)
  PU : PlL H vu T.u
  hf : H pf = some (.lst vf)
  PF : PlL H vf T.f
  nu : pu ≠ l
  nf : pf ≠ l
  hl : H l = some (.lst ws)
  b : BTs H l ws
  fr : H0 l = none
theorem BTs.rf {H : Hp} {l : Addr} {ws : List V} (h : BTs H l ws) : ∀ v ∈ ws, ∃ t, v = V.ref t := fun v hv => by
  obtain ⟨t, e, -⟩ := h v hv
  exact ⟨t, e⟩
section
variable {H0 H H' : Hp} {s l pu pf : Addr} {vu vf : List V} {T : Tn} {ws : List V}
theorem NO.same (h : NO H0 H s l pu pf vu vf T ws) (x : Same H H') : NO H0 H' s l pu pf vu vf T ws := ⟨h.x.same x, x _ _ h.hu, h.PU.same x, x _ _ h.hf, h.PF.same x, h.nu, h.nf, x _ _ h.hl, fun v hv => by
  obtain ⟨t, e, b⟩ := h.b v hv
  exact ⟨t, e, b.same x⟩, h.fr⟩
theorem NO.sx (h : NO H0 H s l pu pf vu vf T ws) (x : Sx s H H') : NO H0 H' s l pu pf vu vf T ws := ⟨h.x.trans x, x.lst h.x.sc h.hu h.PU.rf, h.PU.sx h.x.sc x, x.lst h.x.sc h.hf h.PF.rf, h.PF.sx h.x.sc x, h.nu, h.nf, x.lst h.x.sc h.hl h.b.rf, fun v hv => by
  obtain ⟨t, e, b⟩ := h.b v hv
  exact ⟨t, e, b.sx h.x.sc x⟩, h.fr⟩
theorem Sc.updr {o : HO} (c : Sc H s) (e : H l = some (.lst ws)) (r : ∀ v ∈ ws, ∃ t, v = V.ref t) : Sc (L2.upd H l o) s := by
  obtain ⟨d, ds, j, h1, h2, h3, h4⟩ := c.ex
  have nd : d ≠ l := fun z => by
    rw [z, e] at h2
    have e2 := HO.lst.inj (Option.some.inj h2)
    cases ds with
    | nil => simp at h3
    | cons x ds =>
      obtain ⟨t, h⟩ := r (V.int x) (by rw [e2]; simp)
      cases h
  exact ⟨d, ds, j, by rw [upd_ne (c.ne_lst e r).symm]; exact h1, by rw [upd_ne nd]; exact h2, h3, h4⟩
theorem NO.add {t : Addr} (h : NO H0 H s l pu pf vu vf T ws) (b : BT H l t) : NO H0 (upd H l (.lst (ws ++ [.ref t]))) s l pu pf vu vf T (ws ++ [.ref t]) := by
  have bt : But l H (upd H l (.lst (ws ++ [.ref t]))) := (But.refl l H).upd
  have tp : ∀ c xs, H c = some (.tup xs) → upd H l (.lst (ws ++ [.ref t])) c = some (.tup xs) := fun c xs e => bt c _ (ne_of e h.hl (by intro z; cases z)) e
  refine ⟨⟨Sc.updr h.x.sc h.hl h.b.rf, fun c o n e => ?_⟩, bt _ _ h.nu h.hu, h.PU.keep (x := l) tp, bt _ _ h.nf h.hf, h.PF.keep (x := l) tp, h.nu, h.nf, upd_same, fun v hv => ?_, h.fr⟩
  · rw [upd_ne (ne_of_none e h.fr)]
    exact h.x.old c o n e
  · rcases List.mem_append.mp hv with hv | hv
    · obtain ⟨t', e, b'⟩ := h.b v hv
      exact ⟨t', e, b'.but h.hl bt⟩
    · exact ⟨t, List.mem_singleton.mp hv, b.but h.hl bt⟩
end
theorem pm_u (u f : List Pl) (x : Pl) : (x :: (u ++ f)).Perm (u ++ [x] ++ f) := by
  rw [List.append_assoc]
  exact List.perm_middle.symm
theorem pm_f (u f : List Pl) (x : Pl) : (x :: (u ++ f)).Perm (u ++ (f ++ [x])) := by
  rw [← List.append_assoc]
  exact (List.perm_append_comm (l₁ := u ++ f) (l₂ := [x])).symm
theorem pm_h (u f : List Pl) (x : Pl) : (x :: (u ++ f)).Perm (u ++ ([x] ++ f)) := List.perm_middle.symm
def sp_InvalidArgument___init__ (K : PySem.W.Frag) : Sp := fun vs H Q _ => ∃ (a : Addr) (v : V), vs = [.ref a, v] ∧ H a = some (exo a (He.ga K "InvalidArgument") none) ∧ ∀ d, H d = none → d ≠ a → Q .non (upd (upd H d (exd d [("part", v)])) a (exo a (He.ga K "InvalidArgument") (some d)))
/-- raise InvalidArgument(w) -/
theorem rai_at {K : PySem.W.Frag} {H : Hp} {E : XK} {w : Str} (h : RaiA K H E w) : KrE.rMkE (He.ga K "InvalidArgument") (sp_InvalidArgument___init__ K) [.str w] H fun cls d H2 => E cls d H2 :=
  KrE.r_mk1 (f := "part") (fun x Hx Q' hx k => ⟨x, _, rfl, hx, k⟩) fun d H2 s hd hx => h d H2 s hd hx
def sp_is_from (K : PySem.W.Frag) : Sp := fun vs H Q _ => ∃ n a : Int, vs = [.int n, .int a] ∧ Q (.bl (decide (a ≤ n))) H
def sp_is_place (K : PySem.W.Frag) : Sp := fun vs H Q _ => ∃ (t : Addr) (p : Pl), vs = [.ref t] ∧ H t = some (plO p) ∧ ∀ H', Same H H' → Q (.bl true) H'
def sp_are_places (K : PySem.W.Frag) : Sp := fun vs H Q _ => ∃ (l : Addr) (ws : List V) (ps : List Pl), vs = [.ref l] ∧ H l = some (.lst ws) ∧ PlL H ws ps ∧ ps.length ≤ 20000 ∧ ∀ H', Same H H' → Q (.bl true) H'
def sp_are_once (K : PySem.W.Frag) : Sp := fun vs H Q _ => ∃ (l : Addr) (ws : List V) (ps : List Pl) (a n : Nat), vs = [.ref l, .int n] ∧ H l = some (.lst ws) ∧ PlL H ws ps ∧ ps.length ≤ 20000 ∧ ps.Perm (base a n) ∧ ∀ H', Same H H' → Q (.bl true) H'
def sp_Turn___init__ (K : PySem.W.Frag) : Sp := fun vs H Q _ => ∃ (x dx pu pf : Addr) (vu vf : List V) (u f : List Pl) (n a : Nat), vs = [.ref x, .ref pu, .ref pf, .int n] ∧ H x = some (.ins (He.ga K "Turn") dx []) ∧ H pu = some (.lst vu) ∧ PlL H vu u ∧ H pf = some (.lst vf) ∧ PlL H vf f ∧
  (⟨u, f, n, a⟩ : Tn).Pm ∧ u.length ≤ 9000 ∧ f.length ≤ 9000 ∧ ∀ (T : Tn) (H' : Hp), T.Ok → T.u = u → T.a = a → (∀ p, T.or p = (⟨u, f, n, a⟩ : Tn).or p) → T.f.length ≤ f.length → T.n ≤ n → (∀ b o, b ≠ x → H b = some o → H' b = some o) → TurnAt K H' x T → (∀ l ws, H l = some (.lst ws) → ∀ H2, But l H' H2 → TurnAt K H2 x T) → Q .non H'
def sp_Turn___eq__ (K : PySem.W.Frag) : Sp := fun vs H Q _ => ∃ (x y : Addr) (S T : Tn), vs = [.ref x, .ref y] ∧ TurnAt K H x S ∧ TurnAt K H y T ∧ Q (.bl (decide (S.u = T.u ∧ S.f = T.f ∧ S.n = T.n))) H
def sp_Turn_used (K : PySem.W.Frag) : Sp := fun vs H Q _ => ∃ (x : Addr) (T : Tn), vs = [.ref x] ∧ TurnAt K H x T ∧ ∀ l vu H', Same H H' → H l = none → H' l = some (.lst vu) → PlL H' vu T.u → Q (.ref l) H'
def sp_Turn_front (K : PySem.W.Frag) : Sp := fun vs H Q _ => ∃ (x : Addr) (T : Tn), vs = [.ref x] ∧ TurnAt K H x T ∧ ∀ l vf H', Same H H' → H l = none → H' l = some (.lst vf) → PlL H' vf T.f → Q (.ref l) H'
def sp_Turn_fresh (K : PySem.W.Frag) : Sp := fun vs H Q _ => ∃ (x : Addr) (T : Tn), vs = [.ref x] ∧ TurnAt K H x T ∧ Q (.int T.n) H
def sp_Turn_ahead (K : PySem.W.Frag) : Sp := fun vs H Q _ => ∃ (x : Addr) (T : Tn), vs = [.ref x] ∧ TurnAt K H x T ∧ Q (.int T.a) H
def sp_Turn_behind (K : PySem.W.Frag) : Sp := fun vs H Q _ => ∃ (x : Addr) (T : Tn), vs = [.ref x] ∧ TurnAt K H x T ∧ Q (.int T.u.length) H
def sp__law_digits (K : PySem.W.Frag) : Sp := fun vs H Q _ => ∃ (c : Int) (m : Nat), vs = [.int c, .int m] ∧ m ≤ 1000 ∧ ∀ (p : Addr) (H' : Hp) (ds : List Int), Same H H' → H p = none → H' p = some (.lst (ds.map V.int)) → ds.length = m → (∀ x ∈ ds, 0 ≤ x ∧ x < 1009) → Q (.ref p) H'
def sp__law_next (K : PySem.W.Frag) : Sp := fun vs H Q _ => ∃ (s : Addr) (m : Nat), vs = [.ref s, .int m] ∧ Sc H s ∧ 0 < m ∧ m ≤ 100000 ∧ ∀ (r : Nat) (H' : Hp), r < m → Sx s H H' → Q (.int r) H'
def sp__law_mixed (K : PySem.W.Frag) : Sp := fun vs H Q _ => ∃ (s l : Addr) (ws : List V) (ps : List Pl), vs = [.ref s, .ref l] ∧ Sc H s ∧ H l = some (.lst ws) ∧ PlL H ws ps ∧ ps.length ≤ 1000 ∧
  ∀ (r : Addr) (us : List V) (qs : List Pl) (H' : Hp), Sx s H H' → H r = none → H' r = some (.lst us) → PlL H' us qs → qs.Perm ps → Q (.ref r) H'
def sp__law_drawn (K : PySem.W.Frag) : Sp := fun vs H Q _ => ∃ (s : Addr) (a : Nat), vs = [.ref s, .int a] ∧ Sc H s ∧ a ≤ 900 ∧
  ∀ (t pu pf : Addr) (vu vf : List V) (T : Tn) (H' : Hp), Sx s H H' → H' t = some (.tup [.ref pu, .ref pf, .int T.n]) → H' pu = some (.lst vu) → PlL H' vu T.u → H' pf = some (.lst vf) → PlL H' vf T.f → T.Pm → T.a = a → T.n ≤ 6 → Q (.ref t) H'

/-- what stands for a list of places, and is none -/
def OddP (K : PySem.W.Frag) (s : Addr) (H : Hp) (v : V) : Prop := (∀ H2, BuN s H H2 → PsR K H2 v false) ∧ ∃ d, ∀ H2, BuN s H H2 → Tk H2 v d 5 70000
def sp__law_odd_places (K : PySem.W.Frag) : Sp := fun vs H Q _ => ∃ (s l : Addr) (ws : List V) (ps : List Pl), vs = [.ref s, .ref l] ∧ Sc H s ∧ H l = some (.lst ws) ∧ PlL H ws ps ∧ ps.length ≤ 15 ∧ (∀ p ∈ ps, p.n < 10 ^ 40) ∧ ∀ v H', Sx s H H' → OddP K s H' v → Q v H'
def sp__law_not_once (K : PySem.W.Frag) : Sp := fun vs H Q _ => ∃ (s t pu pf : Addr) (vu vf : List V) (T : Tn), vs = [.ref s, .ref t, .int T.a] ∧ Sc H s ∧ H t = some (.tup [.ref pu, .ref pf, .int T.n]) ∧ H pu = some (.lst vu) ∧ PlL H vu T.u ∧ H pf = some (.lst vf) ∧ PlL H vf T.f ∧ T.Pm ∧ T.a ≤ 6 ∧ T.n ≤ 6 ∧
  ∀ (t' : Addr) (H' : Hp), Sx s H H' → BT H' t' t' → Q (.ref t') H'
def sp_are_once__r (K : PySem.W.Frag) : Sp := fun vs H Q _ => ∃ (l : Addr) (ws : List V) (ps : List Pl) (n : Int), vs = [.ref l, .int n] ∧ H l = some (.lst ws) ∧ PlL H ws ps ∧ ps.length ≤ 20000 ∧ NotOnce ps n ∧ ∀ H', Same H H' → Q (.bl false) H'
def sp_is_from__r (K : PySem.W.Frag) : Sp := fun vs H Q _ => ∃ (v : V) (a : Int) (r : Bool), vs = [v, .int a] ∧ FromV K H v a r ∧ Q (.bl r) H
def sp_is_place__r (K : PySem.W.Frag) : Sp := fun vs H Q _ => ∃ v : V, vs = [v] ∧ ((NoPl K H v ∧ ∀ H', Same H H' → Q (.bl false) H') ∨ ∃ (t : Addr) (p : Pl), v = .ref t ∧ H t = some (plO p) ∧ ∀ H', Same H H' → Q (.bl true) H')
def sp_are_places__r (K : PySem.W.Frag) : Sp := fun vs H Q _ => ∃ (v : V) (r : Bool), vs = [v] ∧ PsR K H v r ∧ ∀ H', Same H H' → Q (.bl r) H'
/-- arguments that are no Turn: the first one that is not as described -/
def BadA (K : PySem.W.Frag) (H : Hp) (u f n : V) (w : Str) : Prop := (w = "used" ∧ PsR K H u false) ∨
  ∃ (pu : Addr) (vu : List V) (us : List Pl), u = .ref pu ∧ H pu = some (.lst vu) ∧ PlL H vu us ∧ us.length ≤ 9000 ∧ ((w = "front" ∧ ∀ H', Same H H' → PsR K H' f false) ∨
    ∃ (pf : Addr) (vf : List V) (fs : List Pl), f = .ref pf ∧ H pf = some (.lst vf) ∧ PlL H vf fs ∧ fs.length ≤ 9000 ∧ ((w = "fresh" ∧ ∀ H', Same H H' → FromV K H' n 0 false) ∨ (w = "places" ∧ ∃ k : Int, n = .int k ∧ 0 ≤ k ∧ NotOnce (us ++ fs) k)))
def sp_Turn___init____r (K : PySem.W.Frag) : Sp := fun vs H Q E => ∃ (x : Addr) (u f n : V) (w : Str), vs = [.ref x, u, f, n] ∧ BadA K H u f n w ∧ RaiA K H E w
def sp__law_right (K : PySem.W.Frag) : Sp := fun vs H Q _ => ∃ s : Addr, vs = [.ref s] ∧ Sc H s ∧ Tabs (Tb K) H ∧ ∀ H', BuN s H H' → Sc H' s → Tabs (Tb K) H' → Q (.bl true) H'
def sp_law (K : PySem.W.Frag) : Sp := fun vs H Q _ => ∃ (a : Addr) (ns : List Int), vs = [.ref a] ∧ SqL K H a (ns.map V.int) ∧ ns.length ≤ 63 ∧ Tabs (Tb K) H ∧ ∀ H', Q (.bl true) H'
local macro_rules | `(tactic| walk_at "side") => `(tactic| first
  | assumption
  | decide
  | exact ⟨by decide, by decide⟩
  | exact ⟨by decide, by decide, by decide⟩
  | exact Or.inl ⟨by decide, by decide⟩
  | exact Or.inr ⟨by decide, by decide⟩
  | omega
  | exact ⟨by omega, by omega⟩
  | exact Or.inl ⟨by omega, by omega⟩
  | exact Or.inr ⟨by omega, by omega⟩)
local macro_rules | `(tactic| walk_at "seq") => `(tactic| first
  | assumption
  | exact SqL.of (by assumption)
  | exact SqT.of (by assumption)
  | exact SqL.of upd_same
  | exact SqT.of upd_same)
local macro_rules | `(tactic| walk_at "var") => `(tactic| first
  | with_reducible refine r_v0 ?_
  | with_reducible refine r_v1 ?_
  | with_reducible refine r_v2 ?_
  | with_reducible refine r_v3 ?_
  | with_reducible refine r_v4 ?_
  | with_reducible refine r_v5 ?_
  | with_reducible refine r_v6 ?_
  | with_reducible refine r_v7 ?_
  | with_reducible refine r_v8 ?_
  | with_reducible refine r_v9 ?_
  | with_reducible refine r_v10 ?_
  | with_reducible refine r_v11 ?_
  | with_reducible refine r_v12 ?_
  | with_reducible refine r_v13 ?_
  | with_reducible refine r_v14 ?_
  | with_reducible refine r_v15 ?_
  | with_reducible refine r_v16 ?_
  | with_reducible refine r_v17 ?_
  | with_reducible refine r_v18 ?_
  | with_reducible refine r_v19 ?_
  | with_reducible refine r_v20 ?_
  | with_reducible refine r_v21 ?_)
local macro_rules | `(tactic| walk_at "nam") => `(tactic| first
  | with_reducible refine r_g0 ?_
  | with_reducible refine r_g1 ?_
  | with_reducible refine r_g2 ?_
  | with_reducible refine r_g3 ?_
  | with_reducible refine r_g4 ?_
  | with_reducible refine r_g5 ?_
  | with_reducible refine r_g6 ?_
  | with_reducible refine r_g7 ?_
  | with_reducible refine r_g8 ?_
  | with_reducible refine r_g9 ?_
  | with_reducible refine r_g10 ?_
  | with_reducible refine r_g11 ?_
  | with_reducible refine r_g12 ?_
  | with_reducible refine r_g13 ?_
  | with_reducible refine r_g14 ?_
  | with_reducible refine r_g15 ?_
  | with_reducible refine r_g16 ?_
  | with_reducible refine r_g17 ?_
  | with_reducible refine r_g18 ?_
  | with_reducible refine r_g19 ?_
  | with_reducible refine r_g20 ?_
  | with_reducible refine r_g21 ?_)
local macro_rules | `(tactic| walk_at "aug") => `(tactic| first
  | with_reducible refine r_aug0 ?_
  | with_reducible refine r_aug1 ?_
  | with_reducible refine r_aug2 ?_
  | with_reducible refine r_aug3 ?_
  | with_reducible refine r_aug4 ?_
  | with_reducible refine r_aug5 ?_
  | with_reducible refine r_aug6 ?_
  | with_reducible refine r_aug7 ?_
  | with_reducible refine r_aug8 ?_
  | with_reducible refine r_aug9 ?_
  | with_reducible refine r_aug10 ?_
  | with_reducible refine r_aug11 ?_
  | with_reducible refine r_aug12 ?_
  | with_reducible refine r_aug13 ?_
  | with_reducible refine r_aug14 ?_
  | with_reducible refine r_aug15 ?_
  | with_reducible refine r_aug16 ?_
  | with_reducible refine r_aug17 ?_
  | with_reducible refine r_aug18 ?_
  | with_reducible refine r_aug19 ?_
  | with_reducible refine r_aug20 ?_
  | with_reducible refine r_aug21 ?_)
local macro_rules | `(tactic| walk_at "s") => `(tactic| first
  | walk_at "var"
  | with_reducible refine r_seq ?_
  | with_reducible refine r_asg ?_
  | with_reducible refine r_tC ?_
  | with_reducible refine r_op ?_
  | with_reducible refine r_cons ?_
  | with_reducible refine r_nil ?_
  | with_reducible refine r_CB ?_
  | with_reducible refine r_I0 ?_
  | with_reducible refine r_ret ?_
  | with_reducible refine r_call ?_
  | with_reducible refine r_ifS ?_
  | with_reducible refine r_test ?_
  | with_reducible refine r_tB ?_
  | with_reducible refine r_bl ?_
  | with_reducible refine r_int1 ?_
  | with_reducible refine r_max2 ?_
  | with_reducible refine r_min2 ?_
  | with_reducible refine r_and ?_
  | with_reducible refine r_or ?_
  | with_reducible refine r_not ?_
  | with_reducible refine r_andV ?_
  | with_reducible refine r_orV ?_
  | with_reducible refine r_notV ?_
  | with_reducible refine r_if ?_
  | with_reducible refine r_drop ?_
  | with_reducible refine r_next ?_
  | with_reducible refine r_gSub ?_
  | with_reducible refine r_gCons ?_
  | with_reducible refine r_gNil ?_
  | with_reducible refine r_tup ?_
  | with_reducible refine r_lst ?_
  | with_reducible refine r_un ?_
  | with_reducible refine r_U ?_
  | with_reducible refine r_chain ?_
  | with_reducible refine r_fld ?_
  | with_reducible refine r_sFld ?_
  | with_reducible refine r_meth ?_
  | with_reducible refine r_mkK ?_
  | with_reducible refine r_mk ?_
  | with_reducible refine r_sl ?_
  | with_reducible refine r_part ?_
  | with_reducible refine r_po ?_
  | with_reducible refine r_nopart ?_
  | with_reducible refine r_BM ?_
  | with_reducible refine r_tru ?_
  | with_reducible refine r_lc ?_
  | with_reducible refine r_dnotin ?_
  | with_reducible refine r_din ?_
  | with_reducible refine r_dget ?_
  | with_reducible refine r_dput ?_
  | with_reducible refine r_dnew ?_
  | with_reducible refine r_for ?_
  | with_reducible refine r_list ?_
  | with_reducible refine r_tupI ?_
  | with_reducible refine r_rng1 ?_
  | with_reducible refine r_rng2 ?_
  | with_reducible refine r_yes ?_
  | with_reducible refine r_par ?_
  | with_reducible refine r_two ?_
  | with_reducible refine r_par3 ?_
  | with_reducible refine r_tri ?_
  | with_reducible refine r_enum ?_
  | with_reducible refine r_ip ?_
  | with_reducible refine r_eqI ?_
  | with_reducible refine r_neI ?_
  | with_reducible refine r_eqS ?_
  | with_reducible refine r_neS ?_
  | with_reducible refine r_neB ?_
  | with_reducible refine r_eqB ?_
  | with_reducible refine r_BM0 ?_
  | with_reducible refine r_lstRg ?_
  | with_reducible refine r_rgA ?_
  | with_reducible refine iteT ?_
  | with_reducible refine iteF ?_
  | with_reducible refine iteNt ?_
  | with_reducible refine iteNf ?_
  | ((with_reducible refine' r_I ?k1 ?_); (case k1 => walk_at "side"))
  | ((with_reducible refine' r_ixL ?k1 ?k2 ?_); (case k1 => walk_at "seq"); (case k2 => rfl))
  | ((with_reducible refine' r_ixT ?k1 ?k2 ?_); (case k1 => walk_at "seq"); (case k2 => rfl))
  | ((with_reducible refine' r_lenL ?k1 ?_); (case k1 => walk_at "seq"))
  | ((with_reducible refine' r_lenT ?k1 ?_); (case k1 => walk_at "seq"))
  | ((with_reducible refine' r_sum ?k1 ?_); (case k1 => walk_at "seq"))
  | ((with_reducible refine' r_sumT ?k1 ?_); (case k1 => walk_at "seq"))
  | ((with_reducible refine' r_tupOf ?k1 ?_); (case k1 => walk_at "seq"))
  | ((with_reducible refine' r_listOf ?k1 ?_); (case k1 => walk_at "seq"))
  | ((with_reducible refine' r_slL ?k1 ?_); (case k1 => walk_at "seq"))
  | ((with_reducible refine' r_sq ?k1 ?_); (case k1 => walk_at "seq"))
  | ((with_reducible refine' r_sqT ?k1 ?_); (case k1 => walk_at "seq"))
  | ((with_reducible refine' r_en ?k1 ?_); (case k1 => walk_at "seq"))
  | ((with_reducible refine' r_tyL ?k1 ?_); (case k1 => walk_at "seq"))
  | ((with_reducible refine' r_gTup ?k1 ?k2 ?_); (case k1 => walk_at "seq"); (case k2 => rfl))
  | ((with_reducible refine' r_setL ?k1 ?k2 ?_); (case k1 => assumption); (case k2 => rfl))
  | ((with_reducible refine' r_fd ?k1 ?k2 ?k3 ?k4 ?_); (case k1 => assumption); (case k2 => assumption); (case k3 => assumption); (case k4 => first | rfl | assumption))
  | ((with_reducible refine' r_obj ?k1 ?k2 ?_); (case k1 => assumption); (case k2 => rfl))
  | ((with_reducible refine' r_rg1 ?k1 ?_); (case k1 => walk_at "side"))
  | ((with_reducible refine' r_rg2 ?k1 ?_); (case k1 => walk_at "side"))
  | ((with_reducible refine' r_sz ?k1 ?_); (case k1 => (show _ ≤ _; simp)))
  | walk_at "nam"
  | walk_at "aug")
local macro_rules | `(tactic| walk_at "ss") => `(tactic| repeat walk_at "s")

theorem ok_InvalidArgument___init__ {P : Program} {w : World} {K : PySem.W.Frag} {mg : Str → Option Value} {base : Heap} {f : Addr} {fd : FuncData} (F : FunD K "__init__" "InvalidArgument.__init__" (defArgs s_InvalidArgument___init__) (defBody s_InvalidArgument___init__) (defScope s_InvalidArgument___init__) [] [] f fd) (x_err_InvalidArgument : KrE.ErrC K (He.ga K "InvalidArgument")) (x_tk_InvalidArgument : PySem.W.takerIn K (He.ga K "InvalidArgument") "part" = some none) : FnOk P w K mg base CX0 1 f fd ["self", "part"] (sp_InvalidArgument___init__ K) := by
  refine F.ok sc_InvalidArgument___init__ (fun vs H Q E h => by first | (obtain ⟨rfl, _⟩ := h; rfl) | (obtain ⟨_, rfl, _⟩ := h; rfl) | (obtain ⟨_, _, rfl, _⟩ := h; rfl) | (obtain ⟨_, _, _, rfl, _⟩ := h; rfl) | (obtain ⟨_, _, _, _, rfl, _⟩ := h; rfl) | (obtain ⟨_, _, _, _, _, rfl, _⟩ := h; rfl) | (obtain ⟨_, _, _, _, _, _, rfl, _⟩ := h; rfl) | (obtain ⟨_, _, _, _, _, _, _, rfl, _⟩ := h; rfl) | (obtain ⟨_, _, _, _, _, _, _, _, rfl, _⟩ := h; rfl) | (obtain ⟨_, _, _, _, _, _, _, _, _, rfl, _⟩ := h; rfl) | (obtain ⟨_, _, _, _, _, _, _, _, _, _, rfl, _⟩ := h; rfl) | (obtain ⟨_, _, _, _, _, _, _, _, _, _, _, rfl, _⟩ := h; rfl) | (obtain ⟨_, _, _, _, _, _, _, _, _, _, _, _, rfl, _⟩ := h; rfl) | (obtain ⟨_, _, _, _, _, _, _, _, _, _, _, _, _, rfl, _⟩ := h; rfl) | (obtain ⟨_, _, _, _, _, _, _, _, _, _, _, _, _, _, rfl, _⟩ := h; rfl) | (obtain ⟨_, _, _, _, _, _, _, _, _, _, _, _, _, _, _, rfl, _⟩ := h; rfl) | (obtain ⟨_, _, _, _, _, _, _, _, _, _, _, _, _, _, _, _, rfl, _⟩ := h; rfl) | (obtain ⟨_, _, _, _, _, _, _, _, _, _, _, _, _, _, _, _, _, rfl, _⟩ := h; rfl)) (fun cdv A outer s H vs Q E hr h => ?_)
  · have hu := hu_of hr
    obtain ⟨a, v, rfl, ha, q⟩ := h
    have e1 := x_err_InvalidArgument
    have e2 := x_tk_InvalidArgument
    refine ⟨_, PSs.nox (pss_one (KrE.ps_ers (pv 0) (pv 1))), ?_⟩
    rw [st_InvalidArgument___init__]
    refine KrE.r_sErs ?_
    walk_at "ss"
    refine KrE.r_ers e1 e2 ha fun d n1 n2 => ?_
    walk_at "ss"
    exact q d n1 n2
theorem ok_is_from {P : Program} {w : World} {K : PySem.W.Frag} {mg : Str → Option Value} {base : Heap} {f : Addr} {fd : FuncData} (F : FunD K "is_from" "is_from" (defArgs s_is_from) (defBody s_is_from) (defScope s_is_from) [] [] f fd) (n_bool : mg "bool" = none) (n_int : mg "int" = none) (n_isinstance : mg "isinstance" = none) : FnOk P w K mg base CX0 1 f fd ["number", "least"] (sp_is_from K) := by
  refine F.ok sc_is_from (fun vs H Q E h => by first | (obtain ⟨rfl, _⟩ := h; rfl) | (obtain ⟨_, rfl, _⟩ := h; rfl) | (obtain ⟨_, _, rfl, _⟩ := h; rfl) | (obtain ⟨_, _, _, rfl, _⟩ := h; rfl) | (obtain ⟨_, _, _, _, rfl, _⟩ := h; rfl) | (obtain ⟨_, _, _, _, _, rfl, _⟩ := h; rfl) | (obtain ⟨_, _, _, _, _, _, rfl, _⟩ := h; rfl) | (obtain ⟨_, _, _, _, _, _, _, rfl, _⟩ := h; rfl) | (obtain ⟨_, _, _, _, _, _, _, _, rfl, _⟩ := h; rfl) | (obtain ⟨_, _, _, _, _, _, _, _, _, rfl, _⟩ := h; rfl) | (obtain ⟨_, _, _, _, _, _, _, _, _, _, rfl, _⟩ := h; rfl) | (obtain ⟨_, _, _, _, _, _, _, _, _, _, _, rfl, _⟩ := h; rfl) | (obtain ⟨_, _, _, _, _, _, _, _, _, _, _, _, rfl, _⟩ := h; rfl) | (obtain ⟨_, _, _, _, _, _, _, _, _, _, _, _, _, rfl, _⟩ := h; rfl) | (obtain ⟨_, _, _, _, _, _, _, _, _, _, _, _, _, _, rfl, _⟩ := h; rfl) | (obtain ⟨_, _, _, _, _, _, _, _, _, _, _, _, _, _, _, rfl, _⟩ := h; rfl) | (obtain ⟨_, _, _, _, _, _, _, _, _, _, _, _, _, _, _, _, rfl, _⟩ := h; rfl) | (obtain ⟨_, _, _, _, _, _, _, _, _, _, _, _, _, _, _, _, _, rfl, _⟩ := h; rfl)) (fun cdv A outer s H vs Q E hr h => ?_)
  · have hu := hu_of hr
    obtain ⟨n, a, rfl, q⟩ := h
    refine ⟨_, PSs.nox (pss_one (ps_ret (pe_and (pe_callB (id := "isinstance") call_isi rfl n_isinstance (by decide +kernel) (pa_cons (pv 0) (pa_cons (Kr.pe_bty (T := "int") n_int) pa_nil))) (pe_and (pe_not (pe_callB (id := "isinstance") call_isi rfl n_isinstance (by decide +kernel) (pa_cons (pv 0) (pa_cons (Kr.pe_bty (T := "bool") n_bool) pa_nil)))) (pe_one (pe_cmpR op_le (pv 1) (pv 0) (nomark _))))))), ?_⟩
    rw [st_is_from]
    walk_at "ss"
    refine r_isiT (.base (.int n)) (b := true) (by decide +kernel) ?_
    walk_at "ss"
    refine r_isiT (.base (.int n)) (b := false) (by decide +kernel) ?_
    walk_at "ss"
    exact q
theorem ok_is_place {P : Program} {w : World} {K : PySem.W.Frag} {mg : Str → Option Value} {base : Heap} {f : Addr} {fd : FuncData} (F : FunD K "is_place" "is_place" (defArgs s_is_place) (defBody s_is_place) (defScope s_is_place) [] [] f fd) (h_is_from : Kr.FnH P w K mg base CX0 1 "is_from" ["number", "least"] (sp_is_from K)) (n_isinstance : mg "isinstance" = none) (n_len : mg "len" = none) (n_str : mg "str" = none) (n_tuple : mg "tuple" = none) : FnOk P w K mg base CX0 2 f fd ["place"] (sp_is_place K) := by
  refine F.ok sc_is_place (fun vs H Q E h => by first | (obtain ⟨rfl, _⟩ := h; rfl) | (obtain ⟨_, rfl, _⟩ := h; rfl) | (obtain ⟨_, _, rfl, _⟩ := h; rfl) | (obtain ⟨_, _, _, rfl, _⟩ := h; rfl) | (obtain ⟨_, _, _, _, rfl, _⟩ := h; rfl) | (obtain ⟨_, _, _, _, _, rfl, _⟩ := h; rfl) | (obtain ⟨_, _, _, _, _, _, rfl, _⟩ := h; rfl) | (obtain ⟨_, _, _, _, _, _, _, rfl, _⟩ := h; rfl) | (obtain ⟨_, _, _, _, _, _, _, _, rfl, _⟩ := h; rfl) | (obtain ⟨_, _, _, _, _, _, _, _, _, rfl, _⟩ := h; rfl) | (obtain ⟨_, _, _, _, _, _, _, _, _, _, rfl, _⟩ := h; rfl) | (obtain ⟨_, _, _, _, _, _, _, _, _, _, _, rfl, _⟩ := h; rfl) | (obtain ⟨_, _, _, _, _, _, _, _, _, _, _, _, rfl, _⟩ := h; rfl) | (obtain ⟨_, _, _, _, _, _, _, _, _, _, _, _, _, rfl, _⟩ := h; rfl) | (obtain ⟨_, _, _, _, _, _, _, _, _, _, _, _, _, _, rfl, _⟩ := h; rfl) | (obtain ⟨_, _, _, _, _, _, _, _, _, _, _, _, _, _, _, rfl, _⟩ := h; rfl) | (obtain ⟨_, _, _, _, _, _, _, _, _, _, _, _, _, _, _, _, rfl, _⟩ := h; rfl) | (obtain ⟨_, _, _, _, _, _, _, _, _, _, _, _, _, _, _, _, _, rfl, _⟩ := h; rfl)) (fun cdv A outer s H vs Q E hr h => ?_)
  · have hu := hu_of hr
    obtain ⟨t, p, rfl, ht, q⟩ := h
    refine ⟨_, PSs.nox (pss_cons (ps_if (PW.pt (pw_or (pt_not (pt_val (pe_callB (id := "isinstance") call_isi rfl n_isinstance (by decide +kernel) (pa_cons (pv 0) (pa_cons (Kr.pe_bty (T := "tuple") n_tuple) pa_nil))))) (pw_or1 (pt_cmpR op_ne (pe_callB (id := "len") Kr.c_len rfl n_len (by decide +kernel) (pa_cons (pv 0) pa_nil)) pe_int (nomark _))))) (pss_one (ps_ret pe_bl)) pss_nil) (pss_cons (ps_asg (pv 0) (pg_tup rfl (pgs_cons (pg_name (i := 1) sc_is_place.nd rfl (.inl rfl)) (pgs_cons (pg_name (i := 2) sc_is_place.nd rfl (.inl rfl)) pgs_nil)))) (pss_one (ps_ret (pe_and (pe_callB (id := "isinstance") call_isi rfl n_isinstance (by decide +kernel) (pa_cons (pv 1) (pa_cons (Kr.pe_bty (T := "str") n_str) pa_nil))) (pe_and (pe_cmpR op_in_seq (pv 1) (pe_tup (pa_cons pe_str (pa_cons pe_str pa_nil))) (by rfl)) (pe_one (Kr.pe_cl h_is_from (hr.mono (by decide)) (pa_cons (pv 2) (pa_cons pe_int pa_nil)))))))))), ?_⟩
    rw [st_is_place]
    walk_at "ss"
    refine r_isiT (.base (.tup ht)) (b := true) (by decide +kernel) ?_
    walk_at "ss"
    refine r_decN (fun ne => absurd rfl ne) fun _ => ?_
    walk_at "ss"
    refine r_isiT (.base (.str p.w)) (b := true) (by decide +kernel) ?_
    walk_at "ss"
    refine r_newS fun t2 H1 h2 s1 e1 => ?_
    refine ⟨t2, _, rfl, .inr (SqT.of e1), rfl, rfl, ?_⟩
    rw [show (if false = true then !inV (V.str p.w) [V.str "use", V.str "list"] else inV (V.str p.w) [V.str "use", V.str "list"]) = true from in_words p]
    walk_at "ss"
    refine ⟨_, _, rfl, ?_⟩
    rw [decide_eq_true (show (0 : Int) ≤ (p.n : Int) by omega)]
    exact q H1 s1
theorem ok_are_places {P : Program} {w : World} {K : PySem.W.Frag} {mg : Str → Option Value} {base : Heap} {f : Addr} {fd : FuncData} (F : FunD K "are_places" "are_places" (defArgs s_are_places) (defBody s_are_places) (defScope s_are_places) [] [] f fd) (h_is_place : Kr.FnH P w K mg base CX0 2 "is_place" ["place"] (sp_is_place K)) (n_all : mg "all" = none) (n_isinstance : mg "isinstance" = none) (n_list : mg "list" = none) : FnOk P w K mg base CX0 3 f fd ["places"] (sp_are_places K) := by
  refine F.ok sc_are_places (fun vs H Q E h => by first | (obtain ⟨rfl, _⟩ := h; rfl) | (obtain ⟨_, rfl, _⟩ := h; rfl) | (obtain ⟨_, _, rfl, _⟩ := h; rfl) | (obtain ⟨_, _, _, rfl, _⟩ := h; rfl) | (obtain ⟨_, _, _, _, rfl, _⟩ := h; rfl) | (obtain ⟨_, _, _, _, _, rfl, _⟩ := h; rfl) | (obtain ⟨_, _, _, _, _, _, rfl, _⟩ := h; rfl) | (obtain ⟨_, _, _, _, _, _, _, rfl, _⟩ := h; rfl) | (obtain ⟨_, _, _, _, _, _, _, _, rfl, _⟩ := h; rfl) | (obtain ⟨_, _, _, _, _, _, _, _, _, rfl, _⟩ := h; rfl) | (obtain ⟨_, _, _, _, _, _, _, _, _, _, rfl, _⟩ := h; rfl) | (obtain ⟨_, _, _, _, _, _, _, _, _, _, _, rfl, _⟩ := h; rfl) | (obtain ⟨_, _, _, _, _, _, _, _, _, _, _, _, rfl, _⟩ := h; rfl) | (obtain ⟨_, _, _, _, _, _, _, _, _, _, _, _, _, rfl, _⟩ := h; rfl) | (obtain ⟨_, _, _, _, _, _, _, _, _, _, _, _, _, _, rfl, _⟩ := h; rfl) | (obtain ⟨_, _, _, _, _, _, _, _, _, _, _, _, _, _, _, rfl, _⟩ := h; rfl) | (obtain ⟨_, _, _, _, _, _, _, _, _, _, _, _, _, _, _, _, rfl, _⟩ := h; rfl) | (obtain ⟨_, _, _, _, _, _, _, _, _, _, _, _, _, _, _, _, _, rfl, _⟩ := h; rfl)) (fun cdv A outer s H vs Q E hr h => ?_)
  · have hu := hu_of hr
    obtain ⟨l, ws, ps, rfl, hl, P, hz, q⟩ := h
    have hwl := P.len
    refine ⟨_, PSs.nox (pss_one (ps_ret (pe_and (pe_callB (id := "isinstance") call_isi rfl n_isinstance (by decide +kernel) (pa_cons (pv 0) (pa_cons (Kr.pe_bty (T := "list") n_list) pa_nil))) (pe_one (pe_callB (id := "all") (cr_all rfl) rfl n_all (by decide +kernel) (pa_cons (pe_lc (own := [("place", 1)]) rfl sc_are_places.nd (pi_list (pv 0)) (blkOk_by (own := [("place", 1)]) (N := N_are_places) (sc := defScope s_are_places) (by decide +kernel)) (fun _ _ _ _ _ => (pg_name (i := 1) sc_are_places.nd rfl (.inl rfl))) (fun _ _ _ _ _ => pts_nil) (fun _ _ _ _ _ => (Kr.pe_cl h_is_place (hr.mono (by decide)) (pa_cons (pv 1) pa_nil)))) pa_nil)))))), ?_⟩
    rw [st_are_places]
    walk_at "ss"
    refine r_isiT (.base (.lst hl)) (b := true) (by decide +kernel) ?_
    walk_at "ss"
    intro D hD
    refine lc_listS (xs := ws) [some (.ref l), none] rfl (fun i H5 => H5 D = some (.lst ((List.replicate i true).map V.bl)) ∧ Same H H5) ⟨upd_same, same_new hD⟩ (fun i H5 _ hh => hh.2.seq (SqL.of hl)) ?_ ?_
    · rintro i x H5 hx ⟨h5, s5⟩
      obtain ⟨t, hi, rfl, ht⟩ := P.item hx
      walk_at "ss"
      refine ⟨rfl, ?_⟩
      walk_at "ss"
      refine ⟨t, _, rfl, s5 _ _ ht, fun H6 s6 => ?_⟩
      refine ⟨_, s6 _ _ h5, by rw [List.length_map, List.length_replicate]; exact szl (by omega), ?_, fun b o e => ?_⟩
      · rw [upd_same, List.replicate_succ', List.map_append]
        rfl
      · rw [upd_ne (ne_of_none e hD)]
        exact s6 _ _ (s5 b o e)
    · rintro H5 ⟨h5, s5⟩
      walk_at "ss"
      refine r_all (SqL.of h5) ?_
      rw [take_map_bl (fun b hb => (List.mem_replicate.mp hb).2)]
      exact q _ s5
theorem ok_are_once {P : Program} {w : World} {K : PySem.W.Frag} {mg : Str → Option Value} {base : Heap} {f : Addr} {fd : FuncData} (F : FunD K "are_once" "are_once" (defArgs s_are_once) (defBody s_are_once) (defScope s_are_once) [] [] f fd) (n_len : mg "len" = none) (n_list : mg "list" = none) (n_range : mg "range" = none) (n_sorted : mg "sorted" = none) : FnOk P w K mg base CX0 1 f fd ["places", "fresh"] (sp_are_once K) := by
  refine F.ok sc_are_once (fun vs H Q E h => by first | (obtain ⟨rfl, _⟩ := h; rfl) | (obtain ⟨_, rfl, _⟩ := h; rfl) | (obtain ⟨_, _, rfl, _⟩ := h; rfl) | (obtain ⟨_, _, _, rfl, _⟩ := h; rfl) | (obtain ⟨_, _, _, _, rfl, _⟩ := h; rfl) | (obtain ⟨_, _, _, _, _, rfl, _⟩ := h; rfl) | (obtain ⟨_, _, _, _, _, _, rfl, _⟩ := h; rfl) | (obtain ⟨_, _, _, _, _, _, _, rfl, _⟩ := h; rfl) | (obtain ⟨_, _, _, _, _, _, _, _, rfl, _⟩ := h; rfl) | (obtain ⟨_, _, _, _, _, _, _, _, _, rfl, _⟩ := h; rfl) | (obtain ⟨_, _, _, _, _, _, _, _, _, _, rfl, _⟩ := h; rfl) | (obtain ⟨_, _, _, _, _, _, _, _, _, _, _, rfl, _⟩ := h; rfl) | (obtain ⟨_, _, _, _, _, _, _, _, _, _, _, _, rfl, _⟩ := h; rfl) | (obtain ⟨_, _, _, _, _, _, _, _, _, _, _, _, _, rfl, _⟩ := h; rfl) | (obtain ⟨_, _, _, _, _, _, _, _, _, _, _, _, _, _, rfl, _⟩ := h; rfl) | (obtain ⟨_, _, _, _, _, _, _, _, _, _, _, _, _, _, _, rfl, _⟩ := h; rfl) | (obtain ⟨_, _, _, _, _, _, _, _, _, _, _, _, _, _, _, _, rfl, _⟩ := h; rfl) | (obtain ⟨_, _, _, _, _, _, _, _, _, _, _, _, _, _, _, _, _, rfl, _⟩ := h; rfl)) (fun cdv A outer s H vs Q E hr h => ?_)
  · have hu := hu_of hr
    obtain ⟨l, ws, ps, a, n, rfl, hl, P, hz, pm, q⟩ := h
    have hwl := P.len
    have hpl := pm.length_eq
    rw [base_len] at hpl
    obtain ⟨pu, pl⟩ := nm_perm pm
    refine ⟨_, PSs.nox (pss_cons (ps_set (i := 2) sc_are_once.nd rfl (.inl rfl) (pe_callB (id := "sorted") cr_sortedI rfl n_sorted (by decide +kernel) (pa_cons (pe_lc (own := [("where", 4), ("number", 5)]) rfl sc_are_once.nd (pi_list (pv 0)) (blkOk_by (own := [("where", 4), ("number", 5)]) (N := N_are_once) (sc := defScope s_are_once) (by decide +kernel)) (fun _ _ _ _ _ => (Kr.pg_tupK (K := K) (n := 2) rfl rfl (pgs_cons (pg_name (i := 4) sc_are_once.nd rfl (.inl rfl)) (pgs_cons (pg_name (i := 5) sc_are_once.nd rfl (.inl rfl)) pgs_nil)))) (fun _ _ _ _ _ => (pts_one (pt_cmpR op_eq (pv 4) pe_str (nomark _)))) (fun _ _ _ _ _ => (pv 5))) pa_nil))) (pss_cons (ps_set (i := 3) sc_are_once.nd rfl (.inl rfl) (pe_callB (id := "sorted") cr_sortedI rfl n_sorted (by decide +kernel) (pa_cons (pe_lc (own := [("where", 4), ("number", 5)]) rfl sc_are_once.nd (pi_list (pv 0)) (blkOk_by (own := [("where", 4), ("number", 5)]) (N := N_are_once) (sc := defScope s_are_once) (by decide +kernel)) (fun _ _ _ _ _ => (Kr.pg_tupK (K := K) (n := 2) rfl rfl (pgs_cons (pg_name (i := 4) sc_are_once.nd rfl (.inl rfl)) (pgs_cons (pg_name (i := 5) sc_are_once.nd rfl (.inl rfl)) pgs_nil)))) (fun _ _ _ _ _ => (pts_one (pt_cmpR op_eq (pv 4) pe_str (nomark _)))) (fun _ _ _ _ _ => (pv 5))) pa_nil))) (pss_one (ps_ret (pe_and (pe_cmpR op_eq (pe_callB (id := "len") Kr.c_len rfl n_len (by decide +kernel) (pa_cons (pv 3) pa_nil)) (pv 1) (nomark _)) (pe_and (pe_cmpR (op_eqD hr.units) (pv 3) (pe_listRg rfl rfl n_list (prg_1 rfl n_range (pe_callB (id := "len") Kr.c_len rfl n_len (by decide +kernel) (pa_cons (pv 3) pa_nil)))) (nomark _)) (pe_one (pe_cmpR (op_eqD hr.units) (pv 2) (pe_listRg rfl rfl n_list (prg_1 rfl n_range (pe_callB (id := "len") Kr.c_len rfl n_len (by decide +kernel) (pa_cons (pv 2) pa_nil)))) (nomark _))))))))), ?_⟩
    rw [st_are_once]
    walk_at "ss"
    intro D hD
    refine lc_listS (xs := ws) [some (.ref l), some (.int n), none, none, none, none] rfl (fun i H5 => H5 D = some (.lst ((nmI Pl.uN (ps.take i)).map V.int)) ∧ Same H H5) ⟨upd_same, same_new hD⟩ (fun i H5 _ hh => hh.2.seq (SqL.of hl)) ?_ ?_
    · rintro i x H5 hx ⟨h5, s5⟩
      obtain ⟨t, hi, rfl, ht⟩ := P.item hx
      have ht5 := s5 _ _ ht
      have tk : ps.take (i + 1) = ps.take i ++ [ps[i]] := by rw [List.take_add_one, List.getElem?_eq_getElem hi]; rfl
      walk_at "ss"
      refine ⟨rfl, ?_⟩
      walk_at "ss"
      rw [tk, nmI_snoc]
      cases hp : ps[i] with
      | use k =>
        rw [show decide ((Pl.use k).w = "use") = true from decide_eq_true rfl]
        walk_at "ss"
        refine ⟨_, h5, by rw [List.length_map]; have := nmI_le Pl.uN (ps.take i); rw [List.length_take] at this; exact szl (by omega), ?_, fun b o e => ?_⟩
        · rw [upd_same, List.map_append]
          rfl
        · rw [upd_ne (ne_of_none e hD)]
          exact s5 b o e
      | lst k =>
        rw [show decide ((Pl.lst k).w = "use") = false from by show decide (("list" : Str) = "use") = false; decide +kernel]
        walk_at "ss"
        refine ⟨?_, s5⟩
        rw [h5]
        show _ = some (HO.lst ((nmI Pl.uN (ps.take i) ++ []).map V.int))
        rw [List.append_nil]
    rintro H2 ⟨e2, s2⟩
    rw [hwl, List.take_length] at e2
    walk_at "ss"
    refine ⟨D, _, rfl, SqL.of e2, fun us u pus su hu => ?_⟩
    have eu : us = rgI a := sorted_range (pus.trans pu) su
    rw [eu]
    have s3 : Same H (upd H2 u (.lst ((rgI a).map V.int))) := s2.trans (same_new hu)
    have e3 : (upd H2 u (.lst ((rgI a).map V.int))) u = some (.lst ((rgI a).map V.int)) := upd_same
    generalize (upd H2 u (.lst ((rgI a).map V.int))) = H3 at s3 e3 ⊢
    have hl3 := s3 _ _ hl
    have P3 := P.same s3
    walk_at "ss"
    intro D2 hD2
    refine lc_listS (xs := ws) [some (.ref l), some (.int n), some (.ref u), none, none, none] rfl (fun i H5 => H5 D2 = some (.lst ((nmI Pl.lN (ps.take i)).map V.int)) ∧ Same H3 H5) ⟨upd_same, same_new hD2⟩ (fun i H5 _ hh => hh.2.seq (SqL.of hl3)) ?_ ?_
    · rintro i x H5 hx ⟨h5, s5⟩
      obtain ⟨t, hi, rfl, ht⟩ := P3.item hx
      have ht5 := s5 _ _ ht
      have tk : ps.take (i + 1) = ps.take i ++ [ps[i]] := by rw [List.take_add_one, List.getElem?_eq_getElem hi]; rfl
      walk_at "ss"
      refine ⟨rfl, ?_⟩
      walk_at "ss"
      rw [tk, nmI_snoc]
      cases hp : ps[i] with
      | lst k =>
        rw [show decide ((Pl.lst k).w = "list") = true from decide_eq_true rfl]
        walk_at "ss"
        refine ⟨_, h5, by rw [List.length_map]; have := nmI_le Pl.lN (ps.take i); rw [List.length_take] at this; exact szl (by omega), ?_, fun b o e => ?_⟩
        · rw [upd_same, List.map_append]
          rfl
        · rw [upd_ne (ne_of_none e hD2)]
          exact s5 b o e
      | use k =>
        rw [show decide ((Pl.use k).w = "list") = false from by show decide (("use" : Str) = "list") = false; decide +kernel]
        walk_at "ss"
        refine ⟨?_, s5⟩
        rw [h5]
        show _ = some (HO.lst ((nmI Pl.lN (ps.take i) ++ []).map V.int))
        rw [List.append_nil]
    rintro H4 ⟨e4, s4⟩
    rw [hwl, List.take_length] at e4
    walk_at "ss"
    refine ⟨D2, _, rfl, SqL.of e4, fun us2 v pus2 su2 hv => ?_⟩
    have ev : us2 = rgI n := sorted_range (pus2.trans pl) su2
    rw [ev]
    have s5 : Same H3 (upd H4 v (.lst ((rgI n).map V.int))) := s4.trans (same_new hv)
    have e5 : (upd H4 v (.lst ((rgI n).map V.int))) v = some (.lst ((rgI n).map V.int)) := upd_same
    generalize (upd H4 v (.lst ((rgI n).map V.int))) = H5 at s5 e5 ⊢
    have f5 := s5 _ _ e3
    walk_at "ss"
    rw [List.length_map, rgI_len]
    refine r_dec (fun _ => ?_) fun ne => absurd rfl ne
    walk_at "ss"
    rw [List.length_map, rgI_len]
    refine r_rgL (by omega) (by omega) ?_
    refine r_newS fun g H6 hg s6 e6 => ?_
    rw [rgV_nat] at e6
    refine r_eqLL (is := rgI n) (js := rgI n) (SqL.of (s6 _ _ e5)) (SqL.of e6) ?_
    walk_at "ss"
    refine r_dec (fun _ => ?_) fun ne => absurd rfl ne
    have f6 := s6 _ _ f5
    walk_at "ss"
    rw [List.length_map, rgI_len]
    refine r_rgL (by omega) (by omega) ?_
    refine r_newS fun g2 H7 hg2 s7 e7 => ?_
    rw [rgV_nat] at e7
    refine r_eqLL (is := rgI a) (js := rgI a) (SqL.of (s7 _ _ f6)) (SqL.of e7) ?_
    rw [decide_eq_true rfl]
    exact q H7 (((s3.trans s5).trans s6).trans s7)
theorem ok_Turn___init__ {P : Program} {w : World} {K : PySem.W.Frag} {mg : Str → Option Value} {base : Heap} {f : Addr} {fd : FuncData} (F : FunD K "__init__" "Turn.__init__" (defArgs s_Turn___init__) (defBody s_Turn___init__) (defScope s_Turn___init__) [] [] f fd) (a_Turn__ahead : NoAttr K (He.ga K "Turn") "_ahead") (a_Turn__fresh : NoAttr K (He.ga K "Turn") "_fresh") (a_Turn__front : NoAttr K (He.ga K "Turn") "_front") (a_Turn__goals : NoAttr K (He.ga K "Turn") "_goals") (a_Turn__used : NoAttr K (He.ga K "Turn") "_used") (c_Turn : Cls K (He.ga K "Turn")) (h_are_once : Kr.FnH P w K mg base CX0 1 "are_once" ["places", "fresh"] (sp_are_once K)) (h_are_places : Kr.FnH P w K mg base CX0 3 "are_places" ["places"] (sp_are_places K)) (h_is_from : Kr.FnH P w K mg base CX0 1 "is_from" ["number", "least"] (sp_is_from K)) (n_enumerate : mg "enumerate" = none) (n_len : mg "len" = none) (n_list : mg "list" = none) : FnOk P w K mg base CX0 4 f fd ["self", "used", "front", "fresh"] (sp_Turn___init__ K) := by
  refine F.ok sc_Turn___init__ (fun vs H Q E h => by first | (obtain ⟨rfl, _⟩ := h; rfl) | (obtain ⟨_, rfl, _⟩ := h; rfl) | (obtain ⟨_, _, rfl, _⟩ := h; rfl) | (obtain ⟨_, _, _, rfl, _⟩ := h; rfl) | (obtain ⟨_, _, _, _, rfl, _⟩ := h; rfl) | (obtain ⟨_, _, _, _, _, rfl, _⟩ := h; rfl) | (obtain ⟨_, _, _, _, _, _, rfl, _⟩ := h; rfl) | (obtain ⟨_, _, _, _, _, _, _, rfl, _⟩ := h; rfl) | (obtain ⟨_, _, _, _, _, _, _, _, rfl, _⟩ := h; rfl) | (obtain ⟨_, _, _, _, _, _, _, _, _, rfl, _⟩ := h; rfl) | (obtain ⟨_, _, _, _, _, _, _, _, _, _, rfl, _⟩ := h; rfl) | (obtain ⟨_, _, _, _, _, _, _, _, _, _, _, rfl, _⟩ := h; rfl) | (obtain ⟨_, _, _, _, _, _, _, _, _, _, _, _, rfl, _⟩ := h; rfl) | (obtain ⟨_, _, _, _, _, _, _, _, _, _, _, _, _, rfl, _⟩ := h; rfl) | (obtain ⟨_, _, _, _, _, _, _, _, _, _, _, _, _, _, rfl, _⟩ := h; rfl) | (obtain ⟨_, _, _, _, _, _, _, _, _, _, _, _, _, _, _, rfl, _⟩ := h; rfl) | (obtain ⟨_, _, _, _, _, _, _, _, _, _, _, _, _, _, _, _, rfl, _⟩ := h; rfl) | (obtain ⟨_, _, _, _, _, _, _, _, _, _, _, _, _, _, _, _, _, rfl, _⟩ := h; rfl)) (fun cdv A outer s H vs Q E hr h => ?_)
  · have hu := hu_of hr
    obtain ⟨x, dx, pu, pf, vu, vf, u, f, n, a, rfl, hx, hu0, PU, hf0, PF, pm, zu, zf, q⟩ := h
    have cc := c_Turn
    have n1 := a_Turn__ahead
    have n2 := a_Turn__used
    have n3 := a_Turn__front
    have n4 := a_Turn__fresh
    have n5 := a_Turn__goals
    have lu := PU.len
    have lf := PF.len
    have plen := pm.len
    simp only at plen
    have nd : (u ++ f).Nodup := pm.nd
    refine ⟨_, PSs.nox (pss_cons (ps_if (pt_not (pt_val (Kr.pe_cl h_are_places (hr.mono (by decide)) (pa_cons (pv 1) pa_nil)))) (pss_one ps_never) pss_nil) (pss_cons (ps_if (pt_not (pt_val (Kr.pe_cl h_are_places (hr.mono (by decide)) (pa_cons (pv 2) pa_nil)))) (pss_one ps_never) pss_nil) (pss_cons (ps_if (pt_not (pt_val (Kr.pe_cl h_is_from (hr.mono (by decide)) (pa_cons (pv 3) (pa_cons pe_int pa_nil))))) (pss_one ps_never) pss_nil) (pss_cons (ps_if (pt_not (pt_val (Kr.pe_cl h_are_once (hr.mono (by decide)) (pa_cons (pe_op Kr.op_catS (pv 1) (pv 2)) (pa_cons (pv 3) pa_nil))))) (pss_one ps_never) pss_nil) (pss_cons (ps_fld (pv 0) (pe_op op_sub (pe_op op_add (pe_callB (id := "len") Kr.c_len rfl n_len (by decide +kernel) (pa_cons (pv 1) pa_nil)) (pe_callB (id := "len") Kr.c_len rfl n_len (by decide +kernel) (pa_cons (pv 2) pa_nil))) (pv 3)) rfl) (pss_cons (ps_set (i := 4) sc_Turn___init__.nd rfl (.inl rfl) (pe_callB (id := "len") Kr.c_len rfl n_len (by decide +kernel) (pa_cons (pv 2) pa_nil))) (pss_cons (ps_while PassesOwn.never (PW.pt (pw_and (pt_cmpR op_gt (pv 4) pe_int (nomark _)) (pw_and1 (pt_cmpR (op_eqD hr.units) (pe_ix ix_list (pv 2) (pe_op op_sub (pv 4) pe_int) (fun _ _ => rfl)) (pe_tup (pa_cons pe_str (pa_cons (pe_op op_sub (pv 3) pe_int) pa_nil))) (nomark _))))) (pss_cons (ps_aug (i := 4) sc_Turn___init__.nd rfl (.inl rfl) pe_int ip_sub) (pss_one (ps_aug (i := 3) sc_Turn___init__.nd rfl (.inl rfl) pe_int ip_sub)))) (pss_cons (ps_fld (pv 0) (pe_callTy (T := "list") Kr.c_list rfl n_list (by decide +kernel) (pa_cons (pv 1) pa_nil)) rfl) (pss_cons (ps_fld (pv 0) (pe_slice sl_list (pv 2) po_none (po_some (pv 4))) rfl) (pss_cons (ps_fld (pv 0) (pv 3) rfl) (pss_cons (ps_fld (pv 0) pe_dnewT rfl) (pss_cons (ps_for PassesOwn.never rfl (pi_enum rfl n_enumerate (pa_cons (pe_fld (pv 0) rfl) pa_nil)) (pg_tup rfl (pgs_cons (pg_name (i := 5) sc_Turn___init__.nd rfl (.inl rfl)) (pgs_cons (pg_name (i := 6) sc_Turn___init__.nd rfl (.inl rfl)) pgs_nil))) (pss_one (ps_dput hu (pe_fld (pv 0) rfl) (pv 6) (pe_tup (pa_cons pe_str (pa_cons (pv 5) pa_nil))) rfl))) (pss_one (ps_for PassesOwn.never rfl (pi_enum rfl n_enumerate (pa_cons (pe_fld (pv 0) rfl) pa_nil)) (pg_tup rfl (pgs_cons (pg_name (i := 5) sc_Turn___init__.nd rfl (.inl rfl)) (pgs_cons (pg_name (i := 6) sc_Turn___init__.nd rfl (.inl rfl)) pgs_nil))) (pss_one (ps_dput hu (pe_fld (pv 0) rfl) (pv 6) (pe_tup (pa_cons pe_str (pa_cons (pv 5) pa_nil))) rfl)))))))))))))))), ?_⟩
    rw [st_Turn___init__]
    walk_at "ss"
    refine ⟨pu, vu, u, rfl, hu0, PU, by omega, fun H1 s1 => ?_⟩
    walk_at "ss"
    refine ⟨pf, vf, f, rfl, s1 _ _ hf0, PF.same s1, by omega, fun H2 s2 => ?_⟩
    walk_at "ss"
    refine ⟨_, _, rfl, ?_⟩
    rw [decide_eq_true (show (0 : Int) ≤ (n : Int) by omega)]
    walk_at "ss"
    have s12 := s1.trans s2
    refine r_catS (SqL.of (s12 _ _ hu0)) (SqL.of (s12 _ _ hf0)) (by omega) ?_
    refine r_newS fun c H3 hc s3 e3 => ?_
    have s13 := s12.trans s3
    walk_at "ss"
    refine ⟨c, _, u ++ f, a, n, rfl, e3, (PU.same s13).app (PF.same s13), by rw [List.length_append]; omega, pm.perm, fun H4 s4 => ?_⟩
    have s14 := s13.trans s4
    have hu4 := s14 _ _ hu0
    have hf4 := s14 _ _ hf0
    have hx4 := s14 _ _ hx
    walk_at "ss"
    rw [lu, lf, show (u.length : Int) + (f.length : Int) - (n : Int) = (a : Int) by omega]
    refine r_st (gs := [("_ahead", .int a)]) hx4 cc n1 (by decide) rfl ?_
    have xu : pu ≠ x := ne_of hu4 hx4 (by intro z; cases z)
    have xf : pf ≠ x := ne_of hf4 hx4 (by intro z; cases z)
    have tups : ∀ (o : List (Str × V)) b xs, H4 b = some (.tup xs) → upd H4 x (.ins (He.ga K "Turn") dx o) b = some (.tup xs) := fun o b xs h => by
      rw [upd_ne (ne_of h hx4 (by intro z; cases z))]
      exact h
    have hu5 : upd H4 x (.ins (He.ga K "Turn") dx [("_ahead", .int a)]) pu = some (.lst vu) := by rw [upd_ne xu]; exact hu4
    have hf5 : upd H4 x (.ins (He.ga K "Turn") dx [("_ahead", .int a)]) pf = some (.lst vf) := by rw [upd_ne xf]; exact hf4
    have hx5 : upd H4 x (.ins (He.ga K "Turn") dx [("_ahead", .int a)]) x = some (.ins (He.ga K "Turn") dx [("_ahead", .int a)]) := upd_same
    have PU5 : PlL (upd H4 x (.ins (He.ga K "Turn") dx [("_ahead", .int a)])) vu u := (PU.same s14).keep (x := x) (tups _)
    have PF5 : PlL (upd H4 x (.ins (He.ga K "Turn") dx [("_ahead", .int a)])) vf f := (PF.same s14).keep (x := x) (tups _)
    have k5 : ∀ b o, b ≠ x → H b = some o → upd H4 x (.ins (He.ga K "Turn") dx [("_ahead", .int a)]) b = some o := fun b o z e => by rw [upd_ne z]; exact s14 _ _ e
    generalize upd H4 x (.ins (He.ga K "Turn") dx [("_ahead", .int a)]) = H5 at hu5 hf5 hx5 PU5 PF5 k5 ⊢
    walk_at "ss"
    rw [lf]
    refine r_while (fun m σ H' => ∃ (g r : List Pl) (n' : Nat) (x6 x7 : Option V), m = g.length ∧ σ = [some (.ref x), some (.ref pu), some (.ref pf), some (.int n'), some (.int g.length), x6, x7] ∧ Same H5 H' ∧ f = g ++ r ∧ (⟨u, g, n', a⟩ : Tn).Pm ∧ n' ≤ n ∧ ∀ p, (⟨u, g, n', a⟩ : Tn).or p = (⟨u, f, n, a⟩ : Tn).or p) _
      ⟨f, [], n, _, _, rfl, rfl, fun _ _ h => h, by simp, pm, Nat.le_refl _, fun _ => rfl⟩ ?_
    rintro m σ H6 ⟨g, r, n', x6, x7, rfl, rfl, s6, efg, pg, nle, org⟩
    have hf6 := s6 _ _ hf5
    have hu6 := s6 _ _ hu5
    have hx6 := s6 _ _ hx5
    have PU6 := PU5.same s6
    have PF6 := PF5.same s6
    have gl : g.length ≤ f.length := by rw [efg, List.length_append]; omega
    walk_at "ss"
    refine r_dec (fun hpos => ?c1) fun hz => ?c2
    case' c1 =>
      obtain ⟨h, p, eg⟩ : ∃ h p, g = h ++ [p] := by
        rcases List.eq_nil_or_concat g with e | ⟨h, p, e⟩
        · rw [e] at hpos
          exact absurd hpos (by simp)
        · exact ⟨h, p, by simpa using e⟩
      have egl : g.length = h.length + 1 := by rw [eg]; simp
      have hp : f[h.length]? = some p := by
        rw [efg, eg]
        simp
      obtain ⟨t, at1, et⟩ := PF6.at_ _ _ hp
      walk_at "ss"
      rw [show (g.length : Int) - 1 = ((h.length : Nat) : Int) by omega]
      refine r_ixL (SqL.of hf6) (at_of rfl at1) ?_
      walk_at "ss"
      refine r_newS fun z H7 hz s7 e7 => ?_
      refine r_eqPlZ (s7 _ _ et) e7 ?_
      walk_at "ss"
      refine r_whD (fun hq => ?_) fun hq => ?_
      · obtain ⟨ew, ez⟩ := hq
        have ep : p = .lst (n' - 1) ∧ 0 < n' := by
          cases p with
          | use k => exact absurd ew (show ¬ (("use" : Str) = ("list" : Str)) by decide +kernel)
          | lst k =>
            have : (k : Int) = (n' : Int) - 1 := ez
            exact ⟨by rw [show k = n' - 1 by omega], by omega⟩
        obtain ⟨ep, npos⟩ := ep
        rw [eg, ep] at pg org
        obtain ⟨pg2, or2⟩ := pg.shorter npos
        walk_at "ss"
        refine ⟨_, ?_, h, p :: r, n' - 1, x6, x7, rfl, ?_, s6.trans s7, by rw [efg, eg]; simp, pg2, by omega, fun q => (or2 q).trans (org q)⟩
        · omega
        · rw [show (g.length : Int) - 1 = (h.length : Int) by omega, show (n' : Int) - 1 = ((n' - 1 : Nat) : Int) by omega]
      have s67 : Same H6 H7 := s7
      have can : ∀ h', g = h' ++ [.lst (n' - 1)] → n' = 0 := fun h' e => by
        rcases Nat.eq_zero_or_pos n' with y | y
        · exact y
        · exfalso
          rw [eg] at e
          have e2 := (List.append_inj' e rfl).2
          have e3 : p = .lst (n' - 1) := (List.cons.inj e2).1
          refine hq ⟨by rw [e3]; rfl, ?_⟩
          rw [e3]
          show ((n' - 1 : Nat) : Int) = (n' : Int) - 1
          omega
      clear hq e7 hz et at1 hp egl eg
    case' c2 =>
      refine r_whF ?_
      obtain ⟨H7, eH7⟩ : ∃ H7, H7 = H6 := ⟨_, rfl⟩
      have s67 : Same H6 H7 := by
        rw [eH7]
        exact fun _ _ h => h
      rw [← eH7]
      have can : ∀ h', g = h' ++ [.lst (n' - 1)] → n' = 0 := fun h' e => absurd hz (by rw [e]; simp)
      clear eH7
    all_goals
      have hx7 := s67 _ _ hx6
      have hu7 := s67 _ _ hu6
      have hf7 := s67 _ _ hf6
      have PU7 := PU6.same s67
      have PF7 := PF6.same s67
      have k7 : ∀ b o, b ≠ x → H b = some o → H7 b = some o := fun b o z e => s67 _ _ (s6 _ _ (k5 b o z e))
      have hb : ∀ {b : Addr}, H7 b = none → H b = none := fun {b} h => by
        cases e : H b with
        | none => rfl
        | some o =>
          by_cases z : b = x
          · rw [z, hx7] at h
            cases h
          · rw [k7 b o z e] at h
            cases h
      walk_at "ss"
      refine r_newS fun pu2 H8 nu2 s8 e8 => ?_
      walk_at "ss"
      have hx8 := s8 _ _ hx7
      have hf8 := s8 _ _ hf7
      refine r_st (gs := [("_ahead", .int a), ("_used", .ref pu2)]) hx8 cc n2 (by show 1 < 1000; decide) rfl ?_
      have tups8 : ∀ (o : List (Str × V)) b xs, H8 b = some (.tup xs) → upd H8 x (.ins (He.ga K "Turn") dx o) b = some (.tup xs) := fun o b xs h => by
        rw [upd_ne (ne_of h hx8 (by intro z; cases z))]
        exact h
      have a9 : upd H8 x (.ins (He.ga K "Turn") dx [("_ahead", .int a), ("_used", .ref pu2)]) x = some (.ins (He.ga K "Turn") dx [("_ahead", .int a), ("_used", .ref pu2)]) := upd_same
      have b9 : upd H8 x (.ins (He.ga K "Turn") dx [("_ahead", .int a), ("_used", .ref pu2)]) pu2 = some (.lst vu) := by rw [upd_ne (ne_of e8 hx8 (by intro z; cases z))]; exact e8
      have c9 : upd H8 x (.ins (He.ga K "Turn") dx [("_ahead", .int a), ("_used", .ref pu2)]) pf = some (.lst vf) := by rw [upd_ne (ne_of hf8 hx8 (by intro z; cases z))]; exact hf8
      have PU9 : PlL (upd H8 x (.ins (He.ga K "Turn") dx [("_ahead", .int a), ("_used", .ref pu2)])) vu u := (PU7.same s8).keep (x := x) (tups8 _)
      have PF9 : PlL (upd H8 x (.ins (He.ga K "Turn") dx [("_ahead", .int a), ("_used", .ref pu2)])) vf f := (PF7.same s8).keep (x := x) (tups8 _)
      have k9 : ∀ b o, b ≠ x → H b = some o → upd H8 x (.ins (He.ga K "Turn") dx [("_ahead", .int a), ("_used", .ref pu2)]) b = some o := fun b o z e => by rw [upd_ne z]; exact s8 _ _ (k7 b o z e)
      generalize upd H8 x (.ins (He.ga K "Turn") dx [("_ahead", .int a), ("_used", .ref pu2)]) = H9 at a9 b9 c9 PU9 PF9 k9 ⊢
      walk_at "ss"
      rw [cut_to (by rw [lf]; exact gl)]
      refine r_newS fun pf2 H10 nf2 s10 e10 => ?_
      walk_at "ss"
      have hx10 := s10 _ _ a9
      refine r_st (gs := [("_ahead", .int a), ("_used", .ref pu2), ("_front", .ref pf2)]) hx10 cc n3 (by show 2 < 1000; decide) rfl ?_
      have tups10 : ∀ (o : List (Str × V)) b xs, H10 b = some (.tup xs) → upd H10 x (.ins (He.ga K "Turn") dx o) b = some (.tup xs) := fun o b xs h => by
        rw [upd_ne (ne_of h hx10 (by intro z; cases z))]
        exact h
      have PGf : PlL H10 (vf.take g.length) g := by
        have := (PF9.same s10).take g.length
        rw [efg, List.take_left] at this
        exact this
      walk_at "ss"
      refine r_st (gs := [("_ahead", .int a), ("_used", .ref pu2), ("_front", .ref pf2), ("_fresh", .int n')]) upd_same cc n4 (by show 3 < 1000; decide) rfl ?_
      rw [upd_upd]
      have a11 : upd H10 x (.ins (He.ga K "Turn") dx [("_ahead", .int a), ("_used", .ref pu2), ("_front", .ref pf2), ("_fresh", .int n')]) x = some (.ins (He.ga K "Turn") dx [("_ahead", .int a), ("_used", .ref pu2), ("_front", .ref pf2), ("_fresh", .int n')]) := upd_same
      have b11 : upd H10 x (.ins (He.ga K "Turn") dx [("_ahead", .int a), ("_used", .ref pu2), ("_front", .ref pf2), ("_fresh", .int n')]) pu2 = some (.lst vu) := by
        have := s10 _ _ b9
        rw [upd_ne (ne_of this hx10 (by intro z; cases z))]
        exact this
      have c11 : upd H10 x (.ins (He.ga K "Turn") dx [("_ahead", .int a), ("_used", .ref pu2), ("_front", .ref pf2), ("_fresh", .int n')]) pf2 = some (.lst (vf.take g.length)) := by rw [upd_ne (ne_of e10 hx10 (by intro z; cases z))]; exact e10
      have PU11 : PlL (upd H10 x (.ins (He.ga K "Turn") dx [("_ahead", .int a), ("_used", .ref pu2), ("_front", .ref pf2), ("_fresh", .int n')])) vu u := (PU9.same s10).keep (x := x) (tups10 _)
      have PF11 : PlL (upd H10 x (.ins (He.ga K "Turn") dx [("_ahead", .int a), ("_used", .ref pu2), ("_front", .ref pf2), ("_fresh", .int n')])) (vf.take g.length) g := PGf.keep (x := x) (tups10 _)
      have k11 : ∀ b o, b ≠ x → H b = some o → upd H10 x (.ins (He.ga K "Turn") dx [("_ahead", .int a), ("_used", .ref pu2), ("_front", .ref pf2), ("_fresh", .int n')]) b = some o := fun b o z e => by rw [upd_ne z]; exact s10 _ _ (k9 b o z e)
      generalize upd H10 x (.ins (He.ga K "Turn") dx [("_ahead", .int a), ("_used", .ref pu2), ("_front", .ref pf2), ("_fresh", .int n')]) = H11 at a11 b11 c11 PU11 PF11 k11 ⊢
      walk_at "ss"
      refine r_dnewT ?_
      refine r_newS (o := .dT []) fun pgd H12 ng s12' e12 => ?_
      walk_at "ss"
      have hx12 := s12' _ _ a11
      refine r_st (gs := [("_ahead", .int a), ("_used", .ref pu2), ("_front", .ref pf2), ("_fresh", .int n'), ("_goals", .ref pgd)]) hx12 cc n5 (by show 4 < 1000; decide) rfl ?_
      have tups12 : ∀ (o : List (Str × V)) b xs, H12 b = some (.tup xs) → upd H12 x (.ins (He.ga K "Turn") dx o) b = some (.tup xs) := fun o b xs h => by
        rw [upd_ne (ne_of h hx12 (by intro z; cases z))]
        exact h
      have a13 : upd H12 x (.ins (He.ga K "Turn") dx [("_ahead", .int a), ("_used", .ref pu2), ("_front", .ref pf2), ("_fresh", .int n'), ("_goals", .ref pgd)]) x = some (.ins (He.ga K "Turn") dx [("_ahead", .int a), ("_used", .ref pu2), ("_front", .ref pf2), ("_fresh", .int n'), ("_goals", .ref pgd)]) := upd_same
      have b13 : upd H12 x (.ins (He.ga K "Turn") dx [("_ahead", .int a), ("_used", .ref pu2), ("_front", .ref pf2), ("_fresh", .int n'), ("_goals", .ref pgd)]) pu2 = some (.lst vu) := by
        have := s12' _ _ b11
        rw [upd_ne (ne_of this hx12 (by intro z; cases z))]
        exact this
      have c13 : upd H12 x (.ins (He.ga K "Turn") dx [("_ahead", .int a), ("_used", .ref pu2), ("_front", .ref pf2), ("_fresh", .int n'), ("_goals", .ref pgd)]) pf2 = some (.lst (vf.take g.length)) := by
        have := s12' _ _ c11
        rw [upd_ne (ne_of this hx12 (by intro z; cases z))]
        exact this
      have d13 : upd H12 x (.ins (He.ga K "Turn") dx [("_ahead", .int a), ("_used", .ref pu2), ("_front", .ref pf2), ("_fresh", .int n'), ("_goals", .ref pgd)]) pgd = some (.dT []) := by rw [upd_ne (ne_of e12 hx12 (by intro z; cases z))]; exact e12
      have PU13 : PlL (upd H12 x (.ins (He.ga K "Turn") dx [("_ahead", .int a), ("_used", .ref pu2), ("_front", .ref pf2), ("_fresh", .int n'), ("_goals", .ref pgd)])) vu u := (PU11.same s12').keep (x := x) (tups12 _)
      have PF13 : PlL (upd H12 x (.ins (He.ga K "Turn") dx [("_ahead", .int a), ("_used", .ref pu2), ("_front", .ref pf2), ("_fresh", .int n'), ("_goals", .ref pgd)])) (vf.take g.length) g := (PF11.same s12').keep (x := x) (tups12 _)
      have k13 : ∀ b o, b ≠ x → H b = some o → upd H12 x (.ins (He.ga K "Turn") dx [("_ahead", .int a), ("_used", .ref pu2), ("_front", .ref pf2), ("_fresh", .int n'), ("_goals", .ref pgd)]) b = some o := fun b o z e => by rw [upd_ne z]; exact s12' _ _ (k11 b o z e)
      have ngx : ∀ b o, b ≠ x → H b = some o → b ≠ pgd := fun b o z e => ne_of_none (k11 b o z e) ng
      generalize upd H12 x (.ins (He.ga K "Turn") dx [("_ahead", .int a), ("_used", .ref pu2), ("_front", .ref pf2), ("_fresh", .int n'), ("_goals", .ref pgd)]) = H13 at a13 b13 c13 d13 PU13 PF13 k13 ⊢
      have nxg : x ≠ pgd := ne_of a13 d13 (by intro z; cases z)
      have nug : pu2 ≠ pgd := ne_of b13 d13 (by intro z; cases z)
      have nfg : pf2 ≠ pgd := ne_of c13 d13 (by intro z; cases z)
      have ntg : ∀ {H' : Hp} {b : Addr} {xs : List V} {kvs : List (List Key × V)}, H' b = some (.tup xs) → H' pgd = some (.dT kvs) → b ≠ pgd := fun h h2 => ne_of h h2 (by intro z; cases z)
      have ndg : (u ++ g).Nodup := pg.nd
      have tkg : (vf.take g.length).length = g.length := PF13.len
      walk_at "ss"
      refine r_forE (xs := vu) (fun i σ H' => ∃ (kvs : List (List Key × V)) (x6 x7 : Option V), σ = [some (.ref x), some (.ref pu), some (.ref pf), some (.int n'), some (.int g.length), x6, x7] ∧ But pgd H13 H' ∧ H' pgd = some (.dT kvs) ∧ GoA H' kvs (u.take i) [])
        ⟨[], _, _, rfl, But.refl pgd H13, d13, ⟨Nat.zero_le _, fun i p h => by simp at h, fun i p h => by simp at h, fun p _ _ => rfl⟩⟩ (fun i σ H' hi ⟨kvs, x6, x7, _, b, _⟩ => SqL.of (b pu2 _ nug b13)) ?_ ?_
      · rintro i v σ H14 T0 H15 hv ⟨kvs, x6, x7, rfl, b14, e14, G14⟩ hT0 s15 eT0
        obtain ⟨t, hi, rfl, ht⟩ := PU13.item hv
        have b15 : But pgd H13 H15 := b14.same s15
        have e15 := s15 _ _ e14
        have G15 := G14.same s15
        have a15 := b15 x _ nxg a13
        have ht15 := b15 t _ (fun e => by rw [e, d13] at ht; cases ht) ht
        walk_at "ss"
        refine r_newS fun w H16 nw s16 e16 => ?_
        have a16 := s16 _ _ a15
        walk_at "ss"
        have ht16 := s16 _ _ ht15
        have e16g := s16 _ _ e15
        refine r_dpT (k := (u[i]).key) e16g ht16 (by have := (G15.same s16).n; rw [List.length_take] at this; simp at this; omega) ?_
        have tk : u.take (i + 1) = u.take i ++ [u[i]] := by rw [List.take_add_one, List.getElem?_eq_getElem hi]; rfl
        have nin : u[i] ∉ u.take i := nin_take (List.nodup_append.mp ndg).1 hi
        have lti : (u.take i).length = i := by rw [List.length_take]; omega
        walk_at "ss"
        refine ⟨_, _, _, rfl, ?_, upd_same, ?_⟩
        · intro b o z e
          rw [upd_ne z]
          exact s16 _ _ (b15 b o z e)
        · rw [tk]
          refine ((G15.same s16).put (t := w) (fun b xs h => ?_) nin (by simp)).1 rfl ?_
          · rw [upd_ne (ntg h e16g)]
            exact h
          · rw [lti, upd_ne (ntg e16 e16g)]
            exact e16
      rintro σ H14 ⟨kvs, x6, x7, rfl, b14, e14, G14⟩
      rw [lu, List.take_length] at G14
      have a14 := b14 x _ nxg a13
      walk_at "ss"
      refine r_en (SqL.of (b14 pf2 _ nfg c13)) ?_
      refine r_forE (xs := vf.take g.length) (fun i σ H' => ∃ (kvs : List (List Key × V)) (x6 x7 : Option V), σ = [some (.ref x), some (.ref pu), some (.ref pf), some (.int n'), some (.int g.length), x6, x7] ∧ But pgd H13 H' ∧ H' pgd = some (.dT kvs) ∧ GoA H' kvs u (g.take i))
        ⟨kvs, _, _, rfl, b14, e14, G14⟩ (fun i σ H' hi ⟨kvs, x6, x7, _, b, _⟩ => SqL.of (b pf2 _ nfg c13)) ?_ ?_
      · rintro i v σ H14 T0 H15 hv ⟨kvs, x6, x7, rfl, b14, e14, G14⟩ hT0 s15 eT0
        obtain ⟨t, hi, rfl, ht⟩ := PF13.item hv
        have b15 : But pgd H13 H15 := b14.same s15
        have e15 := s15 _ _ e14
        have G15 := G14.same s15
        have a15 := b15 x _ nxg a13
        have ht15 := b15 t _ (fun e => by rw [e, d13] at ht; cases ht) ht
        walk_at "ss"
        refine r_newS fun w H16 nw s16 e16 => ?_
        have a16 := s16 _ _ a15
        walk_at "ss"
        have ht16 := s16 _ _ ht15
        have e16g := s16 _ _ e15
        refine r_dpT (k := (g[i]).key) e16g ht16 (by have := (G15.same s16).n; rw [List.length_take] at this; omega) ?_
        have tk : g.take (i + 1) = g.take i ++ [g[i]] := by rw [List.take_add_one, List.getElem?_eq_getElem hi]; rfl
        have nin : g[i] ∉ g.take i := nin_take (List.nodup_append.mp ndg).2.1 hi
        have nin2 : g[i] ∉ u := fun h => (List.nodup_append.mp ndg).2.2 _ h _ (List.getElem_mem hi) rfl
        have lti : (g.take i).length = i := by rw [List.length_take]; omega
        walk_at "ss"
        refine ⟨_, _, _, rfl, ?_, upd_same, ?_⟩
        · intro b o z e
          rw [upd_ne z]
          exact s16 _ _ (b15 b o z e)
        · rw [tk]
          refine ((G15.same s16).put (t := w) (fun b xs h => ?_) nin2 nin).2 ?_
          · rw [upd_ne (ntg h e16g)]
            exact h
          · rw [lti, upd_ne (ntg e16 e16g)]
            exact e16
      rintro σ H17 ⟨kvs, x6, x7, rfl, b17, e17, G17⟩
      rw [tkg, List.take_length] at G17
      walk_at "ss"
      have PU17 : PlL H17 vu u := PU13.keep (x := x) fun b xs h => b17 b _ (fun e => by rw [e, d13] at h; cases h) h
      have PF17 : PlL H17 (vf.take g.length) g := PF13.keep (x := x) fun b xs h => b17 b _ (fun e => by rw [e, d13] at h; cases h) h
      refine q ⟨u, g, n', a⟩ H17 ⟨pg, can⟩ rfl rfl org gl nle (fun b o z e => b17 b o (ngx b o z e) (k13 b o z e)) ⟨⟨pg, can⟩, dx, pu2, pf2, pgd, vu, vf.take g.length, kvs, b17 _ _ nxg a13, b17 _ _ nug b13, PU17, b17 _ _ nfg c13, PF17, e17, G17⟩ fun l ws hl H2 b2 => ?_
      have nlx : l ≠ x := ne_of hl hx (by intro z; cases z)
      exact turn_but (T := ⟨u, g, n', a⟩) ⟨pg, can⟩ (b17 _ _ nxg a13) (b17 _ _ nug b13) PU17 (b17 _ _ nfg c13) PF17 e17 G17 (b17 _ _ (ngx _ _ nlx hl) (k13 _ _ nlx hl)) (ne_of_none (k7 _ _ nlx hl) nu2).symm (ne_of_none (k9 _ _ nlx hl) nf2).symm b2
theorem ok_Turn___eq__ {P : Program} {w : World} {K : PySem.W.Frag} {mg : Str → Option Value} {base : Heap} {f : Addr} {fd : FuncData} (F : FunD K "__eq__" "Turn.__eq__" (defArgs s_Turn___eq__) (defBody s_Turn___eq__) (defScope s_Turn___eq__) [] [] f fd) (a_Turn__fresh : NoAttr K (He.ga K "Turn") "_fresh") (a_Turn__front : NoAttr K (He.ga K "Turn") "_front") (a_Turn__used : NoAttr K (He.ga K "Turn") "_used") (c_Turn : Cls K (He.ga K "Turn")) (i_Turn : Kr.InsI K (He.ga K "Turn")) (k_Turn : mg "Turn" = some (.ref (He.ga K "Turn"))) (n_isinstance : mg "isinstance" = none) : FnOk P w K mg base CX0 1 f fd ["self", "other"] (sp_Turn___eq__ K) := by
  refine F.ok sc_Turn___eq__ (fun vs H Q E h => by first | (obtain ⟨rfl, _⟩ := h; rfl) | (obtain ⟨_, rfl, _⟩ := h; rfl) | (obtain ⟨_, _, rfl, _⟩ := h; rfl) | (obtain ⟨_, _, _, rfl, _⟩ := h; rfl) | (obtain ⟨_, _, _, _, rfl, _⟩ := h; rfl) | (obtain ⟨_, _, _, _, _, rfl, _⟩ := h; rfl) | (obtain ⟨_, _, _, _, _, _, rfl, _⟩ := h; rfl) | (obtain ⟨_, _, _, _, _, _, _, rfl, _⟩ := h; rfl) | (obtain ⟨_, _, _, _, _, _, _, _, rfl, _⟩ := h; rfl) | (obtain ⟨_, _, _, _, _, _, _, _, _, rfl, _⟩ := h; rfl) | (obtain ⟨_, _, _, _, _, _, _, _, _, _, rfl, _⟩ := h; rfl) | (obtain ⟨_, _, _, _, _, _, _, _, _, _, _, rfl, _⟩ := h; rfl) | (obtain ⟨_, _, _, _, _, _, _, _, _, _, _, _, rfl, _⟩ := h; rfl) | (obtain ⟨_, _, _, _, _, _, _, _, _, _, _, _, _, rfl, _⟩ := h; rfl) | (obtain ⟨_, _, _, _, _, _, _, _, _, _, _, _, _, _, rfl, _⟩ := h; rfl) | (obtain ⟨_, _, _, _, _, _, _, _, _, _, _, _, _, _, _, rfl, _⟩ := h; rfl) | (obtain ⟨_, _, _, _, _, _, _, _, _, _, _, _, _, _, _, _, rfl, _⟩ := h; rfl) | (obtain ⟨_, _, _, _, _, _, _, _, _, _, _, _, _, _, _, _, _, rfl, _⟩ := h; rfl)) (fun cdv A outer s H vs Q E hr h => ?_)
  · have hu := hu_of hr
    obtain ⟨x, y, S, T, rfl, ⟨-, dx, pu, pf, pg, vu, vf, kvs, h1, h2, h3, h4, h5, h6, h7⟩, ⟨-, dy, qu, qf, qg, wu, wf, kws, g1, g2, g3, g4, g5, g6, g7⟩, q⟩ := h
    have cc := c_Turn
    have n2 := a_Turn__used
    have n3 := a_Turn__front
    have n4 := a_Turn__fresh
    refine ⟨_, PSs.nox (pss_one (ps_ret (pe_and (pe_callB (id := "isinstance") call_isi rfl n_isinstance (by decide +kernel) (pa_cons (pv 1) (pa_cons (Kr.pe_gcls k_Turn) pa_nil))) (pe_and (pe_cmpR (op_eqD hr.units) (pe_fld (pv 0) rfl) (pe_fld (pv 1) rfl) (nomark _)) (pe_and (pe_cmpR (op_eqD hr.units) (pe_fld (pv 0) rfl) (pe_fld (pv 1) rfl) (nomark _)) (pe_one (pe_cmpR op_eq (pe_fld (pv 0) rfl) (pe_fld (pv 1) rfl) (nomark _)))))))), ?_⟩
    rw [st_Turn___eq__]
    walk_at "ss"
    refine r_isiC i_Turn g1 ?_
    walk_at "ss"
    refine r_eqPls h2 h3 g2 g3 ?_
    walk_at "ss"
    refine r_dec (fun e1 => ?_) fun e1 => ?_
    rotate_left
    · rw [show (false : Bool) = decide (S.u = T.u ∧ S.f = T.f ∧ S.n = T.n) by simp [e1]]
      exact q
    walk_at "ss"
    refine r_eqPls h4 h5 g4 g5 ?_
    walk_at "ss"
    refine r_dec (fun e2 => ?_) fun e2 => ?_
    rotate_left
    · rw [show (false : Bool) = decide (S.u = T.u ∧ S.f = T.f ∧ S.n = T.n) by simp [e2]]
      exact q
    walk_at "ss"
    have e : decide ((S.n : Int) = (T.n : Int)) = decide (S.u = T.u ∧ S.f = T.f ∧ S.n = T.n) := by
      by_cases h : S.n = T.n
      · simp [e1, e2, h]
      · have h' : ¬ ((S.n : Int) = (T.n : Int)) := by omega
        simp [h, h']
    rw [e]
    exact q
theorem ok_Turn_used {P : Program} {w : World} {K : PySem.W.Frag} {mg : Str → Option Value} {base : Heap} {f : Addr} {fd : FuncData} (F : FunD K "used" "Turn.used" (defArgs s_Turn_used) (defBody s_Turn_used) (defScope s_Turn_used) [] [] f fd) (a_Turn__used : NoAttr K (He.ga K "Turn") "_used") (c_Turn : Cls K (He.ga K "Turn")) (n_list : mg "list" = none) : FnOk P w K mg base CX0 1 f fd ["self"] (sp_Turn_used K) := by
  refine F.ok sc_Turn_used (fun vs H Q E h => by first | (obtain ⟨rfl, _⟩ := h; rfl) | (obtain ⟨_, rfl, _⟩ := h; rfl) | (obtain ⟨_, _, rfl, _⟩ := h; rfl) | (obtain ⟨_, _, _, rfl, _⟩ := h; rfl) | (obtain ⟨_, _, _, _, rfl, _⟩ := h; rfl) | (obtain ⟨_, _, _, _, _, rfl, _⟩ := h; rfl) | (obtain ⟨_, _, _, _, _, _, rfl, _⟩ := h; rfl) | (obtain ⟨_, _, _, _, _, _, _, rfl, _⟩ := h; rfl) | (obtain ⟨_, _, _, _, _, _, _, _, rfl, _⟩ := h; rfl) | (obtain ⟨_, _, _, _, _, _, _, _, _, rfl, _⟩ := h; rfl) | (obtain ⟨_, _, _, _, _, _, _, _, _, _, rfl, _⟩ := h; rfl) | (obtain ⟨_, _, _, _, _, _, _, _, _, _, _, rfl, _⟩ := h; rfl) | (obtain ⟨_, _, _, _, _, _, _, _, _, _, _, _, rfl, _⟩ := h; rfl) | (obtain ⟨_, _, _, _, _, _, _, _, _, _, _, _, _, rfl, _⟩ := h; rfl) | (obtain ⟨_, _, _, _, _, _, _, _, _, _, _, _, _, _, rfl, _⟩ := h; rfl) | (obtain ⟨_, _, _, _, _, _, _, _, _, _, _, _, _, _, _, rfl, _⟩ := h; rfl) | (obtain ⟨_, _, _, _, _, _, _, _, _, _, _, _, _, _, _, _, rfl, _⟩ := h; rfl) | (obtain ⟨_, _, _, _, _, _, _, _, _, _, _, _, _, _, _, _, _, rfl, _⟩ := h; rfl)) (fun cdv A outer s H vs Q E hr h => ?_)
  · have hu := hu_of hr
    obtain ⟨x, T, rfl, ⟨-, dx, pu, pf, pg, vu, vf, kvs, h1, h2, h3, h4, h5, h6, h7⟩, q⟩ := h
    have cc := c_Turn
    have n2 := a_Turn__used
    refine ⟨_, PSs.nox (pss_one (ps_ret (pe_callTy (T := "list") Kr.c_list rfl n_list (by decide +kernel) (pa_cons (pe_fld (pv 0) rfl) pa_nil)))), ?_⟩
    rw [st_Turn_used]
    walk_at "ss"
    exact r_newS fun l H' hl s e => q l vu H' s hl e (h3.same s)
theorem ok_Turn_front {P : Program} {w : World} {K : PySem.W.Frag} {mg : Str → Option Value} {base : Heap} {f : Addr} {fd : FuncData} (F : FunD K "front" "Turn.front" (defArgs s_Turn_front) (defBody s_Turn_front) (defScope s_Turn_front) [] [] f fd) (a_Turn__front : NoAttr K (He.ga K "Turn") "_front") (c_Turn : Cls K (He.ga K "Turn")) (n_list : mg "list" = none) : FnOk P w K mg base CX0 1 f fd ["self"] (sp_Turn_front K) := by
  refine F.ok sc_Turn_front (fun vs H Q E h => by first | (obtain ⟨rfl, _⟩ := h; rfl) | (obtain ⟨_, rfl, _⟩ := h; rfl) | (obtain ⟨_, _, rfl, _⟩ := h; rfl) | (obtain ⟨_, _, _, rfl, _⟩ := h; rfl) | (obtain ⟨_, _, _, _, rfl, _⟩ := h; rfl) | (obtain ⟨_, _, _, _, _, rfl, _⟩ := h; rfl) | (obtain ⟨_, _, _, _, _, _, rfl, _⟩ := h; rfl) | (obtain ⟨_, _, _, _, _, _, _, rfl, _⟩ := h; rfl) | (obtain ⟨_, _, _, _, _, _, _, _, rfl, _⟩ := h; rfl) | (obtain ⟨_, _, _, _, _, _, _, _, _, rfl, _⟩ := h; rfl) | (obtain ⟨_, _, _, _, _, _, _, _, _, _, rfl, _⟩ := h; rfl) | (obtain ⟨_, _, _, _, _, _, _, _, _, _, _, rfl, _⟩ := h; rfl) | (obtain ⟨_, _, _, _, _, _, _, _, _, _, _, _, rfl, _⟩ := h; rfl) | (obtain ⟨_, _, _, _, _, _, _, _, _, _, _, _, _, rfl, _⟩ := h; rfl) | (obtain ⟨_, _, _, _, _, _, _, _, _, _, _, _, _, _, rfl, _⟩ := h; rfl) | (obtain ⟨_, _, _, _, _, _, _, _, _, _, _, _, _, _, _, rfl, _⟩ := h; rfl) | (obtain ⟨_, _, _, _, _, _, _, _, _, _, _, _, _, _, _, _, rfl, _⟩ := h; rfl) | (obtain ⟨_, _, _, _, _, _, _, _, _, _, _, _, _, _, _, _, _, rfl, _⟩ := h; rfl)) (fun cdv A outer s H vs Q E hr h => ?_)
  · have hu := hu_of hr
    obtain ⟨x, T, rfl, ⟨-, dx, pu, pf, pg, vu, vf, kvs, h1, h2, h3, h4, h5, h6, h7⟩, q⟩ := h
    have cc := c_Turn
    have n3 := a_Turn__front
    refine ⟨_, PSs.nox (pss_one (ps_ret (pe_callTy (T := "list") Kr.c_list rfl n_list (by decide +kernel) (pa_cons (pe_fld (pv 0) rfl) pa_nil)))), ?_⟩
    rw [st_Turn_front]
    walk_at "ss"
    exact r_newS fun l H' hl s e => q l vf H' s hl e (h5.same s)
theorem ok_Turn_fresh {P : Program} {w : World} {K : PySem.W.Frag} {mg : Str → Option Value} {base : Heap} {f : Addr} {fd : FuncData} (F : FunD K "fresh" "Turn.fresh" (defArgs s_Turn_fresh) (defBody s_Turn_fresh) (defScope s_Turn_fresh) [] [] f fd) (a_Turn__fresh : NoAttr K (He.ga K "Turn") "_fresh") (c_Turn : Cls K (He.ga K "Turn")) : FnOk P w K mg base CX0 1 f fd ["self"] (sp_Turn_fresh K) := by
  refine F.ok sc_Turn_fresh (fun vs H Q E h => by first | (obtain ⟨rfl, _⟩ := h; rfl) | (obtain ⟨_, rfl, _⟩ := h; rfl) | (obtain ⟨_, _, rfl, _⟩ := h; rfl) | (obtain ⟨_, _, _, rfl, _⟩ := h; rfl) | (obtain ⟨_, _, _, _, rfl, _⟩ := h; rfl) | (obtain ⟨_, _, _, _, _, rfl, _⟩ := h; rfl) | (obtain ⟨_, _, _, _, _, _, rfl, _⟩ := h; rfl) | (obtain ⟨_, _, _, _, _, _, _, rfl, _⟩ := h; rfl) | (obtain ⟨_, _, _, _, _, _, _, _, rfl, _⟩ := h; rfl) | (obtain ⟨_, _, _, _, _, _, _, _, _, rfl, _⟩ := h; rfl) | (obtain ⟨_, _, _, _, _, _, _, _, _, _, rfl, _⟩ := h; rfl) | (obtain ⟨_, _, _, _, _, _, _, _, _, _, _, rfl, _⟩ := h; rfl) | (obtain ⟨_, _, _, _, _, _, _, _, _, _, _, _, rfl, _⟩ := h; rfl) | (obtain ⟨_, _, _, _, _, _, _, _, _, _, _, _, _, rfl, _⟩ := h; rfl) | (obtain ⟨_, _, _, _, _, _, _, _, _, _, _, _, _, _, rfl, _⟩ := h; rfl) | (obtain ⟨_, _, _, _, _, _, _, _, _, _, _, _, _, _, _, rfl, _⟩ := h; rfl) | (obtain ⟨_, _, _, _, _, _, _, _, _, _, _, _, _, _, _, _, rfl, _⟩ := h; rfl) | (obtain ⟨_, _, _, _, _, _, _, _, _, _, _, _, _, _, _, _, _, rfl, _⟩ := h; rfl)) (fun cdv A outer s H vs Q E hr h => ?_)
  · have hu := hu_of hr
    obtain ⟨x, T, rfl, ⟨-, dx, pu, pf, pg, vu, vf, kvs, h1, h2, h3, h4, h5, h6, h7⟩, q⟩ := h
    have cc := c_Turn
    have n4 := a_Turn__fresh
    refine ⟨_, PSs.nox (pss_one (ps_ret (pe_fld (pv 0) rfl))), ?_⟩
    rw [st_Turn_fresh]
    walk_at "ss"
    exact q
theorem ok_Turn_ahead {P : Program} {w : World} {K : PySem.W.Frag} {mg : Str → Option Value} {base : Heap} {f : Addr} {fd : FuncData} (F : FunD K "ahead" "Turn.ahead" (defArgs s_Turn_ahead) (defBody s_Turn_ahead) (defScope s_Turn_ahead) [] [] f fd) (a_Turn__ahead : NoAttr K (He.ga K "Turn") "_ahead") (c_Turn : Cls K (He.ga K "Turn")) : FnOk P w K mg base CX0 1 f fd ["self"] (sp_Turn_ahead K) := by
  refine F.ok sc_Turn_ahead (fun vs H Q E h => by first | (obtain ⟨rfl, _⟩ := h; rfl) | (obtain ⟨_, rfl, _⟩ := h; rfl) | (obtain ⟨_, _, rfl, _⟩ := h; rfl) | (obtain ⟨_, _, _, rfl, _⟩ := h; rfl) | (obtain ⟨_, _, _, _, rfl, _⟩ := h; rfl) | (obtain ⟨_, _, _, _, _, rfl, _⟩ := h; rfl) | (obtain ⟨_, _, _, _, _, _, rfl, _⟩ := h; rfl) | (obtain ⟨_, _, _, _, _, _, _, rfl, _⟩ := h; rfl) | (obtain ⟨_, _, _, _, _, _, _, _, rfl, _⟩ := h; rfl) | (obtain ⟨_, _, _, _, _, _, _, _, _, rfl, _⟩ := h; rfl) | (obtain ⟨_, _, _, _, _, _, _, _, _, _, rfl, _⟩ := h; rfl) | (obtain ⟨_, _, _, _, _, _, _, _, _, _, _, rfl, _⟩ := h; rfl) | (obtain ⟨_, _, _, _, _, _, _, _, _, _, _, _, rfl, _⟩ := h; rfl) | (obtain ⟨_, _, _, _, _, _, _, _, _, _, _, _, _, rfl, _⟩ := h; rfl) | (obtain ⟨_, _, _, _, _, _, _, _, _, _, _, _, _, _, rfl, _⟩ := h; rfl) | (obtain ⟨_, _, _, _, _, _, _, _, _, _, _, _, _, _, _, rfl, _⟩ := h; rfl) | (obtain ⟨_, _, _, _, _, _, _, _, _, _, _, _, _, _, _, _, rfl, _⟩ := h; rfl) | (obtain ⟨_, _, _, _, _, _, _, _, _, _, _, _, _, _, _, _, _, rfl, _⟩ := h; rfl)) (fun cdv A outer s H vs Q E hr h => ?_)
  · have hu := hu_of hr
    obtain ⟨x, T, rfl, ⟨-, dx, pu, pf, pg, vu, vf, kvs, h1, h2, h3, h4, h5, h6, h7⟩, q⟩ := h
    have cc := c_Turn
    have n1 := a_Turn__ahead
    refine ⟨_, PSs.nox (pss_one (ps_ret (pe_fld (pv 0) rfl))), ?_⟩
    rw [st_Turn_ahead]
    walk_at "ss"
    exact q
theorem ok_Turn_behind {P : Program} {w : World} {K : PySem.W.Frag} {mg : Str → Option Value} {base : Heap} {f : Addr} {fd : FuncData} (F : FunD K "behind" "Turn.behind" (defArgs s_Turn_behind) (defBody s_Turn_behind) (defScope s_Turn_behind) [] [] f fd) (a_Turn__used : NoAttr K (He.ga K "Turn") "_used") (c_Turn : Cls K (He.ga K "Turn")) (n_len : mg "len" = none) : FnOk P w K mg base CX0 1 f fd ["self"] (sp_Turn_behind K) := by
  refine F.ok sc_Turn_behind (fun vs H Q E h => by first | (obtain ⟨rfl, _⟩ := h; rfl) | (obtain ⟨_, rfl, _⟩ := h; rfl) | (obtain ⟨_, _, rfl, _⟩ := h; rfl) | (obtain ⟨_, _, _, rfl, _⟩ := h; rfl) | (obtain ⟨_, _, _, _, rfl, _⟩ := h; rfl) | (obtain ⟨_, _, _, _, _, rfl, _⟩ := h; rfl) | (obtain ⟨_, _, _, _, _, _, rfl, _⟩ := h; rfl) | (obtain ⟨_, _, _, _, _, _, _, rfl, _⟩ := h; rfl) | (obtain ⟨_, _, _, _, _, _, _, _, rfl, _⟩ := h; rfl) | (obtain ⟨_, _, _, _, _, _, _, _, _, rfl, _⟩ := h; rfl) | (obtain ⟨_, _, _, _, _, _, _, _, _, _, rfl, _⟩ := h; rfl) | (obtain ⟨_, _, _, _, _, _, _, _, _, _, _, rfl, _⟩ := h; rfl) | (obtain ⟨_, _, _, _, _, _, _, _, _, _, _, _, rfl, _⟩ := h; rfl) | (obtain ⟨_, _, _, _, _, _, _, _, _, _, _, _, _, rfl, _⟩ := h; rfl) | (obtain ⟨_, _, _, _, _, _, _, _, _, _, _, _, _, _, rfl, _⟩ := h; rfl) | (obtain ⟨_, _, _, _, _, _, _, _, _, _, _, _, _, _, _, rfl, _⟩ := h; rfl) | (obtain ⟨_, _, _, _, _, _, _, _, _, _, _, _, _, _, _, _, rfl, _⟩ := h; rfl) | (obtain ⟨_, _, _, _, _, _, _, _, _, _, _, _, _, _, _, _, _, rfl, _⟩ := h; rfl)) (fun cdv A outer s H vs Q E hr h => ?_)
  · have hu := hu_of hr
    obtain ⟨x, T, rfl, ⟨-, dx, pu, pf, pg, vu, vf, kvs, h1, h2, h3, h4, h5, h6, h7⟩, q⟩ := h
    have cc := c_Turn
    have n2 := a_Turn__used
    refine ⟨_, PSs.nox (pss_one (ps_ret (pe_callB (id := "len") Kr.c_len rfl n_len (by decide +kernel) (pa_cons (pe_fld (pv 0) rfl) pa_nil)))), ?_⟩
    rw [st_Turn_behind]
    walk_at "ss"
    rw [h3.len]
    exact q
theorem ok__law_digits {P : Program} {w : World} {K : PySem.W.Frag} {mg : Str → Option Value} {base : Heap} {f : Addr} {fd : FuncData} (F : FunD K "_law_digits" "_law_digits" (defArgs s__law_digits) (defBody s__law_digits) (defScope s__law_digits) [] [] f fd) (n_int : mg "int" = none) (n_range : mg "range" = none) : FnOk P w K mg base CX0 1 f fd ["cell", "many"] (sp__law_digits K) := by
  refine F.ok sc__law_digits (fun vs H Q E h => by first | (obtain ⟨rfl, _⟩ := h; rfl) | (obtain ⟨_, rfl, _⟩ := h; rfl) | (obtain ⟨_, _, rfl, _⟩ := h; rfl) | (obtain ⟨_, _, _, rfl, _⟩ := h; rfl) | (obtain ⟨_, _, _, _, rfl, _⟩ := h; rfl) | (obtain ⟨_, _, _, _, _, rfl, _⟩ := h; rfl) | (obtain ⟨_, _, _, _, _, _, rfl, _⟩ := h; rfl) | (obtain ⟨_, _, _, _, _, _, _, rfl, _⟩ := h; rfl) | (obtain ⟨_, _, _, _, _, _, _, _, rfl, _⟩ := h; rfl) | (obtain ⟨_, _, _, _, _, _, _, _, _, rfl, _⟩ := h; rfl) | (obtain ⟨_, _, _, _, _, _, _, _, _, _, rfl, _⟩ := h; rfl) | (obtain ⟨_, _, _, _, _, _, _, _, _, _, _, rfl, _⟩ := h; rfl) | (obtain ⟨_, _, _, _, _, _, _, _, _, _, _, _, rfl, _⟩ := h; rfl) | (obtain ⟨_, _, _, _, _, _, _, _, _, _, _, _, _, rfl, _⟩ := h; rfl) | (obtain ⟨_, _, _, _, _, _, _, _, _, _, _, _, _, _, rfl, _⟩ := h; rfl) | (obtain ⟨_, _, _, _, _, _, _, _, _, _, _, _, _, _, _, rfl, _⟩ := h; rfl) | (obtain ⟨_, _, _, _, _, _, _, _, _, _, _, _, _, _, _, _, rfl, _⟩ := h; rfl) | (obtain ⟨_, _, _, _, _, _, _, _, _, _, _, _, _, _, _, _, _, rfl, _⟩ := h; rfl)) (fun cdv A outer s H vs Q E hr h => ?_)
  · have hu := hu_of hr
    obtain ⟨c, m, rfl, hm1000, q⟩ := h
    refine ⟨_, PSs.nox (pss_cons (ps_set (i := 2) sc__law_digits.nd rfl (.inl rfl) (pe_lst pa_nil)) (pss_cons (ps_set (i := 3) sc__law_digits.nd rfl (.inl rfl) pe_int) (pss_cons (ps_if (pt_cmpR op_ge (pv 0) (pe_op op_pow pe_int pe_int) (nomark _)) (pss_one (ps_set (i := 3) sc__law_digits.nd rfl (.inl rfl) (pv 0))) pss_nil) (pss_cons (ps_set (i := 4) sc__law_digits.nd rfl (.inl rfl) (pe_op op_mod (pe_callTy (T := "int") Kr.c_int1 rfl n_int (by decide +kernel) (pa_cons (pv 0) pa_nil)) pe_int)) (pss_cons (ps_for PassesOwn.never rfl (pi_range1 rfl n_range (pa_cons (pv 1) pa_nil)) (pg_name (i := 5) sc__law_digits.nd rfl (.inl rfl)) (pss_cons (ps_set (i := 4) sc__law_digits.nd rfl (.inl rfl) (pe_op op_mod (pe_callTy (T := "int") Kr.c_int1 rfl n_int (by decide +kernel) (pa_cons (pe_op op_add (pe_op op_add (pe_op op_mul (pv 4) pe_int) (pe_op op_mul pe_int (pv 5))) pe_int) pa_nil)) pe_int)) (pss_cons (ps_set (i := 4) sc__law_digits.nd rfl (.inl rfl) (pe_op op_mod (pe_callTy (T := "int") Kr.c_int1 rfl n_int (by decide +kernel) (pa_cons (pe_op op_mul (pv 4) (pe_op op_add (pe_op op_fdivW (pv 4) pe_int) pe_int)) pa_nil)) pe_int)) (pss_one (ps_if (pt_cmpR op_gt (pv 3) pe_int (nomark _)) (pss_cons (ps_expr (pe_bm PySem.F.plainAttrs_list PySem.F.slot_list_append PySem.F.type_list_append mt_append (pv 2) (pa_cons (pe_op op_mod (pe_callTy (T := "int") Kr.c_int1 rfl n_int (by decide +kernel) (pa_cons (pv 3) pa_nil)) pe_int) pa_nil))) (pss_one (ps_set (i := 3) sc__law_digits.nd rfl (.inl rfl) (pe_op op_fdivW (pv 3) pe_int)))) (pss_one (ps_expr (pe_bm PySem.F.plainAttrs_list PySem.F.slot_list_append PySem.F.type_list_append mt_append (pv 2) (pa_cons (pe_op op_mod (pe_callTy (T := "int") Kr.c_int1 rfl n_int (by decide +kernel) (pa_cons (pe_op op_fdivW (pv 4) pe_int) pa_nil)) pe_int) pa_nil))))))))) (pss_one (ps_ret (pv 2)))))))), ?_⟩
    rw [st__law_digits]
    walk_at "ss"
    refine r_newS fun p H1 hp s1 ep => ?_
    walk_at "ss"
    refine r_dec (fun _ => ?_) fun _ => ?_
    all_goals
      walk_at "ss"
      rw [show ((m : Int)).toNat = m by omega]
      refine r_forR (fun i σ H' => ∃ (rest number : Int) (x5 : Option V) (ds : List Int), σ = [some (.int c), some (.int m), some (.ref p), some (.int rest), some (.int number), x5] ∧ 0 ≤ number ∧ number < 2147483647 ∧ ds.length = i ∧ (∀ d ∈ ds, 0 ≤ d ∧ d < 1009) ∧
          H' p = some (.lst (ds.map V.int)) ∧ ∀ b o, H b = some o → H' b = some o) ⟨_, _, _, [], rfl, by omega, by omega, rfl, by simp, ep, s1⟩ ?_ ?_
      · rintro i σ H2 hi ⟨rest, number, x5, ds, rfl, h0, h1, hl, hb, e2, s2⟩
        have hi40 : i < 1000 := by omega
        walk_at "ss"
        refine r_dec (fun _ => ?_) fun _ => ?_
        · walk_at "ss"
          refine r_append e2 (by rw [List.length_map]; omega) ?_
          walk_at "ss"
          refine ⟨_, _, _, ds ++ [rest % 1009], rfl, by omega, by omega, by simp [hl], fun d hd => ?_, ?_, fun b o e => ?_⟩
          · rcases List.mem_append.mp hd with hd | hd
            · exact hb d hd
            · rw [List.mem_singleton] at hd
              omega
          · rw [upd_same, List.map_append]
            rfl
          · rw [upd_ne (ne_of_none e hp)]
            exact s2 b o e
        · walk_at "ss"
          generalize hE : (_ : Int) % 1009 = dd
          have hdd : 0 ≤ dd ∧ dd < 1009 := by
            rw [← hE]
            exact emod_lt (by decide)
          refine r_append e2 (by rw [List.length_map]; omega) ?_
          walk_at "ss"
          refine ⟨_, _, _, ds ++ [dd], rfl, by omega, by omega, by simp [hl], fun d hd => ?_, ?_, fun b o e => ?_⟩
          · rcases List.mem_append.mp hd with hd | hd
            · exact hb d hd
            · rw [List.mem_singleton] at hd
              rw [hd]
              exact hdd
          · rw [upd_same, List.map_append]
            rfl
          · rw [upd_ne (ne_of_none e hp)]
            exact s2 b o e
      · rintro σ H2 ⟨rest, number, x5, ds, rfl, h0, h1, hl, hb, e2, s2⟩
        walk_at "ss"
        exact q p H2 ds s2 hp e2 hl hb
theorem ok__law_next {P : Program} {w : World} {K : PySem.W.Frag} {mg : Str → Option Value} {base : Heap} {f : Addr} {fd : FuncData} (F : FunD K "_law_next" "_law_next" (defArgs s__law_next) (defBody s__law_next) (defScope s__law_next) [] [] f fd) (n_int : mg "int" = none) (n_len : mg "len" = none) : FnOk P w K mg base CX0 1 f fd ["source", "many"] (sp__law_next K) := by
  refine F.ok sc__law_next (fun vs H Q E h => by first | (obtain ⟨rfl, _⟩ := h; rfl) | (obtain ⟨_, rfl, _⟩ := h; rfl) | (obtain ⟨_, _, rfl, _⟩ := h; rfl) | (obtain ⟨_, _, _, rfl, _⟩ := h; rfl) | (obtain ⟨_, _, _, _, rfl, _⟩ := h; rfl) | (obtain ⟨_, _, _, _, _, rfl, _⟩ := h; rfl) | (obtain ⟨_, _, _, _, _, _, rfl, _⟩ := h; rfl) | (obtain ⟨_, _, _, _, _, _, _, rfl, _⟩ := h; rfl) | (obtain ⟨_, _, _, _, _, _, _, _, rfl, _⟩ := h; rfl) | (obtain ⟨_, _, _, _, _, _, _, _, _, rfl, _⟩ := h; rfl) | (obtain ⟨_, _, _, _, _, _, _, _, _, _, rfl, _⟩ := h; rfl) | (obtain ⟨_, _, _, _, _, _, _, _, _, _, _, rfl, _⟩ := h; rfl) | (obtain ⟨_, _, _, _, _, _, _, _, _, _, _, _, rfl, _⟩ := h; rfl) | (obtain ⟨_, _, _, _, _, _, _, _, _, _, _, _, _, rfl, _⟩ := h; rfl) | (obtain ⟨_, _, _, _, _, _, _, _, _, _, _, _, _, _, rfl, _⟩ := h; rfl) | (obtain ⟨_, _, _, _, _, _, _, _, _, _, _, _, _, _, _, rfl, _⟩ := h; rfl) | (obtain ⟨_, _, _, _, _, _, _, _, _, _, _, _, _, _, _, _, rfl, _⟩ := h; rfl) | (obtain ⟨_, _, _, _, _, _, _, _, _, _, _, _, _, _, _, _, _, rfl, _⟩ := h; rfl)) (fun cdv A outer s H vs Q E hr h => ?_)
  · have hu := hu_of hr
    obtain ⟨s, m, rfl, ⟨d, ds, j, hs, hd, hl0, hl1, hb⟩, h0, hm, q⟩ := h
    have nsd : d ≠ s := by
      intro z
      rw [z, hs] at hd
      have e := HO.lst.inj (Option.some.inj hd)
      cases ds with
      | nil => simp at e
      | cons x r => simp at e
    refine ⟨_, PSs.nox (pss_cons (ps_asg (pe_op op_add (pe_ix ix_list (pv 0) pe_int (fun _ _ => rfl)) pe_int) (pg_sub (pv 0) pe_int set_list)) (pss_one (ps_ret (pe_op op_mod (pe_callTy (T := "int") Kr.c_int1 rfl n_int (by decide +kernel) (pa_cons (pe_ix ix_list (pe_ix ix_list (pv 0) pe_int (fun _ _ => rfl)) (pe_op op_mod (pe_callTy (T := "int") Kr.c_int1 rfl n_int (by decide +kernel) (pa_cons (pe_op op_sub (pe_ix ix_list (pv 0) pe_int (fun _ _ => rfl)) pe_int) pa_nil)) (pe_callB (id := "len") Kr.c_len rfl n_len (by decide +kernel) (pa_cons (pe_ix ix_list (pv 0) pe_int (fun _ _ => rfl)) pa_nil))) (fun _ _ => rfl)) pa_nil)) (pv 1))))), ?_⟩
    rw [st__law_next]
    have hz := @emod_lt (j + 1 - 1) (ds.length : Int) (by omega)
    obtain ⟨x, hx⟩ : ∃ x, ds[((j + 1 - 1) % (ds.length : Int)).toNat]? = some x := ⟨_, List.getElem?_eq_getElem (by omega)⟩
    have hm0 := @emod_lt x (m : Int) (by omega)
    walk_at "ss"
    have hd1 : upd H s (.lst ([V.ref d, V.int j].set (Int.toNat 1) (V.int (j + 1)))) d = some (.lst (ds.map V.int)) := by rw [upd_ne nsd]; exact hd
    refine r_lenL (SqL.of hd1) ?_
    rw [List.length_map]
    refine r_I (show (0 : Int) < (ds.length : Int) by omega) ?_
    refine r_ixL (SqL.of hd1) (at_of (j := ((j + 1 - 1) % (ds.length : Int)).toNat) (by show (j + 1 - 1) % (ds.length : Int) = _; omega) (by rw [List.getElem?_map, hx]; rfl)) ?_
    walk_at "ss"
    try (refine r_I (show (0 : Int) < (m : Int) by omega) ?_)
    have er : x % (m : Int) = ((x % (m : Int)).toNat : Int) := by omega
    rw [er]
    exact q _ _ (by omega) ⟨⟨d, ds, j + 1, upd_same, hd1, hl0, hl1, hb⟩, (But.refl s H).upd⟩
theorem ok__law_mixed {P : Program} {w : World} {K : PySem.W.Frag} {mg : Str → Option Value} {base : Heap} {f : Addr} {fd : FuncData} (F : FunD K "_law_mixed" "_law_mixed" (defArgs s__law_mixed) (defBody s__law_mixed) (defScope s__law_mixed) [] [] f fd) (h__law_next : Kr.FnH P w K mg base CX0 1 "_law_next" ["source", "many"] (sp__law_next K)) (n_len : mg "len" = none) (n_list : mg "list" = none) : FnOk P w K mg base CX0 2 f fd ["source", "some"] (sp__law_mixed K) := by
  refine F.ok sc__law_mixed (fun vs H Q E h => by first | (obtain ⟨rfl, _⟩ := h; rfl) | (obtain ⟨_, rfl, _⟩ := h; rfl) | (obtain ⟨_, _, rfl, _⟩ := h; rfl) | (obtain ⟨_, _, _, rfl, _⟩ := h; rfl) | (obtain ⟨_, _, _, _, rfl, _⟩ := h; rfl) | (obtain ⟨_, _, _, _, _, rfl, _⟩ := h; rfl) | (obtain ⟨_, _, _, _, _, _, rfl, _⟩ := h; rfl) | (obtain ⟨_, _, _, _, _, _, _, rfl, _⟩ := h; rfl) | (obtain ⟨_, _, _, _, _, _, _, _, rfl, _⟩ := h; rfl) | (obtain ⟨_, _, _, _, _, _, _, _, _, rfl, _⟩ := h; rfl) | (obtain ⟨_, _, _, _, _, _, _, _, _, _, rfl, _⟩ := h; rfl) | (obtain ⟨_, _, _, _, _, _, _, _, _, _, _, rfl, _⟩ := h; rfl) | (obtain ⟨_, _, _, _, _, _, _, _, _, _, _, _, rfl, _⟩ := h; rfl) | (obtain ⟨_, _, _, _, _, _, _, _, _, _, _, _, _, rfl, _⟩ := h; rfl) | (obtain ⟨_, _, _, _, _, _, _, _, _, _, _, _, _, _, rfl, _⟩ := h; rfl) | (obtain ⟨_, _, _, _, _, _, _, _, _, _, _, _, _, _, _, rfl, _⟩ := h; rfl) | (obtain ⟨_, _, _, _, _, _, _, _, _, _, _, _, _, _, _, _, rfl, _⟩ := h; rfl) | (obtain ⟨_, _, _, _, _, _, _, _, _, _, _, _, _, _, _, _, _, rfl, _⟩ := h; rfl)) (fun cdv A outer s H vs Q E hr h => ?_)
  · have hu := hu_of hr
    obtain ⟨s, l, ws, ps, rfl, sc, hl, P, hz, q⟩ := h
    have hwl := P.len
    refine ⟨_, PSs.nox (pss_cons (ps_par (i := 2) (j := 3) rfl sc__law_mixed.nd rfl rfl (by decide) rfl rfl (pa_cons (pe_callTy (T := "list") Kr.c_list rfl n_list (by decide +kernel) (pa_cons (pv 1) pa_nil)) (pa_cons (pe_lst pa_nil) pa_nil)) (by rfl)) (pss_cons (ps_while PassesOwn.never (pt_cmpR (op_neD hr.units) (pv 2) (pe_lst pa_nil) (nomark _)) (pss_one (ps_expr (pe_bm PySem.F.plainAttrs_list PySem.F.slot_list_append PySem.F.type_list_append mt_append (pv 3) (pa_cons (pe_bm PySem.F.plainAttrs_list PySem.F.slot_list_pop PySem.F.type_list_pop mt_popAt (pv 2) (pa_cons (Kr.pe_cl h__law_next (hr.mono (by decide)) (pa_cons (pv 0) (pa_cons (pe_callB (id := "len") Kr.c_len rfl n_len (by decide +kernel) (pa_cons (pv 2) pa_nil)) pa_nil))) pa_nil)) pa_nil))))) (pss_one (ps_ret (pv 3))))), ?_⟩
    rw [st__law_mixed]
    walk_at "ss"
    refine r_newS fun a H1 na s1 e1 => ?_
    walk_at "ss"
    refine r_newS fun b H2 nb s2 e2 => ?_
    have s12 := s1.trans s2
    have nb0 : H b = none := s1.free nb
    have sc2 := sc.same s12
    have nas : a ≠ s := by
      obtain ⟨d, ds, j, h1, -⟩ := sc.ex
      exact (ne_of_none h1 na).symm
    have nbs : b ≠ s := by
      obtain ⟨d, ds, j, h1, -⟩ := sc.ex
      exact (ne_of_none h1 nb0).symm
    have nab : a ≠ b := ne_of_none e1 nb
    walk_at "ss"
    refine r_while (fun m σ H' => ∃ (us vs : List V) (lp fp : List Pl), σ = [some (.ref s), some (.ref l), some (.ref a), some (.ref b)] ∧ m = lp.length ∧ Sc H' s ∧ (∀ c o, c ≠ s → H c = some o → H' c = some o) ∧ H' a = some (.lst us) ∧ H' b = some (.lst vs) ∧ PlL H' us lp ∧ PlL H' vs fp ∧ (fp ++ lp).Perm ps) _
      ⟨ws, [], ps, [], rfl, rfl, sc2, fun c o _ e => s12 _ _ e, s2 _ _ e1, e2, P.same s12, PlL.nil, by simp⟩ ?_
    rintro m σ H3 ⟨us, vs, lp, fp, rfl, rfl, sc3, k3, a3, b3, PL, PF, pm⟩
    have hpl := pm.length_eq
    rw [List.length_append] at hpl
    walk_at "ss"
    refine r_newS fun t H4 nt s4 e4 => ?_
    refine r_nePls (s4 _ _ a3) (PL.same s4) e4 PlL.nil ?_
    by_cases z : lp = []
    · rw [decide_eq_true z]
      refine r_bl ?_
      refine r_whF ?_
      walk_at "ss"
      exact q b vs fp H4 ⟨sc3.same s4, fun c o n e => s4 _ _ (k3 c o n e)⟩ nb0 (s4 _ _ b3) (PF.same s4) (by rw [z, List.append_nil] at pm; exact pm)
    · rw [decide_eq_false z]
      refine r_bl ?_
      refine r_whT ?_
      have hpos : 0 < lp.length := List.length_pos_iff.mpr z
      have a4 := s4 _ _ a3
      have b4 := s4 _ _ b3
      have sc4 := sc3.same s4
      walk_at "ss"
      rw [PL.len]
      refine ⟨s, lp.length, rfl, sc4, hpos, by omega, fun k H5 hk x5 => ?_⟩
      have a5 := x5.old _ _ nas a4
      have b5 := x5.old _ _ nbs b4
      have PL5 := (PL.same s4).sx sc4 x5
      have PF5 := (PF.same s4).sx sc4 x5
      obtain ⟨y, y1, y2⟩ := PL5.get hk
      have lus := PL.len
      walk_at "ss"
      refine ⟨a, us, k, k, .ref y, rfl, rfl, a5, by omega, by omega, ?_, y1, ?_⟩
      · exact seqIndex_of (by omega) (by rw [lus]; exact_mod_cast hk)
      have b6 : upd H5 a (.lst (us.eraseIdx k)) b = some (.lst vs) := by rw [upd_ne nab.symm]; exact b5
      walk_at "ss"
      refine r_append b6 (by rw [PF.len]; omega) ?_
      walk_at "ss"
      have tp : ∀ c xs, H5 c = some (.tup xs) → upd (upd H5 a (.lst (us.eraseIdx k))) b (.lst (vs ++ [.ref y])) c = some (.tup xs) := fun c xs e => by
        rw [upd_ne (ne_of e b5 (by intro z; cases z)), upd_ne (ne_of e a5 (by intro z; cases z))]
        exact e
      refine ⟨_, ?_, us.eraseIdx k, vs ++ [.ref y], lp.eraseIdx k, fp ++ [lp[k]], rfl, rfl, ?_, fun c o n e => ?_, ?_, upd_same, ?_, ?_, ?_⟩
      · rw [List.length_eraseIdx_of_lt hk]
        omega
      · obtain ⟨d, ds, j, h1, h2, h3⟩ := x5.sc.ex
        have nd : ∀ l ws, H5 l = some (.lst ws) → (∀ v ∈ ws, ∃ t, v = V.ref t) → d ≠ l := fun l ws e r z => by
          rw [z, e] at h2
          have e2 := HO.lst.inj (Option.some.inj h2)
          cases ds with
          | nil => exact absurd h3.1 (by simp)
          | cons x ds =>
            obtain ⟨t, h⟩ := r (V.int x) (by rw [e2]; simp)
            cases h
        have nda : d ≠ a ∧ d ≠ b := ⟨nd a _ a5 PL5.rf, nd b _ b5 PF5.rf⟩
        exact ⟨d, ds, j, by rw [upd_ne nbs.symm, upd_ne nas.symm]; exact h1, by rw [upd_ne nda.2, upd_ne nda.1]; exact h2, h3⟩
      · rw [upd_ne (ne_of_none e nb0), upd_ne (ne_of_none e na)]
        exact x5.old _ _ n (s4 _ _ (k3 c o n e))
      · rw [upd_ne nab]
        exact upd_same
      · have := ((PL5.take k).app (PL5.drop (k + 1))).keep (x := a) tp
        rw [← List.eraseIdx_eq_take_drop_succ, ← List.eraseIdx_eq_take_drop_succ] at this
        exact this
      · exact (PF5.snoc y2).keep (x := a) tp
      · rw [List.append_assoc]
        refine List.Perm.trans (List.Perm.append_left fp ?_) pm
        rw [List.eraseIdx_eq_take_drop_succ]
        have e := List.perm_middle (a := lp[k]) (l₁ := lp.take k) (l₂ := lp.drop (k + 1))
        rw [List.getElem_cons_drop, List.take_append_drop] at e
        exact e.symm
theorem ok__law_drawn {P : Program} {w : World} {K : PySem.W.Frag} {mg : Str → Option Value} {base : Heap} {f : Addr} {fd : FuncData} (F : FunD K "_law_drawn" "_law_drawn" (defArgs s__law_drawn) (defBody s__law_drawn) (defScope s__law_drawn) [] [] f fd) (h__law_mixed : Kr.FnH P w K mg base CX0 2 "_law_mixed" ["source", "some"] (sp__law_mixed K)) (h__law_next : Kr.FnH P w K mg base CX0 1 "_law_next" ["source", "many"] (sp__law_next K)) (n_len : mg "len" = none) (n_range : mg "range" = none) : FnOk P w K mg base CX0 3 f fd ["source", "ahead"] (sp__law_drawn K) := by
  refine F.ok sc__law_drawn (fun vs H Q E h => by first | (obtain ⟨rfl, _⟩ := h; rfl) | (obtain ⟨_, rfl, _⟩ := h; rfl) | (obtain ⟨_, _, rfl, _⟩ := h; rfl) | (obtain ⟨_, _, _, rfl, _⟩ := h; rfl) | (obtain ⟨_, _, _, _, rfl, _⟩ := h; rfl) | (obtain ⟨_, _, _, _, _, rfl, _⟩ := h; rfl) | (obtain ⟨_, _, _, _, _, _, rfl, _⟩ := h; rfl) | (obtain ⟨_, _, _, _, _, _, _, rfl, _⟩ := h; rfl) | (obtain ⟨_, _, _, _, _, _, _, _, rfl, _⟩ := h; rfl) | (obtain ⟨_, _, _, _, _, _, _, _, _, rfl, _⟩ := h; rfl) | (obtain ⟨_, _, _, _, _, _, _, _, _, _, rfl, _⟩ := h; rfl) | (obtain ⟨_, _, _, _, _, _, _, _, _, _, _, rfl, _⟩ := h; rfl) | (obtain ⟨_, _, _, _, _, _, _, _, _, _, _, _, rfl, _⟩ := h; rfl) | (obtain ⟨_, _, _, _, _, _, _, _, _, _, _, _, _, rfl, _⟩ := h; rfl) | (obtain ⟨_, _, _, _, _, _, _, _, _, _, _, _, _, _, rfl, _⟩ := h; rfl) | (obtain ⟨_, _, _, _, _, _, _, _, _, _, _, _, _, _, _, rfl, _⟩ := h; rfl) | (obtain ⟨_, _, _, _, _, _, _, _, _, _, _, _, _, _, _, _, rfl, _⟩ := h; rfl) | (obtain ⟨_, _, _, _, _, _, _, _, _, _, _, _, _, _, _, _, _, rfl, _⟩ := h; rfl)) (fun cdv A outer s H vs Q E hr h => ?_)
  · have hu := hu_of hr
    obtain ⟨s, a, rfl, sc, ha, q⟩ := h
    refine ⟨_, PSs.nox (pss_cons (ps_set (i := 2) sc__law_drawn.nd rfl (.inl rfl) (Kr.pe_cl h__law_next (hr.mono (by decide)) (pa_cons (pv 0) (pa_cons pe_int pa_nil)))) (pss_cons (ps_set (i := 3) sc__law_drawn.nd rfl (.inl rfl) (Kr.pe_cl h__law_mixed (hr.mono (by decide)) (pa_cons (pv 0) (pa_cons (pe_op Kr.op_catS (pe_lc (own := [("k", 5)]) rfl sc__law_drawn.nd (pi_range1 rfl n_range (pa_cons (pv 1) pa_nil)) (blkOk_by (own := [("k", 5)]) (N := N__law_drawn) (sc := defScope s__law_drawn) (by decide +kernel)) (fun _ _ _ _ _ => (pg_name (i := 5) sc__law_drawn.nd rfl (.inl rfl))) (fun _ _ _ _ _ => pts_nil) (fun _ _ _ _ _ => (pe_tup (pa_cons pe_str (pa_cons (pv 5) pa_nil))))) (pe_lc (own := [("k", 5)]) rfl sc__law_drawn.nd (pi_range1 rfl n_range (pa_cons (pv 2) pa_nil)) (blkOk_by (own := [("k", 5)]) (N := N__law_drawn) (sc := defScope s__law_drawn) (by decide +kernel)) (fun _ _ _ _ _ => (pg_name (i := 5) sc__law_drawn.nd rfl (.inl rfl))) (fun _ _ _ _ _ => pts_nil) (fun _ _ _ _ _ => (pe_tup (pa_cons pe_str (pa_cons (pv 5) pa_nil)))))) pa_nil)))) (pss_cons (ps_set (i := 4) sc__law_drawn.nd rfl (.inl rfl) (Kr.pe_cl h__law_next (hr.mono (by decide)) (pa_cons (pv 0) (pa_cons (pe_op op_add (pe_callB (id := "len") Kr.c_len rfl n_len (by decide +kernel) (pa_cons (pv 3) pa_nil)) pe_int) pa_nil)))) (pss_one (ps_ret (pe_tup (pa_cons (pe_slice sl_list (pv 3) po_none (po_some (pv 4))) (pa_cons (pe_slice sl_list (pv 3) (po_some (pv 4)) po_none) (pa_cons (pv 2) pa_nil))))))))), ?_⟩
    rw [st__law_drawn]
    walk_at "ss"
    refine ⟨s, 7, rfl, sc, by decide, by decide, fun n H1 hn x1 => ?_⟩
    walk_at "ss"
    intro D hD
    rw [show ((a : Int)).toNat = a by omega]
    refine lc_rangeS [some (.ref s), some (.int a), some (.int n), none, none, none] rfl (fun i H5 => Same H1 H5 ∧ ∃ vs, H5 D = some (.lst vs) ∧ PlL H5 vs ((List.range i).map Pl.use)) ⟨same_new hD, [], upd_same, PlL.nil⟩ ?_ ?_
    · rintro i H5 hi ⟨s5, vs, e5, P5⟩
      walk_at "ss"
      refine ⟨rfl, ?_⟩
      walk_at "ss"
      refine r_newS fun w H6 hw s6 e6 => ?_
      have e6' : H6 w = some (plO (Pl.use i)) := by
        rw [e6]
        show some (HO.tup [V.str "use", V.int (0 + (i : Int))]) = _
        rw [Int.zero_add]
        rfl
      have e56 := s6 _ _ e5
      refine ⟨vs, e56, by rw [P5.len]; simp; exact szl (by omega), fun b o e => ?_, _, upd_same, ?_⟩
      · rw [upd_ne (ne_of_none e hD)]
        exact s6 _ _ (s5 b o e)
      · rw [List.range_succ, List.map_append]
        refine ((P5.same s6).snoc e6').keep (x := D) fun b xs h => ?_
        rw [upd_ne (ne_of h e56 (by intro z; cases z))]
        exact h
    rintro H2 ⟨s2, us, e2, P2⟩
    walk_at "ss"
    intro D2 hD2
    rw [show ((n : Int)).toNat = n by omega]
    refine lc_rangeS [some (.ref s), some (.int a), some (.int n), none, none, none] rfl (fun i H5 => Same H2 H5 ∧ ∃ vs, H5 D2 = some (.lst vs) ∧ PlL H5 vs ((List.range i).map Pl.lst)) ⟨same_new hD2, [], upd_same, PlL.nil⟩ ?_ ?_
    · rintro i H5 hi ⟨s5, vs, e5, P5⟩
      walk_at "ss"
      refine ⟨rfl, ?_⟩
      walk_at "ss"
      refine r_newS fun w H6 hw s6 e6 => ?_
      have e6' : H6 w = some (plO (Pl.lst i)) := by
        rw [e6]
        show some (HO.tup [V.str "list", V.int (0 + (i : Int))]) = _
        rw [Int.zero_add]
        rfl
      have e56 := s6 _ _ e5
      refine ⟨vs, e56, by rw [P5.len]; simp; exact szl (by omega), fun b o e => ?_, _, upd_same, ?_⟩
      · rw [upd_ne (ne_of_none e hD2)]
        exact s6 _ _ (s5 b o e)
      · rw [List.range_succ, List.map_append]
        refine ((P5.same s6).snoc e6').keep (x := D2) fun b xs h => ?_
        rw [upd_ne (ne_of h e56 (by intro z; cases z))]
        exact h
    rintro H3 ⟨s3, ls, e3, P3⟩
    have lu := P2.len
    have ll := P3.len
    rw [List.length_map, List.length_range] at lu ll
    refine r_catS (SqL.of (s3 _ _ e2)) (SqL.of e3) (by omega) ?_
    refine r_newS fun l H4 nl s4 e4 => ?_
    have x4 : Sx s H H4 := x1.same (s2.trans (s3.trans s4))
    walk_at "ss"
    refine ⟨s, l, us ++ ls, Tm.base a n, rfl, x4.sc, e4, (P2.same (s3.trans s4)).app (P3.same s4), by rw [base_len]; omega, fun r ms qs H5 x5 nr hr PQ pm => ?_⟩
    have lq := PQ.len
    have pl := pm.length_eq
    rw [base_len] at pl
    walk_at "ss"
    rw [lq, show ((qs.length : Int) + 1) = ((qs.length + 1 : Nat) : Int) by omega]
    refine ⟨s, qs.length + 1, rfl, x5.sc, by omega, by omega, fun m H6 hm x6 => ?_⟩
    have hr6 : H6 r = some (.lst ms) := x6.lst x5.sc hr PQ.rf
    have PQ6 := PQ.sx x5.sc x6
    walk_at "ss"
    rw [cut_to (by omega)]
    refine r_newS fun l1 H7 n7 s7 e7 => ?_
    have hr7 := s7 _ _ hr6
    walk_at "ss"
    rw [cut_from (by omega)]
    refine r_newS fun l2 H8 n8 s8 e8 => ?_
    walk_at "ss"
    refine r_newS fun t H9 n9 s9 e9 => ?_
    have s79 := s7.trans (s8.trans s9)
    exact q t l1 l2 (ms.take m) (ms.drop m) ⟨qs.take m, qs.drop m, n, a⟩ H9 ((x4.trans (x5.trans x6)).same s79) e9 (s9 _ _ (s8 _ _ e7)) ((PQ6.same s79).take m) (s9 _ _ e8) ((PQ6.same s79).drop m) ⟨by rw [List.take_append_drop]; exact pm⟩ rfl (by show n ≤ 6; omega)

theorem lt__law_part {P : Program} {w : World} {K : PySem.W.Frag} {mg : Str → Option Value} {base : Heap} {f : Addr} {fd : FuncData} (F : FunD K "_law_part" "_law_part" (defArgs s__law_part) (defBody s__law_part) (defScope s__law_part) [] [] f fd) (hm : mg "_law_part" = some (.ref f)) (hb : L2.Binds K fd ["ask"] []) (k_InvalidArgument : mg "InvalidArgument" = some (.ref (He.ga K "InvalidArgument"))) (x_em_InvalidArgument : PySem.W.exmOne K (.ref (He.ga K "InvalidArgument")) (.ref (He.ga K "InvalidArgument")) = some true) (x_no_InvalidArgument : PySem.W.findIn K (.ref (He.ga K "InvalidArgument")) "part" = some none) (x_xf_InvalidArgument : XfC K (He.ga K "InvalidArgument")) : KrL.LamH P w K mg base "_law_part" (tt__law_part K) := by
  refine ⟨_, f, fd, _, _, _, N__law_part, hm, F, hb, sc__law_part, rfl, by first | exact .inl rfl | exact .inr (.inl rfl), by decide, by decide, ?_⟩
  rintro X cdv rfl rfl rfl rfl rfl q f co s0 H Q tl act hco h
  refine ⟨_, (pss_cons (ps_try_as (i := 1) rfl rfl sc__law_part.nd rfl rfl ⟨rfl, by decide, .inl k_InvalidArgument⟩ LamX.takes0 (fun W pn xe tk _ => (pss_one (ps_expr (act W pn xe _ _ tk)))) (fun a oe cls d pn hz hf => (pss_one (ps_ret (pe_xf x_xf_InvalidArgument x_no_InvalidArgument hz hf (pv 1)))))) (pss_one (ps_ret pe_non))), ?_⟩
  rw [st__law_part]
  walk_at "ss"
  refine ⟨rfl, hco, _, fun cls d H' hz => ?_, h⟩
  obtain ⟨dd, v, rfl, rfl, e1, q1⟩ := hz
  refine ⟨true, x_em_InvalidArgument, fun _ a ha => ?_, fun z => nomatch z⟩
  dsimp only [List.set]
  walk_at "ss"
  refine KrE.r_tXf ?_
  walk_at "ss"
  refine KrE.r_xf e1 rfl ?_
  walk_at "ss"
  exact q1
theorem ok__law_odd_places {P : Program} {w : World} {K : PySem.W.Frag} {mg : Str → Option Value} {base : Heap} {f : Addr} {fd : FuncData} (F : FunD K "_law_odd_places" "_law_odd_places" (defArgs s__law_odd_places) (defBody s__law_odd_places) (defScope s__law_odd_places) [] [] f fd) (h__law_next : Kr.FnH P w K mg base CX0 1 "_law_next" ["source", "many"] (sp__law_next K)) (n_len : mg "len" = none) (n_tuple : mg "tuple" = none) : FnOk P w K mg base CX0 2 f fd ["source", "row"] (sp__law_odd_places K) := by
  refine F.ok sc__law_odd_places (fun vs H Q E h => by first | (obtain ⟨rfl, _⟩ := h; rfl) | (obtain ⟨_, rfl, _⟩ := h; rfl) | (obtain ⟨_, _, rfl, _⟩ := h; rfl) | (obtain ⟨_, _, _, rfl, _⟩ := h; rfl) | (obtain ⟨_, _, _, _, rfl, _⟩ := h; rfl) | (obtain ⟨_, _, _, _, _, rfl, _⟩ := h; rfl) | (obtain ⟨_, _, _, _, _, _, rfl, _⟩ := h; rfl) | (obtain ⟨_, _, _, _, _, _, _, rfl, _⟩ := h; rfl) | (obtain ⟨_, _, _, _, _, _, _, _, rfl, _⟩ := h; rfl) | (obtain ⟨_, _, _, _, _, _, _, _, _, rfl, _⟩ := h; rfl) | (obtain ⟨_, _, _, _, _, _, _, _, _, _, rfl, _⟩ := h; rfl) | (obtain ⟨_, _, _, _, _, _, _, _, _, _, _, rfl, _⟩ := h; rfl) | (obtain ⟨_, _, _, _, _, _, _, _, _, _, _, _, rfl, _⟩ := h; rfl) | (obtain ⟨_, _, _, _, _, _, _, _, _, _, _, _, _, rfl, _⟩ := h; rfl) | (obtain ⟨_, _, _, _, _, _, _, _, _, _, _, _, _, _, rfl, _⟩ := h; rfl) | (obtain ⟨_, _, _, _, _, _, _, _, _, _, _, _, _, _, _, rfl, _⟩ := h; rfl) | (obtain ⟨_, _, _, _, _, _, _, _, _, _, _, _, _, _, _, _, rfl, _⟩ := h; rfl) | (obtain ⟨_, _, _, _, _, _, _, _, _, _, _, _, _, _, _, _, _, rfl, _⟩ := h; rfl)) (fun cdv A outer s H vs Q E hr h => ?_)
  · have hu := hu_of hr
    obtain ⟨s, l, ws, ps, rfl, sc, hl, P, n15, bnd, q⟩ := h
    have hwl := P.len
    refine ⟨_, PSs.nox (pss_cons (ps_set (i := 2) sc__law_odd_places.nd rfl (.inl rfl) (pe_lst (pa_cons pe_non (pa_cons pe_int (pa_cons pe_str (pa_cons (pe_tup pa_nil) (pa_cons (pe_tup (pa_cons pe_str pa_nil)) (pa_cons (pe_tup (pa_cons pe_str (pa_cons pe_int (pa_cons pe_int pa_nil)))) (pa_cons (pe_tup (pa_cons pe_str (pa_cons pe_int pa_nil))) (pa_cons (pe_tup (pa_cons pe_int (pa_cons pe_str pa_nil))) (pa_cons (pe_lst (pa_cons pe_str (pa_cons pe_int pa_nil))) (pa_cons (pe_tup (pa_cons pe_str (pa_cons pe_non pa_nil))) (pa_cons pe_dnewK pa_nil))))))))))))) (pss_cons (ps_set (i := 2) sc__law_odd_places.nd rfl (.inl rfl) (pe_op Kr.op_catS (pv 2) (pe_lst (pa_cons (pe_tup (pa_cons pe_str (pa_cons (pe_un un_neg pe_int) pa_nil))) (pa_cons (pe_tup (pa_cons pe_str (pa_cons (pe_un un_neg pe_int) pa_nil))) (pa_cons (pe_tup (pa_cons pe_str (pa_cons pe_bl pa_nil))) (pa_cons (pe_tup (pa_cons pe_str (pa_cons pe_bl pa_nil))) (pa_cons (pe_tup (pa_cons pe_str (pa_cons pe_str pa_nil))) (pa_cons (pe_tup (pa_cons pe_non (pa_cons pe_int pa_nil))) (pa_cons (pe_tup (pa_cons (pe_tup (pa_cons pe_str (pa_cons pe_int pa_nil))) (pa_cons pe_int pa_nil))) pa_nil)))))))))) (pss_cons (ps_set (i := 3) sc__law_odd_places.nd rfl (.inr rfl) (Kr.pe_cl h__law_next (hr.mono (by decide)) (pa_cons (pv 0) (pa_cons (pe_op op_add (pe_callB (id := "len") Kr.c_len rfl n_len (by decide +kernel) (pa_cons (pv 1) pa_nil)) pe_int) pa_nil)))) (pss_cons (ps_set (i := 4) sc__law_odd_places.nd rfl (.inl rfl) (pe_op Kr.op_catS (pe_lst (pa_cons (pe_callTy (T := "tuple") Kr.c_tuple rfl n_tuple (by decide +kernel) (pa_cons (pv 1) pa_nil)) (pa_cons pe_non (pa_cons pe_int (pa_cons pe_str (pa_cons pe_dnewK (pa_cons pe_bl pa_nil))))))) (pe_lc (own := [("one", 5)]) rfl sc__law_odd_places.nd (pi_list (pv 2)) (blkOk_by (own := [("one", 5)]) (N := N__law_odd_places) (sc := defScope s__law_odd_places) (by decide +kernel)) (fun _ _ _ _ _ => (pg_name (i := 5) sc__law_odd_places.nd rfl (.inl rfl))) (fun _ _ _ _ _ => pts_nil) (fun _ _ _ _ _ => (pe_op (KrL.op_catSK (K := K) rfl) (pe_op (KrL.op_catSK (K := K) rfl) (pe_slice (KrL.sl_listK (K := K) rfl) (pv 1) po_none (po_some (pv 3))) (pe_lst (pa_cons (pv 5) pa_nil))) (pe_slice (KrL.sl_listK (K := K) rfl) (pv 1) (po_some (pv 3)) po_none)))))) (pss_one (ps_ret (pe_ix ix_list (pv 4) (Kr.pe_cl h__law_next (hr.mono (by decide)) (pa_cons (pv 0) (pa_cons (pe_callB (id := "len") Kr.c_len rfl n_len (by decide +kernel) (pa_cons (pv 4) pa_nil)) pa_nil))) (fun _ _ => rfl)))))))), ?_⟩
    rw [st__law_odd_places]
    walk_at "ss"
    refine r_newS fun r1 G1 nr1 s1 er1 => ?_
    walk_at "ss"
    refine r_newS fun r2 G2 nr2 s2 er2 => ?_
    walk_at "ss"
    refine r_newS fun r3 G3 nr3 s3 er3 => ?_
    walk_at "ss"
    refine r_newS fun r4 G4 nr4 s4 er4 => ?_
    walk_at "ss"
    refine r_newS fun r5 G5 nr5 s5 er5 => ?_
    walk_at "ss"
    refine r_newS fun r6 G6 nr6 s6 er6 => ?_
    walk_at "ss"
    refine r_newS fun r7 G7 nr7 s7 er7 => ?_
    walk_at "ss"
    refine r_newS fun r8 G8 nr8 s8 er8 => ?_
    walk_at "ss"
    refine r_newS fun L1 G9 nL1 s9 eL1 => ?_
    walk_at "ss"
    refine r_newS fun r9 G10 nr9 s10 er9 => ?_
    walk_at "ss"
    refine r_newS fun r10 G11 nr10 s11 er10 => ?_
    walk_at "ss"
    refine r_newS fun r11 G12 nr11 s12 er11 => ?_
    walk_at "ss"
    refine r_newS fun r12 G13 nr12 s13 er12 => ?_
    walk_at "ss"
    refine r_newS fun r13 G14 nr13 s14 er13 => ?_
    walk_at "ss"
    refine r_newS fun r14 G15 nr14 s15 er14 => ?_
    walk_at "ss"
    refine r_newS fun r15 G16 nr15 s16 er15 => ?_
    walk_at "ss"
    refine r_newS fun r16 G17 nr16 s17 er16 => ?_
    walk_at "ss"
    refine r_newS fun L2 G18 nL2 s18 eL2 => ?_
    refine r_catS (SqL.of (s18 _ _ (s17 _ _ (s16 _ _ (s15 _ _ (s14 _ _ (s13 _ _ (s12 _ _ (s11 _ _ (s10 _ _ (eL1))))))))))) (SqL.of eL2) (by simp) ?_
    refine r_newS fun L G19 nL s19 eL => ?_
    have u19 : Same G19 G19 := fun _ _ e => e
    have u18 : Same G18 G19 := s19.trans u19
    have u17 : Same G17 G19 := s18.trans u18
    have u16 : Same G16 G19 := s17.trans u17
    have u15 : Same G15 G19 := s16.trans u16
    have u14 : Same G14 G19 := s15.trans u15
    have u13 : Same G13 G19 := s14.trans u14
    have u12 : Same G12 G19 := s13.trans u13
    have u11 : Same G11 G19 := s12.trans u12
    have u10 : Same G10 G19 := s11.trans u11
    have u9 : Same G9 G19 := s10.trans u10
    have u8 : Same G8 G19 := s9.trans u9
    have u7 : Same G7 G19 := s8.trans u8
    have u6 : Same G6 G19 := s7.trans u7
    have u5 : Same G5 G19 := s6.trans u6
    have u4 : Same G4 G19 := s5.trans u5
    have u3 : Same G3 G19 := s4.trans u4
    have u2 : Same G2 G19 := s3.trans u3
    have u1 : Same G1 G19 := s2.trans u2
    have u0 : Same H G19 := s1.trans u1
    have od1 : OddF G19 r1 r2 r3 r4 r5 r6 r7 r8 r9 r10 r11 r12 r13 r14 r15 r16 := ⟨u1 _ _ er1, u2 _ _ er2, u3 _ _ er3, u4 _ _ er4, u5 _ _ er5, u6 _ _ er6, u7 _ _ er7, u8 _ _ er8, u10 _ _ er9, u11 _ _ er10, u12 _ _ er11, u13 _ _ er12, u14 _ _ er13, u15 _ _ er14, u16 _ _ er15, u17 _ _ er16⟩
    have eO1 : G19 L = some (.lst (OddL r1 r2 r3 r4 r5 r6 r7 r8 r9 r10 r11 r12 r13 r14 r15 r16)) := eL
    clear s1 s2 s3 s4 s5 s6 s7 s8 s9 s10 s11 s12 s13 s14 s15 s16 s17 s18 s19 u1 u2 u3 u4 u5 u6 u7 u8 u9 u10 u11 u12 u13 u14 u15 u16 u17 u18 u19 er1 er2 er3 er4 er5 er6 er7 er8 er9 er10 er11 er12 er13 er14 er15 er16 eL eL1 eL2
    have sc1 := sc.same u0
    have hl1 := u0 _ _ hl
    have P1 := P.same u0
    walk_at "ss"
    rw [show ((ws.length : Int) + 1) = ((ps.length + 1 : Nat) : Int) by omega]
    refine ⟨s, ps.length + 1, rfl, sc1, by omega, by omega, fun at' H2 hat x2 => ?_⟩
    have hl2 := x2.lst sc1 hl1 P.rf
    have P2 := P1.sx sc1 x2
    have bu2 : BuN s G19 H2 := BuN.of_sx x2
    have od2 := od1.bu sc1 bu2
    have eO2 := x2.old _ _ (sc1.ne_ob eO1 (by intro d j z; cases z)) eO1
    have sc2 := x2.sc
    walk_at "ss"
    refine r_newS fun t3 H3 n3 s3 e3 => ?_
    walk_at "ss"
    refine r_newS fun t4 H4 n4 s4 e4 => ?_
    walk_at "ss"
    refine r_newS fun t5 H5 n5 s5 e5 => ?_
    have s25 := s3.trans (s4.trans s5)
    have hl5 := s25 _ _ hl2
    have P5 := P2.same s25
    have eO5 := s25 _ _ eO2
    have od5 := od2.xn (ExtN.of s25)
    have sc5 := sc2.same s25
    walk_at "ss"
    intro D hD
    have lOd : (OddL r1 r2 r3 r4 r5 r6 r7 r8 r9 r10 r11 r12 r13 r14 r15 r16).length = 18 := rfl
    refine lc_listS (xs := OddL r1 r2 r3 r4 r5 r6 r7 r8 r9 r10 r11 r12 r13 r14 r15 r16) [some (.ref s), some (.ref l), some (.ref L), some (.int at'), none, none] rfl (fun i H6 => Same H5 H6 ∧ ∃ vs, H6 D = some (.lst vs) ∧ vs.length = i ∧ ∀ (j : Nat) (w : V), vs[j]? = some w → ∃ (l' : Addr) (o : V), w = .ref l' ∧ H6 l' = some (.lst (ws.take at' ++ [o] ++ ws.drop at')) ∧ (OddL r1 r2 r3 r4 r5 r6 r7 r8 r9 r10 r11 r12 r13 r14 r15 r16)[j]? = some o ∧ l' ≠ D ∧ l' ≠ s)
      ⟨same_new hD, [], upd_same, rfl, fun j w e => by simp at e⟩ (fun i H6 hi e => SqL.of (e.1 _ _ eO5)) ?_ ?_
    · rintro i x H6 hx ⟨s6, vs, e6, lv, hvs⟩
      have hi : i < 18 := (List.getElem?_eq_some_iff.mp hx).1
      have hl6 := s6 _ _ hl5
      walk_at "ss"
      refine ⟨rfl, ?_⟩
      walk_at "ss"
      rw [cut_to (by omega)]
      refine r_newS fun a1 H7 m1 t7 f7 => ?_
      walk_at "ss"
      refine r_newS fun a2 H8 m2 t8 f8 => ?_
      refine r_catS (SqL.of (t8 _ _ f7)) (SqL.of f8) (by simp; omega) ?_
      refine r_newS fun a3 H9 m3 t9 f9 => ?_
      have t69 := t7.trans (t8.trans t9)
      have hl9 := t69 _ _ hl6
      walk_at "ss"
      rw [cut_from (by omega)]
      refine r_newS fun a4 H10 m4 t10 f10 => ?_
      refine r_catS (SqL.of (t10 _ _ f9)) (SqL.of f10) (by simp; omega) ?_
      refine r_newS fun a5 H11 m5 t11 f11 => ?_
      have t611 := t69.trans (t10.trans t11)
      have e11 := t611 _ _ e6
      have n5D : a5 ≠ D := (ne_of_none ((t69.trans t10) _ _ e6) m5).symm
      have n5s : a5 ≠ s := (sc5.same (s6.trans (t69.trans t10))).ne_free m5
      refine ⟨vs, e11, szl (by omega), up_same s6 t611 hD, vs ++ [.ref a5], upd_same, by simp [lv], fun j w e => ?_⟩
      rcases Nat.lt_or_ge j vs.length with z | z
      · rw [List.getElem?_append_left z] at e
        obtain ⟨l', o, h1, h2, h3, h4, h5⟩ := hvs j w e
        exact ⟨l', o, h1, by rw [upd_ne h4]; exact t611 _ _ h2, h3, h4, h5⟩
      · rw [List.getElem?_append_right z] at e
        rcases Nat.eq_zero_or_pos (j - vs.length) with y | y
        · rw [y] at e
          cases e
          exact ⟨a5, x, rfl, by rw [upd_ne n5D]; exact f11, by rw [show j = i by omega]; exact hx, n5D, n5s⟩
        · rw [List.getElem?_eq_none (by simp only [List.length_singleton]; omega)] at e
          cases e
    rintro H6 ⟨s6, vs, e6, lv, hvs⟩
    rw [lOd] at lv
    refine r_catS (SqL.of (s6 _ _ e5)) (SqL.of e6) (by simp; omega) ?_
    refine r_newS fun lS H7 nS s7 e7 => ?_
    have hlen : ([V.ref t3, .non, .int 5, .str "[]", .ref t4, .bl true] ++ vs).length = 24 := by simp [lv]
    have sc7 := sc5.same (s6.trans s7)
    have nlS : lS ≠ s := (sc5.same s6).ne_free nS
    walk_at "ss"
    rw [hlen]
    refine ⟨s, 24, rfl, sc7, by decide, by decide, fun c H8 hc x8 => ?_⟩
    have s57 := s6.trans s7
    have f3 := s57 _ _ (s5 _ _ (s4 _ _ e3))
    have f4 := s57 _ _ (s5 _ _ e4)
    have P7 := P5.same s57
    have od7 := od5.xn (ExtN.of s57)
    have odd : ∀ (i : Nat) (v : V), ([V.ref t3, .non, .int 5, .str "[]", .ref t4, .bl true] ++ vs)[i]? = some v → OddP K s H7 v := fun i v hv => by
      rcases i with _ | _ | _ | _ | _ | _ | i
      · cases hv
        refine ⟨fun G bu => .inl ⟨rfl, "tuple", .base (.tup (bu _ _ (sc7.ne_ob f3 (by intro d j z; cases z)) f3 (fun _ z => by cases z))), by decide +kernel⟩, _, fun G bu => (Tk.tup (bu _ _ (sc7.ne_ob f3 (by intro d j z; cases z)) f3 (fun _ z => by cases z)) (tk_pls (P7.bn sc7 bu) bnd)).le (by omega) ?_⟩
        rw [hwl]
        have : ps.length * (4000 + 2) ≤ 15 * (4000 + 2) := Nat.mul_le_mul_right _ n15
        omega
      · cases hv
        exact ⟨fun G bu => .inl ⟨rfl, "NoneType", .base .non, by decide +kernel⟩, _, fun G bu => ⟨.non, rfl, by decide, by decide +kernel⟩⟩
      · cases hv
        exact ⟨fun G bu => .inl ⟨rfl, "int", .base (.int _), by decide +kernel⟩, _, fun G bu => (tk_int (by decide)).le (by omega) (by omega)⟩
      · cases hv
        exact ⟨fun G bu => .inl ⟨rfl, "str", .base (.str _), by decide +kernel⟩, .str "[]", fun G bu => ⟨.str _, rfl, by simp [PyData.depth], by decide +kernel⟩⟩
      · cases hv
        exact ⟨fun G bu => .inl ⟨rfl, "dict", .base (.dK (bu _ _ (sc7.ne_ob f4 (by intro d j z; cases z)) f4 (fun _ z => by cases z))), by decide +kernel⟩, .dict [], fun G bu => ⟨.dct (bu _ _ (sc7.ne_ob f4 (by intro d j z; cases z)) f4 (fun _ z => by cases z)), rfl, by decide, by decide +kernel⟩⟩
      · cases hv
        exact ⟨fun G bu => .inl ⟨rfl, "bool", .base (.bl _), by decide +kernel⟩, .bool true, fun G bu => ⟨.bl _, rfl, by decide, by decide +kernel⟩⟩
      · obtain ⟨l', o, rfl, h2, h3, h4, h5⟩ := hvs i v hv
        have h7 := s7 _ _ h2
        obtain ⟨d, hd⟩ := OddF.tk (H := H) h3
        have PX := P7.take at'
        have PY := P7.drop at'
        refine ⟨fun G bu => ?_, .list ((ps.take at').map plD ++ [d] ++ (ps.drop at').map plD), fun G bu => ?_⟩
        · have g7 := bu _ _ h5 h7 (fun _ z => by cases z)
          exact psr_mid g7 (PX.bn sc7 bu) (PY.bn sc7 bu) (by rw [List.length_take, List.length_drop]; omega) fun G2 s2' => (od7.bu sc7 (bu.xn (ExtN.of s2'))).no h3
        · have g7 := bu _ _ h5 h7 (fun _ z => by cases z)
          refine (Tk.lst g7 (((tk_pls (PX.bn sc7 bu) (fun p hp => bnd p (List.mem_of_mem_take hp))).app (.cons (hd _ (od7.bu sc7 bu)) .nil)).app (tk_pls (PY.bn sc7 bu) (fun p hp => bnd p (List.mem_of_mem_drop hp))))).le (by omega) ?_
          have : (ws.take at' ++ [o] ++ ws.drop at').length ≤ 16 := by simp; omega
          have := Nat.mul_le_mul_right (4000 + 2) this
          omega
    have hc' : c < ([V.ref t3, .non, .int 5, .str "[]", .ref t4, .bl true] ++ vs).length := by rw [hlen]; exact hc
    refine r_ixL (SqL.of (x8.old _ _ nlS e7)) (at_of rfl (List.getElem?_eq_getElem hc')) ?_
    obtain ⟨o1, d, o2⟩ := odd c _ (List.getElem?_eq_getElem hc')
    have bu8 : BuN s H7 H8 := BuN.of_sx x8
    exact q _ H8 ((Sx.of sc u0).trans (x2.trans ((Sx.of sc2 (s25.trans s57)).trans x8))) ⟨fun G bu => o1 G (bu8.trans bu), d, fun G bu => o2 G (bu8.trans bu)⟩
theorem ok__law_not_once {P : Program} {w : World} {K : PySem.W.Frag} {mg : Str → Option Value} {base : Heap} {f : Addr} {fd : FuncData} (F : FunD K "_law_not_once" "_law_not_once" (defArgs s__law_not_once) (defBody s__law_not_once) (defScope s__law_not_once) [] [] f fd) (h__law_next : Kr.FnH P w K mg base CX0 1 "_law_next" ["source", "many"] (sp__law_next K)) (n_len : mg "len" = none) : FnOk P w K mg base CX0 2 f fd ["source", "parts", "ahead"] (sp__law_not_once K) := by
  refine F.ok sc__law_not_once (fun vs H Q E h => by first | (obtain ⟨rfl, _⟩ := h; rfl) | (obtain ⟨_, rfl, _⟩ := h; rfl) | (obtain ⟨_, _, rfl, _⟩ := h; rfl) | (obtain ⟨_, _, _, rfl, _⟩ := h; rfl) | (obtain ⟨_, _, _, _, rfl, _⟩ := h; rfl) | (obtain ⟨_, _, _, _, _, rfl, _⟩ := h; rfl) | (obtain ⟨_, _, _, _, _, _, rfl, _⟩ := h; rfl) | (obtain ⟨_, _, _, _, _, _, _, rfl, _⟩ := h; rfl) | (obtain ⟨_, _, _, _, _, _, _, _, rfl, _⟩ := h; rfl) | (obtain ⟨_, _, _, _, _, _, _, _, _, rfl, _⟩ := h; rfl) | (obtain ⟨_, _, _, _, _, _, _, _, _, _, rfl, _⟩ := h; rfl) | (obtain ⟨_, _, _, _, _, _, _, _, _, _, _, rfl, _⟩ := h; rfl) | (obtain ⟨_, _, _, _, _, _, _, _, _, _, _, _, rfl, _⟩ := h; rfl) | (obtain ⟨_, _, _, _, _, _, _, _, _, _, _, _, _, rfl, _⟩ := h; rfl) | (obtain ⟨_, _, _, _, _, _, _, _, _, _, _, _, _, _, rfl, _⟩ := h; rfl) | (obtain ⟨_, _, _, _, _, _, _, _, _, _, _, _, _, _, _, rfl, _⟩ := h; rfl) | (obtain ⟨_, _, _, _, _, _, _, _, _, _, _, _, _, _, _, _, rfl, _⟩ := h; rfl) | (obtain ⟨_, _, _, _, _, _, _, _, _, _, _, _, _, _, _, _, _, rfl, _⟩ := h; rfl)) (fun cdv A outer s H vs Q E hr h => ?_)
  · have hu := hu_of hr
    obtain ⟨s, t, pu, pf, vu, vf, T, rfl, sc, ht, hU, PU, hF, PF, pm, a6, n6, q⟩ := h
    have lu := PU.len
    have lf := PF.len
    have tl := pm.len
    have pp := pm.perm
    have z40 : T.u.length ≤ 40 ∧ T.f.length ≤ 40 := by omega
    refine ⟨_, PSs.nox (pss_cons (ps_asg (pv 1) (pg_tup rfl (pgs_cons (pg_name (i := 3) sc__law_not_once.nd rfl (.inl rfl)) (pgs_cons (pg_name (i := 4) sc__law_not_once.nd rfl (.inl rfl)) (pgs_cons (pg_name (i := 5) sc__law_not_once.nd rfl (.inr rfl)) pgs_nil))))) (pss_cons (ps_set (i := 6) sc__law_not_once.nd rfl (.inl rfl) (pe_lst (pa_cons (pe_tup (pa_cons (pv 3) (pa_cons (pv 4) (pa_cons (pe_op op_add (pv 5) pe_int) pa_nil)))) (pa_cons (pe_tup (pa_cons (pv 3) (pa_cons (pv 4) (pa_cons (pe_op op_add (pv 5) (pe_op op_pow pe_int pe_int)) pa_nil)))) (pa_cons (pe_tup (pa_cons (pe_op Kr.op_catS (pv 3) (pe_lst (pa_cons (pe_tup (pa_cons pe_str (pa_cons (pv 5) pa_nil))) pa_nil))) (pa_cons (pv 4) (pa_cons (pv 5) pa_nil)))) pa_nil))))) (pss_cons (ps_expr (pe_bm PySem.F.plainAttrs_list PySem.F.slot_list_append PySem.F.type_list_append mt_append (pv 6) (pa_cons (pe_tup (pa_cons (pv 3) (pa_cons (pe_op Kr.op_catS (pv 4) (pe_lst (pa_cons (pe_tup (pa_cons pe_str (pa_cons (pe_op op_add (pv 5) pe_int) pa_nil))) pa_nil))) (pa_cons (pe_op op_add (pv 5) pe_int) pa_nil)))) pa_nil))) (pss_cons (ps_expr (pe_bm PySem.F.plainAttrs_list PySem.F.slot_list_append PySem.F.type_list_append mt_append (pv 6) (pa_cons (pe_tup (pa_cons (pe_op Kr.op_catS (pv 3) (pe_lst (pa_cons (pe_tup (pa_cons pe_str (pa_cons (pe_op op_add (pv 2) pe_int) pa_nil))) pa_nil))) (pa_cons (pv 4) (pa_cons (pv 5) pa_nil)))) pa_nil))) (pss_cons (ps_expr (pe_bm PySem.F.plainAttrs_list PySem.F.slot_list_append PySem.F.type_list_append mt_append (pv 6) (pa_cons (pe_tup (pa_cons (pv 3) (pa_cons (pe_op Kr.op_catS (pv 4) (pe_lst (pa_cons (pe_tup (pa_cons pe_str (pa_cons (pe_op op_add (pe_op op_add (pv 2) pe_int) (Kr.pe_cl h__law_next (hr.mono (by decide)) (pa_cons (pv 0) (pa_cons pe_int pa_nil)))) pa_nil))) pa_nil))) (pa_cons (pv 5) pa_nil)))) pa_nil))) (pss_cons (ps_if (pt_cmpR op_gt (pv 5) pe_int (nomark _)) (pss_cons (ps_expr (pe_bm PySem.F.plainAttrs_list PySem.F.slot_list_append PySem.F.type_list_append mt_append (pv 6) (pa_cons (pe_tup (pa_cons (pv 3) (pa_cons (pv 4) (pa_cons (pe_op op_sub (pv 5) pe_int) pa_nil)))) pa_nil))) (pss_cons (ps_setLc (i := 7) (own := [("one", 8)]) rfl sc__law_not_once.nd rfl rfl (sw_true rfl rfl rfl (by decide +kernel)) (pi_list (pv 3)) (blkOk_by (own := [("one", 8)]) (N := N__law_not_once) (sc := defScope s__law_not_once) (by decide +kernel)) (fun _ _ _ _ _ => (pg_name (i := 8) sc__law_not_once.nd rfl (.inl rfl))) (fun _ _ _ _ _ => pts_nil) (fun _ _ _ _ _ => (pe_ifExp (pt_cmpR (KrL.op_eqDK (K := K) rfl hr.units) (pv 8) (pe_tup (pa_cons pe_str (pa_cons pe_int pa_nil))) (nomark _)) (pe_tup (pa_cons pe_str (pa_cons (pv 5) pa_nil))) (pv 8)))) (pss_one (ps_expr (pe_bm PySem.F.plainAttrs_list PySem.F.slot_list_append PySem.F.type_list_append mt_append (pv 6) (pa_cons (pe_tup (pa_cons (pv 7) (pa_cons (pe_lc (own := [("one", 8)]) rfl sc__law_not_once.nd (pi_list (pv 4)) (blkOk_by (own := [("one", 8)]) (N := N__law_not_once) (sc := defScope s__law_not_once) (by decide +kernel)) (fun _ _ _ _ _ => (pg_name (i := 8) sc__law_not_once.nd rfl (.inl rfl))) (fun _ _ _ _ _ => pts_nil) (fun _ _ _ _ _ => (pe_ifExp (pt_cmpR (KrL.op_eqDK (K := K) rfl hr.units) (pv 8) (pe_tup (pa_cons pe_str (pa_cons pe_int pa_nil))) (nomark _)) (pe_tup (pa_cons pe_str (pa_cons (pv 5) pa_nil))) (pv 8)))) (pa_cons (pv 5) pa_nil)))) pa_nil)))))) pss_nil) (pss_cons (ps_if (pt_cmpR (op_neD hr.units) (pe_op Kr.op_catS (pv 3) (pv 4)) (pe_lst pa_nil) (nomark _)) (pss_cons (ps_set (i := 8) sc__law_not_once.nd rfl (.inl rfl) (pe_ix ix_list (pe_op Kr.op_catS (pv 3) (pv 4)) (Kr.pe_cl h__law_next (hr.mono (by decide)) (pa_cons (pv 0) (pa_cons (pe_callB (id := "len") Kr.c_len rfl n_len (by decide +kernel) (pa_cons (pe_op Kr.op_catS (pv 3) (pv 4)) pa_nil)) pa_nil))) (fun _ _ => rfl))) (pss_one (ps_set (i := 6) sc__law_not_once.nd rfl (.inl rfl) (pe_op Kr.op_catS (pv 6) (pe_lst (pa_cons (pe_tup (pa_cons (pe_op Kr.op_catS (pv 3) (pe_lst (pa_cons (pv 8) pa_nil))) (pa_cons (pv 4) (pa_cons (pv 5) pa_nil)))) (pa_cons (pe_tup (pa_cons (pv 3) (pa_cons (pe_op Kr.op_catS (pe_lst (pa_cons (pv 8) pa_nil)) (pv 4)) (pa_cons (pv 5) pa_nil)))) (pa_cons (pe_tup (pa_cons (pv 3) (pa_cons (pe_op Kr.op_catS (pv 4) (pe_lst (pa_cons (pv 8) pa_nil))) (pa_cons (pe_op op_add (pv 5) pe_int) pa_nil)))) pa_nil)))))))) pss_nil) (pss_one (ps_ret (pe_ix ix_list (pv 6) (Kr.pe_cl h__law_next (hr.mono (by decide)) (pa_cons (pv 0) (pa_cons (pe_callB (id := "len") Kr.c_len rfl n_len (by decide +kernel) (pa_cons (pv 6) pa_nil)) pa_nil))) (fun _ _ => rfl))))))))))), ?_⟩
    rw [st__law_not_once]
    walk_at "ss"
    refine r_newS fun t1 H1 m1 s1 e1 => ?_
    walk_at "ss"
    refine r_newS fun t2 H2 m2 s2 e2 => ?_
    walk_at "ss"
    refine r_newS fun q3 H3 m3 s3 e3 => ?_
    walk_at "ss"
    refine r_newS fun g4 H4 m4 s4 e4 => ?_
    have s04 := s1.trans (s2.trans (s3.trans s4))
    refine r_catS (SqL.of (s04 _ _ hU)) (SqL.of e4) (by simp; omega) ?_
    refine r_newS fun g5 H5 m5 s5 e5 => ?_
    walk_at "ss"
    refine r_newS fun t6 H6 m6 s6 e6 => ?_
    have s06 := s04.trans (s5.trans s6)
    walk_at "ss"
    refine r_newS fun l H7 m7 s7 e7 => ?_
    have s07 := s06.trans s7
    have nu : pu ≠ l := ne_of_none (s06 _ _ hU) m7
    have nf : pf ≠ l := ne_of_none (s06 _ _ hF) m7
    have n5 : g5 ≠ l := ne_of_none (s6 _ _ e5) m7
    have s27 := s3.trans (s4.trans (s5.trans (s6.trans s7)))
    have N7 : NO H H7 s l pu pf vu vf T [.ref t1, .ref t2, .ref t6] := by
      refine ⟨Sx.of sc s07, s07 _ _ hU, PU.same s07, s07 _ _ hF, PF.same s07, nu, nf, e7, fun v hv => ?_, s06.free m7⟩
      rcases List.mem_cons.mp hv with rfl | hv
      · exact ⟨t1, rfl, pu, pf, vu, vf, T.u, T.f, _, s27 _ _ (s2 _ _ e1), s07 _ _ hU, PU.same s07, s07 _ _ hF, PF.same s07, z40.1, z40.2, by omega, oc_len pp (by omega), nu, nf⟩
      rcases List.mem_cons.mp hv with rfl | hv
      · exact ⟨t2, rfl, pu, pf, vu, vf, T.u, T.f, _, s27 _ _ e2, s07 _ _ hU, PU.same s07, s07 _ _ hF, PF.same s07, z40.1, z40.2, by have : (10 : Int) ^ Int.toNat 30 = 10 ^ 30 := rfl; omega, oc_len pp (by have : (10 : Int) ^ Int.toNat 30 = 10 ^ 30 := rfl; omega), nu, nf⟩
      rcases List.mem_cons.mp hv with rfl | hv
      · have s47 := s5.trans (s6.trans s7)
        exact ⟨t6, rfl, g5, pf, _, vf, T.u ++ [.lst T.n], T.f, _, s7 _ _ e6, s7 _ _ (s6 _ _ e5), (PU.same s07).snoc (p := .lst T.n) (s47 _ _ (s4 _ _ e3)), s07 _ _ hF, PF.same s07, by simp; omega, z40.2, by omega, (oc_lst pp).perm (pm_u _ _ _), n5, nf⟩
      · cases hv
    clear e1 e2 e3 e4 e5 e6 e7 s1 s2 s3 s4 s5 s6 s7 s27 s04 s06
    have hU7 := N7.hu
    have hF7 := N7.hf
    have l7 := N7.hl
    walk_at "ss"
    refine r_newS fun q8 H8 m8 s8 e8 => ?_
    walk_at "ss"
    refine r_newS fun g9 H9 m9 s9 e9 => ?_
    have s79 := s8.trans s9
    refine r_catS (SqL.of (s79 _ _ hF7)) (SqL.of e9) (by simp; omega) ?_
    refine r_newS fun g10 H10 m10 s10 e10 => ?_
    walk_at "ss"
    refine r_newS fun t11 H11 m11 s11 e11 => ?_
    have s711 := s79.trans (s10.trans s11)
    have N11 := N7.same s711
    have B11 : BT H11 l t11 := ⟨pu, g10, vu, _, T.u, T.f ++ [.lst (T.n + 1)], _, e11, N11.hu, N11.PU, s11 _ _ e10, N11.PF.snoc (p := .lst (T.n + 1)) (s11 _ _ (s10 _ _ (s9 _ _ e8))), z40.1, by simp; omega, by omega, (oc_bigl pp (by omega) _).perm (pm_f _ _ _), nu, (ne_of_none (s79 _ _ l7) m10).symm⟩
    walk_at "ss"
    refine r_append N11.hl (by simp) ?_
    have N12 := N11.add B11
    generalize upd H11 l (.lst ([V.ref t1, .ref t2, .ref t6] ++ [.ref t11])) = H12 at N12 ⊢
    clear e8 e9 e10 e11 N7 N11 B11 hU7 hF7 l7 s8 s9 s10 s11 s79 s711
    have hU12 := N12.hu
    have l12 := N12.hl
    walk_at "ss"
    refine r_newS fun q13 H13 m13 s13 e13 => ?_
    walk_at "ss"
    refine r_newS fun g14 H14 m14 s14 e14 => ?_
    have s124 := s13.trans s14
    refine r_catS (SqL.of (s124 _ _ hU12)) (SqL.of e14) (by simp; omega) ?_
    refine r_newS fun g15 H15 m15 s15 e15 => ?_
    walk_at "ss"
    refine r_newS fun t16 H16 m16 s16 e16 => ?_
    have s126 := s124.trans (s15.trans s16)
    have N16 := N12.same s126
    have B16 : BT H16 l t16 := ⟨g15, pf, _, vf, T.u ++ [.use (T.a + 1)], T.f, _, e16, s16 _ _ e15, N16.PU.snoc (p := .use (T.a + 1)) (s16 _ _ (s15 _ _ (s14 _ _ e13))), N16.hf, N16.PF, by simp; omega, z40.2, by omega, (oc_bigu pp (by omega) _).perm (pm_u _ _ _), (ne_of_none (s124 _ _ N12.hl) m15).symm, nf⟩
    walk_at "ss"
    refine r_append N16.hl (by simp) ?_
    have N17 := N16.add B16
    generalize upd H16 l (.lst ([V.ref t1, .ref t2, .ref t6] ++ [.ref t11] ++ [.ref t16])) = H17 at N17 ⊢
    clear e13 e14 e15 e16 N12 N16 B16 hU12 l12 s13 s14 s15 s16 s124 s126
    have hF17 := N17.hf
    have l17 := N17.hl
    walk_at "ss"
    refine ⟨s, 5, rfl, N17.x.sc, by decide, by decide, fun dd H18 hdd x18 => ?_⟩
    have N18 := N17.sx x18
    have hF18 := N18.hf
    walk_at "ss"
    refine r_newS fun q19 H19 m19 s19 e19 => ?_
    walk_at "ss"
    refine r_newS fun g20 H20 m20 s20 e20 => ?_
    have s1820 := s19.trans s20
    refine r_catS (SqL.of (s1820 _ _ hF18)) (SqL.of e20) (by simp; omega) ?_
    refine r_newS fun g21 H21 m21 s21 e21 => ?_
    walk_at "ss"
    refine r_newS fun t22 H22 m22 s22 e22 => ?_
    have s1822 := s1820.trans (s21.trans s22)
    have N22 := N18.same s1822
    have B22 : BT H22 l t22 := ⟨pu, g21, vu, _, T.u, T.f ++ [.use (T.a + 1 + dd)], _, e22, N22.hu, N22.PU, s22 _ _ e21, N22.PF.snoc (p := .use (T.a + 1 + dd)) (s22 _ _ (s21 _ _ (s20 _ _ e19))), z40.1, by simp; omega, by omega, (oc_bigu pp (by omega) _).perm (pm_f _ _ _), nu, (ne_of_none (s1820 _ _ N18.hl) m21).symm⟩
    walk_at "ss"
    refine r_append N22.hl (by simp) ?_
    have N23 := N22.add B22
    have lw : ([V.ref t1, .ref t2, .ref t6] ++ [.ref t11] ++ [.ref t16] ++ [.ref t22] : List V).length = 6 := rfl
    generalize upd H22 l (.lst ([V.ref t1, .ref t2, .ref t6] ++ [.ref t11] ++ [.ref t16] ++ [.ref t22])) = H23 at N23 ⊢
    generalize ([V.ref t1, .ref t2, .ref t6] ++ [.ref t11] ++ [.ref t16] ++ [.ref t22] : List V) = ws at N23 lw
    clear e19 e20 e21 e22 N17 N18 N22 B22 hF17 hF18 l17 s19 s20 s21 s22 s1820 s1822 x18
    have l23 := N23.hl
    have hU23 := N23.hu
    have hF23 := N23.hf
    have wr := N23.b.rf
    walk_at "ss"
    refine r_dec (fun n0 => ?_) fun n0 => ?_
    walk_at "ss"
    refine r_newS fun t24 H24 m24 s24 e24 => ?_
    have N24 := N23.same s24
    have B24 : BT H24 l t24 := ⟨pu, pf, vu, vf, T.u, T.f, _, e24, N24.hu, N24.PU, N24.hf, N24.PF, z40.1, z40.2, by omega, oc_len pp (by omega), nu, nf⟩
    have l24 := N24.hl
    walk_at "ss"
    refine r_append l24 (by omega) ?_
    have N25 := N24.add B24
    generalize upd H24 l (.lst (ws ++ [.ref t24])) = H25 at N25 ⊢
    have l25 := N25.hl
    have hU25 := N25.hu
    have hF25 := N25.hf
    have PU25 := N25.PU
    have PF25 := N25.PF
    walk_at "ss"
    intro D hD
    refine lc_listS (xs := vu) [some (.ref s), some (.ref t), some (.int T.a), some (.ref pu), some (.ref pf), some (.int T.n), some (.ref l), none, none] rfl (fun i H' => Same H25 H' ∧ ∃ rs, H' D = some (.lst rs) ∧ PlL H' rs ((T.u.take i).map (rp T.n))) ⟨same_new hD, [], upd_same, PlL.nil⟩ (fun i H' hi e => SqL.of (e.1 _ _ hU25)) ?_ ?_
    · rintro i x K1 hx ⟨k1, rs, r1, P1⟩
      obtain ⟨w1, hi, rfl, hw⟩ := (PU25.same k1).item hx
      have tk : (T.u.take (i + 1)).map (rp T.n) = (T.u.take i).map (rp T.n) ++ [rp T.n T.u[i]] := by rw [List.take_add_one, List.getElem?_eq_getElem hi, List.map_append]; rfl
      have fin : ∀ (y : Addr) (K2 : Hp), Same K1 K2 → K2 y = some (plO (rp T.n T.u[i])) → ∃ acc, K2 D = some (.lst acc) ∧ acc.length < sizeLine ∧ Same H25 (upd K2 D (.lst (acc ++ [.ref y]))) ∧ ∃ rs, upd K2 D (.lst (acc ++ [.ref y])) D = some (.lst rs) ∧ PlL (upd K2 D (.lst (acc ++ [.ref y]))) rs ((T.u.take (i + 1)).map (rp T.n)) := fun y K2 k2 hy => by
        have r2 := k2 _ _ r1
        refine ⟨rs, r2, by rw [P1.len, List.length_map, List.length_take]; exact szl (by omega), up_same k1 k2 hD, _, upd_same, ?_⟩
        rw [tk]
        refine ((P1.same k2).snoc hy).keep (x := D) fun b xs h => ?_
        rw [upd_ne (ne_of h r2 (by intro z; cases z))]
        exact h
      walk_at "ss"
      refine ⟨rfl, ?_⟩
      walk_at "ss"
      refine r_newS fun w2 K2 nw2 k2 ew2 => ?_
      have hw2 := k2 _ _ hw
      refine r_eqPl (q := .lst 0) hw2 ew2 ?_
      walk_at "ss"
      refine r_dec (fun z => ?_) fun z => ?_
      · walk_at "ss"
        refine r_newS fun w3 K3 nw3 k3 ew3 => ?_
        exact fin w3 K3 (k2.trans k3) (by rw [show rp T.n T.u[i] = .lst T.n from if_pos z]; exact ew3)
      · walk_at "ss"
        exact fin w1 K2 k2 (by rw [show rp T.n T.u[i] = T.u[i] from if_neg z]; exact hw2)
    rintro H26 ⟨s26, us, e26, P26⟩
    rw [lu, List.take_length] at P26
    have N26 := N25.same s26
    have l26 := N26.hl
    have hF26 := N26.hf
    have PF26 := N26.PF
    have nD : D ≠ l := (ne_of_none l25 hD).symm
    walk_at "ss"
    intro D2 hD2
    refine lc_listS (xs := vf) [some (.ref s), some (.ref t), some (.int T.a), some (.ref pu), some (.ref pf), some (.int T.n), some (.ref l), some (.ref D), none] rfl (fun i H' => Same H26 H' ∧ ∃ rs, H' D2 = some (.lst rs) ∧ PlL H' rs ((T.f.take i).map (rp T.n))) ⟨same_new hD2, [], upd_same, PlL.nil⟩ (fun i H' hi e => SqL.of (e.1 _ _ hF26)) ?_ ?_
    · rintro i x K1 hx ⟨k1, rs, r1, P1⟩
      obtain ⟨w1, hi, rfl, hw⟩ := (PF26.same k1).item hx
      have tk : (T.f.take (i + 1)).map (rp T.n) = (T.f.take i).map (rp T.n) ++ [rp T.n T.f[i]] := by rw [List.take_add_one, List.getElem?_eq_getElem hi, List.map_append]; rfl
      have fin : ∀ (y : Addr) (K2 : Hp), Same K1 K2 → K2 y = some (plO (rp T.n T.f[i])) → ∃ acc, K2 D2 = some (.lst acc) ∧ acc.length < sizeLine ∧ Same H26 (upd K2 D2 (.lst (acc ++ [.ref y]))) ∧ ∃ rs, upd K2 D2 (.lst (acc ++ [.ref y])) D2 = some (.lst rs) ∧ PlL (upd K2 D2 (.lst (acc ++ [.ref y]))) rs ((T.f.take (i + 1)).map (rp T.n)) := fun y K2 k2 hy => by
        have r2 := k2 _ _ r1
        refine ⟨rs, r2, by rw [P1.len, List.length_map, List.length_take]; exact szl (by omega), up_same k1 k2 hD2, _, upd_same, ?_⟩
        rw [tk]
        refine ((P1.same k2).snoc hy).keep (x := D2) fun b xs h => ?_
        rw [upd_ne (ne_of h r2 (by intro z; cases z))]
        exact h
      walk_at "ss"
      refine ⟨rfl, ?_⟩
      walk_at "ss"
      refine r_newS fun w2 K2 nw2 k2 ew2 => ?_
      have hw2 := k2 _ _ hw
      refine r_eqPl (q := .lst 0) hw2 ew2 ?_
      walk_at "ss"
      refine r_dec (fun z => ?_) fun z => ?_
      · walk_at "ss"
        refine r_newS fun w3 K3 nw3 k3 ew3 => ?_
        exact fin w3 K3 (k2.trans k3) (by rw [show rp T.n T.f[i] = .lst T.n from if_pos z]; exact ew3)
      · walk_at "ss"
        exact fin w1 K2 k2 (by rw [show rp T.n T.f[i] = T.f[i] from if_neg z]; exact hw2)
    rintro H27 ⟨s27, fs, e27, P27⟩
    rw [lf, List.take_length] at P27
    have nD2 : D2 ≠ l := (ne_of_none l26 hD2).symm
    walk_at "ss"
    refine r_newS fun t28 H28 m28 s28 e28 => ?_
    have s2628 := s27.trans s28
    have N28 := N26.same s2628
    have B28 : BT H28 l t28 := ⟨D, D2, us, fs, T.u.map (rp T.n), T.f.map (rp T.n), _, e28, s2628 _ _ e26, P26.same s2628, s28 _ _ e27, P27.same s28, by rw [List.length_map]; exact z40.1, by rw [List.length_map]; exact z40.2, by omega, by rw [← List.map_append]; exact oc_rp pp (by omega) _, nD, nD2⟩
    have l28 := N28.hl
    walk_at "ss"
    refine r_append l28 (by simp; omega) ?_
    have N29 := N28.add B28
    generalize upd H28 l (.lst (ws ++ [.ref t24] ++ [.ref t28])) = H29 at N29 ⊢
    obtain ⟨vs, evs⟩ : ∃ vs, vs = ws ++ [V.ref t24] ++ [V.ref t28] := ⟨_, rfl⟩
    have lv : 6 ≤ vs.length ∧ vs.length ≤ 8 := by rw [evs]; simp; omega
    rw [← evs] at N29
    clear evs N23 N24 N25 N26 N28 B24 B28 e24 e26 e27 e28 P26 P27 PU25 PF25 PF26 l23 l24 l25 l26 l28 hU23 hF23 hU25 hF25 hF26 nD nD2 hD hD2 s24 s26 s27 s28 s2628 m28 m24
    rotate_left
    walk_at "ss"
    obtain ⟨H29, e29⟩ : ∃ H29, H29 = H23 := ⟨_, rfl⟩
    rw [← e29] at N23 ⊢
    have N29 := N23
    obtain ⟨vs, evs⟩ : ∃ vs, vs = ws := ⟨_, rfl⟩
    have lv : 6 ≤ vs.length ∧ vs.length ≤ 8 := by rw [evs]; omega
    rw [← evs] at N29
    clear evs e29 N23 l23 hU23 hF23
    all_goals
      have hU29 := N29.hu
      have hF29 := N29.hf
      have l29 := N29.hl
      walk_at "ss"
      refine r_catS (SqL.of hU29) (SqL.of hF29) (by omega) ?_
      refine r_newS fun g30 H30 m30 s30 e30 => ?_
      walk_at "ss"
      refine r_newS fun g31 H31 m31 s31 e31 => ?_
      have s2931 := s30.trans s31
      refine r_nePls (s31 _ _ e30) ((N29.PU.app N29.PF).same s2931) e31 PlL.nil ?_
      have N31 := N29.same s2931
      clear N29 hU29 hF29 l29
      have hU31 := N31.hu
      have hF31 := N31.hf
      have l31 := N31.hl
      have nls : l ≠ s := N31.x.sc.ne_lst l31 N31.b.rf
      by_cases ne : T.u ++ T.f = []
      · rw [decide_eq_true ne]
        walk_at "ss"
        refine ⟨s, vs.length, rfl, N31.x.sc, by omega, by omega, fun c G2 hc x2 => ?_⟩
        refine r_ixL (SqL.of (x2.old _ _ nls l31)) (at_of rfl (List.getElem?_eq_getElem hc)) ?_
        obtain ⟨t', e', b'⟩ := N31.b _ (List.getElem_mem hc)
        rw [e']
        exact q t' G2 (N31.x.trans x2) (b'.sx N31.x.sc x2).self
      · rw [decide_eq_false ne]
        have hpos : 0 < (T.u ++ T.f).length := List.length_pos_iff.mpr ne
        have hb : (T.u ++ T.f).length ≤ 12 := by rw [List.length_append]; omega
        walk_at "ss"
        refine r_catS (SqL.of hU31) (SqL.of hF31) (by omega) ?_
        refine r_newS fun g32 H32 m32 s32 e32 => ?_
        walk_at "ss"
        refine r_catS (SqL.of (s32 _ _ hU31)) (SqL.of (s32 _ _ hF31)) (by omega) ?_
        refine r_newS fun g33 H33 m33 s33 e33 => ?_
        have N33 := N31.same (s32.trans s33)
        have e32' := s33 _ _ e32
        have PB := N33.PU.app N33.PF
        have lB := PB.len
        have n32 : g32 ≠ s := N31.x.sc.ne_free m32
        walk_at "ss"
        rw [lB]
        refine ⟨s, (T.u ++ T.f).length, rfl, N33.x.sc, hpos, by omega, fun c H34 hc x34 => ?_⟩
        obtain ⟨w1, b1, b2⟩ := (PB.sx N33.x.sc x34).get hc
        refine r_ixL (SqL.of (x34.old _ _ n32 e32')) (at_of rfl b1) ?_
        have N34 := N33.sx x34
        have pin : (T.u ++ T.f)[c] ∈ T.u ++ T.f := List.getElem_mem hc
        generalize (T.u ++ T.f)[c] = p1 at b2 pin
        clear N31 N33 PB lB e30 e31 e32 e32' e33 hU31 hF31 l31 b1 x34 s30 s31 s32 s33 s2931
        have hU34 := N34.hu
        have hF34 := N34.hf
        have l34 := N34.hl
        have PU34 := N34.PU
        have PF34 := N34.PF
        walk_at "ss"
        refine r_newS fun g35 H35 m35 s35 e35 => ?_
        refine r_catS (SqL.of (s35 _ _ hU34)) (SqL.of e35) (by simp; omega) ?_
        refine r_newS fun g36 H36 m36 s36 e36 => ?_
        walk_at "ss"
        refine r_newS fun t37 H37 m37 s37 e37 => ?_
        have k37 := s35.trans (s36.trans s37)
        walk_at "ss"
        refine r_newS fun g38 H38 m38 s38 e38 => ?_
        have k38 := k37.trans s38
        walk_at "ss"
        refine r_catS (SqL.of e38) (SqL.of (k38 _ _ hF34)) (by simp; omega) ?_
        refine r_newS fun g39 H39 m39 s39 e39 => ?_
        walk_at "ss"
        refine r_newS fun t40 H40 m40 s40 e40 => ?_
        have k40 := k38.trans (s39.trans s40)
        walk_at "ss"
        refine r_newS fun g41 H41 m41 s41 e41 => ?_
        have k41 := k40.trans s41
        refine r_catS (SqL.of (k41 _ _ hF34)) (SqL.of e41) (by simp; omega) ?_
        refine r_newS fun g42 H42 m42 s42 e42 => ?_
        walk_at "ss"
        refine r_newS fun t43 H43 m43 s43 e43 => ?_
        have k43 := k41.trans (s42.trans s43)
        walk_at "ss"
        refine r_newS fun g44 H44 m44 s44 e44 => ?_
        have k44 := k43.trans s44
        refine r_catS (SqL.of (k44 _ _ l34)) (SqL.of e44) (by simp; omega) ?_
        refine r_newS fun l45 H45 m45 s45 e45 => ?_
        have k45 := k44.trans s45
        have N45 := N34.same k45
        have y3745 : Same H37 H45 := s38.trans (s39.trans (s40.trans (s41.trans (s42.trans (s43.trans (s44.trans s45))))))
        have y3645 : Same H36 H45 := s37.trans y3745
        have y3945 : Same H39 H45 := s40.trans (s41.trans (s42.trans (s43.trans (s44.trans s45))))
        have y4245 : Same H42 H45 := s43.trans (s44.trans s45)
        have o45 := k45 _ _ b2
        have n36 : g36 ≠ l := (ne_of_none (s35 _ _ l34) m36).symm
        have n39 : g39 ≠ l := (ne_of_none (k38 _ _ l34) m39).symm
        have n42 : g42 ≠ l := (ne_of_none (k41 _ _ l34) m42).symm
        have B1 : BT H45 l t37 := ⟨g36, pf, _, vf, T.u ++ [p1], T.f, _, y3745 _ _ e37, y3645 _ _ e36, N45.PU.snoc o45, N45.hf, N45.PF, by simp; omega, z40.2, by omega, (oc_dup pin _).perm (pm_u _ _ _), n36, nf⟩
        have B2 : BT H45 l t40 := ⟨pu, g39, vu, _, T.u, [p1] ++ T.f, _, (s41.trans (s42.trans (s43.trans (s44.trans s45)))) _ _ e40, N45.hu, N45.PU, y3945 _ _ e39, (PlL.nil.snoc o45).app N45.PF, z40.1, by simp; omega, by omega, (oc_dup pin _).perm (pm_h _ _ _), nu, n39⟩
        have B3 : BT H45 l t43 := ⟨pu, g42, vu, _, T.u, T.f ++ [p1], _, (s44.trans s45) _ _ e43, N45.hu, N45.PU, y4245 _ _ e42, N45.PF.snoc o45, z40.1, by simp; omega, by omega, (oc_dup pin _).perm (pm_f _ _ _), nu, n42⟩
        have all : ∀ v ∈ vs ++ [V.ref t37, .ref t40, .ref t43], ∃ t, v = .ref t ∧ BT H45 l t := fun v hv => by
          rcases List.mem_append.mp hv with hv | hv
          · exact N45.b v hv
          rcases List.mem_cons.mp hv with rfl | hv
          · exact ⟨_, rfl, B1⟩
          rcases List.mem_cons.mp hv with rfl | hv
          · exact ⟨_, rfl, B2⟩
          rcases List.mem_cons.mp hv with rfl | hv
          · exact ⟨_, rfl, B3⟩
          · cases hv
        have n45 : l45 ≠ s := (N34.x.sc.same k44).ne_free m45
        have ll : (vs ++ [V.ref t37, .ref t40, .ref t43]).length ≤ 11 ∧ 0 < (vs ++ [V.ref t37, .ref t40, .ref t43]).length := by simp; omega
        generalize vs ++ [V.ref t37, .ref t40, .ref t43] = zs at all ll e45
        walk_at "ss"
        refine ⟨s, zs.length, rfl, N45.x.sc, by omega, by omega, fun c2 G2 hc2 x2 => ?_⟩
        refine r_ixL (SqL.of (x2.old _ _ n45 e45)) (at_of rfl (List.getElem?_eq_getElem hc2)) ?_
        obtain ⟨t', e', b'⟩ := all _ (List.getElem_mem hc2)
        rw [e']
        exact q t' G2 (N45.x.trans x2) (b'.sx N45.x.sc x2).self
theorem ok_are_once__r {P : Program} {w : World} {K : PySem.W.Frag} {mg : Str → Option Value} {base : Heap} {f : Addr} {fd : FuncData} (F : FunD K "are_once" "are_once" (defArgs s_are_once__r) (defBody s_are_once__r) (defScope s_are_once__r) [] [] f fd) (n_len : mg "len" = none) (n_list : mg "list" = none) (n_range : mg "range" = none) (n_sorted : mg "sorted" = none) : FnOk P w K mg base CX0 1 f fd ["places", "fresh"] (sp_are_once__r K) := by
  refine F.ok sc_are_once__r (fun vs H Q E h => by first | (obtain ⟨rfl, _⟩ := h; rfl) | (obtain ⟨_, rfl, _⟩ := h; rfl) | (obtain ⟨_, _, rfl, _⟩ := h; rfl) | (obtain ⟨_, _, _, rfl, _⟩ := h; rfl) | (obtain ⟨_, _, _, _, rfl, _⟩ := h; rfl) | (obtain ⟨_, _, _, _, _, rfl, _⟩ := h; rfl) | (obtain ⟨_, _, _, _, _, _, rfl, _⟩ := h; rfl) | (obtain ⟨_, _, _, _, _, _, _, rfl, _⟩ := h; rfl) | (obtain ⟨_, _, _, _, _, _, _, _, rfl, _⟩ := h; rfl) | (obtain ⟨_, _, _, _, _, _, _, _, _, rfl, _⟩ := h; rfl) | (obtain ⟨_, _, _, _, _, _, _, _, _, _, rfl, _⟩ := h; rfl) | (obtain ⟨_, _, _, _, _, _, _, _, _, _, _, rfl, _⟩ := h; rfl) | (obtain ⟨_, _, _, _, _, _, _, _, _, _, _, _, rfl, _⟩ := h; rfl) | (obtain ⟨_, _, _, _, _, _, _, _, _, _, _, _, _, rfl, _⟩ := h; rfl) | (obtain ⟨_, _, _, _, _, _, _, _, _, _, _, _, _, _, rfl, _⟩ := h; rfl) | (obtain ⟨_, _, _, _, _, _, _, _, _, _, _, _, _, _, _, rfl, _⟩ := h; rfl) | (obtain ⟨_, _, _, _, _, _, _, _, _, _, _, _, _, _, _, _, rfl, _⟩ := h; rfl) | (obtain ⟨_, _, _, _, _, _, _, _, _, _, _, _, _, _, _, _, _, rfl, _⟩ := h; rfl)) (fun cdv A outer s H vs Q E hr h => ?_)
  · have hu := hu_of hr
    obtain ⟨l, ws, ps, n, rfl, hl, P, hz, no, q⟩ := h
    have hwl := P.len
    refine ⟨_, PSs.nox (pss_cons (ps_set (i := 2) sc_are_once__r.nd rfl (.inl rfl) (pe_callB (id := "sorted") cr_sortedI rfl n_sorted (by decide +kernel) (pa_cons (pe_lc (own := [("where", 4), ("number", 5)]) rfl sc_are_once__r.nd (pi_list (pv 0)) (blkOk_by (own := [("where", 4), ("number", 5)]) (N := N_are_once__r) (sc := defScope s_are_once__r) (by decide +kernel)) (fun _ _ _ _ _ => (Kr.pg_tupK (K := K) (n := 2) rfl rfl (pgs_cons (pg_name (i := 4) sc_are_once__r.nd rfl (.inl rfl)) (pgs_cons (pg_name (i := 5) sc_are_once__r.nd rfl (.inl rfl)) pgs_nil)))) (fun _ _ _ _ _ => (pts_one (pt_cmpR op_eq (pv 4) pe_str (nomark _)))) (fun _ _ _ _ _ => (pv 5))) pa_nil))) (pss_cons (ps_set (i := 3) sc_are_once__r.nd rfl (.inl rfl) (pe_callB (id := "sorted") cr_sortedI rfl n_sorted (by decide +kernel) (pa_cons (pe_lc (own := [("where", 4), ("number", 5)]) rfl sc_are_once__r.nd (pi_list (pv 0)) (blkOk_by (own := [("where", 4), ("number", 5)]) (N := N_are_once__r) (sc := defScope s_are_once__r) (by decide +kernel)) (fun _ _ _ _ _ => (Kr.pg_tupK (K := K) (n := 2) rfl rfl (pgs_cons (pg_name (i := 4) sc_are_once__r.nd rfl (.inl rfl)) (pgs_cons (pg_name (i := 5) sc_are_once__r.nd rfl (.inl rfl)) pgs_nil)))) (fun _ _ _ _ _ => (pts_one (pt_cmpR op_eq (pv 4) pe_str (nomark _)))) (fun _ _ _ _ _ => (pv 5))) pa_nil))) (pss_one (ps_ret (pe_and (pe_cmpR op_eq (pe_callB (id := "len") Kr.c_len rfl n_len (by decide +kernel) (pa_cons (pv 3) pa_nil)) (pv 1) (nomark _)) (pe_and (pe_cmpR (op_eqD hr.units) (pv 3) (pe_listRg rfl rfl n_list (prg_1 rfl n_range (pe_callB (id := "len") Kr.c_len rfl n_len (by decide +kernel) (pa_cons (pv 3) pa_nil)))) (nomark _)) (pe_one (pe_cmpR (op_eqD hr.units) (pv 2) (pe_listRg rfl rfl n_list (prg_1 rfl n_range (pe_callB (id := "len") Kr.c_len rfl n_len (by decide +kernel) (pa_cons (pv 2) pa_nil)))) (nomark _))))))))), ?_⟩
    rw [st_are_once__r]
    walk_at "ss"
    intro D hD
    refine lc_listS (xs := ws) [some (.ref l), some (.int n), none, none, none, none] rfl (fun i H5 => H5 D = some (.lst ((nmI Pl.uN (ps.take i)).map V.int)) ∧ Same H H5) ⟨upd_same, same_new hD⟩ (fun i H5 _ hh => hh.2.seq (SqL.of hl)) ?_ ?_
    · rintro i x H5 hx ⟨h5, s5⟩
      obtain ⟨t, hi, rfl, ht⟩ := P.item hx
      have ht5 := s5 _ _ ht
      have tk : ps.take (i + 1) = ps.take i ++ [ps[i]] := by rw [List.take_add_one, List.getElem?_eq_getElem hi]; rfl
      walk_at "ss"
      refine ⟨rfl, ?_⟩
      walk_at "ss"
      rw [tk, nmI_snoc]
      cases hp : ps[i] with
      | use k =>
        rw [show decide ((Pl.use k).w = "use") = true from decide_eq_true rfl]
        walk_at "ss"
        refine ⟨_, h5, by rw [List.length_map]; have := nmI_le Pl.uN (ps.take i); rw [List.length_take] at this; exact szl (by omega), ?_, fun b o e => ?_⟩
        · rw [upd_same, List.map_append]
          rfl
        · rw [upd_ne (ne_of_none e hD)]
          exact s5 b o e
      | lst k =>
        rw [show decide ((Pl.lst k).w = "use") = false from by show decide (("list" : Str) = "use") = false; decide +kernel]
        walk_at "ss"
        refine ⟨?_, s5⟩
        rw [h5]
        show _ = some (HO.lst ((nmI Pl.uN (ps.take i) ++ []).map V.int))
        rw [List.append_nil]
    rintro H2 ⟨e2, s2⟩
    rw [hwl, List.take_length] at e2
    walk_at "ss"
    refine ⟨D, _, rfl, SqL.of e2, fun us u pus su hu => ?_⟩
    have s3 : Same H (upd H2 u (.lst (us.map V.int))) := s2.trans (same_new hu)
    have e3 : (upd H2 u (.lst (us.map V.int))) u = some (.lst (us.map V.int)) := upd_same
    generalize (upd H2 u (.lst (us.map V.int))) = H3 at s3 e3 ⊢
    have hl3 := s3 _ _ hl
    have P3 := P.same s3
    walk_at "ss"
    intro D2 hD2
    refine lc_listS (xs := ws) [some (.ref l), some (.int n), some (.ref u), none, none, none] rfl (fun i H5 => H5 D2 = some (.lst ((nmI Pl.lN (ps.take i)).map V.int)) ∧ Same H3 H5) ⟨upd_same, same_new hD2⟩ (fun i H5 _ hh => hh.2.seq (SqL.of hl3)) ?_ ?_
    · rintro i x H5 hx ⟨h5, s5⟩
      obtain ⟨t, hi, rfl, ht⟩ := P3.item hx
      have ht5 := s5 _ _ ht
      have tk : ps.take (i + 1) = ps.take i ++ [ps[i]] := by rw [List.take_add_one, List.getElem?_eq_getElem hi]; rfl
      walk_at "ss"
      refine ⟨rfl, ?_⟩
      walk_at "ss"
      rw [tk, nmI_snoc]
      cases hp : ps[i] with
      | lst k =>
        rw [show decide ((Pl.lst k).w = "list") = true from decide_eq_true rfl]
        walk_at "ss"
        refine ⟨_, h5, by rw [List.length_map]; have := nmI_le Pl.lN (ps.take i); rw [List.length_take] at this; exact szl (by omega), ?_, fun b o e => ?_⟩
        · rw [upd_same, List.map_append]
          rfl
        · rw [upd_ne (ne_of_none e hD2)]
          exact s5 b o e
      | use k =>
        rw [show decide ((Pl.use k).w = "list") = false from by show decide (("use" : Str) = "list") = false; decide +kernel]
        walk_at "ss"
        refine ⟨?_, s5⟩
        rw [h5]
        show _ = some (HO.lst ((nmI Pl.lN (ps.take i) ++ []).map V.int))
        rw [List.append_nil]
    rintro H4 ⟨e4, s4⟩
    rw [hwl, List.take_length] at e4
    walk_at "ss"
    refine ⟨D2, _, rfl, SqL.of e4, fun us2 v pus2 su2 hv => ?_⟩
    have s5 : Same H3 (upd H4 v (.lst (us2.map V.int))) := s4.trans (same_new hv)
    have e5 : (upd H4 v (.lst (us2.map V.int))) v = some (.lst (us2.map V.int)) := upd_same
    generalize (upd H4 v (.lst (us2.map V.int))) = H5 at s5 e5 ⊢
    have f5 := s5 _ _ e3
    have l2 := pus2.length_eq
    have l1 := pus.length_eq
    have nl2 := nmI_le Pl.lN ps
    have nl1 := nmI_le Pl.uN ps
    walk_at "ss"
    rw [List.length_map]
    refine r_dec (fun c1 => ?_) fun _ => ?_
    rotate_left
    · walk_at "ss"
      exact q H5 (s3.trans s5)
    walk_at "ss"
    rw [List.length_map]
    refine r_rgL (by omega) (by omega) ?_
    refine r_newS fun g H6 hg s6 e6 => ?_
    rw [rgV_nat] at e6
    refine r_eqLL (is := us2) (js := rgI us2.length) (SqL.of (s6 _ _ e5)) (SqL.of e6) ?_
    walk_at "ss"
    refine r_dec (fun c2 => ?_) fun _ => ?_
    rotate_left
    · walk_at "ss"
      exact q H6 (s3.trans (s5.trans s6))
    have f6 := s6 _ _ f5
    walk_at "ss"
    rw [List.length_map]
    refine r_rgL (by omega) (by omega) ?_
    refine r_newS fun g2 H7 hg2 s7 e7 => ?_
    rw [rgV_nat] at e7
    refine r_eqLL (is := us) (js := rgI us.length) (SqL.of (s7 _ _ f6)) (SqL.of e7) ?_
    rw [decide_eq_false (fun c3 => no ⟨by rw [← l2]; exact c1, by rw [← l2, ← c2]; exact pus2.symm, by rw [← l1, ← c3]; exact pus.symm⟩)]
    exact q H7 (((s3.trans s5).trans s6).trans s7)
theorem ok_is_from__r {P : Program} {w : World} {K : PySem.W.Frag} {mg : Str → Option Value} {base : Heap} {f : Addr} {fd : FuncData} (F : FunD K "is_from" "is_from" (defArgs s_is_from__r) (defBody s_is_from__r) (defScope s_is_from__r) [] [] f fd) (n_bool : mg "bool" = none) (n_int : mg "int" = none) (n_isinstance : mg "isinstance" = none) : FnOk P w K mg base CX0 1 f fd ["number", "least"] (sp_is_from__r K) := by
  refine F.ok sc_is_from__r (fun vs H Q E h => by first | (obtain ⟨rfl, _⟩ := h; rfl) | (obtain ⟨_, rfl, _⟩ := h; rfl) | (obtain ⟨_, _, rfl, _⟩ := h; rfl) | (obtain ⟨_, _, _, rfl, _⟩ := h; rfl) | (obtain ⟨_, _, _, _, rfl, _⟩ := h; rfl) | (obtain ⟨_, _, _, _, _, rfl, _⟩ := h; rfl) | (obtain ⟨_, _, _, _, _, _, rfl, _⟩ := h; rfl) | (obtain ⟨_, _, _, _, _, _, _, rfl, _⟩ := h; rfl) | (obtain ⟨_, _, _, _, _, _, _, _, rfl, _⟩ := h; rfl) | (obtain ⟨_, _, _, _, _, _, _, _, _, rfl, _⟩ := h; rfl) | (obtain ⟨_, _, _, _, _, _, _, _, _, _, rfl, _⟩ := h; rfl) | (obtain ⟨_, _, _, _, _, _, _, _, _, _, _, rfl, _⟩ := h; rfl) | (obtain ⟨_, _, _, _, _, _, _, _, _, _, _, _, rfl, _⟩ := h; rfl) | (obtain ⟨_, _, _, _, _, _, _, _, _, _, _, _, _, rfl, _⟩ := h; rfl) | (obtain ⟨_, _, _, _, _, _, _, _, _, _, _, _, _, _, rfl, _⟩ := h; rfl) | (obtain ⟨_, _, _, _, _, _, _, _, _, _, _, _, _, _, _, rfl, _⟩ := h; rfl) | (obtain ⟨_, _, _, _, _, _, _, _, _, _, _, _, _, _, _, _, rfl, _⟩ := h; rfl) | (obtain ⟨_, _, _, _, _, _, _, _, _, _, _, _, _, _, _, _, _, rfl, _⟩ := h; rfl)) (fun cdv A outer s H vs Q E hr h => ?_)
  · have hu := hu_of hr
    obtain ⟨v, a, r, rfl, h, q⟩ := h
    refine ⟨_, PSs.nox (pss_one (ps_ret (pe_and (pe_callB (id := "isinstance") call_isi rfl n_isinstance (by decide +kernel) (pa_cons (pv 0) (pa_cons (Kr.pe_bty (T := "int") n_int) pa_nil))) (pe_and (pe_not (pe_callB (id := "isinstance") call_isi rfl n_isinstance (by decide +kernel) (pa_cons (pv 0) (pa_cons (Kr.pe_bty (T := "bool") n_bool) pa_nil)))) (pe_one (pe_cmpR op_le (pv 1) (pv 0) (nomark _))))))), ?_⟩
    rw [st_is_from__r]
    walk_at "ss"
    rcases h with ⟨n, rfl, rfl⟩ | ⟨⟨k, rfl⟩ | ⟨T, ty, kt⟩, rfl⟩
    · refine r_isiT (.base (.int n)) (b := true) (by decide +kernel) ?_
      walk_at "ss"
      refine r_isiT (.base (.int n)) (b := false) (by decide +kernel) ?_
      walk_at "ss"
      exact q
    · refine r_isiT (.base (.bl k)) (b := true) (by decide +kernel) ?_
      walk_at "ss"
      refine r_isiT (.base (.bl k)) (b := true) (by decide +kernel) ?_
      walk_at "ss"
      exact q
    · refine r_isiT ty kt ?_
      walk_at "ss"
      exact q
theorem ok_is_place__r {P : Program} {w : World} {K : PySem.W.Frag} {mg : Str → Option Value} {base : Heap} {f : Addr} {fd : FuncData} (F : FunD K "is_place" "is_place" (defArgs s_is_place__r) (defBody s_is_place__r) (defScope s_is_place__r) [] [] f fd) (h_is_from__r : Kr.FnH P w K mg base CX0 1 "is_from" ["number", "least"] (sp_is_from__r K)) (n_isinstance : mg "isinstance" = none) (n_len : mg "len" = none) (n_str : mg "str" = none) (n_tuple : mg "tuple" = none) : FnOk P w K mg base CX0 2 f fd ["place"] (sp_is_place__r K) := by
  refine F.ok sc_is_place__r (fun vs H Q E h => by first | (obtain ⟨rfl, _⟩ := h; rfl) | (obtain ⟨_, rfl, _⟩ := h; rfl) | (obtain ⟨_, _, rfl, _⟩ := h; rfl) | (obtain ⟨_, _, _, rfl, _⟩ := h; rfl) | (obtain ⟨_, _, _, _, rfl, _⟩ := h; rfl) | (obtain ⟨_, _, _, _, _, rfl, _⟩ := h; rfl) | (obtain ⟨_, _, _, _, _, _, rfl, _⟩ := h; rfl) | (obtain ⟨_, _, _, _, _, _, _, rfl, _⟩ := h; rfl) | (obtain ⟨_, _, _, _, _, _, _, _, rfl, _⟩ := h; rfl) | (obtain ⟨_, _, _, _, _, _, _, _, _, rfl, _⟩ := h; rfl) | (obtain ⟨_, _, _, _, _, _, _, _, _, _, rfl, _⟩ := h; rfl) | (obtain ⟨_, _, _, _, _, _, _, _, _, _, _, rfl, _⟩ := h; rfl) | (obtain ⟨_, _, _, _, _, _, _, _, _, _, _, _, rfl, _⟩ := h; rfl) | (obtain ⟨_, _, _, _, _, _, _, _, _, _, _, _, _, rfl, _⟩ := h; rfl) | (obtain ⟨_, _, _, _, _, _, _, _, _, _, _, _, _, _, rfl, _⟩ := h; rfl) | (obtain ⟨_, _, _, _, _, _, _, _, _, _, _, _, _, _, _, rfl, _⟩ := h; rfl) | (obtain ⟨_, _, _, _, _, _, _, _, _, _, _, _, _, _, _, _, rfl, _⟩ := h; rfl) | (obtain ⟨_, _, _, _, _, _, _, _, _, _, _, _, _, _, _, _, _, rfl, _⟩ := h; rfl)) (fun cdv A outer s H vs Q E hr h => ?_)
  · have hu := hu_of hr
    obtain ⟨v, rfl, h⟩ := h
    refine ⟨_, PSs.nox (pss_cons (ps_if (PW.pt (pw_or (pt_not (pt_val (pe_callB (id := "isinstance") call_isi rfl n_isinstance (by decide +kernel) (pa_cons (pv 0) (pa_cons (Kr.pe_bty (T := "tuple") n_tuple) pa_nil))))) (pw_or1 (pt_cmpR op_ne (pe_callB (id := "len") Kr.c_len rfl n_len (by decide +kernel) (pa_cons (pv 0) pa_nil)) pe_int (nomark _))))) (pss_one (ps_ret pe_bl)) pss_nil) (pss_cons (ps_asg (pv 0) (pg_tup rfl (pgs_cons (pg_name (i := 1) sc_is_place__r.nd rfl (.inl rfl)) (pgs_cons (pg_name (i := 2) sc_is_place__r.nd rfl (.inl rfl)) pgs_nil)))) (pss_one (ps_ret (pe_and (pe_callB (id := "isinstance") call_isi rfl n_isinstance (by decide +kernel) (pa_cons (pv 1) (pa_cons (Kr.pe_bty (T := "str") n_str) pa_nil))) (pe_and (pe_cmpR op_in_seq (pv 1) (pe_tup (pa_cons pe_str (pa_cons pe_str pa_nil))) (by rfl)) (pe_one (Kr.pe_cl h_is_from__r (hr.mono (by decide)) (pa_cons (pv 2) (pa_cons pe_int pa_nil)))))))))), ?_⟩
    rw [st_is_place__r]
    walk_at "ss"
    rcases h with ⟨⟨T, ty, kt⟩ | ⟨t, xs, rfl, ht, bad⟩, q⟩ | ⟨t, p, rfl, ht, q⟩
    · refine r_isiT ty kt ?_
      walk_at "ss"
      exact q H fun _ _ e => e
    · refine r_isiT (.base (.tup ht)) (b := true) (by decide +kernel) ?_
      walk_at "ss"
      rcases bad with ne | ⟨a, b, rfl, bad⟩
      · refine r_decN (fun _ => ?_) fun e => absurd (by omega) ne
        walk_at "ss"
        exact q H fun _ _ e => e
      · refine r_decN (fun ne => absurd rfl ne) fun _ => ?_
        walk_at "ss"
        rcases bad with ⟨T, ty, kt⟩ | ⟨w, rfl, bad⟩
        · refine r_isiT ty kt ?_
          walk_at "ss"
          exact q H fun _ _ e => e
        · refine r_isiT (.base (.str w)) (b := true) (by decide +kernel) ?_
          walk_at "ss"
          refine r_newS fun t2 H1 h2 s1 e1 => ?_
          refine ⟨t2, _, rfl, .inr (SqT.of e1), rfl, rfl, ?_⟩
          rcases bad with e | ⟨e, nn⟩
          · rw [show (if false = true then !inV (V.str w) [V.str "use", V.str "list"] else inV (V.str w) [V.str "use", V.str "list"]) = false from e]
            walk_at "ss"
            exact q H1 s1
          · rw [show (if false = true then !inV (V.str w) [V.str "use", V.str "list"] else inV (V.str w) [V.str "use", V.str "list"]) = true from e]
            walk_at "ss"
            exact ⟨_, _, _, rfl, nn H1 s1, q H1 s1⟩
    · refine r_isiT (.base (.tup ht)) (b := true) (by decide +kernel) ?_
      walk_at "ss"
      refine r_decN (fun ne => absurd rfl ne) fun _ => ?_
      walk_at "ss"
      refine r_isiT (.base (.str p.w)) (b := true) (by decide +kernel) ?_
      walk_at "ss"
      refine r_newS fun t2 H1 h2 s1 e1 => ?_
      refine ⟨t2, _, rfl, .inr (SqT.of e1), rfl, rfl, ?_⟩
      rw [show (if false = true then !inV (V.str p.w) [V.str "use", V.str "list"] else inV (V.str p.w) [V.str "use", V.str "list"]) = true from in_words p]
      walk_at "ss"
      refine ⟨_, _, true, rfl, .inl ⟨_, rfl, (decide_eq_true (show (0 : Int) ≤ (p.n : Int) by omega)).symm⟩, q H1 s1⟩
theorem ok_are_places__r {P : Program} {w : World} {K : PySem.W.Frag} {mg : Str → Option Value} {base : Heap} {f : Addr} {fd : FuncData} (F : FunD K "are_places" "are_places" (defArgs s_are_places__r) (defBody s_are_places__r) (defScope s_are_places__r) [] [] f fd) (h_is_place__r : Kr.FnH P w K mg base CX0 2 "is_place" ["place"] (sp_is_place__r K)) (n_all : mg "all" = none) (n_isinstance : mg "isinstance" = none) (n_list : mg "list" = none) : FnOk P w K mg base CX0 3 f fd ["places"] (sp_are_places__r K) := by
  refine F.ok sc_are_places__r (fun vs H Q E h => by first | (obtain ⟨rfl, _⟩ := h; rfl) | (obtain ⟨_, rfl, _⟩ := h; rfl) | (obtain ⟨_, _, rfl, _⟩ := h; rfl) | (obtain ⟨_, _, _, rfl, _⟩ := h; rfl) | (obtain ⟨_, _, _, _, rfl, _⟩ := h; rfl) | (obtain ⟨_, _, _, _, _, rfl, _⟩ := h; rfl) | (obtain ⟨_, _, _, _, _, _, rfl, _⟩ := h; rfl) | (obtain ⟨_, _, _, _, _, _, _, rfl, _⟩ := h; rfl) | (obtain ⟨_, _, _, _, _, _, _, _, rfl, _⟩ := h; rfl) | (obtain ⟨_, _, _, _, _, _, _, _, _, rfl, _⟩ := h; rfl) | (obtain ⟨_, _, _, _, _, _, _, _, _, _, rfl, _⟩ := h; rfl) | (obtain ⟨_, _, _, _, _, _, _, _, _, _, _, rfl, _⟩ := h; rfl) | (obtain ⟨_, _, _, _, _, _, _, _, _, _, _, _, rfl, _⟩ := h; rfl) | (obtain ⟨_, _, _, _, _, _, _, _, _, _, _, _, _, rfl, _⟩ := h; rfl) | (obtain ⟨_, _, _, _, _, _, _, _, _, _, _, _, _, _, rfl, _⟩ := h; rfl) | (obtain ⟨_, _, _, _, _, _, _, _, _, _, _, _, _, _, _, rfl, _⟩ := h; rfl) | (obtain ⟨_, _, _, _, _, _, _, _, _, _, _, _, _, _, _, _, rfl, _⟩ := h; rfl) | (obtain ⟨_, _, _, _, _, _, _, _, _, _, _, _, _, _, _, _, _, rfl, _⟩ := h; rfl)) (fun cdv A outer s H vs Q E hr h => ?_)
  · have hu := hu_of hr
    obtain ⟨v, r, rfl, h, q⟩ := h
    refine ⟨_, PSs.nox (pss_one (ps_ret (pe_and (pe_callB (id := "isinstance") call_isi rfl n_isinstance (by decide +kernel) (pa_cons (pv 0) (pa_cons (Kr.pe_bty (T := "list") n_list) pa_nil))) (pe_one (pe_callB (id := "all") (cr_all rfl) rfl n_all (by decide +kernel) (pa_cons (pe_lc (own := [("place", 1)]) rfl sc_are_places__r.nd (pi_list (pv 0)) (blkOk_by (own := [("place", 1)]) (N := N_are_places__r) (sc := defScope s_are_places__r) (by decide +kernel)) (fun _ _ _ _ _ => (pg_name (i := 1) sc_are_places__r.nd rfl (.inl rfl))) (fun _ _ _ _ _ => pts_nil) (fun _ _ _ _ _ => (Kr.pe_cl h_is_place__r (hr.mono (by decide)) (pa_cons (pv 1) pa_nil)))) pa_nil)))))), ?_⟩
    rw [st_are_places__r]
    walk_at "ss"
    rcases h with ⟨rfl, T, ty, kt⟩ | ⟨l, ws, f, rfl, hl, hz, hf, rfl⟩
    · refine r_isiT ty kt ?_
      walk_at "ss"
      exact q H fun _ _ e => e
    refine r_isiT (.base (.lst hl)) (b := true) (by decide +kernel) ?_
    walk_at "ss"
    intro D hD
    refine lc_listS (xs := ws) [some (.ref l), none] rfl (fun i H5 => H5 D = some (.lst (((List.range i).map f).map V.bl)) ∧ Same H H5) ⟨upd_same, same_new hD⟩ (fun i H5 _ hh => hh.2.seq (SqL.of hl)) ?_ ?_
    · rintro i x H5 hx ⟨h5, s5⟩
      have hi : i < ws.length := (List.getElem?_eq_some_iff.mp hx).1
      have fin : ∀ H6, Same H5 H6 → ∃ acc, H6 D = some (.lst acc) ∧ acc.length < sizeLine ∧ upd H6 D (.lst (acc ++ [.bl (f i)])) D = some (.lst (((List.range (i + 1)).map f).map V.bl)) ∧ Same H (upd H6 D (.lst (acc ++ [.bl (f i)]))) := fun H6 s6 => by
        refine ⟨_, s6 _ _ h5, by rw [List.length_map, List.length_map, List.length_range]; exact szl (by omega), ?_, fun b o e => ?_⟩
        · rw [upd_same, List.range_succ, List.map_append, List.map_append]
          rfl
        · rw [upd_ne (ne_of_none e hD)]
          exact s6 _ _ (s5 b o e)
      have hw := hf i x H5 hx s5
      walk_at "ss"
      refine ⟨rfl, ?_⟩
      walk_at "ss"
      by_cases z : f i = true
      · rw [if_pos z] at hw
        rw [z] at fin
        obtain ⟨t, p, rfl, ht⟩ := hw
        exact ⟨_, rfl, .inr ⟨t, p, rfl, ht, fun H6 s6 => fin H6 s6⟩⟩
      · rw [if_neg z] at hw
        rw [Bool.eq_false_iff.mpr z] at fin
        exact ⟨_, rfl, .inl ⟨hw, fun H6 s6 => fin H6 s6⟩⟩
    rintro H5 ⟨h5, s5⟩
    walk_at "ss"
    refine r_all (SqL.of h5) ?_
    exact q _ s5
theorem ok_Turn___init____r {P : Program} {w : World} {K : PySem.W.Frag} {mg : Str → Option Value} {base : Heap} {f : Addr} {fd : FuncData} (F : FunD K "__init__" "Turn.__init__" (defArgs s_Turn___init____r) (defBody s_Turn___init____r) (defScope s_Turn___init____r) [] [] f fd) (er_InvalidArgument : KrE.ErH P w K mg base CX0 1 "InvalidArgument" (He.ga K "InvalidArgument") ["self", "part"] (sp_InvalidArgument___init__ K)) (h_are_once__r : Kr.FnH P w K mg base CX0 1 "are_once" ["places", "fresh"] (sp_are_once__r K)) (h_are_places__r : Kr.FnH P w K mg base CX0 3 "are_places" ["places"] (sp_are_places__r K)) (h_is_from__r : Kr.FnH P w K mg base CX0 1 "is_from" ["number", "least"] (sp_is_from__r K)) : FnOk P w K mg base (L2.CX P w) 4 f fd ["self", "used", "front", "fresh"] (sp_Turn___init____r K) := by
  refine F.ok sc_Turn___init____r (fun vs H Q E h => by first | (obtain ⟨rfl, _⟩ := h; rfl) | (obtain ⟨_, rfl, _⟩ := h; rfl) | (obtain ⟨_, _, rfl, _⟩ := h; rfl) | (obtain ⟨_, _, _, rfl, _⟩ := h; rfl) | (obtain ⟨_, _, _, _, rfl, _⟩ := h; rfl) | (obtain ⟨_, _, _, _, _, rfl, _⟩ := h; rfl) | (obtain ⟨_, _, _, _, _, _, rfl, _⟩ := h; rfl) | (obtain ⟨_, _, _, _, _, _, _, rfl, _⟩ := h; rfl) | (obtain ⟨_, _, _, _, _, _, _, _, rfl, _⟩ := h; rfl) | (obtain ⟨_, _, _, _, _, _, _, _, _, rfl, _⟩ := h; rfl) | (obtain ⟨_, _, _, _, _, _, _, _, _, _, rfl, _⟩ := h; rfl) | (obtain ⟨_, _, _, _, _, _, _, _, _, _, _, rfl, _⟩ := h; rfl) | (obtain ⟨_, _, _, _, _, _, _, _, _, _, _, _, rfl, _⟩ := h; rfl) | (obtain ⟨_, _, _, _, _, _, _, _, _, _, _, _, _, rfl, _⟩ := h; rfl) | (obtain ⟨_, _, _, _, _, _, _, _, _, _, _, _, _, _, rfl, _⟩ := h; rfl) | (obtain ⟨_, _, _, _, _, _, _, _, _, _, _, _, _, _, _, rfl, _⟩ := h; rfl) | (obtain ⟨_, _, _, _, _, _, _, _, _, _, _, _, _, _, _, _, rfl, _⟩ := h; rfl) | (obtain ⟨_, _, _, _, _, _, _, _, _, _, _, _, _, _, _, _, _, rfl, _⟩ := h; rfl)) (fun cdv A outer s H vs Q E hr h => ?_)
  · have hu := hu_of hr
    obtain ⟨x, u, f, n, w, rfl, bad, er⟩ := h
    refine ⟨_, (pss_cons (ps_if (pt_not (pt_val (Kr.pe_cl h_are_places__r (hr.mono (by decide)) (pa_cons (pv 1) pa_nil)))) (pss_one (ps_raise rfl (takes_of rfl rfl rfl rfl) (KrE.pmk_mk er_InvalidArgument (hr.mono (by decide)) (pa_cons pe_str pa_nil)))) pss_nil) (pss_cons (ps_if (pt_not (pt_val (Kr.pe_cl h_are_places__r (hr.mono (by decide)) (pa_cons (pv 2) pa_nil)))) (pss_one (ps_raise rfl (takes_of rfl rfl rfl rfl) (KrE.pmk_mk er_InvalidArgument (hr.mono (by decide)) (pa_cons pe_str pa_nil)))) pss_nil) (pss_cons (ps_if (pt_not (pt_val (Kr.pe_cl h_is_from__r (hr.mono (by decide)) (pa_cons (pv 3) (pa_cons pe_int pa_nil))))) (pss_one (ps_raise rfl (takes_of rfl rfl rfl rfl) (KrE.pmk_mk er_InvalidArgument (hr.mono (by decide)) (pa_cons pe_str pa_nil)))) pss_nil) (pss_cons (ps_if (pt_not (pt_val (Kr.pe_cl h_are_once__r (hr.mono (by decide)) (pa_cons (pe_op Kr.op_catS (pv 1) (pv 2)) (pa_cons (pv 3) pa_nil))))) (pss_one (ps_raise rfl (takes_of rfl rfl rfl rfl) (KrE.pmk_mk er_InvalidArgument (hr.mono (by decide)) (pa_cons pe_str pa_nil)))) pss_nil) (pss_cons ps_never (pss_cons ps_never (pss_cons ps_never (pss_cons ps_never (pss_cons ps_never (pss_cons ps_never (pss_cons ps_never (pss_cons ps_never (pss_one ps_never))))))))))))), ?_⟩
    rw [st_Turn___init____r]
    walk_at "ss"
    rcases bad with ⟨rfl, bad⟩ | ⟨pu, vu, us, rfl, hu0, PU, zu, bad⟩
    · refine ⟨u, false, rfl, bad, fun H1 s1 => ?_⟩
      walk_at "ss"
      refine KrE.r_mkE ?_
      walk_at "ss"
      exact rai_at (er.same s1)
    refine ⟨_, true, rfl, psr_pl hu0 PU (by omega), fun H1 s1 => ?_⟩
    walk_at "ss"
    rcases bad with ⟨rfl, bad⟩ | ⟨pf, vf, fs, rfl, hf0, PF, zf, bad⟩
    · refine ⟨f, false, rfl, bad H1 s1, fun H2 s2 => ?_⟩
      walk_at "ss"
      refine KrE.r_mkE ?_
      walk_at "ss"
      exact rai_at (er.same (s1.trans s2))
    refine ⟨_, true, rfl, psr_pl (s1 _ _ hf0) (PF.same s1) (by omega), fun H2 s2 => ?_⟩
    have s02 := s1.trans s2
    walk_at "ss"
    rcases bad with ⟨rfl, bad⟩ | ⟨rfl, k, rfl, k0, no⟩
    · refine ⟨n, _, _, rfl, bad H2 s02, ?_⟩
      walk_at "ss"
      refine KrE.r_mkE ?_
      walk_at "ss"
      exact rai_at (er.same s02)
    refine ⟨_, _, true, rfl, .inl ⟨k, rfl, (decide_eq_true k0).symm⟩, ?_⟩
    have lu := PU.len
    have lf := PF.len
    have hu2 := s02 _ _ hu0
    have hf2 := s02 _ _ hf0
    walk_at "ss"
    refine r_catS (SqL.of hu2) (SqL.of hf2) (by omega) ?_
    refine r_newS fun l3 H3 n3 s3 e3 => ?_
    walk_at "ss"
    refine ⟨l3, _, us ++ fs, k, rfl, e3, ((PU.same s02).app (PF.same s02)).same s3, by rw [List.length_append]; omega, no, fun H4 s4 => ?_⟩
    walk_at "ss"
    refine KrE.r_mkE ?_
    walk_at "ss"
    exact rai_at (er.same (s02.trans (s3.trans s4)))
theorem ok__law_right {P : Program} {w : World} {K : PySem.W.Frag} {mg : Str → Option Value} {base : Heap} {f : Addr} {fd : FuncData} (F : FunD K "_law_right" "_law_right" (defArgs s__law_right) (defBody s__law_right) (defScope s__law_right) [] [] f fd) (hcd : fd.code = .ref (He.cT K ("_law_right", none)).1) (h__law_drawn : Kr.FnH P w K mg base CX0 3 "_law_drawn" ["source", "ahead"] (sp__law_drawn K)) (h__law_next : Kr.FnH P w K mg base CX0 1 "_law_next" ["source", "many"] (sp__law_next K)) (h__law_not_once : Kr.FnH P w K mg base CX0 2 "_law_not_once" ["source", "parts", "ahead"] (sp__law_not_once K)) (h__law_odd_places : Kr.FnH P w K mg base CX0 2 "_law_odd_places" ["source", "row"] (sp__law_odd_places K)) (lm__law_part : KrL.LamH P w K mg base "_law_part" (tt__law_part K)) (mk_Turn : Kr.MkH P w K mg base CX0 4 "Turn" (He.ga K "Turn") ["self", "used", "front", "fresh"] (sp_Turn___init__ K)) (mk_Turn__r : Kr.MkH P w K mg base (L2.CX P w) 4 "Turn" (He.ga K "Turn") ["self", "used", "front", "fresh"] (sp_Turn___init____r K)) (n_range : mg "range" = none) (n_repr : mg "repr" = none) (tb__law_right : LamX.TabB base mg (He.cT K ("_law_right", none)).1 (He.cT K ("_law_right", none)).2) (x_sys : (K.lookup sysModules).isSome = true) (x_tbu__law_right : ∀ p ∈ Tb K, p.1 = (He.cT K ("_law_right", none)).2 → p.2 = (("_law_right" : Str) ++ ".<locals>.") ++ "<lambda>") : KrG.FnOkG P w K mg base C8.CX0 8 f fd ["source"] (sp__law_right K) := by
  refine KrG.okG F sc__law_right (fun vs H Q E h => by first | (obtain ⟨rfl, _⟩ := h; rfl) | (obtain ⟨_, rfl, _⟩ := h; rfl) | (obtain ⟨_, _, rfl, _⟩ := h; rfl) | (obtain ⟨_, _, _, rfl, _⟩ := h; rfl) | (obtain ⟨_, _, _, _, rfl, _⟩ := h; rfl) | (obtain ⟨_, _, _, _, _, rfl, _⟩ := h; rfl) | (obtain ⟨_, _, _, _, _, _, rfl, _⟩ := h; rfl) | (obtain ⟨_, _, _, _, _, _, _, rfl, _⟩ := h; rfl) | (obtain ⟨_, _, _, _, _, _, _, _, rfl, _⟩ := h; rfl) | (obtain ⟨_, _, _, _, _, _, _, _, _, rfl, _⟩ := h; rfl) | (obtain ⟨_, _, _, _, _, _, _, _, _, _, rfl, _⟩ := h; rfl) | (obtain ⟨_, _, _, _, _, _, _, _, _, _, _, rfl, _⟩ := h; rfl) | (obtain ⟨_, _, _, _, _, _, _, _, _, _, _, _, rfl, _⟩ := h; rfl) | (obtain ⟨_, _, _, _, _, _, _, _, _, _, _, _, _, rfl, _⟩ := h; rfl) | (obtain ⟨_, _, _, _, _, _, _, _, _, _, _, _, _, _, rfl, _⟩ := h; rfl) | (obtain ⟨_, _, _, _, _, _, _, _, _, _, _, _, _, _, _, rfl, _⟩ := h; rfl) | (obtain ⟨_, _, _, _, _, _, _, _, _, _, _, _, _, _, _, _, rfl, _⟩ := h; rfl) | (obtain ⟨_, _, _, _, _, _, _, _, _, _, _, _, _, _, _, _, _, rfl, _⟩ := h; rfl)) (fun cdv A outer s H vs Q E hcv hgd hr h => ?_)
  · have hu := hu_of hr
    obtain rfl : cdv = _ := hcv.symm.trans hcd
    obtain ⟨s, rfl, sc, tb, q0⟩ := h
    refine ⟨_, PSs.nox (pss_cons (ps_set (i := 1) sc__law_right.nd rfl (.inl rfl) (Kr.pe_cl h__law_next (hr.mono (by decide)) (pa_cons (pv 0) (pa_cons pe_int pa_nil)))) (pss_cons (ps_set (i := 2) sc__law_right.nd rfl (.inr rfl) (Kr.pe_cl h__law_drawn (hr.mono (by decide)) (pa_cons (pv 0) (pa_cons (pv 1) pa_nil)))) (pss_cons (ps_if (pt_cmpR Kr.o_notN (KrL.pe_lam (T := Tb K) (k := 5) lm__law_part tb__law_right rfl (tbm__law_right K) x_tbu__law_right (hr.mono (by decide)) (LamX.lamS_by (sc := defScope s__law_right) (by decide +kernel)) (fun _ _ _ _ _ _ _ hl => (Kr.pe_mk mk_Turn (hl.mono (by decide)) (pa_cons (pe_ix (Kr.ix_tupK (K := K) rfl) (pv 2) pe_int (fun _ _ => rfl)) (pa_cons (pe_ix (Kr.ix_tupK (K := K) rfl) (pv 2) pe_int (fun _ _ => rfl)) (pa_cons (pe_ix (Kr.ix_tupK (K := K) rfl) (pv 2) pe_int (fun _ _ => rfl)) pa_nil)))))) pe_non (nomark _)) (pss_one (ps_ret pe_bl)) pss_nil) (pss_cons (ps_set (i := 3) sc__law_right.nd rfl (.inl rfl) (pe_ix ix_list (pe_lst (pa_cons (pe_un un_neg pe_int) (pa_cons pe_bl (pa_cons pe_non (pa_cons pe_str (pa_cons (pe_lst (pa_cons pe_int pa_nil)) (pa_cons (pe_tup (pa_cons pe_int pa_nil)) (pa_cons pe_dnewK (pa_cons pe_bl pa_nil))))))))) (Kr.pe_cl h__law_next (hr.mono (by decide)) (pa_cons (pv 0) (pa_cons pe_int pa_nil))) (fun _ _ => rfl))) (pss_cons (ps_set (i := 4) sc__law_right.nd rfl (.inr rfl) (pe_lst (pa_cons (Kr.pe_cl h__law_odd_places (hr.mono (by decide)) (pa_cons (pv 0) (pa_cons (pe_ix ix_tup (pv 2) pe_int (fun _ _ => rfl)) pa_nil))) (pa_cons (Kr.pe_cl h__law_odd_places (hr.mono (by decide)) (pa_cons (pv 0) (pa_cons (pe_ix ix_tup (pv 2) pe_int (fun _ _ => rfl)) pa_nil))) (pa_cons (pv 3) pa_nil))))) (pss_cons (ps_set (i := 5) sc__law_right.nd rfl (.inr rfl) (Kr.pe_cl h__law_next (hr.mono (by decide)) (pa_cons (pv 0) (pa_cons pe_int pa_nil)))) (pss_cons (ps_set (i := 6) sc__law_right.nd rfl (.inr rfl) (pe_op op_add (pv 5) (Kr.pe_cl h__law_next (hr.mono (by decide)) (pa_cons (pv 0) (pa_cons (pe_op op_sub pe_int (pv 5)) pa_nil))))) (pss_cons (ps_set (i := 7) sc__law_right.nd rfl (.inr rfl) (pe_lc (own := [("at", 12)]) rfl sc__law_right.nd (pi_range1 rfl n_range (pa_cons pe_int pa_nil)) (blkOk_by (own := [("at", 12)]) (N := N__law_right) (sc := defScope s__law_right) (by decide +kernel)) (fun _ _ _ _ _ => (pg_name (i := 12) sc__law_right.nd rfl (.inl rfl))) (fun _ _ _ _ _ => pts_nil) (fun _ _ _ _ _ => (pe_ifExp (pt_cmpR (KrL.op_inK (K := K) rfl) (pv 12) (pe_tup (pa_cons (pv 5) (pa_cons (pv 6) pa_nil))) (by rfl)) (pe_ix (Kr.ix_listK (K := K) rfl) (pv 4) (pv 12) (fun _ _ => rfl)) (pe_ix (Kr.ix_tupK (K := K) rfl) (pv 2) (pv 12) (fun _ _ => rfl)))))) (pss_cons (ps_set (i := 8) sc__law_right.nd rfl (.inl rfl) (pe_callB (id := "repr") (KrG.c_repr hgd hr.units x_sys) rfl n_repr (by decide +kernel) (pa_cons (pv 7) pa_nil))) (pss_cons (ps_if (PW.pt (pw_or (pt_cmpR op_ne (KrL.pe_lam (T := Tb K) (k := 5) lm__law_part tb__law_right rfl (tbm__law_right K) x_tbu__law_right (hr.mono (by decide)) (LamX.lamS_by (sc := defScope s__law_right) (by decide +kernel)) (fun _ _ _ _ _ _ _ hl => (KrL.pe_mkP mk_Turn__r (hl.mono (by decide)) (passes_call (takes_of rfl rfl rfl rfl) (fun _ _ _ _ h => h)) (pa_cons (pe_ix (Kr.ix_listK (K := K) rfl) (pv 7) pe_int (fun _ _ => rfl)) (pa_cons (pe_ix (Kr.ix_listK (K := K) rfl) (pv 7) pe_int (fun _ _ => rfl)) (pa_cons (pe_ix (Kr.ix_listK (K := K) rfl) (pv 7) pe_int (fun _ _ => rfl)) pa_nil)))))) (pe_ix ix_list (pe_lst (pa_cons pe_str (pa_cons pe_str (pa_cons pe_str pa_nil)))) (pv 5) (fun _ _ => rfl)) (nomark _)) (pw_or1 (pt_cmpR op_ne (pe_callB (id := "repr") (KrG.c_repr hgd hr.units x_sys) rfl n_repr (by decide +kernel) (pa_cons (pv 7) pa_nil)) (pv 8) (nomark _))))) (pss_one (ps_ret pe_bl)) pss_nil) (pss_cons (ps_asg (Kr.pe_cl h__law_not_once (hr.mono (by decide)) (pa_cons (pv 0) (pa_cons (pv 2) (pa_cons (pv 1) pa_nil)))) (pg_tup rfl (pgs_cons (pg_name (i := 9) sc__law_right.nd rfl (.inr rfl)) (pgs_cons (pg_name (i := 10) sc__law_right.nd rfl (.inr rfl)) (pgs_cons (pg_name (i := 11) sc__law_right.nd rfl (.inr rfl)) pgs_nil))))) (pss_one (ps_ret (pe_cmpR op_eq (KrL.pe_lam (T := Tb K) (k := 5) lm__law_part tb__law_right rfl (tbm__law_right K) x_tbu__law_right (hr.mono (by decide)) (LamX.lamS_by (sc := defScope s__law_right) (by decide +kernel)) (fun _ _ _ _ _ _ _ hl => (KrL.pe_mkP mk_Turn__r (hl.mono (by decide)) (passes_call (takes_of rfl rfl rfl rfl) (fun _ _ _ _ h => h)) (pa_cons (pv 9) (pa_cons (pv 10) (pa_cons (pv 11) pa_nil)))))) pe_str (nomark _))))))))))))))), ?_⟩
    rw [st__law_right]
    walk_at "ss"
    refine ⟨s, 6, rfl, sc, by decide, by decide, fun a H1 ha x1 => ?_⟩
    walk_at "ss"
    refine ⟨s, a, rfl, x1.sc, by omega, fun t pu pf vu vf T H2 x2 ht hU PU hF PF pm ta hn => ?_⟩
    have x02 := x1.trans x2
    have tb2 := tabs_sx tb sc x02
    have tl := pm.len
    have sc2 := x2.sc
    have bnd : ∀ p ∈ T.u ++ T.f, p.n < 10 ^ 40 := fun p hp => by
      have := pm.bd hp
      cases p with
      | use k =>
        have := mem_use.mp this
        show k < _
        omega
      | lst k =>
        have := mem_lst.mp this
        show k < _
        omega
    walk_at "ss"
    refine KrL.r_lam tb2 fun H3 x3 tb3 => ?_
    refine tt_at fun E1 hE => ?_
    have ht3 := x3 _ _ ht (fun _ z => by cases z)
    have hU3 := x3 _ _ hU (fun _ z => by cases z)
    have hF3 := x3 _ _ hF (fun _ z => by cases z)
    have PU3 := PU.xn x3
    have PF3 := PF.xn x3
    dsimp only
    walk_at "ss"
    intro z dz hz hdz nz
    have s6 : Same H3 (upd (upd H3 dz (.own z)) z (.ins (He.ga K "Turn") dz [])) := (same_new hdz).trans (same_new (by rw [upd_ne nz.symm]; exact hz))
    refine ⟨z, dz, pu, pf, vu, vf, T.u, T.f, T.n, T.a, rfl, upd_same, s6 _ _ hU3, PU3.same s6, s6 _ _ hF3, PF3.same s6, pm, by omega, by omega, fun R H4 okR eu ea eo ef en keep TA av => ⟨rfl, ?_⟩⟩
    have s34 : Same H3 H4 := fun b o e => keep b o (ne_of_none e hz) (s6 b o e)
    have x24 : ExtN H2 H4 := x3.trans (ExtN.of s34)
    have tb4 := tb3.ext s34
    have sc4 := sc2.xn x24
    have ht4 := x24 _ _ ht (fun _ z => by cases z)
    have hU4 := x24 _ _ hU (fun _ z => by cases z)
    have hF4 := x24 _ _ hF (fun _ z => by cases z)
    have PU4 := PU.xn x24
    have PF4 := PF.xn x24
    have bu4 : BuN s H H4 := (BuN.of_sx x02).xn x24
    clear TA av keep s6 eo
    walk_at "ss"
    refine ⟨rfl, ?_⟩
    rw [decide_eq_true rfl]
    walk_at "ss"
    refine r_newS fun o1 H5 n5 s5 e5 => ?_
    walk_at "ss"
    refine r_newS fun o2 H6 n6 s6 e6 => ?_
    walk_at "ss"
    refine r_newS fun o3 H7 n7 s7 e7 => ?_
    walk_at "ss"
    refine r_newS fun o4 H8 n8 s8 e8 => ?_
    have s48 := s5.trans (s6.trans (s7.trans s8))
    have sc8 := sc4.same s48
    have no4 : o4 ≠ s := ((sc4.same (s5.trans (s6.trans s7))).ne_free n8)
    walk_at "ss"
    refine ⟨s, 8, rfl, sc8, by decide, by decide, fun c9 H9 hc9 x9 => ?_⟩
    have f1 := x9.old _ _ (sc8.ne_ob (s8 _ _ (s7 _ _ (s6 _ _ e5))) (by intro d j z; cases z)) (s8 _ _ (s7 _ _ (s6 _ _ e5)))
    have f2 := x9.tup sc8 (s8 _ _ (s7 _ _ e6))
    have f3 := x9.old _ _ (sc8.ne_ob (s8 _ _ e7) (by intro d j z; cases z)) (s8 _ _ e7)
    have sc9 := x9.sc
    obtain ⟨wv, hw, bw, dw, tw⟩ : ∃ wv : V, atI [.int (-1), .bl true, .non, .str "0", .ref o1, .ref o2, .ref o3, .bl false] (c9 : Int) = some wv ∧ (∀ G, BuN s H9 G → FromV K G wv 0 false) ∧ ∃ d, ∀ G, BuN s H9 G → Tk G wv d 5 70000 := by
      rcases c9 with _ | _ | _ | _ | _ | _ | _ | _ | c9
      · exact ⟨_, rfl, fun G _ => int_low (by decide), _, fun G _ => (tk_int (by decide)).le (by omega) (by omega)⟩
      · exact ⟨_, rfl, fun G _ => ni_bl.from, .bool true, fun G _ => ⟨.bl _, rfl, by decide, by decide +kernel⟩⟩
      · exact ⟨_, rfl, fun G _ => ni_non.from, .none, fun G _ => ⟨.non, rfl, by decide, by decide +kernel⟩⟩
      · exact ⟨_, rfl, fun G _ => ni_str.from, .str "0", fun G _ => ⟨.str _, rfl, by simp [PyData.depth], by decide +kernel⟩⟩
      · exact ⟨_, rfl, fun G bu => (ni_lst (bu _ _ (sc9.ne_ob f1 (by intro d j z; cases z)) f1 (fun _ z => by cases z))).from, .list [.int 0], fun G bu => ⟨.lst (bu _ _ (sc9.ne_ob f1 (by intro d j z; cases z)) f1 (fun _ z => by cases z)) (.cons (.int 0) .nil), by decide +kernel, by decide, by decide +kernel⟩⟩
      · exact ⟨_, rfl, fun G bu => (ni_tup (bu _ _ (sc9.ne_ob f2 (by intro d j z; cases z)) f2 (fun _ z => by cases z))).from, .tuple [.int 1], fun G bu => ⟨.tup (bu _ _ (sc9.ne_ob f2 (by intro d j z; cases z)) f2 (fun _ z => by cases z)) (.cons (.int 1) .nil), by decide +kernel, by decide, by decide +kernel⟩⟩
      · exact ⟨_, rfl, fun G bu => (ni_dct (bu _ _ (sc9.ne_ob f3 (by intro d j z; cases z)) f3 (fun _ z => by cases z))).from, .dict [], fun G bu => ⟨.dct (bu _ _ (sc9.ne_ob f3 (by intro d j z; cases z)) f3 (fun _ z => by cases z)), rfl, by decide, by decide +kernel⟩⟩
      · exact ⟨_, rfl, fun G _ => ni_bl.from, .bool false, fun G _ => ⟨.bl _, rfl, by decide, by decide +kernel⟩⟩
      · omega
    refine r_ixL (SqL.of (x9.old _ _ no4 e8)) hw ?_
    have bu49 : BuN s H4 H9 := (BuN.of_sx (Sx.of sc4 s48)).trans (BuN.of_sx x9)
    have ht9 := bu49 _ _ (sc4.ne_ob ht4 (by intro d j z; cases z)) ht4 (fun _ z => by cases z)
    have hU9 := bu49 _ _ (sc4.ne_lst hU4 PU4.rf) hU4 (fun _ z => by cases z)
    have hF9 := bu49 _ _ (sc4.ne_lst hF4 PF4.rf) hF4 (fun _ z => by cases z)
    have PU9 := PU4.bn sc4 bu49
    have PF9 := PF4.bn sc4 bu49
    have tb9 := tabs_sx (tb4.ext s48) sc8 x9
    clear e5 e6 e7 e8 s5 s6 s7 s8 f1 f2 f3
    walk_at "ss"
    have lU : T.u.length ≤ 15 ∧ T.f.length ≤ 15 := by omega
    refine ⟨s, pu, vu, T.u, rfl, sc9, hU9, PU9, lU.1, fun p hp => bnd p (List.mem_append.mpr (.inl hp)), fun v0 H10 x10 od0 => ?_⟩
    have ht10 := x10.tup sc9 ht9
    have hF10 := x10.lst sc9 hF9 PF9.rf
    have PF10 := PF9.sx sc9 x10
    walk_at "ss"
    refine ⟨s, pf, vf, T.f, rfl, x10.sc, hF10, PF10, lU.2, fun p hp => bnd p (List.mem_append.mpr (.inr hp)), fun v1 H11 x11 od1 => ?_⟩
    walk_at "ss"
    refine r_newS fun lb H12 n12 s12 e12 => ?_
    have sc12 := x11.sc.same s12
    have nlb : lb ≠ s := x11.sc.ne_free n12
    walk_at "ss"
    refine ⟨s, 3, rfl, sc12, by decide, by decide, fun c1 H13 hc1 x13 => ?_⟩
    walk_at "ss"
    rw [show (3 : Int) - (c1 : Int) = ((3 - c1 : Nat) : Int) by omega]
    refine ⟨s, 3 - c1, rfl, x13.sc, by omega, by omega, fun c2 H14 hc2 x14 => ?_⟩
    have sc14 := x14.sc
    have b1214 : BuN s H12 H14 := (BuN.of_sx x13).trans (BuN.of_sx x14)
    have e14 := b1214 _ _ nlb e12 (fun _ z => by cases z)
    have bu1014 : BuN s H10 H14 := ((BuN.of_sx x11).xn (ExtN.of s12)).trans b1214
    have bu1114 : BuN s H11 H14 := (BuN.of_sx (Sx.of x11.sc s12)).trans b1214
    have bu914 : BuN s H9 H14 := (BuN.of_sx x10).trans bu1014
    have ht14 := bu914 _ _ (sc9.ne_ob ht9 (by intro d j z; cases z)) ht9 (fun _ z => by cases z)
    have hU14 := bu914 _ _ (sc9.ne_lst hU9 PU9.rf) hU9 (fun _ z => by cases z)
    have hF14 := bu914 _ _ (sc9.ne_lst hF9 PF9.rf) hF9 (fun _ z => by cases z)
    have PU14 := PU9.bn sc9 bu914
    have PF14 := PF9.bn sc9 bu914
    have tb14 := tabs_sx (tabs_sx ((tabs_sx (tabs_sx tb9 sc9 x10) x10.sc x11).ext s12) sc12 x13) x13.sc x14
    clear ht9 hU9 hF9 PU9 PF9 ht10 hF10 PF10 e12
    walk_at "ss"
    intro D hD
    obtain ⟨g, hg⟩ : ∃ g : Nat → Bool, ∀ k, g k = inV (V.int (0 + (k : Int))) [V.int (c1 : Int), V.int ((c1 : Int) + (c2 : Int))] := ⟨fun k => _, fun k => rfl⟩
    obtain ⟨y, hy⟩ : ∃ y : Nat → V, ∀ k, y k = if g k = true then [v0, v1, wv].getD k .non else [V.ref pu, .ref pf, .int T.n].getD k .non := ⟨fun k => _, fun k => rfl⟩
    refine lc_rangeS (n := 3) [some (.ref s), some (.int a), some (.ref t), some wv, some (.ref lb), some (.int c1), some (.int ((c1 : Int) + (c2 : Int))), none, none, none, none, none, none] rfl (fun i H15 => Same H14 H15 ∧ H15 D = some (.lst ((List.range i).map y))) ⟨same_new hD, upd_same⟩ ?_ ?_
    · rintro i H15 hi ⟨s15, e15⟩
      have hi3 : i < 3 := hi
      have e14' := s15 _ _ e14
      have ht15 := s15 _ _ ht14
      walk_at "ss"
      refine ⟨rfl, ?_⟩
      walk_at "ss"
      refine r_newS fun p16 H16 n16 s16 e16 => ?_
      have e16' := s16 _ _ e14'
      have ht16 := s16 _ _ ht15
      refine ⟨p16, _, rfl, .inr (SqT.of e16), rfl, rfl, ?_⟩
      have fin : ∃ acc, H16 D = some (.lst acc) ∧ acc.length < sizeLine ∧ Same H14 (upd H16 D (.lst (acc ++ [y i]))) ∧ upd H16 D (.lst (acc ++ [y i])) D = some (.lst ((List.range (i + 1)).map y)) :=
        ⟨_, s16 _ _ e15, by rw [List.length_map, List.length_range]; exact szl (by omega), up_same s15 s16 hD, by rw [upd_same, List.range_succ, List.map_append]; rfl⟩
      have gi := hg i
      have yi := hy i
      rw [show (if false = true then !inV (V.int (0 + (i : Int))) [V.int (c1 : Int), V.int ((c1 : Int) + (c2 : Int))] else inV (V.int (0 + (i : Int))) [V.int (c1 : Int), V.int ((c1 : Int) + (c2 : Int))]) = g i from gi.symm]
      by_cases z : g i = true
      · rw [if_pos z] at yi
        rw [z]
        walk_at "ss"
        refine r_ixL (SqL.of e16') (at_of (j := i) (by omega) (show [v0, v1, wv][i]? = some (y i) from ?_)) ?_
        · rw [yi]
          rcases i with _ | _ | _ | i
          · rfl
          · rfl
          · rfl
          · omega
        exact fin
      · rw [if_neg z] at yi
        rw [Bool.eq_false_iff.mpr z]
        walk_at "ss"
        refine r_ixT (SqT.of ht16) (at_of (j := i) (by omega) (show [V.ref pu, .ref pf, .int T.n][i]? = some (y i) from ?_)) ?_
        · rw [yi]
          rcases i with _ | _ | _ | i
          · rfl
          · rfl
          · rfl
          · omega
        exact fin
    rintro H15 ⟨s15, e15⟩
    have eD : H15 D = some (.lst [y 0, y 1, y 2]) := e15
    have sc15 := sc14.same s15
    have tb15 := tb14.ext s15
    have nDs : D ≠ s := sc14.ne_free hD
    have bu15 : BuN s H14 H15 := BuN.of_sx (Sx.of sc14 s15)
    have gs : (c1 = 0 ∧ g 0 = true) ∨ (c1 = 1 ∧ g 0 = false ∧ g 1 = true) ∨ (c1 = 2 ∧ g 0 = false ∧ g 1 = false ∧ g 2 = true) := by
      rw [hg, hg, hg]
      rcases (show (c1 = 0 ∧ c2 = 0) ∨ (c1 = 0 ∧ c2 = 1) ∨ (c1 = 0 ∧ c2 = 2) ∨ (c1 = 1 ∧ c2 = 0) ∨ (c1 = 1 ∧ c2 = 1) ∨ (c1 = 2 ∧ c2 = 0) by omega) with ⟨rfl, rfl⟩ | ⟨rfl, rfl⟩ | ⟨rfl, rfl⟩ | ⟨rfl, rfl⟩ | ⟨rfl, rfl⟩ | ⟨rfl, rfl⟩
      · exact .inl ⟨rfl, by decide +kernel⟩
      · exact .inl ⟨rfl, by decide +kernel⟩
      · exact .inl ⟨rfl, by decide +kernel⟩
      · exact .inr (.inl ⟨rfl, by decide +kernel, by decide +kernel⟩)
      · exact .inr (.inl ⟨rfl, by decide +kernel, by decide +kernel⟩)
      · exact .inr (.inr ⟨rfl, by decide +kernel, by decide +kernel, by decide +kernel⟩)
    have y0 := hy 0
    have y1 := hy 1
    have y2 := hy 2
    have eU : ∀ G, BuN s H14 G → G pu = some (.lst vu) := fun G bu => bu _ _ (sc14.ne_lst hU14 PU14.rf) hU14 (fun _ z => by cases z)
    have eF : ∀ G, BuN s H14 G → G pf = some (.lst vf) := fun G bu => bu _ _ (sc14.ne_lst hF14 PF14.rf) hF14 (fun _ z => by cases z)
    have lvu := PU14.len
    have lvf := PF14.len
    obtain ⟨w, hw1, bad⟩ : ∃ w : Str, atI [V.str "used", .str "front", .str "fresh"] (c1 : Int) = some (.str w) ∧ ∀ G, BuN s H14 G → BadA K G (y 0) (y 1) (y 2) w := by
      rcases gs with ⟨rfl, g0⟩ | ⟨rfl, g0, g1⟩ | ⟨rfl, g0, g1, g2⟩
      · rw [if_pos g0] at y0
        refine ⟨"used", rfl, fun G bu => .inl ⟨rfl, ?_⟩⟩
        rw [y0]
        exact od0.1 G (bu1014.trans bu)
      · rw [if_neg (by rw [g0]; decide)] at y0
        rw [if_pos g1] at y1
        refine ⟨"front", rfl, fun G bu => .inr ⟨pu, vu, T.u, y0, eU G bu, PU14.bn sc14 bu, by omega, .inl ⟨rfl, fun H' s' => ?_⟩⟩⟩
        rw [y1]
        exact od1.1 H' (bu1114.trans (bu.xn (ExtN.of s')))
      · rw [if_neg (by rw [g0]; decide)] at y0
        rw [if_neg (by rw [g1]; decide)] at y1
        rw [if_pos g2] at y2
        refine ⟨"fresh", rfl, fun G bu => .inr ⟨pu, vu, T.u, y0, eU G bu, PU14.bn sc14 bu, by omega, .inr ⟨pf, vf, T.f, y1, eF G bu, PF14.bn sc14 bu, by omega, .inl ⟨rfl, fun H' s' => ?_⟩⟩⟩⟩
        rw [y2]
        exact bw H' (bu914.trans (bu.xn (ExtN.of s')))
    have zle : ∀ n : Nat, n ≤ 15 → n * (4000 + 2) + 2 ≤ 70000 := fun n hn => by
      have := Nat.mul_le_mul_right (4000 + 2) hn
      omega
    obtain ⟨d0, td0⟩ : ∃ d, ∀ G, BuN s H14 G → Tk G (y 0) d 5 70000 := by
      by_cases z : g 0 = true
      · rw [if_pos z] at y0
        obtain ⟨d, hd⟩ := od0.2
        exact ⟨d, fun G bu => by rw [y0]; exact hd G (bu1014.trans bu)⟩
      · rw [if_neg z] at y0
        refine ⟨.list (T.u.map plD), fun G bu => ?_⟩
        rw [y0]
        exact (Tk.lst (eU G bu) (tk_pls (PU14.bn sc14 bu) (fun p hp => bnd p (List.mem_append.mpr (.inl hp))))).le (by omega) (zle _ (by omega))
    obtain ⟨d1, td1⟩ : ∃ d, ∀ G, BuN s H14 G → Tk G (y 1) d 5 70000 := by
      by_cases z : g 1 = true
      · rw [if_pos z] at y1
        obtain ⟨d, hd⟩ := od1.2
        exact ⟨d, fun G bu => by rw [y1]; exact hd G (bu1114.trans bu)⟩
      · rw [if_neg z] at y1
        refine ⟨.list (T.f.map plD), fun G bu => ?_⟩
        rw [y1]
        exact (Tk.lst (eF G bu) (tk_pls (PF14.bn sc14 bu) (fun p hp => bnd p (List.mem_append.mpr (.inr hp))))).le (by omega) (zle _ (by omega))
    obtain ⟨d2, td2⟩ : ∃ d, ∀ G, BuN s H14 G → Tk G (y 2) d 5 70000 := by
      by_cases z : g 2 = true
      · rw [if_pos z] at y2
        exact ⟨dw, fun G bu => by rw [y2]; exact tw G (bu914.trans bu)⟩
      · rw [if_neg z] at y2
        refine ⟨.int (T.n : Int), fun G bu => ?_⟩
        rw [y2]
        exact (tk_int (i := (T.n : Int)) (by omega)).le (by omega) (by omega)
    have rep : ∀ (G : Hp) (R : VK), BuN s H14 G → G D = some (.lst [y 0, y 1, y 2]) → R (.str (PyData.list [d0, d1, d2]).shown) G → KrG.rRep [.ref D] G R := fun G R bu e r => by
      have tk := Tk.lst e (.cons (td0 G bu) (.cons (td1 G bu) (.cons (td2 G bu) .nil)))
      exact KrG.r_rep tk.r tk.s (Nat.le_trans tk.p (by decide)) (Nat.le_trans tk.z (by rw [sizeLine_eq]; show 3 * (70000 + 2) + 2 ≤ 16777216; decide)) r
    clear td0 td1 td2 y0 y1 y2 od0 od1 bw tw
    walk_at "ss"
    refine rep _ _ bu15 eD ?_
    walk_at "ss"
    refine KrL.r_lam tb15 fun H16 x16 tb16 => ?_
    refine tt_at fun E2 hE2 => ?_
    have eD16 := x16 _ _ eD (fun _ z => by cases z)
    have bu16 := bu15.xn x16
    have sc16 := sc15.xn x16
    dsimp only
    walk_at "ss"
    intro x dx hx hdx ne
    have k6 : Same H16 (upd (upd H16 dx (.own x)) x (.ins (He.ga K "Turn") dx [])) := (same_new hdx).trans (same_new (by rw [upd_ne ne.symm]; exact hx))
    refine ⟨x, y 0, y 1, y 2, w, rfl, bad _ (bu16.xn (ExtN.of k6)), (hE2 w fun H17 s17 => ?_).same k6⟩
    clear k6
    have bu17 := bu16.xn (ExtN.of s17)
    have eD17 := s17 _ _ eD16
    have sc17 := sc16.same s17
    have tb17 := tb16.ext s17
    walk_at "ss"
    refine r_newS fun l18 H18 n18 s18 e18 => ?_
    walk_at "ss"
    refine r_ixL (SqL.of e18) hw1 ?_
    walk_at "ss"
    rw [decide_eq_true rfl]
    have bu18 := bu17.xn (ExtN.of s18)
    have eD18 := s18 _ _ eD17
    have sc18 := sc17.same s18
    have tb18 := tb17.ext s18
    walk_at "ss"
    refine rep _ _ bu18 eD18 ?_
    walk_at "ss"
    rw [decide_eq_true rfl]
    have ht18 := bu18 _ _ (sc14.ne_ob ht14 (by intro d j z; cases z)) ht14 (fun _ z => by cases z)
    have hU18 := eU _ bu18
    have hF18 := eF _ bu18
    have PU18 := PU14.bn sc14 bu18
    have PF18 := PF14.bn sc14 bu18
    walk_at "ss"
    refine ⟨s, t, pu, pf, vu, vf, T, by rw [ta], sc18, ht18, hU18, PU18, hF18, PF18, pm, by omega, hn, fun t' H19 x19 BT19 => ?_⟩
    obtain ⟨pu', pf', vu', vf', us, fs, k, q1, q2, q3, q4, q5, c40, d40, k0, no, -, -⟩ := BT19.ex
    have tb19 := tabs_sx tb18 sc18 x19
    walk_at "ss"
    refine KrL.r_lam tb19 fun H20 x20 tb20 => ?_
    refine tt_at fun E3 hE3 => ?_
    dsimp only
    walk_at "ss"
    intro x dx hx hdx ne
    have k6 : Same H20 (upd (upd H20 dx (.own x)) x (.ins (He.ga K "Turn") dx [])) := (same_new hdx).trans (same_new (by rw [upd_ne ne.symm]; exact hx))
    have k26 : ExtN H19 (upd (upd H20 dx (.own x)) x (.ins (He.ga K "Turn") dx [])) := x20.trans (ExtN.of k6)
    refine ⟨x, .ref pu', .ref pf', .int k, "places", rfl, .inr ⟨pu', vu', us, rfl, k26 _ _ q2 (fun _ z => by cases z), q3.xn k26, by omega, .inr ⟨pf', vf', fs, rfl, k26 _ _ q4 (fun _ z => by cases z), q5.xn k26, by omega, .inr ⟨rfl, k, rfl, k0, no⟩⟩⟩, (hE3 "places" fun H21 s21 => ?_).same k6⟩
    walk_at "ss"
    have x1921 : ExtN H19 H21 := x20.trans (ExtN.of s21)
    exact q0 H21 (((((bu4.trans bu49).trans bu914).trans bu18).trans (BuN.of_sx x19)).xn x1921) (x19.sc.xn x1921) (tb20.ext s21)
theorem ok_law {P : Program} {w : World} {K : PySem.W.Frag} {mg : Str → Option Value} {base : Heap} {f : Addr} {fd : FuncData} (F : FunD K "law" "law" (defArgs s_law) (defBody s_law) (defScope s_law) [] [] f fd) (h__law_digits : Kr.FnH P w K mg base CX0 1 "_law_digits" ["cell", "many"] (sp__law_digits K)) (h__law_right : KrG.FnHG P w K mg base C8.CX0 8 "_law_right" ["source"] (sp__law_right K)) (n_len : mg "len" = none) (n_range : mg "range" = none) : KrG.FnOkG P w K mg base C8.CX0 9 f fd ["script"] (sp_law K) := by
  refine KrG.okG F sc_law (fun vs H Q E h => by first | (obtain ⟨rfl, _⟩ := h; rfl) | (obtain ⟨_, rfl, _⟩ := h; rfl) | (obtain ⟨_, _, rfl, _⟩ := h; rfl) | (obtain ⟨_, _, _, rfl, _⟩ := h; rfl) | (obtain ⟨_, _, _, _, rfl, _⟩ := h; rfl) | (obtain ⟨_, _, _, _, _, rfl, _⟩ := h; rfl) | (obtain ⟨_, _, _, _, _, _, rfl, _⟩ := h; rfl) | (obtain ⟨_, _, _, _, _, _, _, rfl, _⟩ := h; rfl) | (obtain ⟨_, _, _, _, _, _, _, _, rfl, _⟩ := h; rfl) | (obtain ⟨_, _, _, _, _, _, _, _, _, rfl, _⟩ := h; rfl) | (obtain ⟨_, _, _, _, _, _, _, _, _, _, rfl, _⟩ := h; rfl) | (obtain ⟨_, _, _, _, _, _, _, _, _, _, _, rfl, _⟩ := h; rfl) | (obtain ⟨_, _, _, _, _, _, _, _, _, _, _, _, rfl, _⟩ := h; rfl) | (obtain ⟨_, _, _, _, _, _, _, _, _, _, _, _, _, rfl, _⟩ := h; rfl) | (obtain ⟨_, _, _, _, _, _, _, _, _, _, _, _, _, _, rfl, _⟩ := h; rfl) | (obtain ⟨_, _, _, _, _, _, _, _, _, _, _, _, _, _, _, rfl, _⟩ := h; rfl) | (obtain ⟨_, _, _, _, _, _, _, _, _, _, _, _, _, _, _, _, rfl, _⟩ := h; rfl) | (obtain ⟨_, _, _, _, _, _, _, _, _, _, _, _, _, _, _, _, _, rfl, _⟩ := h; rfl)) (fun cdv A outer s H vs Q E hcv hgd hr h => ?_)
  · have hu := hu_of hr
    obtain ⟨a, ns, rfl, hS, hl, tb, q0⟩ := h
    refine ⟨_, PSs.nox (pss_cons (ps_for PassesOwn.never rfl (pi_list (pe_op Kr.op_catS (pe_slice sl_list (pv 0) po_none (po_some pe_int)) (pe_slice sl_list (pe_lst (pa_cons pe_int pa_nil)) (po_some (pe_callB (id := "len") Kr.c_len rfl n_len (by decide +kernel) (pa_cons (pv 0) pa_nil))) po_none))) (pg_name (i := 1) sc_law.nd rfl (.inl rfl)) (pss_cons (ps_set (i := 2) sc_law.nd rfl (.inl rfl) (pe_lst (pa_cons (Kr.pe_cl h__law_digits (hr.mono (by decide)) (pa_cons (pv 1) (pa_cons pe_int pa_nil))) (pa_cons pe_int pa_nil)))) (pss_one (ps_for PassesOwn.never rfl (pi_range1 rfl n_range (pa_cons pe_int pa_nil)) (pg_name (i := 3) sc_law.nd rfl (.inl rfl)) (pss_one (ps_if (pt_not (pt_val (KrG.pe_clG h__law_right hgd (hr.mono (by decide)) (pa_cons (pv 2) pa_nil)))) (pss_one (ps_ret pe_bl)) pss_nil)))))) (pss_one (ps_ret pe_bl))), ?_⟩
    rw [st_law]
    walk_at "ss"
    refine r_newS fun l1 H1 n1 s1 e1 => ?_
    have hS1 := s1.seq hS
    walk_at "ss"
    refine r_newS fun l2 H2 n2 s2 e2 => ?_
    have hS2 := s2.seq hS1
    walk_at "ss"
    refine r_newS fun l3 H3 n3 s3 e3 => ?_
    refine r_catS (SqL.of (s3 _ _ (s2 _ _ e1))) (SqL.of e3) (Nat.le_trans (Nat.add_le_add (cut_len _ _ _) (cut_len _ _ _)) (by rw [List.length_map]; simp; omega)) ?_
    refine r_newS fun l4 H4 n4 s4 e4 => ?_
    generalize hxs : cutV (ns.map V.int) _ _ ++ cutV [V.int 19] _ _ = xs at e4
    have allI : ∀ x ∈ xs, ∃ c : Int, x = V.int c := fun x hx => by
      rw [← hxs] at hx
      rcases List.mem_append.mp hx with hx | hx
      · obtain ⟨c, _, e⟩ := List.mem_map.mp (cut_mem hx)
        exact ⟨c, e.symm⟩
      · exact ⟨19, List.mem_singleton.mp (cut_mem hx)⟩
    have tb4 := tb.ext (s1.trans (s2.trans (s3.trans s4)))
    walk_at "ss"
    refine r_forL (xs := xs) (fun i σ H' => ∃ y1 y2 y3 : Option V, σ = [some (.ref a), y1, y2, y3] ∧ ExtN H4 H' ∧ Tabs (Tb K) H') ⟨_, _, _, rfl, ExtN.refl _, tb4⟩ (fun i σ H' hi ⟨y1, y2, y3, _, x5, _⟩ => SqL.of (x5 _ _ e4 (fun _ z => by cases z))) ?_ ?_
    · rintro i x σ H5 hx ⟨y1, y2, y3, rfl, x5, tb5⟩
      obtain ⟨c, rfl⟩ := allI x (List.mem_of_getElem? hx)
      walk_at "ss"
      refine ⟨c, 300, rfl, by decide, fun p H6 ds s6 n6 e6 h6 b6 => ?_⟩
      walk_at "ss"
      refine r_newS fun t H7 n7 s7 e7 => ?_
      have sc7 : Sc H7 t := ⟨p, ds, 0, e7, s7 _ _ e6, by omega, by omega, b6⟩
      walk_at "ss"
      refine r_forR (fun i σ H' => ∃ y3 : Option V, σ = [some (.ref a), some (.int c), some (.ref t), y3] ∧ Sc H' t ∧ Tabs (Tb K) H' ∧ BuN t H7 H') ⟨_, rfl, sc7, tb5.ext (s6.trans s7), fun _ _ _ e _ => e⟩ ?_ ?_
      · rintro i σ H8 hi ⟨y3, rfl, sc8, tb8, k8⟩
        walk_at "ss"
        refine ⟨t, rfl, sc8, tb8, fun H9 b9 sc9 tb9 => ?_⟩
        walk_at "ss"
        exact ⟨_, rfl, sc9, tb9, k8.trans b9⟩
      rintro σ H8 ⟨y3, rfl, sc8, tb8, k8⟩
      walk_at "ss"
      exact ⟨_, _, _, rfl, fun b o e z => k8 b o (ne_of_none (s6 _ _ (x5 b o e z)) n7) (s7 _ _ (s6 _ _ (x5 b o e z))) z, tb8⟩
    · rintro σ H5 ⟨y1, y2, y3, rfl, x5, tb5⟩
      walk_at "ss"
      exact q0 _
def d_InvalidArgument___init__ : He.DefD := ⟨("InvalidArgument", some "__init__"), "__init__", "InvalidArgument.__init__", defArgs s_InvalidArgument___init__, defBody s_InvalidArgument___init__, defScope s_InvalidArgument___init__, [], []⟩
def d_is_from : He.DefD := ⟨("is_from", none), "is_from", "is_from", defArgs s_is_from, defBody s_is_from, defScope s_is_from, [], []⟩
def d_is_place : He.DefD := ⟨("is_place", none), "is_place", "is_place", defArgs s_is_place, defBody s_is_place, defScope s_is_place, [], []⟩
def d_are_places : He.DefD := ⟨("are_places", none), "are_places", "are_places", defArgs s_are_places, defBody s_are_places, defScope s_are_places, [], []⟩
def d_are_once : He.DefD := ⟨("are_once", none), "are_once", "are_once", defArgs s_are_once, defBody s_are_once, defScope s_are_once, [], []⟩
def d_Turn___init__ : He.DefD := ⟨("Turn", some "__init__"), "__init__", "Turn.__init__", defArgs s_Turn___init__, defBody s_Turn___init__, defScope s_Turn___init__, [], []⟩
def d_Turn___eq__ : He.DefD := ⟨("Turn", some "__eq__"), "__eq__", "Turn.__eq__", defArgs s_Turn___eq__, defBody s_Turn___eq__, defScope s_Turn___eq__, [], []⟩
def d_Turn_used : He.DefD := ⟨("Turn", some "used"), "used", "Turn.used", defArgs s_Turn_used, defBody s_Turn_used, defScope s_Turn_used, [], []⟩
def d_Turn_front : He.DefD := ⟨("Turn", some "front"), "front", "Turn.front", defArgs s_Turn_front, defBody s_Turn_front, defScope s_Turn_front, [], []⟩
def d_Turn_fresh : He.DefD := ⟨("Turn", some "fresh"), "fresh", "Turn.fresh", defArgs s_Turn_fresh, defBody s_Turn_fresh, defScope s_Turn_fresh, [], []⟩
def d_Turn_ahead : He.DefD := ⟨("Turn", some "ahead"), "ahead", "Turn.ahead", defArgs s_Turn_ahead, defBody s_Turn_ahead, defScope s_Turn_ahead, [], []⟩
def d_Turn_behind : He.DefD := ⟨("Turn", some "behind"), "behind", "Turn.behind", defArgs s_Turn_behind, defBody s_Turn_behind, defScope s_Turn_behind, [], []⟩
def d__law_digits : He.DefD := ⟨("_law_digits", none), "_law_digits", "_law_digits", defArgs s__law_digits, defBody s__law_digits, defScope s__law_digits, [], []⟩
def d__law_next : He.DefD := ⟨("_law_next", none), "_law_next", "_law_next", defArgs s__law_next, defBody s__law_next, defScope s__law_next, [], []⟩
def d__law_mixed : He.DefD := ⟨("_law_mixed", none), "_law_mixed", "_law_mixed", defArgs s__law_mixed, defBody s__law_mixed, defScope s__law_mixed, [], []⟩
def d__law_drawn : He.DefD := ⟨("_law_drawn", none), "_law_drawn", "_law_drawn", defArgs s__law_drawn, defBody s__law_drawn, defScope s__law_drawn, [], []⟩
def d__law_part : He.DefD := ⟨("_law_part", none), "_law_part", "_law_part", defArgs s__law_part, defBody s__law_part, defScope s__law_part, [], []⟩
def d__law_odd_places : He.DefD := ⟨("_law_odd_places", none), "_law_odd_places", "_law_odd_places", defArgs s__law_odd_places, defBody s__law_odd_places, defScope s__law_odd_places, [], []⟩
def d__law_not_once : He.DefD := ⟨("_law_not_once", none), "_law_not_once", "_law_not_once", defArgs s__law_not_once, defBody s__law_not_once, defScope s__law_not_once, [], []⟩
def d_are_once__r : He.DefD := ⟨("are_once", none), "are_once", "are_once", defArgs s_are_once__r, defBody s_are_once__r, defScope s_are_once__r, [], []⟩
def d_is_from__r : He.DefD := ⟨("is_from", none), "is_from", "is_from", defArgs s_is_from__r, defBody s_is_from__r, defScope s_is_from__r, [], []⟩
def d_is_place__r : He.DefD := ⟨("is_place", none), "is_place", "is_place", defArgs s_is_place__r, defBody s_is_place__r, defScope s_is_place__r, [], []⟩
def d_are_places__r : He.DefD := ⟨("are_places", none), "are_places", "are_places", defArgs s_are_places__r, defBody s_are_places__r, defScope s_are_places__r, [], []⟩
def d_Turn___init____r : He.DefD := ⟨("Turn", some "__init__"), "__init__", "Turn.__init__", defArgs s_Turn___init____r, defBody s_Turn___init____r, defScope s_Turn___init____r, [], []⟩
def d__law_right : He.DefD := ⟨("_law_right", none), "_law_right", "_law_right", defArgs s__law_right, defBody s__law_right, defScope s__law_right, [], []⟩
def d_law : He.DefD := ⟨("law", none), "law", "law", defArgs s_law, defBody s_law, defScope s_law, [], []⟩
def fn : List He.DefD := [d_InvalidArgument___init__, d_is_from, d_is_place, d_are_places, d_are_once, d_Turn___init__, d_Turn___eq__, d_Turn_used, d_Turn_front, d_Turn_fresh, d_Turn_ahead, d_Turn_behind, d__law_digits, d__law_next, d__law_mixed, d__law_drawn, d__law_part, d__law_odd_places, d__law_not_once, d_are_once__r, d_is_from__r, d_is_place__r, d_are_places__r, d_Turn___init____r, d__law_right, d_law]
def fa : List He.Fa := [.noat "Turn" "_ahead", .noat "Turn" "_fresh", .noat "Turn" "_front", .noat "Turn" "_goals", .noat "Turn" "_used", .cls "Turn", .glo "InvalidArgument", .glo "Turn", .free "all", .free "bool", .free "enumerate", .free "int", .free "isinstance", .free "len", .free "list", .free "range", .free "repr", .free "sorted", .free "str", .free "tuple", .meth "InvalidArgument" "__init__", .glo "is_from", .glo "is_place", .glo "are_places", .glo "are_once", .mkr "Turn", .meth "Turn" "__eq__", .meth "Turn" "used", .meth "Turn" "front", .meth "Turn" "fresh", .meth "Turn" "ahead", .meth "Turn" "behind", .glo "_law_digits", .glo "_law_next", .glo "_law_mixed", .glo "_law_drawn", .glo "_law_part", .glo "_law_odd_places", .glo "_law_not_once", .glo "_law_right", .glo "law"]
def exs : List (PySem.W.Frag → Bool) := [fun K => Kr.insB K (He.ga K "Turn"), fun K => decide (PySem.W.exmOne K (.ref (He.ga K "InvalidArgument")) (.ref (He.ga K "InvalidArgument")) = some true), fun K => KrE.errB K (He.ga K "InvalidArgument"), fun K => decide (PySem.W.findIn K (.ref (He.ga K "InvalidArgument")) "part" = some none), fun K => (K.lookup sysModules).isSome, fun K => (Tb K).all fun p => !decide (p.1 = (He.cT K ("_law_right", none)).2) || decide (p.2 = (("_law_right" : Str) ++ ".<locals>.") ++ "<lambda>"), fun K => decide (PySem.W.takerIn K (He.ga K "InvalidArgument") "part" = some none), fun K => xfB K (He.ga K "InvalidArgument")]
def ex (K : PySem.W.Frag) : Bool := exs.all fun e => e K
theorem ex_at {K : PySem.W.Frag} (i : Nat) (h : ex K = true) {e : PySem.W.Frag → Bool} (hi : exs[i]? = some e := by rfl) : e K = true := Kr.ex_all h i hi
def tf : List He.Defn := [("_law_right", none)]
abbrev hk : PySem.W.Hook := KrG.hookS 8 fa fn tf ex
def ob (s : PySem.W.SharedT) : He.AlX := KrG.obsS 8 fa fn tf ex (HandSHeadRun.getT s)
theorem ob_eq (s : PySem.W.SharedT) : ob s = hk.obs s.abs := KrG.obsS_eq (HandSHeadRun.getT_eq s)
abbrev R0 : PySem.W.OpenRow := PySem.W.OpenLaw.row PySem.Challenge.rw_keeprows_k22_what_is_no_turn
def loose : List Str := ["_wall", "StoreError", "InvalidArgument", "is_from", "is_place", "are_places", "are_once", "Turn", "_law_digits", "_law_next", "_law_mixed", "_law_drawn", "_law_part", "_law_odd_places", "_law_not_once", "_law_right"]
theorem runs (w : World) : HandSHeadRun.RunEq R0 (PySem.W.view R0.prog [20]) hk ob 6000 loose w := by
  intro os
  kernel_rfl
theorem facts {P : Program} {w : World} {K : PySem.W.Frag} {h : Heap} {mg : Str → Option Value} {f : Addr} (X : K.In h) (G : h.Ns mainGlobals mg) (hfa : mg ("law" : Str) = some (.ref f)) (c : He.SaysD fa fn K) (e : ex K = true) :
    ∃ fd : FuncData, (∀ (s : Shared) (v : Value), BindsTo s fd ⟨[v], []⟩ [("script", v)]) ∧ ∀ base : Heap, K.In base → base.Ns mainGlobals mg → (∀ p ∈ tf.map (He.cT K), LamX.TabB base mg p.1 p.2) → KrG.FnOkG P w K mg base C8.CX0 9 f fd ["script"] (sp_law K) := by
  have a_Turn__ahead : NoAttr K (He.ga K "Turn") "_ahead" := He.noat_ok (c.fact 0 (f := .noat "Turn" "_ahead") rfl)
  have a_Turn__fresh : NoAttr K (He.ga K "Turn") "_fresh" := He.noat_ok (c.fact 1 (f := .noat "Turn" "_fresh") rfl)
  have a_Turn__front : NoAttr K (He.ga K "Turn") "_front" := He.noat_ok (c.fact 2 (f := .noat "Turn" "_front") rfl)
  have a_Turn__goals : NoAttr K (He.ga K "Turn") "_goals" := He.noat_ok (c.fact 3 (f := .noat "Turn" "_goals") rfl)
  have a_Turn__used : NoAttr K (He.ga K "Turn") "_used" := He.noat_ok (c.fact 4 (f := .noat "Turn" "_used") rfl)
  have c_Turn : Cls K (He.ga K "Turn") := He.cls_ok (c.fact 5 (f := .cls "Turn") rfl)
  have i_Turn : Kr.InsI K (He.ga K "Turn") := Kr.insB_ok (He.cls_ok (c.fact 5 (f := .cls "Turn") rfl)) (ex_at 0 e)
  have k_InvalidArgument : mg "InvalidArgument" = some (.ref (He.ga K "InvalidArgument")) := He.glo_ok X G (c.fact 6 (f := .glo "InvalidArgument") rfl)
  have k_Turn : mg "Turn" = some (.ref (He.ga K "Turn")) := He.glo_ok X G (c.fact 7 (f := .glo "Turn") rfl)
  have n_all : mg "all" = none := He.free_ok X G (c.fact 8 (f := .free "all") rfl)
  have n_bool : mg "bool" = none := He.free_ok X G (c.fact 9 (f := .free "bool") rfl)
  have n_enumerate : mg "enumerate" = none := He.free_ok X G (c.fact 10 (f := .free "enumerate") rfl)
  have n_int : mg "int" = none := He.free_ok X G (c.fact 11 (f := .free "int") rfl)
  have n_isinstance : mg "isinstance" = none := He.free_ok X G (c.fact 12 (f := .free "isinstance") rfl)
  have n_len : mg "len" = none := He.free_ok X G (c.fact 13 (f := .free "len") rfl)
  have n_list : mg "list" = none := He.free_ok X G (c.fact 14 (f := .free "list") rfl)
  have n_range : mg "range" = none := He.free_ok X G (c.fact 15 (f := .free "range") rfl)
  have n_repr : mg "repr" = none := He.free_ok X G (c.fact 16 (f := .free "repr") rfl)
  have n_sorted : mg "sorted" = none := He.free_ok X G (c.fact 17 (f := .free "sorted") rfl)
  have n_str : mg "str" = none := He.free_ok X G (c.fact 18 (f := .free "str") rfl)
  have n_tuple : mg "tuple" = none := He.free_ok X G (c.fact 19 (f := .free "tuple") rfl)
  have x_em_InvalidArgument : PySem.W.exmOne K (.ref (He.ga K "InvalidArgument")) (.ref (He.ga K "InvalidArgument")) = some true := of_decide_eq_true (ex_at 1 e)
  have x_err_InvalidArgument : KrE.ErrC K (He.ga K "InvalidArgument") := KrE.errB_ok (ex_at 2 e)
  have x_no_InvalidArgument : PySem.W.findIn K (.ref (He.ga K "InvalidArgument")) "part" = some none := of_decide_eq_true (ex_at 3 e)
  have x_sys : (K.lookup sysModules).isSome = true := (ex_at 4 e)
  have x_tbu__law_right : ∀ p ∈ Tb K, p.1 = (He.cT K ("_law_right", none)).2 → p.2 = (("_law_right" : Str) ++ ".<locals>.") ++ "<lambda>" := KrL.tbu_ok (ex_at 5 e)
  have x_tk_InvalidArgument : PySem.W.takerIn K (He.ga K "InvalidArgument") "part" = some none := of_decide_eq_true (ex_at 6 e)
  have x_xf_InvalidArgument : XfC K (He.ga K "InvalidArgument") := xfB_ok (ex_at 7 e)
  obtain ⟨fd0, F0⟩ := c.def_ 0 (d := d_InvalidArgument___init__) rfl
  obtain ⟨fd1, F1⟩ := c.def_ 1 (d := d_is_from) rfl
  obtain ⟨fd2, F2⟩ := c.def_ 2 (d := d_is_place) rfl
  obtain ⟨fd3, F3⟩ := c.def_ 3 (d := d_are_places) rfl
  obtain ⟨fd4, F4⟩ := c.def_ 4 (d := d_are_once) rfl
  obtain ⟨fd5, F5⟩ := c.def_ 5 (d := d_Turn___init__) rfl
  obtain ⟨fd6, F6⟩ := c.def_ 6 (d := d_Turn___eq__) rfl
  obtain ⟨fd7, F7⟩ := c.def_ 7 (d := d_Turn_used) rfl
  obtain ⟨fd8, F8⟩ := c.def_ 8 (d := d_Turn_front) rfl
  obtain ⟨fd9, F9⟩ := c.def_ 9 (d := d_Turn_fresh) rfl
  obtain ⟨fd10, F10⟩ := c.def_ 10 (d := d_Turn_ahead) rfl
  obtain ⟨fd11, F11⟩ := c.def_ 11 (d := d_Turn_behind) rfl
  obtain ⟨fd12, F12⟩ := c.def_ 12 (d := d__law_digits) rfl
  obtain ⟨fd13, F13⟩ := c.def_ 13 (d := d__law_next) rfl
  obtain ⟨fd14, F14⟩ := c.def_ 14 (d := d__law_mixed) rfl
  obtain ⟨fd15, F15⟩ := c.def_ 15 (d := d__law_drawn) rfl
  obtain ⟨fd16, F16⟩ := c.def_ 16 (d := d__law_part) rfl
  obtain ⟨fd17, F17⟩ := c.def_ 17 (d := d__law_odd_places) rfl
  obtain ⟨fd18, F18⟩ := c.def_ 18 (d := d__law_not_once) rfl
  obtain ⟨fd19, F19⟩ := c.def_ 19 (d := d_are_once__r) rfl
  obtain ⟨fd20, F20⟩ := c.def_ 20 (d := d_is_from__r) rfl
  obtain ⟨fd21, F21⟩ := c.def_ 21 (d := d_is_place__r) rfl
  obtain ⟨fd22, F22⟩ := c.def_ 22 (d := d_are_places__r) rfl
  obtain ⟨fd23, F23⟩ := c.def_ 23 (d := d_Turn___init____r) rfl
  obtain ⟨fd24, F24⟩ := c.def_ 24 (d := d__law_right) rfl
  obtain ⟨fd25, F25⟩ := c.def_ 25 (d := d_law) rfl
  have eq := hfa.symm.trans (He.glo_ok X G (c.fact 40 (f := .glo "law") rfl))
  cases eq
  have bl := FunD.bindsA (ps := ["script"]) F25 fun _ _ _ _ _ _ us hl => match us, hl with | [_], _ => rfl
  refine ⟨fd25, fun s v => bl s [v] rfl, fun base _ _ TB => ?_⟩
  have tb__law_right : LamX.TabB base mg (He.cT K ("_law_right", none)).1 (He.cT K ("_law_right", none)).2 := TB _ (List.mem_map.mpr ⟨("_law_right", none), by simp [tf], rfl⟩)
  have er_InvalidArgument : KrE.ErH P w K mg base CX0 1 "InvalidArgument" (He.ga K "InvalidArgument") ["self", "part"] (sp_InvalidArgument___init__ K) := ⟨_, _, He.glo_ok X G (c.fact 6 (f := .glo "InvalidArgument") rfl), x_err_InvalidArgument, (He.meth_ok (c.fact 20 (f := .meth "InvalidArgument" "__init__") rfl)).at_, beq_iff_eq.mp (He.meth_ok (c.fact 20 (f := .meth "InvalidArgument" "__init__") rfl)).fn, (F0.bindsN fun _ _ _ _ _ _ us hl => match us, hl with | [_, _], _ => rfl), (ok_InvalidArgument___init__ F0 x_err_InvalidArgument x_tk_InvalidArgument)⟩
  have h_is_from : Kr.FnH P w K mg base CX0 1 "is_from" ["number", "least"] (sp_is_from K) := Kr.FnH.of F1 (He.glo_ok X G (c.fact 21 (f := .glo "is_from") rfl)) (F1.bindsN fun _ _ _ _ _ _ us hl => match us, hl with | [_, _], _ => rfl) (ok_is_from F1 n_bool n_int n_isinstance)
  have h_is_place : Kr.FnH P w K mg base CX0 2 "is_place" ["place"] (sp_is_place K) := Kr.FnH.of F2 (He.glo_ok X G (c.fact 22 (f := .glo "is_place") rfl)) (F2.bindsN fun _ _ _ _ _ _ us hl => match us, hl with | [_], _ => rfl) (ok_is_place F2 h_is_from n_isinstance n_len n_str n_tuple)
  have h_are_places : Kr.FnH P w K mg base CX0 3 "are_places" ["places"] (sp_are_places K) := Kr.FnH.of F3 (He.glo_ok X G (c.fact 23 (f := .glo "are_places") rfl)) (F3.bindsN fun _ _ _ _ _ _ us hl => match us, hl with | [_], _ => rfl) (ok_are_places F3 h_is_place n_all n_isinstance n_list)
  have h_are_once : Kr.FnH P w K mg base CX0 1 "are_once" ["places", "fresh"] (sp_are_once K) := Kr.FnH.of F4 (He.glo_ok X G (c.fact 24 (f := .glo "are_once") rfl)) (F4.bindsN fun _ _ _ _ _ _ us hl => match us, hl with | [_, _], _ => rfl) (ok_are_once F4 n_len n_list n_range n_sorted)
  have mk_Turn : Kr.MkH P w K mg base CX0 4 "Turn" (He.ga K "Turn") ["self", "used", "front", "fresh"] (sp_Turn___init__ K) := Kr.MkH.of (He.glo_ok X G (c.fact 7 (f := .glo "Turn") rfl)) (He.mkr_ok (c.fact 25 (f := .mkr "Turn") rfl)) (F5.bindsN fun _ _ _ _ _ _ us hl => match us, hl with | [_, _, _, _], _ => rfl) (ok_Turn___init__ F5 a_Turn__ahead a_Turn__fresh a_Turn__front a_Turn__goals a_Turn__used c_Turn h_are_once h_are_places h_is_from n_enumerate n_len n_list)
  have m_Turn___eq__ : Kr.MtH P w K mg base CX0 1 (He.ga K "Turn") "__eq__" ["self", "other"] (sp_Turn___eq__ K) := Kr.MtH.of (He.meth_ok (c.fact 26 (f := .meth "Turn" "__eq__") rfl)) (F6.bindsN fun _ _ _ _ _ _ us hl => match us, hl with | [_, _], _ => rfl) (ok_Turn___eq__ F6 a_Turn__fresh a_Turn__front a_Turn__used c_Turn i_Turn k_Turn n_isinstance)
  have m_Turn_used : Kr.MtH P w K mg base CX0 1 (He.ga K "Turn") "used" ["self"] (sp_Turn_used K) := Kr.MtH.of (He.meth_ok (c.fact 27 (f := .meth "Turn" "used") rfl)) (F7.bindsN fun _ _ _ _ _ _ us hl => match us, hl with | [_], _ => rfl) (ok_Turn_used F7 a_Turn__used c_Turn n_list)
  have m_Turn_front : Kr.MtH P w K mg base CX0 1 (He.ga K "Turn") "front" ["self"] (sp_Turn_front K) := Kr.MtH.of (He.meth_ok (c.fact 28 (f := .meth "Turn" "front") rfl)) (F8.bindsN fun _ _ _ _ _ _ us hl => match us, hl with | [_], _ => rfl) (ok_Turn_front F8 a_Turn__front c_Turn n_list)
  have m_Turn_fresh : Kr.MtH P w K mg base CX0 1 (He.ga K "Turn") "fresh" ["self"] (sp_Turn_fresh K) := Kr.MtH.of (He.meth_ok (c.fact 29 (f := .meth "Turn" "fresh") rfl)) (F9.bindsN fun _ _ _ _ _ _ us hl => match us, hl with | [_], _ => rfl) (ok_Turn_fresh F9 a_Turn__fresh c_Turn)
  have m_Turn_ahead : Kr.MtH P w K mg base CX0 1 (He.ga K "Turn") "ahead" ["self"] (sp_Turn_ahead K) := Kr.MtH.of (He.meth_ok (c.fact 30 (f := .meth "Turn" "ahead") rfl)) (F10.bindsN fun _ _ _ _ _ _ us hl => match us, hl with | [_], _ => rfl) (ok_Turn_ahead F10 a_Turn__ahead c_Turn)
  have m_Turn_behind : Kr.MtH P w K mg base CX0 1 (He.ga K "Turn") "behind" ["self"] (sp_Turn_behind K) := Kr.MtH.of (He.meth_ok (c.fact 31 (f := .meth "Turn" "behind") rfl)) (F11.bindsN fun _ _ _ _ _ _ us hl => match us, hl with | [_], _ => rfl) (ok_Turn_behind F11 a_Turn__used c_Turn n_len)
  have h__law_digits : Kr.FnH P w K mg base CX0 1 "_law_digits" ["cell", "many"] (sp__law_digits K) := Kr.FnH.of F12 (He.glo_ok X G (c.fact 32 (f := .glo "_law_digits") rfl)) (F12.bindsN fun _ _ _ _ _ _ us hl => match us, hl with | [_, _], _ => rfl) (ok__law_digits F12 n_int n_range)
  have h__law_next : Kr.FnH P w K mg base CX0 1 "_law_next" ["source", "many"] (sp__law_next K) := Kr.FnH.of F13 (He.glo_ok X G (c.fact 33 (f := .glo "_law_next") rfl)) (F13.bindsN fun _ _ _ _ _ _ us hl => match us, hl with | [_, _], _ => rfl) (ok__law_next F13 n_int n_len)
  have h__law_mixed : Kr.FnH P w K mg base CX0 2 "_law_mixed" ["source", "some"] (sp__law_mixed K) := Kr.FnH.of F14 (He.glo_ok X G (c.fact 34 (f := .glo "_law_mixed") rfl)) (F14.bindsN fun _ _ _ _ _ _ us hl => match us, hl with | [_, _], _ => rfl) (ok__law_mixed F14 h__law_next n_len n_list)
  have h__law_drawn : Kr.FnH P w K mg base CX0 3 "_law_drawn" ["source", "ahead"] (sp__law_drawn K) := Kr.FnH.of F15 (He.glo_ok X G (c.fact 35 (f := .glo "_law_drawn") rfl)) (F15.bindsN fun _ _ _ _ _ _ us hl => match us, hl with | [_, _], _ => rfl) (ok__law_drawn F15 h__law_mixed h__law_next n_len n_range)
  have lm__law_part : KrL.LamH P w K mg base "_law_part" (tt__law_part K) := lt__law_part F16 (He.glo_ok X G (c.fact 36 (f := .glo "_law_part") rfl)) (F16.bindsN fun _ _ _ _ _ _ us hl => match us, hl with | [_], _ => rfl) k_InvalidArgument x_em_InvalidArgument x_no_InvalidArgument x_xf_InvalidArgument
  have h__law_odd_places : Kr.FnH P w K mg base CX0 2 "_law_odd_places" ["source", "row"] (sp__law_odd_places K) := Kr.FnH.of F17 (He.glo_ok X G (c.fact 37 (f := .glo "_law_odd_places") rfl)) (F17.bindsN fun _ _ _ _ _ _ us hl => match us, hl with | [_, _], _ => rfl) (ok__law_odd_places F17 h__law_next n_len n_tuple)
  have h__law_not_once : Kr.FnH P w K mg base CX0 2 "_law_not_once" ["source", "parts", "ahead"] (sp__law_not_once K) := Kr.FnH.of F18 (He.glo_ok X G (c.fact 38 (f := .glo "_law_not_once") rfl)) (F18.bindsN fun _ _ _ _ _ _ us hl => match us, hl with | [_, _, _], _ => rfl) (ok__law_not_once F18 h__law_next n_len)
  have h_are_once__r : Kr.FnH P w K mg base CX0 1 "are_once" ["places", "fresh"] (sp_are_once__r K) := Kr.FnH.of F19 (He.glo_ok X G (c.fact 24 (f := .glo "are_once") rfl)) (F19.bindsN fun _ _ _ _ _ _ us hl => match us, hl with | [_, _], _ => rfl) (ok_are_once__r F19 n_len n_list n_range n_sorted)
  have h_is_from__r : Kr.FnH P w K mg base CX0 1 "is_from" ["number", "least"] (sp_is_from__r K) := Kr.FnH.of F20 (He.glo_ok X G (c.fact 21 (f := .glo "is_from") rfl)) (F20.bindsN fun _ _ _ _ _ _ us hl => match us, hl with | [_, _], _ => rfl) (ok_is_from__r F20 n_bool n_int n_isinstance)
  have h_is_place__r : Kr.FnH P w K mg base CX0 2 "is_place" ["place"] (sp_is_place__r K) := Kr.FnH.of F21 (He.glo_ok X G (c.fact 22 (f := .glo "is_place") rfl)) (F21.bindsN fun _ _ _ _ _ _ us hl => match us, hl with | [_], _ => rfl) (ok_is_place__r F21 h_is_from__r n_isinstance n_len n_str n_tuple)
  have h_are_places__r : Kr.FnH P w K mg base CX0 3 "are_places" ["places"] (sp_are_places__r K) := Kr.FnH.of F22 (He.glo_ok X G (c.fact 23 (f := .glo "are_places") rfl)) (F22.bindsN fun _ _ _ _ _ _ us hl => match us, hl with | [_], _ => rfl) (ok_are_places__r F22 h_is_place__r n_all n_isinstance n_list)
  have mk_Turn__r : Kr.MkH P w K mg base (L2.CX P w) 4 "Turn" (He.ga K "Turn") ["self", "used", "front", "fresh"] (sp_Turn___init____r K) := Kr.MkH.of (He.glo_ok X G (c.fact 7 (f := .glo "Turn") rfl)) (He.mkr_ok (c.fact 25 (f := .mkr "Turn") rfl)) (F23.bindsN fun _ _ _ _ _ _ us hl => match us, hl with | [_, _, _, _], _ => rfl) (ok_Turn___init____r F23 er_InvalidArgument h_are_once__r h_are_places__r h_is_from__r)
  have h__law_right : KrG.FnHG P w K mg base C8.CX0 8 "_law_right" ["source"] (sp__law_right K) := KrG.FnHG.of F24 (He.glo_ok X G (c.fact 39 (f := .glo "_law_right") rfl)) (F24.bindsN fun _ _ _ _ _ _ us hl => match us, hl with | [_], _ => rfl) (ok__law_right F24 (KrL.code_cT F24) h__law_drawn h__law_next h__law_not_once h__law_odd_places lm__law_part mk_Turn mk_Turn__r n_range n_repr tb__law_right x_sys x_tbu__law_right)
  exact ok_law F25 h__law_digits h__law_right n_len n_range
end Kw
section
open PyProof.Rows PySem PySem.Calls PySem.W
theorem PySem.Challenge.cw_keeprows_k22_what_is_no_turn_holds : PySem.Challenge.rw_keeprows_k22_what_is_no_turn.Holds := by
  w_on; o_law
  refine HandSHeadRun.head_any (r := Kw.R0) (q := view Kw.R0.prog [20]) (H := Kw.hk) (ob := Kw.ob) (M := 6000) (loose := Kw.loose) (d := HandSHeadRun.topDef Kw.R0.prog 20) (kwd := []) Kw.ob_eq
    (by kernel_rfl) (fun s => by kernel_rfl) Kw.runs (by kernel_rfl) (by kernel_rfl) (by kernel_rfl) (by rfl) (by first | assumption | decide +kernel) (by decide +kernel) ⟨rfl, rfl, rfl, rfl, rfl, by decide +kernel⟩ ?hw ?hc
  case hw =>
    w_witness2
  case hc =>
    refine KrG.walkG (l := PySem.Challenge.rw_keeprows_k22_what_is_no_turn) (n := 63) (k := 9) (x := "script") rfl (by decide) (by kernel_rfl) ⟨rfl, by decide, by decide⟩ ?F
    intro w mg fa h Y G hmg0
    obtain ⟨K, KX, c⟩ := Y
    have hmg : mg ("law" : PySem.Str) = some (.ref fa) := by
      have en : (HandSHeadRun.topDef Kw.R0.prog 20).name = ("law" : PySem.Str) := by kernel_rfl
      rw [← en]
      exact hmg0
    obtain ⟨fd, hb, hF⟩ := Kw.facts (P := (PySem.Challenge.rw_keeprows_k22_what_is_no_turn).prog) (w := w) KX G hmg c.t.d c.more
    refine ⟨K, fd, Kw.tf.map (He.cT K), Kw.sp_law K, KX, fun p hp => ?_, fun p hp => ?_, fun p hp => ?_, hb, fun H a ns hl hT hS => ⟨a, ns, rfl, hS, hl, ?_, fun _ => rfl⟩, hF⟩
    · obtain ⟨q, hq, rfl⟩ := List.mem_map.mp hp
      exact c.empty q hq
    · obtain ⟨q, hq, rfl⟩ := List.mem_map.mp hp
      exact c.out q hq
    · obtain ⟨q, hq, rfl⟩ := List.mem_map.mp hp
      exact PySem.W.codeHd_of_K KX (c.hd q hq)
    · exact Kw.tb0 hT
end

