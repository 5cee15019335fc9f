import PyProof.Rows.All
import Wide.All
import OpenK.AllK
import Wide.FinOn
import HandS.List
import HandS.Strs
import HandS.IsInst
import HandS.ForMost
import HandS.Wide
import HandS.Flow
import HandS.TupAny
import HandS.SetTxt0
import HandS.SetTxtIn
import HandS.SetFor
import HandS.TupSets
import HandS.SortOrd
import HandS.Style
import HandS.Walk
import HandS.Iter
import KE.GoesMore
import KE.GoesEnum
import HandS.Property
import HandS.OwnEq
import HandS.ClsMeth
import HandS.MakeKw
import KE.KCallOwn
import OpenK.KMeth
import PyProof.InstEq
import PyProof.InstNe
import PyProof.EqKinds
import PyProof.Conv_bool
import PyProof.SumWalkG
import PyProof.WalksMore
import HandS.Text
import HandS.ExcInit
import PyProof.StrLawsRepr
import HandS.Lambda
import PyProof.TupleOfSeq
import HandS.Base
import KE.KExcSuper
import KE.KExcIs
import HandS.ExcOwn
import HandS.ExcValue
import HandS.TryMany
import HandS.HotCalls
import HandS.Star
import HandS.WordsExc
import HandS.Call
import HandS.Defaults
import HandS.MakeKwOnly
import PyProof.Rows.ReprOcc
import PyProof.Rows.StrBin
import HandS.EndTab
import PySem.Challenge.RW_calmlists_k19_whole_people_that_come_and
set_option Elab.async false
set_option linter.all false
section
set_option maxRecDepth 100000
set_option maxHeartbeats 4000000
/-! a tuple of which it is known that it has no dict: tuple(list) makes one; its methods -/
namespace L2.TupF
open PySem PySem.Spec PyProof.Rows L2
def Frt (H : Hp) (p : Addr) (xs : List V) : Prop := ∃ o : Obj, o.dict = none ∧ H p = some (.frz o (.tup xs))
theorem Frt.to {H H' : Hp} {p : Addr} {xs : List V} (h : Frt H p xs) (k : ∀ b o, (∀ ys, o ≠ .lst ys) → (∀ ps, o ≠ .tbl ps) → H b = some o → H' b = some o) : Frt H' p xs := by
  obtain ⟨o, d, e⟩ := h
  exact ⟨o, d, k _ _ (fun _ z => by cases z) (fun _ z => by cases z) e⟩
theorem Frt.same {H H' : Hp} {p : Addr} {xs : List V} (h : Frt H p xs) (s : ∀ b o, H b = some o → H' b = some o) : Frt H' p xs := h.to fun b o _ _ e => s b o e
theorem sqF {K : PySem.W.Frag} {H : Hp} {p : Addr} {o : Obj} {xs : List V} (e : H p = some (.frz o (.tup xs))) : SqT K H p xs := .inl (.inr ⟨o, e⟩)
theorem Frt.sq {K : PySem.W.Frag} {H : Hp} {p : Addr} {xs : List V} (h : Frt H p xs) : SqT K H p xs := by
  obtain ⟨o, d, e⟩ := h
  exact .inl (.inr ⟨o, e⟩)
theorem Frt.ty {K : PySem.W.Frag} {H : Hp} {p : Addr} {xs : List V} (h : Frt H p xs) : TyX K H (.ref p) (.type "tuple") := by
  obtain ⟨o, d, e⟩ := h
  exact .fTuple e
def rTupF (K : PySem.W.Frag) : List V → Hp → VK → Prop := fun xs H Q => ∃ p ys, xs = [.ref p] ∧ SqL K H p ys ∧ ∀ l o, o.dict = none → H l = none → Q (.ref l) (upd H l (.frz o (.tup ys)))
def tBMF (r : V → List V → Hp → VK → Prop) (to : TE) (t : TA) : TE := fun σ H Q => to σ H fun x H1 => (∃ p zs, x = .ref p ∧ Frt H1 p zs) ∧ t σ H1 fun xs H2 => r x xs H2 Q
section
variable {X : Cx} {o e : Expr} {es : List Expr} {to : TE} {t : TA} {name : Str} {apos cpos : Pos} {id : String} {r : V → List V → Hp → VK → Prop}
theorem call_tupleF : CallR X (.type "tuple") (rTupF X.K) := by
  intro pins s σ H ws us Q I rw' h
  obtain ⟨p, ys, rfl, hq, q⟩ := h
  obtain ⟨u, rfl, rx⟩ := vals1 rw'
  cases rx
  obtain ⟨its, rv, pl, fits⟩ := I.list hq
  have len := rv.length
  refine call_tuple_list pl.isList (fun g kp => ?_) (by rw [List.size_toArray]; omega)
  have I1 : Inv X pins σ H { s with heap := g } := I.kept (t' := s.toks) kp
  let ob : Obj := { cls := .type "tuple", data := .seq its.toArray }
  have I2 : Inv X pins σ (upd H g.objs.size (.frz ob (.tup ys))) { s with heap := g.push ob } :=
    I1.laid (t' := s.toks) (fun b o e => Heap.get?_push_of_some _ e) (Nat.le_refl _)
      (show ObjOk X.prog X.w _ (g.push ob) g.objs.size (.frz ob (.tup ys)) from ⟨Heap.get?_push_size _ rfl, fits, its, rv, IsTup.new _ _⟩)
  exact ⟨.ref g.objs.size, _, I2, rfl, q _ ob rfl (I1.hok.fresh (Nat.le_refl _))⟩
theorem pe_bmF (slot : Slot "tuple" name id) (hty : typeOf (.builtin id) = pure (.type "method_descriptor")) (hm : MtR X id r) (ho : PE X o to) (ha : PA X (e :: es) t)
    (hbase : attributeBase o name X.env (eval o X.env) = eval o X.env := by rfl)
    (hfew : ((backTo cpos (starEach (e :: es) X.env)).all (fun z => !z.1) && (backToKw cpos (keywordEach [] X.env)).all (fun z => z.1.isSome) && decide ((e :: es).length + ([] : List Keyword).length + (if ([] : List Keyword).isEmpty then 0 else 1) < 30)) = true := by rfl)
    (hline : (apos.endLine == cpos.line) = true := by rfl) (hs : starEach (e :: es) X.env = (false, eval e X.env) :: starEach es X.env := by rfl) (hplain : (backTo cpos (starEach es X.env)).any (·.1) = false := by rfl) :
    PE X (.Call (.Attribute o name apos) (e :: es) [] cpos) (tBMF r to t) := by
  constructor
  intro pins s σ H Q I h
  refine wpAny_Call_method_late hbase hfew hline rfl (thn (ho.run pins s σ H _ I h) fun v s1 ⟨x, H1, I1, r1, ⟨p, zs, ex, ob, dn, ep⟩, q1⟩ => ?_)
  subst ex
  cases (show v = Value.ref p from r1)
  obtain ⟨g, _, _, _, o2, g2, cl, _⟩ := (show ObjOk X.prog X.w H1 s1.heap p (.frz ob (.tup zs)) from I1.hok p _ ep)
  rw [g] at g2
  cases g2
  refine ⟨"tuple", id, PySem.F.plainAttrs_tuple, slot, hty, ⟨ob, g, cl⟩, fun a ea => by cases ea; exact ⟨ob, g, dn⟩, ?_⟩
  have A := ha.run cpos pins s1 σ H1 _ I1 q1
  rw [hs] at A ⊢
  refine Calls.callWith_builtin (by show (false || (backTo cpos (starEach es X.env)).any (·.1)) = false; rw [hplain] <;> rfl) (Calls.evalArgs_plain (thn A fun us s2 ⟨vs, H2, I2, r2, q2⟩ => ?_))
  exact hm pins s2 σ H2 (.ref p) vs _ us Q I2 rfl r2 q2
end
end L2.TupF
end

section
set_option maxRecDepth 100000
set_option maxHeartbeats 4000000
/-! what all laws of this program share: a def where it stands, the jar of drawn numbers -/
namespace L2.Cal
open PySem PySem.Spec PyProof.Rows L2
/-- a def of the top: its function, its name, how it binds -/
structure DefAt (K : PySem.W.Frag) (mg : Str → Option Value) (x : Str) (st : Stmt) (ps : List Str) (f : Addr) (fd : FuncData) : Prop where
  F : Fun K x x st f fd
  g : mg x = some (.ref f)
  b : Binds K fd ps []
/-- the jar: three numbers, none below nought -/
def Jar (H : Hp) (j : Addr) : Prop := ∃ d s c : Int, H j = some (.lst [.int d, .int s, .int c]) ∧ 0 ≤ d ∧ 0 ≤ s ∧ s < 2147483648 ∧ 0 ≤ c
theorem Jar.up {H : Hp} {j : Addr} {d s c : Int} (h1 : 0 ≤ d) (h2 : 0 ≤ s) (h3 : s < 2147483648) (h4 : 0 ≤ c) : Jar (upd H j (.lst [.int d, .int s, .int c])) j := ⟨d, s, c, upd_same, h1, h2, h3, h4⟩
/-- all that was tracked is as it was, but the jar -/
def Kp (j : Addr) (H H' : Hp) : Prop := ∀ b o, b ≠ j → H b = some o → H' b = some o
theorem Kp.refl {j : Addr} {H : Hp} : Kp j H H := fun _ _ _ h => h
theorem Kp.trans {j : Addr} {H H1 H2 : Hp} (a : Kp j H H1) (b : Kp j H1 H2) : Kp j H H2 := fun c o n h => b c o n (a c o n h)
theorem Kp.new {j p : Addr} {o : HO} {H : Hp} (h : H p = none) : Kp j H (upd H p o) := fun b u _ e => by rw [upd_ne (ne_of_none e h)]; exact e
theorem Kp.jar {j : Addr} {o : HO} {H : Hp} : Kp j H (upd H j o) := fun b u n e => by rw [upd_ne n]; exact e
theorem Kp.of {j : Addr} {H H' : Hp} (h : Same H H') : Kp j H H' := fun b o _ e => h b o e
theorem Jar.new {H : Hp} {j p : Addr} {o : HO} (h : Jar H j) (n : H p = none) : Jar (upd H p o) j := by
  obtain ⟨d, s, c, e, r⟩ := h
  exact ⟨d, s, c, by rw [upd_ne (ne_of_none e n)]; exact e, r⟩
theorem Jar.same {H H' : Hp} {j : Addr} (h : Jar H j) (e : Same H H') : Jar H' j := by
  obtain ⟨d, s, c, q, r⟩ := h
  exact ⟨d, s, c, e _ _ q, r⟩
theorem Kp.seqL {K : PySem.W.Frag} {j a : Addr} {H H' : Hp} {xs : List V} (k : Kp j H H') (n : a ≠ j) (h : SqL K H a xs) : SqL K H' a xs := by
  rcases h with (h | ⟨o, h⟩) | h
  · exact .inl (.inl (k _ _ n h))
  · exact .inl (.inr ⟨o, k _ _ n h⟩)
  · exact .inr h
theorem Kp.seqT {K : PySem.W.Frag} {j a : Addr} {H H' : Hp} {xs : List V} (k : Kp j H H') (n : a ≠ j) (h : SqT K H a xs) : SqT K H' a xs := by
  rcases h with (h | ⟨o, h⟩) | h
  · exact .inl (.inl (k _ _ n h))
  · exact .inl (.inr ⟨o, k _ _ n h⟩)
  · exact .inr h
/-! ### promises -/
def spDip : Sp := fun vs H Q _ => ∃ (j : Addr) (w d s c : Int), vs = [.ref j, .int w] ∧ H j = some (.lst [.int d, .int s, .int c]) ∧ 0 ≤ d ∧ 0 ≤ s ∧ s < 2147483648 ∧ 0 ≤ c ∧ 0 < w ∧ w < 1073741824 ∧
  ∀ r d' s' c' : Int, 0 ≤ r → r < w → 0 ≤ d' → 0 ≤ s' → s' < 2147483648 → 0 ≤ c' → Q (.int r) (upd H j (.lst [.int d', .int s', .int c']))
def spJar (K : PySem.W.Frag) : Sp := fun vs H Q _ => ∃ (a : Addr) (ns : List Int) (k : Int), vs = [.ref a, .int k] ∧ SqL K H a (ns.map V.int) ∧ ns.length ≤ 63 ∧ 0 ≤ k ∧ k ≤ 100 ∧
  ∀ H' p, Same H H' → H p = none → Jar H' p → Q (.ref p) H'
/-- one of a list, a tuple or a text's signs -/
def spPick (K : PySem.W.Frag) : Sp := fun vs H Q _ => ∃ (j m : Addr) (xs : List V) (d s c : Int), vs = [.ref j, .ref m] ∧ H j = some (.lst [.int d, .int s, .int c]) ∧ 0 ≤ d ∧ 0 ≤ s ∧ s < 2147483648 ∧ 0 ≤ c ∧ m ≠ j ∧ (SqL K H m xs ∨ SqT K H m xs) ∧ 0 < xs.length ∧ xs.length ≤ 1000 ∧
  ∀ (i : Nat) (v : V) (d' s' c' : Int), xs[i]? = some v → 0 ≤ d' → 0 ≤ s' → s' < 2147483648 → 0 ≤ c' → Q v (upd H j (.lst [.int d', .int s', .int c']))
end L2.Cal
end

section
set_option maxRecDepth 100000
set_option maxHeartbeats 4000000
/-! new objects, told by what stays and what stands there, not by the heap as a term -/
namespace L2.Cal
open PySem PySem.Spec PyProof.Rows L2
theorem same_new {H : Hp} {p : Addr} {o : HO} (h : H p = none) : Same H (upd H p o) := fun b u e => by rw [upd_ne (ne_of_none e h)]; exact e
/-- a new object o at p -/
abbrev New (H : Hp) (o : HO) (Q : VK) : Prop := ∀ (p : Addr) (H2 : Hp), Same H H2 → H p = none → H2 p = some o → Q (.ref p) H2
theorem New.use {H : Hp} {o : HO} {Q : VK} (h : New H o Q) {p : Addr} (n : H p = none) : Q (.ref p) (upd H p o) := h p _ (same_new n) n upd_same
def tLstS (t : TA) : TE := fun σ H Q => t σ H fun xs H1 => xs.length ≤ sizeLine ∧ New H1 (.lst xs) Q
def tTupS (t : TA) : TE := fun σ H Q => t σ H fun xs H1 => xs.length ≤ sizeLine ∧ New H1 (.tup xs) Q
section
variable {X : Cx} {es : List Expr} {t : TA} {pos : Pos}
theorem pe_lstS (h : PA X es t) : PE X (.List es pos) (tLstS t) := ⟨fun pins s σ H Q I hq => wpAny_List_spliced (thn (h.run pos pins s σ H _ I hq) fun us s1 hh => by
  obtain ⟨xs, H1, I1, r, z, q⟩ := hh
  refine ⟨by rw [← r.length]; exact z, .ref s1.heap.objs.size, _, I1.laid (t' := s1.toks) (a := s1.heap.objs.size) (o := .lst xs) (fun b u e => Heap.get?_push_of_some _ e) (Nat.le_refl _) ⟨z, us, 0, r, Heap.get?_push_size _ rfl⟩, rfl, q.use (I1.hok.fresh (Nat.le_refl _))⟩)⟩
theorem pe_tupS {k} (h : PA X es t) : PE X (.Tuple es k pos) (tTupS t) := ⟨fun pins s σ H Q I hq => wpAny_Tuple_spliced (thn (h.run pos pins s σ H _ I hq) fun us s1 hh => by
  obtain ⟨xs, H1, I1, r, z, q⟩ := hh
  refine ⟨by rw [← r.length]; exact z, .ref s1.heap.objs.size, _, I1.laid (t' := s1.toks) (a := s1.heap.objs.size) (o := .tup xs) (fun b u e => Heap.get?_push_of_some _ e) (Nat.le_refl _) ⟨z, us, r, ⟨_, Heap.get?_push_size _ rfl, rfl, _, rfl⟩⟩, rfl, q.use (I1.hok.fresh (Nat.le_refl _))⟩)⟩
theorem pe_dnewS : PE X (.Dict [] [] pos) (fun _ H Q => New H (.dK []) Q) := ⟨fun pins s σ H Q I h => pe_dnewK.run pins s σ H Q I fun p n => h.use n⟩
end
/-- a class of the program, a built-in class, as a value -/
theorem pe_cls {X : Cx} {x : Str} {C : Addr} {pos : Pos} (hg : Gl X x) (hm : X.mg x = some (.ref C)) (hd : (x == ("__debug__" : Str)) = false := by decide) : PE X (.Name x pos) (tC (.ref C)) := pe_glob (v := .ref C) hg hm rfl hd
theorem pe_bty {X : Cx} {x : Str} {n : String} {pos : Pos} (hg : Gl X x) (hm : X.mg x = none) (hv : bootBuiltins x = some (.type n)) (hn : x ≠ "__name__" := by decide) (hd : (x == ("__debug__" : Str)) = false := by decide) : PE X (.Name x pos) (tC (.ty n)) := pe_bltn (v := .ty n) hg hm hv rfl hn hd
def rCatS : R2 := fun x y H Q => ∃ l b xs zs, x = .ref l ∧ y = .ref b ∧ H l = some (.lst xs) ∧ H b = some (.lst zs) ∧ xs.length + zs.length ≤ sizeLine ∧ New H (.lst (xs ++ zs)) Q
theorem op_catS {X : Cx} : OpR X (binaryOp .Add) rCatS := fun pins s σ H x y v u Q I rx ry h => by
  obtain ⟨l, b, xs, zs, ex, ey, h1, h2, hz, q⟩ := h
  exact op_cat pins s σ H x y v u Q I rx ry ⟨l, b, xs, zs, ex, ey, h1, h2, hz, fun p n => q.use n⟩
end L2.Cal
end

section
set_option maxRecDepth 100000
set_option maxHeartbeats 4000000
namespace L2.Cal
open PySem PySem.Spec PyProof.Rows L2
def topS (i : Nat) : Stmt := PySem.Challenge.pw_calmlists_k19_whole_people_that_come_and.main.body.getD i (.Pass ⟨0, 0, 0, 0⟩)
abbrev sJar : Stmt := topS 31
abbrev sDip : Stmt := topS 32
abbrev sPick : Stmt := topS 33
theorem scJar : FnScope ["_law_script", "_law_k", "_law_churned", "_law_cell", "_law_own", "_law_digits"] ["_law_script", "_law_k"] (defScope sJar) := ⟨rfl, rfl, rfl, by decide +kernel, rfl, by decide +kernel, by decide +kernel⟩
theorem scDip : FnScope ["_law_jar_here", "_law_wide", "_law_digit", "_law_seed"] ["_law_jar_here", "_law_wide"] (defScope sDip) := ⟨rfl, rfl, rfl, by decide +kernel, rfl, by decide +kernel, by decide +kernel⟩
theorem scPick : FnScope ["_law_jar_here", "_law_menu", "_law_at"] ["_law_jar_here", "_law_menu"] (defScope sPick) := ⟨rfl, rfl, rfl, by decide +kernel, rfl, by decide +kernel, by decide +kernel⟩
structure Txt (mg : Str → Option Value) : Prop where
  b_int : mg "int" = none
  b_len : mg "len" = none
  b_abs : mg "abs" = none
  b_range : mg "range" = none
  b_repr : mg "repr" = none
  b_max : mg "max" = none
  b_min : mg "min" = none
  b_all : mg "all" = none
  b_list : mg "list" = none
  b_sorted : mg "sorted" = none
  b_set : mg "set" = none
  b_tuple : mg "tuple" = none
  b_str : mg "str" = none
  b_bool : mg "bool" = none
  b_isinstance : mg "isinstance" = none
  b_enumerate : mg "enumerate" = none
  b_super : mg "super" = none
section
variable {P : Program} {w : World} {K : PySem.W.Frag} {mg : Str → Option Value} {base : Heap}
theorem ok_dip {f : Addr} {fd : FuncData} (D : DefAt K mg "_law_dip" sDip ["_law_jar_here", "_law_wide"] f fd) (T : Txt mg) : FnOk P w K mg base CX0 1 f fd ["_law_jar_here", "_law_wide"] spDip := by
  refine D.F.ok scDip (fun vs H Q E h => ?_) (fun cdv A outer sh H vs Q E hr h => ?_)
  · obtain ⟨j, w, d, s, c, rfl, _⟩ := h
    rfl
  · obtain ⟨j, w, d, s, c, rfl, hj, hd, hs, hs2, hc, hw, hw2, q⟩ := h
    refine ⟨_, (pss_cons (ps_asg (pe_op op_add (pe_ix ix_list (pv 0) pe_int (fun _ _ => rfl)) pe_int) (pg_sub (pv 0) pe_int set_list))
  (pss_cons (ps_if (pt_cmpR op_gt (pe_ix ix_list (pv 0) pe_int (fun _ _ => rfl)) pe_int (nomark _))
   (pss_cons (ps_set (i := 2) scDip.nd rfl (.inl rfl) (pe_op op_mod (pe_callTy call_int1 (by rfl) T.b_int (by decide +kernel) (pa_cons (pe_ix ix_list (pv 0) pe_int (fun _ _ => rfl)) pa_nil)) (pv 1)))
  (pss_cons (ps_asg (pe_op op_fdiv (pe_callTy call_int1 (by rfl) T.b_int (by decide +kernel) (pa_cons (pe_ix ix_list (pv 0) pe_int (fun _ _ => rfl)) pa_nil)) (pv 1)) (pg_sub (pv 0) pe_int set_list))
  (pss_one (ps_ret (pv 2)))))
   pss_nil)
  (pss_cons (ps_set (i := 3) scDip.nd rfl (.inl rfl) (pe_callTy call_int1 (by rfl) T.b_int (by decide +kernel) (pa_cons (pe_ix ix_list (pv 0) pe_int (fun _ _ => rfl)) pa_nil)))
  (pss_cons (ps_asg (pe_op op_mod (pe_callTy call_int1 (by rfl) T.b_int (by decide +kernel) (pa_cons (pe_op op_add (pe_op op_add (pe_op op_mul (pv 3) pe_int) (pe_op op_mul (pe_ix ix_list (pv 0) pe_int (fun _ _ => rfl)) pe_int)) pe_int) pa_nil)) pe_int) (pg_sub (pv 0) pe_int set_list))
  (pss_one (ps_ret (pe_op op_mod (pe_callTy call_int1 (by rfl) T.b_int (by decide +kernel) (pa_cons (pe_op op_fdiv (pe_ix ix_list (pv 0) pe_int (fun _ _ => rfl)) pe_int) pa_nil)) (pv 1)))))))), ?_⟩
    have i0 : ∀ a b c : Int, atI [V.int a, V.int b, V.int c] 0 = some (.int a) := fun a b c => atI_nat (j := 0) rfl
    have i1 : ∀ a b c : Int, atI [V.int a, V.int b, V.int c] 1 = some (.int b) := fun a b c => atI_nat (j := 1) rfl
    have i2 : ∀ a b c : Int, atI [V.int a, V.int b, V.int c] 2 = some (.int c) := fun a b c => atI_nat (j := 2) rfl
    -- jar[2] = jar[2] + 1
    refine ⟨_, rfl, j, _, _, _, rfl, rfl, SqL.of hj, i2 _ _ _, _, _, rfl, rfl, _, rfl, j, _, _, 2, rfl, rfl, hj, rfl, ?_⟩
    refine ⟨_, rfl, j, _, _, _, rfl, rfl, SqL.of upd_same, i0 _ _ _, _, _, rfl, rfl, _, rfl, ite2 (fun e => ?_) (fun e => ?_)⟩
    · have e0 : 0 < d := of_decide_eq_true e
      refine ⟨_, rfl, j, _, _, _, rfl, rfl, SqL.of upd_same, i0 _ _ _, .inl ⟨_, rfl, _, rfl, _, _, rfl, rfl, hw, ?_⟩⟩
      refine ⟨_, rfl, j, _, _, _, rfl, rfl, SqL.of upd_same, i0 _ _ _, .inl ⟨_, rfl, _, rfl, _, _, rfl, rfl, ⟨hw, hw2⟩, _, rfl, j, _, _, 0, rfl, rfl, upd_same, rfl, ?_⟩⟩
      refine ⟨_, rfl, ?_⟩
      rw [upd_upd]
      exact q _ _ _ _ (Int.emod_nonneg _ (by omega)) (Int.emod_lt_of_pos _ hw) (Int.ediv_nonneg (by omega) (by omega)) hs hs2 (by omega)
    · refine ⟨_, rfl, j, _, _, _, rfl, rfl, SqL.of upd_same, i1 _ _ _, .inl ⟨_, rfl, ?_⟩⟩
      refine ⟨_, rfl, _, _, rfl, rfl, .inr ⟨by decide, by decide⟩, _, rfl, j, _, _, _, rfl, rfl, SqL.of upd_same, i2 _ _ _, _, _, rfl, rfl, .inr ⟨by decide, by decide⟩, _, _, rfl, rfl, _, _, rfl, rfl, .inl ⟨_, rfl, _, _, rfl, rfl, (by show (0:Int) < 2147483399; decide), _, rfl, j, _, _, 1, rfl, rfl, upd_same, rfl, ?_⟩⟩
      refine ⟨_, rfl, j, _, _, _, rfl, rfl, SqL.of upd_same, i1 _ _ _, _, _, rfl, rfl, ⟨by decide, by decide⟩, .inl ⟨_, rfl, _, rfl, _, _, rfl, rfl, hw, ?_⟩⟩
      rw [upd_upd]
      exact q _ _ _ _ (Int.emod_nonneg _ (by omega)) (Int.emod_lt_of_pos _ hw) (by omega) (Int.emod_nonneg _ (by omega)) (by have := Int.emod_lt_of_pos (s * 40692 + (c + 1) * 52021 + 31) (b := 2147483399) (by decide); omega) (by omega)
end
end L2.Cal
end

section
set_option maxRecDepth 100000
set_option maxHeartbeats 4000000
namespace L2.Cal
open PySem PySem.Spec PyProof.Rows L2
section
variable {P : Program} {w : World} {K : PySem.W.Frag} {mg : Str → Option Value} {base : Heap}

theorem ok_jar {f : Addr} {fd : FuncData} (D : DefAt K mg "_law_jar" sJar ["_law_script", "_law_k"] f fd) (T : Txt mg) : FnOk P w K mg base CX0 1 f fd ["_law_script", "_law_k"] (spJar K) := by
  refine D.F.ok scJar (fun vs H Q E h => ?_) (fun cdv A outer sh H vs Q E hr h => ?_)
  · obtain ⟨a, ns, k, rfl, _⟩ := h
    rfl
  · obtain ⟨a, ns, k, rfl, hS, hn, h0, h1, q⟩ := h
    refine ⟨_, (pss_cons (ps_set (i := 2) scJar.nd rfl (.inl rfl) (pe_op op_add (pe_op op_mul (pe_op op_mul pe_int (pe_op op_add (pv 1) pe_int)) (pe_op op_add (pv 1) pe_int)) (pe_op op_mul pe_int (pe_callB call_len_seq (by rfl) T.b_len (by decide +kernel) (pa_cons (pv 0) pa_nil)))))
  (pss_cons (ps_for PassesOwn.never rfl (pi_list (pe_slice sl_list (pv 0) po_none (po_some pe_int))) (pg_name (i := 3) scJar.nd rfl (.inl rfl))
   (pss_one (ps_set (i := 2) scJar.nd rfl (.inl rfl) (pe_op op_mod (pe_callTy call_int1 (by rfl) T.b_int (by decide +kernel) (pa_cons (pe_op op_add (pe_op op_mul (pv 2) pe_int) (pv 3)) pa_nil)) pe_int))))
  (pss_cons (ps_set (i := 4) scJar.nd rfl (.inl rfl) (pe_ifExp (pt_cmpR op_lt (pv 1) (pe_callB call_len_seq (by rfl) T.b_len (by decide +kernel) (pa_cons (pv 0) pa_nil)) (nomark _)) (pe_ix ix_list (pv 0) (pv 1) (fun _ _ => rfl)) pe_int))
  (pss_cons (ps_set (i := 5) scJar.nd rfl (.inl rfl) (pe_ifExp (PW.pt (pw_or (pt_cmpR op_lt (pv 4) pe_int (nomark _)) (pw_or1 (pt_cmpR op_ge (pv 4) (pe_op op_pow pe_int pe_int) (nomark _))))) (pe_callB call_abs (by rfl) T.b_abs (by decide +kernel) (pa_cons (pv 4) pa_nil)) pe_int))
  (pss_one (ps_ret (pe_lstS (pa_cons (pv 5) (pa_cons (pe_op op_mod (pe_callTy call_int1 (by rfl) T.b_int (by decide +kernel) (pa_cons (pe_op op_add (pe_op op_add (pe_op op_mul (pv 2) pe_int) (pe_op op_mul (pv 4) pe_int)) (pe_op op_mul pe_int (pe_op op_add (pv 1) pe_int))) pa_nil)) pe_int) (pa_cons pe_int pa_nil)))))))))), ?_⟩
    -- churned
    refine ⟨_, rfl, _, _, rfl, rfl, _, _, rfl, rfl, .inl ⟨by decide, by decide⟩, _, rfl, _, _, rfl, rfl, _, _, rfl, rfl, .inr ⟨by omega, by omega⟩, _, rfl, a, _, rfl, .inl hS, _, _, rfl, rfl, .inl ⟨by decide, by decide⟩, _, _, rfl, rfl, ?_⟩
    refine ⟨_, rfl, 4, rfl, a, _, rfl, hS, fun p np => ?_⟩
    have s1 : Same H (upd H p (.lst (cutV (ns.map V.int) none (some 4)))) := same_new np
    have ec : cutV (ns.map V.int) none (some 4) = (ns.take 4).map V.int := by
      unfold cutV
      rw [HT.sIx_none, show HT.sIx (ns.map V.int).length (ns.map V.int).length (some 4) = min 4 (ns.map V.int).length from HT.sIx_nat _ _ 4, List.drop_zero, List.map_take]
      simp [List.take_eq_take_iff]
    rw [ec] at s1 ⊢
    refine ⟨p, rfl, ⟨_, SqL.of upd_same⟩, for_list (xs := (ns.take 4).map V.int) (fun i σ H' => ∃ c y3, σ = [some (.ref a), some (.int k), some (.int c), y3, none, none] ∧ H' = upd H p (.lst ((ns.take 4).map V.int))) ⟨_, none, rfl, rfl⟩ (fun i σ H' _ hP => ?_) (fun i x σ H' hx hP => ?_) (fun σ H' hP => ?_)⟩
    · obtain ⟨c, y3, rfl, rfl⟩ := hP
      exact SqL.of upd_same
    · obtain ⟨c, y3, rfl, rfl⟩ := hP
      obtain ⟨z, hz, rfl⟩ : ∃ z, (ns.take 4)[i]? = some z ∧ V.int z = x := by
        rw [List.getElem?_map] at hx
        cases e : (ns.take 4)[i]? with
        | none =>
          rw [e] at hx
          cases hx
        | some z =>
          rw [e] at hx
          exact ⟨z, rfl, Option.some.inj hx⟩
      refine ⟨_, rfl, _, _, rfl, rfl, .inr ⟨by decide, by decide⟩, _, rfl, _, _, rfl, rfl, .inl ⟨_, rfl, _, _, rfl, rfl, (by show (0:Int) < 1000000009; decide), ?_⟩⟩
      exact ⟨_, _, rfl, rfl⟩
    · obtain ⟨c, y3, rfl, rfl⟩ := hP
      have hS' : SqL K (upd H p (.lst ((ns.take 4).map V.int))) a (ns.map V.int) := s1.seq hS
      -- own, digits, the jar
      have last : ∀ dg : Int, 0 ≤ dg → ∀ v : Int, 0 ≤ v → v < 2147483563 → ∀ p' H', Same (upd H p (.lst ((ns.take 4).map V.int))) H' → (upd H p (.lst ((ns.take 4).map V.int))) p' = none → H' p' = some (.lst [.int dg, .int v, .int 0]) → Q (.ref p') H' := fun dg hdg v h0 h1 p' H' s' np' e' => by
        exact q _ p' (s1.trans s') (s1.free np') ⟨_, _, _, e', hdg, h0, by omega, by decide⟩
      refine ⟨_, rfl, _, rfl, a, _, rfl, .inl hS', _, _, rfl, rfl, _, rfl, ite2 (fun e => ?A) (fun e => ?B)⟩
      case' A =>
        have e0 : k < (ns.length : Int) := by
          have := of_decide_eq_true e
          rw [List.length_map] at this
          exact this
        have hk : k.toNat < ns.length := by omega
        have hg : atI (ns.map V.int) k = some (.int ns[k.toNat]) := at_of (j := k.toNat) (by omega) (by rw [List.getElem?_map, List.getElem?_eq_getElem hk]; rfl)
        refine ⟨_, rfl, _, rfl, a, _, _, _, rfl, rfl, hS', hg, ?_⟩
        generalize ns[k.toNat] = own
      all_goals
        refine ⟨_, rfl, _, _, rfl, rfl, _, rfl, ite2 (fun e => ?_) (fun e => ?_)⟩
        all_goals first
          | (refine iteT ?_
             have e1 := of_decide_eq_true e
             refine ⟨_, rfl, _, rfl, ?_⟩)
          | (have e1 := fun z => e (decide_eq_true z)
             refine ⟨_, rfl, _, _, rfl, rfl, ⟨by decide, by decide, by decide⟩, _, _, rfl, rfl, _, rfl, ite2 (fun e => ⟨_, rfl, _, rfl, ?_⟩) (fun e => ?_)⟩)
        all_goals
          refine ⟨_, rfl, _, rfl, _, _, rfl, rfl, .inr ⟨by decide, by decide⟩, _, rfl, _, _, rfl, rfl, .inr ⟨by decide, by decide⟩, _, _, rfl, rfl, _, rfl, _, _, rfl, rfl, _, _, rfl, rfl, .inl ⟨by decide, by decide⟩, _, _, rfl, rfl, .inl ⟨_, rfl, _, _, rfl, rfl, (by show (0:Int) < 2147483563; decide), ?_⟩⟩
          refine ⟨by show 3 ≤ sizeLine; decide, fun p' H' s' np' e' => ?_⟩
          exact last _ (by first | exact Int.le_refl _ | (split <;> omega)) _ (Int.emod_nonneg _ (by decide)) (Int.emod_lt_of_pos _ (by decide)) p' H' s' np' e'
theorem ok_pick {f fD : Addr} {fd fdD : FuncData} (D : DefAt K mg "_law_pick" sPick ["_law_jar_here", "_law_menu"] f fd) (DD : DefAt K mg "_law_dip" sDip ["_law_jar_here", "_law_wide"] fD fdD) (T : Txt mg) : FnOk P w K mg base CX0 2 f fd ["_law_jar_here", "_law_menu"] (spPick K) := by
  have GD : FnOk P w K mg base CX0 1 fD fdD ["_law_jar_here", "_law_wide"] spDip := ok_dip DD T
  refine D.F.ok scPick (fun vs H Q E h => ?_) (fun cdv A outer sh H vs Q E hr h => ?_)
  · obtain ⟨j, m, xs, d, s, c, rfl, _⟩ := h
    rfl
  · obtain ⟨j, m, xs, d, s, c, rfl, hj, hd, hs, hs2, hc, hm, hx, hl, hl2, q⟩ := h
    refine ⟨_, (pss_cons (ps_set (i := 2) scPick.nd rfl (.inl rfl) (pe_call GD (hr.mono (by decide)) (by rfl) DD.g DD.F.kp DD.b .nil pass0 (pa_cons (pv 0) (pa_cons (pe_callB call_len_seq (by rfl) T.b_len (by decide +kernel) (pa_cons (pv 1) pa_nil)) pa_nil))))
  (pss_one (ps_ret (pe_ix ix_seq (pv 1) (pv 2) (fun _ _ => rfl))))), ?_⟩
    refine ⟨_, rfl, _, rfl, m, xs, rfl, hx, j, _, d, s, c, rfl, hj, hd, hs, hs2, hc, by omega, by omega, fun r d' s' c' h0 h1 hd' hs' hs2' hc' => ?_⟩
    have kp : Kp j H (upd H j (.lst [.int d', .int s', .int c'])) := Kp.jar
    have hr' : r.toNat < xs.length := by omega
    have hg : atI xs r = some (xs[r.toNat]) := at_of (j := r.toNat) (by omega) (List.getElem?_eq_getElem hr')
    rcases hx with hx | hx
    · exact ⟨_, rfl, _, rfl, .inl ⟨m, _, _, _, rfl, rfl, kp.seqL hm hx, hg, q r.toNat _ _ _ _ (List.getElem?_eq_getElem hr') hd' hs' hs2' hc'⟩⟩
    · exact ⟨_, rfl, _, rfl, .inr (.inl ⟨m, _, _, _, rfl, rfl, kp.seqT hm hx, hg, q r.toNat _ _ _ _ (List.getElem?_eq_getElem hr') hd' hs' hs2' hc'⟩)⟩
end
end L2.Cal
end

section
set_option maxRecDepth 100000
set_option maxHeartbeats 4000000
/-! sets of texts: made of a list of texts or of a text's signs; their number; sorted -/
namespace L2.Cal
open PySem PySem.Spec PyProof.Rows PySem.Froz L2
section
variable {P : Program} {w : World}
/-- the payload can be walked -/
structure Way (w : World) (D : SD) : Prop where
  ris : Ris D.2.2.place.toList
  led : w.params.followText "set-order" = true ∨ D.2.2.led = true
/-- the payload holds the texts l, each once -/
structure Has (P : Program) (w : World) (D : SD) (l : List Str) : Prop where
  ok : TxOk P w D l
  way : Way w D
  one : l.Nodup
theorem Way.add {D : SD} (W : Way w D) (h : Int) (v : Value) : Way w (addTx h v D) := by
  obtain ⟨es, ep, t⟩ := D
  have r1 := layNew_ris t es h v W.ris
  have d1 := layNew_led t es h v
  unfold addTx tailTx
  dsimp only
  have w2 : Way w ((layNew t es h v).1, ep, if (layNew t es h v).2.1.plain = true then { (layNew t es h v).2.1 with plain := false } else (layNew t es h v).2.1) := by
    refine ⟨?_, ?_⟩
    · dsimp only
      split <;> exact r1
    · dsimp only
      rw [show (if (layNew t es h v).2.1.plain = true then { (layNew t es h v).2.1 with plain := false } else (layNew t es h v).2.1).led = t.led by split <;> exact d1]
      exact W.led
  generalize (if (layNew t es h v).2.1.plain = true then { (layNew t es h v).2.1 with plain := false } else (layNew t es h v).2.1) = t2 at w2 ⊢
  split
  · exact ⟨relayAll_ris _ _ _, by dsimp only; rw [relayAll_led]; exact w2.led⟩
  · exact ⟨w2.ris, w2.led⟩
theorem Has.add {D : SD} {l : List Str} {k : Str} (u : Tok) (S : Has P w D l) (n : k ∉ l) : Has P w (addTx (hashStr w k) (.str k u) D) (k :: l) :=
  ⟨add_ok u S.ok, S.way.add _ _, List.nodup_cons.mpr ⟨n, S.one⟩⟩
theorem Has.none (ep : Nat) : Has P w (#[], ep, .fresh 0 0 (!w.params.followText "set-order")) [] := by
  refine ⟨TxOk.nil rfl, ⟨?_, ?_⟩, .nil⟩
  · exact List.Pairwise.nil
  · cases e : w.params.followText "set-order"
    · exact .inr rfl
    · exact .inl rfl
variable {A : Around} {E : Value → Shared → Prop} {s : Shared} {a : Addr} {T : String} {D : SD} {l : List Str} {k : Str} {u : Tok}
/-- a text that is there already -/
theorem put_old {Q : Bool → Shared → Prop} (ho : s.heap.get? a = some (sObj T D)) (S : Has P w D l) (hk : k ∈ l) (hb : l.length < scanBound) (q : Q false s) : wpAny (model P w) A (setAddHashed a (.str k u) (hashStr w k)) Q E s := by
  obtain ⟨es, ep, t⟩ := D
  have dat : (sObj T (es, ep, t)).data = .set es ep t := rfl
  have few : es.size < scanBound := by
    have z : es.size = l.length := S.ok.sz
    rw [z]
    exact hb
  unfold setAddHashed setAddHashedIn
  refine wpAny_holding (wpAny_bind (wpAny_setState_of ho dat S.ok.fit ?_))
  dsimp only
  rw [byScan_of rfl few S.ok.el, if_pos rfl]
  unfold setAddByScan
  refine wpAny_bind (wpAny_bind (wpAny_rule (wpAny_bind (wpAny_setScan_of (knd := strKind P w) (k := k) (is_str k u) ho dat S.ok.fit S.ok.el ?_))))
  cases z : List.findIdx? (fun e => (strKind P w).is k e.2) es.toList with
  | none =>
    obtain ⟨e, he, p⟩ := (S.ok.mem k).mp hk
    have no := List.findIdx?_eq_none_iff.mp z e he
    rw [p] at no
    cases no
  | some j => exact wpAny_pure (wpAny_pure q)
/-- s.add(k), new or old -/
theorem put_any {Q : Bool → Shared → Prop} (ho : s.heap.get? a = some (sObj T D)) (S : Has P w D l) (hb : l.length + 1 < scanBound)
    (q : ∀ (b : Bool) (D' : SD) (l' : List Str) (h' : Heap), (∀ c o, c ≠ a → s.heap.get? c = some o → h'.get? c = some o) → h'.get? a = some (sObj T D') → Has P w D' l' → (∀ x, x ∈ l' ↔ x ∈ l ∨ x = k) → l'.length ≤ l.length + 1 → Q b { s with heap := h', toks := s.toks + 1 }) :
    wpAny (model P w) A (setAdd a (.str k u)) Q E s := by
  unfold setAdd
  refine wpAny_holding (wpAny_bind ((strKind P w).pyHash (k := k) (is_str k u) ?_))
  by_cases c : k ∈ l
  · refine put_old (s := { s with toks := s.toks + 1 }) (l := l) ho S c (by omega) (q _ D l s.heap (fun _ _ _ z => z) ho S (fun x => ⟨.inl, fun z => z.elim id fun e => e ▸ c⟩) (Nat.le_succ _))
  · refine add_x (s := { s with toks := s.toks + 1 }) (l := l) ho S.ok c hb (q _ _ (k :: l) _ (fun b o n z => PySem.Heap.get?_update_of_ne _ n.symm z) (get_upd _ ho rfl) (S.add u c) (fun x => ?_) (Nat.le_refl _))
    rw [List.mem_cons]
    exact Or.comm
/-- the rest of a walk over texts goes into the set -/
theorem fill {R : Result → Shared → Prop} {I S : Addr} {fp wr : List Addr} {n : Nat} {Pv : Nat → Value → Prop} {St : Nat → Heap → Prop} {val : Nat → Str} (W : Walks P w A.in1 I fp wr n Pv St) (away : S ∉ fp) (is : ∀ i v, Pv i v → ∃ t, v = .str (val i) t) (few : n + 1 < scanBound)
    (done : ∀ (h' : Heap) (tk : Nat) (D' : SD) (l' : List Str), (∀ b o, b ≠ S → b ∉ wr → s.heap.get? b = some o → h'.get? b = some o) → h'.get? S = some (sObj T D') → Has P w D' l' → (∀ x, x ∈ l' ↔ ∃ j, j < n ∧ val j = x) → R (.ok (.ret .none)) { s with heap := h', toks := tk }) :
    ∀ (m i : Nat) (h : Heap) (tk : Nat) (D : SD) (l : List Str), n - i = m → i ≤ n → St i h → (∀ b o, b ≠ S → b ∉ wr → s.heap.get? b = some o → h.get? b = some o) → h.get? S = some (sObj T D) → Has P w D l → (∀ x, x ∈ l ↔ ∃ j, j < i ∧ val j = x) → l.length ≤ i →
      codeAny (model P w) A (.builtin "set.update.loop" ⟨[.ref S, .ref I], []⟩) R { s with heap := h, toks := tk } := by
  intro m
  have awr : S ∉ wr := fun z => away (W.sub _ z)
  induction m with
  | zero =>
    intro i h tk D l hm hi hst keep at_ H mem len
    have e : i = n := by omega
    subst e
    refine codeAny_builtin PyProof.Rows.F.entry_set_update_loop ?_
    rw [Around.under_plainId PyProof.Rows.F.plain_set_update_loop _]
    show wpAny _ A.in1 (pyNext (.ref I) >>= _) _ _ _
    refine wpAny_bind (W.done _ _ _ hst fun h2 tk2 k2 => wpAny_pure ?_)
    exact done h2 tk2 D l (fun b o n1 n2 z => k2 b o n2 (keep b o n1 n2 z)) (k2 _ _ awr at_) H mem
  | succ m ih =>
    intro i h tk D l hm hi hst keep at_ H mem len
    refine codeAny_builtin PyProof.Rows.F.entry_set_update_loop ?_
    rw [Around.under_plainId PyProof.Rows.F.plain_set_update_loop _]
    show wpAny _ A.in1 (pyNext (.ref I) >>= _) _ _ _
    refine wpAny_bind (W.item i _ _ _ (by omega) hst fun v h2 tk2 hv hst2 k2 => ?_)
    obtain ⟨t, rfl⟩ := is i v hv
    show wpAny _ A.in1 (holding [Value.str (val i) t] (setAdd S (.str (val i) t)) >>= _) _ _ _
    refine wpAny_bind (wpAny_holding (put_any (k := val i) (l := l) (D := D) (T := T) (k2 _ _ awr at_) H (by omega) fun b D' l' h3 k3 at3 H3 mem3 len3 => ?_))
    refine wpAny_pure ⟨plainId_quiet PyProof.Rows.F.plain_set_update_loop _, ih (i + 1) h3 _ D' l' (by omega) (by omega) (W.frame _ _ _ hst2 fun b hb o z => k3 b o (fun e => away (e ▸ hb)) z) (fun b o n1 n2 z => k3 b o n1 (k2 b o n2 (keep b o n1 n2 z))) at3 H3 (fun x => ?_) (by omega)⟩
    rw [mem3 x, mem x]
    constructor
    · rintro (⟨j, hj, e⟩ | e)
      · exact ⟨j, by omega, e⟩
      · exact ⟨i, by omega, e.symm⟩
    · rintro ⟨j, hj, e⟩
      by_cases c : j = i
      · subst c
        exact .inr e.symm
      · exact .inl ⟨j, by omega, e⟩
/-- set(x): x's own texts go into a fresh set -/
theorem fresh_set {src : Value} {mem : Str → Prop} {Q : Value → Shared → Prop}
    (run : ∀ (A' : Around) (E' : Value → Shared → Prop) (Q' : Unit → Shared → Prop), A'.handled = A.handled →
      (∀ (h' : Heap) (tk : Nat) (D : SD) (l : List Str), (∀ b o, s.heap.get? b = some o → h'.get? b = some o) → h'.get? s.heap.objs.size = some (sObj "set" D) → Has P w D l → (∀ x, x ∈ l ↔ mem x) → Q' () { s with heap := h', toks := tk }) →
      wpAny (model P w) A' (Builtin.Frozenset.updateFrom "set.__init__" s.heap.objs.size src) Q' E' { s with heap := s.heap.push (sObj "set" (#[], 0, .fresh 0 0 (!w.params.followText "set-order"))) })
    (q : ∀ (h' : Heap) (tk : Nat) (D : SD) (l : List Str), (∀ b o, s.heap.get? b = some o → h'.get? b = some o) → h'.get? s.heap.objs.size = some (sObj "set" D) → Has P w D l → (∀ x, x ∈ l ↔ mem x) → Q (.ref s.heap.objs.size) { s with heap := h', toks := tk }) :
    wpAny (model P w) A (call (.type "set") [src]) Q E s := by
  obtain ⟨c, tl, chain⟩ := PySem.F.called_set.mro
  have made := PySem.F.called_set.made
  have below := PySem.F.called_set.sub
  have plain1 := PySem.F.called_set.notType
  have plain2 := PySem.F.called_set.canCreate
  have ask := PySem.F.typeCall_set_1 src
  refine wpAny_call (codeAny_of_tree (show wpAny _ _ (callAny (.type "set") _) _ _ _ from wpAny_pure ⟨Code.quiet_builtin _ (by decide +kernel), codeAny_builtin F.entry_type_call ?_⟩))
  rw [Around.under_plain (weight_type_call_type "set" [src] []) rfl]
  repeat (any_goals (first | assumption | wp_step))
  have laid : (s.heap.push (sObj "set" (#[], 0, .fresh 0 0 (!w.params.followText "set-order")))).get? s.heap.objs.size = some (sObj "set" (#[], 0, .fresh 0 0 (!w.params.followText "set-order"))) := Heap.get?_push_size _ rfl
  have kind : Shared.TypeIs { s with heap := s.heap.push (sObj "set" (#[], 0, .fresh 0 0 (!w.params.followText "set-order"))) } (.ref s.heap.objs.size) "set" := ⟨_, laid, rfl⟩
  have look := PySem.F.called_set.init.lookup
  have tie := PySem.F.called_set.init.bind (.ref s.heap.objs.size)
  refine codeAny_mono (code_set_led1 src (E := E) (Q₁ := fun v s1 => v = .ref s.heap.objs.size ∧ s1 = { s with heap := s.heap.push (sObj "set" (#[], 0, .fresh 0 0 (!w.params.followText "set-order"))) }) ⟨rfl, rfl⟩) fun r s1 hr => ?_
  match r, hr with
  | .error _, hr => exact hr
  | .ok (.ret v), ⟨e1, e2⟩ =>
    subst e1 e2
    repeat (any_goals (first | assumption | wp_step))
    refine codeAny_mono (codeAny_call_builtin (R := wants (fun v s2 => v = .none ∧ ∃ h' tk D l, s2 = { s with heap := h', toks := tk } ∧ (∀ b o, s.heap.get? b = some o → h'.get? b = some o) ∧ h'.get? s.heap.objs.size = some (sObj "set" D) ∧ Has P w D l ∧ (∀ x, x ∈ l ↔ mem x)) E)
      PySem.F.called_set.init.plain PySem.F.entry_set_init (PySem.check_set_init_1 kind ?_)) fun r2 s2 hr2 => ?_
    · unfold Builtin.«set.__init__» noKeywords
      generalize hU : Builtin.Frozenset.updateFrom "set.__init__" = U
      wp_walk
      subst hU
      refine run _ _ _ (by simp) fun h' tk D l k1 k2 k3 k4 => ?_
      show wpAny _ _ _ _ _ _
      first
        | exact wpAny_pure ⟨rfl, h', tk, D, l, rfl, k1, k2, k3, k4⟩
        | exact wpAny_pure (wpAny_pure ⟨rfl, h', tk, D, l, rfl, k1, k2, k3, k4⟩)
        | (wp_walk
           exact ⟨rfl, h', tk, D, l, rfl, k1, k2, k3, k4⟩)
    · match r2, hr2 with
      | .error _, hr2 => exact hr2
      | .ok (.ret v), ⟨e1, h', tk, D, l, e2, k1, k2, k3, k4⟩ =>
        subst e1 e2
        repeat (any_goals (first | assumption | wp_step))
        exact q _ _ _ _ k1 k2 k3 k4
end
end L2.Cal
end

section
set_option maxRecDepth 100000
set_option maxHeartbeats 4000000
namespace L2.Cal
open PySem PySem.Spec PyProof.Rows PySem.Froz L2
section
variable {P : Program} {w : World} {A : Around} {E : Value → Shared → Prop} {s : Shared}
theorem are_length {vs : List Value} {ss : List Str} (h : StrsAre vs ss) : vs.length = ss.length := by
  induction h with
  | nil => rfl
  | cons _ _ _ ih => simp [ih]
theorem are_at {vs : List Value} {ss : List Str} (h : StrsAre vs ss) : ∀ (i : Nat) (v : Value), vs[i]? = some v → ∃ t, v = .str (ss.getD i ⟨#[]⟩) t := by
  induction h with
  | nil => intro i v z; simp at z
  | cons y t _ ih =>
    intro i v z
    cases i with
    | zero => exact ⟨t, (Option.some.inj z).symm⟩
    | succ i => exact ih i v z
/-- set(xs), xs a list of texts -/
theorem set_list {b : Addr} {items : Array Value} {ss : List Str} {Q : Value → Shared → Prop} (hh : A.handled = none) (at_ : s.heap.IsList b items) (are : StrsAre items.toList ss) (few : ss.length + 1 < scanBound)
    (q : ∀ (h' : Heap) (tk : Nat) (D : SD) (l : List Str), (∀ b o, s.heap.get? b = some o → h'.get? b = some o) → h'.get? s.heap.objs.size = some (sObj "set" D) → Has P w D l → (∀ x, x ∈ l ↔ x ∈ ss) → Q (.ref s.heap.objs.size) { s with heap := h', toks := tk }) :
    wpAny (model P w) A (call (.type "set") [.ref b]) Q E s := by
  refine fresh_set (mem := fun x => x ∈ ss) (fun A' E' Q' hA k => ?_) q
  have h2 : A'.handled = none := hA.trans hh
  obtain ⟨ol, hol, hcl, nl, hdl⟩ := at_
  have lt : b < s.heap.objs.size := Heap.lt_size hol
  obtain ⟨ocls, odict, odata, oslots⟩ := ol
  simp only at hcl hdl
  subst hcl; subst hdl
  have there : (s.heap.push (sObj "set" (#[], 0, .fresh 0 0 (!w.params.followText "set-order")))).get? b = some { cls := .type "list", dict := odict, data := .seq items nl, slots := oslots } := Heap.get?_push_of_some _ hol
  have no1 := PySem.F.sub_list_set
  have no2 := PySem.F.sub_list_frozenset
  have no3 : (Value.type "list" == Value.type "dict") = false := by decide
  have isl : (s.heap.push (sObj "set" (#[], 0, .fresh 0 0 (!w.params.followText "set-order")))).IsList b items := ⟨_, there, rfl, nl, rfl⟩
  unfold Builtin.Frozenset.updateFrom
  generalize hI : pyIter = it
  wp_walk
  subst hI
  refine wpAny_pyIter_list isl (wpAny_bind (wpAny_runValue ?_))
  have sz : (s.heap.push (sObj "set" (#[], 0, .fresh 0 0 (!w.params.followText "set-order")))).objs.size = s.heap.objs.size + 1 := Heap.size_push ..
  have off : b ≠ (s.heap.push (sObj "set" (#[], 0, .fresh 0 0 (!w.params.followText "set-order")))).objs.size := by rw [sz]; exact Nat.ne_of_lt (Nat.lt_succ_of_lt lt)
  have n : items.size = ss.length := by rw [← Array.length_toList]; exact are_length are
  refine fill (s := s) (T := "set") (val := fun i => ss.getD i ⟨#[]⟩) (Walks.list (by simp [h2]) _ b off items) (S := s.heap.objs.size) ?_ (fun i v hv => ?_) (by omega) (fun h' tk D l keep at1 H mem => wpAny_pure (k h' tk D l (fun c o z => keep c o (Nat.ne_of_lt (Heap.lt_size z)) (fun m => ?_) z) at1 H fun x => (mem x).trans ?_))
    (items.size - 0) 0 _ _ _ [] rfl (Nat.zero_le _) ⟨⟨_, Heap.get?_push_size _ rfl, rfl, rfl⟩, isl.push _⟩ (fun c o _ _ z => Heap.get?_push_of_some _ (Heap.get?_push_of_some _ z)) (Heap.get?_push_of_some _ (Heap.get?_push_size _ rfl)) (Has.none 0) (fun x => by simp) (Nat.zero_le _)
  · rw [sz]
    intro z
    rcases List.mem_cons.mp z with z | z
    · exact absurd z (Nat.ne_of_lt (Nat.lt_succ_self _))
    · exact absurd (List.mem_singleton.mp z) (Nat.ne_of_gt lt)
  · exact are_at are i v (by rw [Array.getElem?_toList]; exact hv)
  · rw [List.mem_singleton.mp m, sz] at z
    exact absurd (Heap.lt_size z) (Nat.not_lt.mpr (Nat.le_succ _))
  · rw [n]
    constructor
    · rintro ⟨j, hj, e⟩
      rw [List.getD_eq_getElem?_getD, List.getElem?_eq_getElem hj] at e
      exact e ▸ List.getElem_mem hj
    · intro hx
      obtain ⟨j, hj, e⟩ := List.getElem_of_mem hx
      exact ⟨j, hj, by rw [List.getD_eq_getElem?_getD, List.getElem?_eq_getElem hj]; exact e⟩
/-- set(x), x a text -/
theorem set_text {y : Str} {t : Tok} {Q : Value → Shared → Prop} (hh : A.handled = none) (few : y.cps.size + 1 < scanBound)
    (q : ∀ (h' : Heap) (tk : Nat) (D : SD) (l : List Str), (∀ b o, s.heap.get? b = some o → h'.get? b = some o) → h'.get? s.heap.objs.size = some (sObj "set" D) → Has P w D l → (∀ x, x ∈ l ↔ ∃ c ∈ y.cps.toList, x = ⟨#[c]⟩) → Q (.ref s.heap.objs.size) { s with heap := h', toks := tk }) :
    wpAny (model P w) A (call (.type "set") [.str y t]) Q E s := by
  refine fresh_set (mem := fun x => ∃ c ∈ y.cps.toList, x = ⟨#[c]⟩) (fun A' E' Q' hA k => ?_) q
  have h2 : A'.handled = none := hA.trans hh
  unfold Builtin.Frozenset.updateFrom
  refine wpAny_bind (L2.Fz.anySet ?_)
  rw [if_neg Bool.false_ne_true]
  refine wpAny_bind (wpAny_of_eq (typeIs_str s y t) ?_)
  rw [if_neg (by decide)]
  refine wpAny_bind (wpAny_pyIter_str fun o St hW hst => ?_)
  have sz : (s.heap.push (sObj "set" (#[], 0, .fresh 0 0 (!w.params.followText "set-order")))).objs.size = s.heap.objs.size + 1 := Heap.size_push ..
  refine wpAny_bind (wpAny_runValue ?_)
  refine fill (s := s) (T := "set") (val := fun i => ⟨#[y.cps.getD i 0]⟩) (hW _ (by simp [h2])) (S := s.heap.objs.size) ?_ (fun i v hv => ?_) few (fun h' tk D l keep at1 H mem => wpAny_pure (k h' tk D l (fun c o z => keep c o (Nat.ne_of_lt (Heap.lt_size z)) (fun m => ?_) z) at1 H fun x => (mem x).trans ?_))
    y.cps.size 0 _ _ _ [] rfl (Nat.zero_le _) hst (fun c o _ _ z => Heap.get?_push_of_some _ (Heap.get?_push_of_some _ z)) (Heap.get?_push_of_some _ (Heap.get?_push_size _ rfl)) (Has.none 0) (fun x => by simp) (Nat.zero_le _)
  · rw [sz]
    intro z
    exact absurd (List.mem_singleton.mp z) (Nat.ne_of_lt (Nat.lt_succ_self _))
  · obtain ⟨c, u, hc, rfl⟩ := hv
    refine ⟨u, ?_⟩
    rw [Array.getD_eq_getD_getElem?, hc] <;> rfl
  · rw [List.mem_singleton.mp m, sz] at z
    exact absurd (Heap.lt_size z) (Nat.not_lt.mpr (Nat.le_succ _))
  · constructor
    · rintro ⟨j, hj, e⟩
      rw [Array.getD_eq_getD_getElem?, Array.getElem?_eq_getElem hj] at e
      exact ⟨_, by rw [Array.mem_toList_iff]; exact Array.getElem_mem hj, e.symm⟩
    · rintro ⟨c, hc, rfl⟩
      obtain ⟨j, hj, e⟩ := List.getElem_of_mem hc
      rw [Array.length_toList] at hj
      refine ⟨j, hj, ?_⟩
      rw [Array.getD_eq_getD_getElem?, Array.getElem?_eq_getElem hj]
      rw [Array.getElem_toList] at e
      rw [← e] <;> rfl
end
end L2.Cal
end

section
set_option maxRecDepth 100000
set_option maxHeartbeats 4000000
namespace L2.Cal
open PySem PySem.Spec PyProof.Rows PySem.Froz L2
/-! ### texts in order -/
theorem same_of_both : ∀ a b : List Nat, ltCps a b = false → ltCps b a = false → a = b
  | [], [], _, _ => rfl
  | [], b :: t, h, _ => by simp [ltCps] at h
  | a :: r, [], _, h => by simp [ltCps] at h
  | a :: r, b :: t, h1, h2 => by
    simp only [ltCps, Bool.or_eq_false_iff, Bool.and_eq_false_imp, decide_eq_false_iff_not, beq_iff_eq] at h1 h2
    have e : a = b := by omega
    subst e
    rw [same_of_both r t (h1.2 rfl) (h2.2 rfl)]
def Below (a b : Str) : Prop := ltCps a.cps.toList b.cps.toList = true
theorem below_of {a b : Str} (h : ltCps b.cps.toList a.cps.toList = false) (n : a ≠ b) : Below a b := by
  cases e : ltCps a.cps.toList b.cps.toList with
  | true => exact e
  | false =>
    have z := same_of_both _ _ e h
    exact absurd (by cases a; cases b; exact congrArg Str.mk (Array.toList_inj.mp z)) n
/-- each text is below the next one -/
def Climbs : List Str → Prop
  | a :: b :: r => Below a b ∧ Climbs (b :: r)
  | _ => True
theorem climbs_rising : ∀ (r : List Str) (p : Str), risingS p r = true → (p :: r).Nodup → Climbs (p :: r)
  | [], _, _, _ => trivial
  | x :: r, p, h, n => by
    simp only [risingS, Bool.and_eq_true, Bool.not_eq_true'] at h
    have n2 := List.nodup_cons.mp n
    exact ⟨below_of h.1 fun e => n2.1 (e ▸ List.mem_cons_self ..), climbs_rising r x h.2 n2.2⟩
theorem climbs_sorted {ys : List Str} (h : sortedS ys = true) (n : ys.Nodup) : Climbs ys := by
  cases ys with
  | nil => trivial
  | cons x r => exact climbs_rising r x h n
theorem Climbs.at {ys : List Str} : ∀ (i : Nat) (a b : Str), Climbs ys → ys[i]? = some a → ys[i + 1]? = some b → Below a b := by
  induction ys with
  | nil => intro i a b _ h; simp at h
  | cons x r ih =>
    intro i a b c h1 h2
    cases r with
    | nil => simp at h2
    | cons y r =>
      cases i with
      | zero =>
        simp at h1 h2
        subst h1 h2
        exact c.1
      | succ i => exact ih i a b c.2 (by simpa using h1) (by simpa using h2)
/-! ### as many and all there -/
theorem perm_of_into {α : Type} : ∀ (l m : List α), l.Nodup → (∀ x, x ∈ l → x ∈ m) → m.length ≤ l.length → m.Perm l
  | [], m, _, _, h => by
    have : m = [] := List.length_eq_zero_iff.mp (Nat.le_zero.mp h)
    subst this
    exact .nil
  | a :: l, m, n, sub, h => by
    obtain ⟨m1, m2, rfl⟩ := List.append_of_mem (sub a (List.mem_cons_self ..))
    have n2 := List.nodup_cons.mp n
    refine List.perm_middle.trans (.cons a (perm_of_into l (m1 ++ m2) n2.2 (fun x hx => ?_) ?_))
    · have z := sub x (List.mem_cons_of_mem _ hx)
      have ne : x ≠ a := fun e => n2.1 (e ▸ hx)
      rcases List.mem_append.mp z with z | z
      · exact List.mem_append_left _ z
      · rcases List.mem_cons.mp z with z | z
        · exact absurd z ne
        · exact List.mem_append_right _ z
    · simp only [List.length_append, List.length_cons] at h ⊢
      omega
section
variable {P : Program} {w : World} {A : Around} {E : Value → Shared → Prop} {s : Shared}
def txtOf : Value → Str | .str k _ => k | _ => ⟨#[]⟩
theorem are_of : ∀ (l : List Value), (∀ v ∈ l, ∃ k u, v = Value.str k u) → StrsAre l (l.map txtOf)
  | [], _ => .nil
  | v :: l, h => by
    obtain ⟨k, u, rfl⟩ := h v (List.mem_cons_self ..)
    exact .cons k u (are_of l fun x hx => h x (List.mem_cons_of_mem _ hx))
theorem Has.vals {D : SD} {l : List Str} (H : Has P w D l) : (∀ v ∈ D.1.toList.map (·.2), ∃ k u, v = Value.str k u) ∧ ((D.1.toList.map (·.2)).map txtOf).Perm l := by
  have el : ∀ e ∈ D.1.toList, ∃ k u, e.2 = Value.str k u ∧ (strKind P w).is k e.2 = true := fun e he => by
    obtain ⟨⟨k, hk, _⟩, _⟩ := H.ok.el e he
    obtain ⟨u, hu⟩ := Value.isStrOf_shape (show Value.isStrOf k e.2 = true from hk)
    exact ⟨k, u, hu, hk⟩
  refine ⟨fun v hv => ?_, perm_of_into _ _ H.one (fun x hx => ?_) ?_⟩
  · obtain ⟨e, he, rfl⟩ := List.mem_map.mp hv
    obtain ⟨k, u, h1, _⟩ := el e he
    exact ⟨k, u, h1⟩
  · obtain ⟨e, he, h1⟩ := (H.ok.mem x).mp hx
    obtain ⟨u, hu⟩ := Value.isStrOf_shape (show Value.isStrOf x e.2 = true from h1)
    exact List.mem_map.mpr ⟨e.2, List.mem_map.mpr ⟨e, he, rfl⟩, by rw [hu] <;> rfl⟩
  · rw [List.length_map, List.length_map, Array.length_toList]
    exact Nat.le_of_eq H.ok.sz
/-- sorted(x) of what gives texts -/
theorem sort_texts {src : Value} {good : Shared → List Str → Prop} {Q : Value → Shared → Prop} (few : ∀ s1 ss, good s1 ss → ss.length < 64)
    (col : ∀ (E' : Value → Shared → Prop) (Q' : List Value → Shared → Prop), (∀ s1 vs ss, good s1 ss → StrsAre vs ss → Q' vs s1) → wpAny (model P w) A.in1 (collect src) Q' E' s)
    (q : ∀ s1 s' (out : Array Value) (c : Nat) (ys ss : List Str), good s1 ss → (∀ b o, s1.heap.get? b = some o → s'.heap.get? b = some o) → s'.gens = s1.gens → s'.os = s1.os → s'.heap.get? s1.heap.objs.size = some (seqObj "list" out c) → StrsAre out.toList ys → ys.Perm ss → sortedS ys = true → Q (.ref s1.heap.objs.size) s') :
    wpAny (model P w) A (call (.builtin "sorted") [src]) Q E s := by
  refine Calls.call_function_entry kind_sorted plain_sorted entry_sorted (args_sorted1 _) ?_
  unfold Builtin.«sorted»
  refine wpAny_bind (m := checkCount "sorted" 1 1 _) (wpAny_pure (wpAny_bind (col _ _ fun s1 vs ss ok are => ?_)))
  have n : vs.length = ss.length := are_length are
  have lt := few s1 ss ok
  refine wpAny_bind (wpAny_newList ?_ (by rw [n, sizeLine_eq]; omega))
  have at1 : (s1.heap.push (seqObj "list" vs.toArray 0)).get? s1.heap.objs.size = some (seqObj "list" vs.toArray 0) := Heap.get?_push_size _ rfl
  refine wpAny_bind (wpAny_holding (wpAny_call_entry slot_list_sort ⟨_, at1, rfl⟩ entry_list_sort
    (list_sort_treeK strKind_oneLt (s := { s1 with heap := s1.heap.push (seqObj "list" vs.toArray 0) }) at1 are.keysOf (fun v1 v2 rest e => keyKind_strs (by rw [← e]; exact are)) (by rw [n]; exact lt) fun st' hp hs => ⟨_, rfl, ?_⟩) (args_list_sort _)))
  obtain ⟨ys, h1, h2, h3⟩ := sorted_out_str are hp hs
  obtain ⟨c, hc⟩ := sortedHeap_at (vs := vs) (out := (arrOf st').map (·.2)) at1
  refine wpAny_pure ⟨_, rfl, q s1 _ _ c ys ss ok (fun b o z1 => ?_) rfl rfl hc h1 h2 h3⟩
  have lt1 := Heap.lt_size z1
  show (sortedHeap (s1.heap.push (seqObj "list" vs.toArray 0)) s1.heap.objs.size vs _).get? b = some o
  rw [sortedHeap_old (Nat.ne_of_lt lt1) (by rw [size_push']; exact Nat.lt_succ_of_lt lt1)]
  exact Heap.get?_push_of_some _ z1
/-- sorted(a set of texts) -/
theorem sort_set {a : Addr} {D : SD} {l : List Str} {Q : Value → Shared → Prop} (hh : A.handled = none) (ho : s.heap.get? a = some (sObj "set" D)) (H : Has P w D l) (few : l.length < 64)
    (q : ∀ s' p (out : Array Value) (c : Nat) (ys : List Str), (∀ b o, s.heap.get? b = some o → s'.heap.get? b = some o) → s'.gens = s.gens → s'.os = s.os → s.heap.objs.size ≤ p → s'.heap.get? p = some (seqObj "list" out c) → StrsAre out.toList ys → ys.Perm l → Climbs ys → Q (.ref p) s') :
    wpAny (model P w) A (call (.builtin "sorted") [.ref a]) Q E s := by
  obtain ⟨v1, v2⟩ := H.vals
  refine sort_texts (good := fun s1 ss => ss.Perm l ∧ (∀ b o, s.heap.get? b = some o → s1.heap.get? b = some o) ∧ s.heap.objs.size ≤ s1.heap.objs.size ∧ s1.gens = s.gens ∧ s1.os = s.os) (fun s1 ss h => by rw [h.1.length_eq]; exact few) (fun E' Q' k => ?_)
    fun s1 s' out c ys ss ⟨ok, k1, z, g1, o1⟩ k g o at1 are pm so => q s' _ out c ys (fun b o e => k b o (k1 b o e)) (g.trans g1) (o.trans o1) z at1 are (pm.trans ok) (climbs_sorted so ((pm.trans ok).nodup_iff.mpr H.one))
  obtain ⟨es, ep, t⟩ := D
  have sz : es.size = l.length := H.ok.sz
  refine collect_set (A := A.in1) (by simpa using hh) ⟨_, ho, rfl, rfl⟩ H.ok.fit (by show es.size < scanBound; unfold scanBound; omega) H.way.ris H.way.led fun s1 vs k1 z g1 o1 pm => ?_
  exact k s1 vs _ ⟨(pm.map txtOf).trans v2, k1, z, g1, o1⟩ (are_of vs fun v hv => v1 v (pm.mem_iff.mp hv))
/-- the signs of a text -/
theorem are_signs {y : Str} {acc : Array Value} (h : ItemsOf (SignAt y) acc y.cps.size) : StrsAre acc.toList (signs y) := by
  have z : acc.toList.map txtOf = signs y := by
    apply List.ext_getElem?
    intro i
    unfold signs
    rw [List.getElem?_map, List.getElem?_map, Array.getElem?_toList, Array.getElem?_toList]
    cases e : acc[i]? with
    | none =>
      have n : acc.size ≤ i := Array.getElem?_eq_none_iff.mp e
      rw [h.1] at n
      rw [Array.getElem?_eq_none_iff.mpr n] <;> rfl
    | some v =>
      obtain ⟨c, u, hc, rfl⟩ := h.2 i v e
      rw [hc] <;> rfl
  rw [← z]
  refine are_of _ fun v hv => ?_
  obtain ⟨i, hi, e⟩ := List.getElem_of_mem hv
  obtain ⟨c, u, _, z⟩ := h.2 i v (by rw [← Array.getElem?_toList, List.getElem?_eq_getElem hi, e])
  exact ⟨_, u, z⟩
end
section
variable {X : Cx}
theorem inv_list {pins : List (Addr × Obj)} {σ : St} {H : Hp} {s s' : Shared} {p : Addr} {out : Array Value} {c : Nat} {ys : List Str} (I : Inv X pins σ H s) (k : ∀ b o, s.heap.get? b = some o → s'.heap.get? b = some o) (g : s'.gens = s.gens) (o : s'.os = s.os) (z : s.heap.objs.size ≤ p)
    (at1 : s'.heap.get? p = some (seqObj "list" out c)) (are : StrsAre out.toList ys) (few : ys.length < 64) : Inv X pins σ (upd H p (.lst (ys.map V.str))) s' ∧ H p = none := by
  have n : H p = none := I.hok.fresh z
  have len : (ys.map V.str).length ≤ sizeLine := by rw [List.length_map, sizeLine_eq]; omega
  have J : Inv X pins σ (upd H p (.lst (ys.map V.str))) { s with heap := s'.heap, gens := s'.gens, drawn := s'.drawn, toks := s'.toks } :=
    I.call (ch := []) (Un.laid k z n) (I.hok.laid k z ⟨len, out.toList, c, vals_of_strs are, at1⟩) (by rw [g]; exact I.bare) (fun _ z => nomatch z)
  have e : s' = { s with heap := s'.heap, gens := s'.gens, drawn := s'.drawn, toks := s'.toks } := by
    cases s'
    cases s
    cases o
    rfl
  rw [e]
  exact ⟨J, n⟩
/-- a list or a tuple of texts: sorted(set(xs)) -/
def tSortedSet (K : PySem.W.Frag) (ta : TE) : TE := fun σ H Q => ta σ H fun x H1 => ∃ (l : Addr) (xs : List Str), x = V.ref l ∧ SqL K H1 l (xs.map V.str) ∧ xs.length < 64 ∧
  ∀ (ys : List Str) (p : Addr), Climbs ys → ys.Nodup → (∀ x, x ∈ ys ↔ x ∈ xs) → H1 p = none → Q (.ref p) (upd H1 p (.lst (ys.map V.str)))
theorem pe_sortedSet {a : Expr} {ta : TE} {p p2 q pos : Pos} (hc : X.calm = true) (hg : Gl X "sorted") (hm : X.mg "sorted" = none) (hg2 : Gl X "set") (hm2 : X.mg "set" = none) (ha : PE X a ta)
    (na : starEach [a] X.env = (false, eval a X.env) :: starEach [] X.env := by rfl) : PE X (.Call (.Name "sorted" p) [.Call (.Name "set" p2) [a] [] q] [] pos) (tSortedSet X.K ta) := by
  refine ⟨fun pins s σ H Q I h => Call_ (ld_blt I hg hm PyProof.Rows.boot_sorted (PyProof.Rows.callWith_builtin1 (PyProof.Rows.args_cons ?_ rfl) rfl rfl))⟩
  refine Call_ (ld_blt I hg2 hm2 PyProof.Rows.boot_set (PyProof.Rows.callWith_type1 (PyProof.Rows.args_cons (thn (ha.run pins s σ H _ I h) fun v s1 ⟨x, H1, I1, r1, q1⟩ => PyProof.Rows.args_nil ?_) na) na rfl))
  obtain ⟨l, xs, rfl, hq, few, fin⟩ := q1
  cases r1
  obtain ⟨its, r, pl, _⟩ := I1.list hq
  refine set_list (I1.ok.hd hc) pl.isList (by simpa using r.strs) (by unfold scanBound; omega) fun h' tk D L k1 at1 S mem => PyProof.Rows.args_nil ?_
  have I2 : Inv X pins σ H1 { s1 with heap := h', toks := tk } := I1.kept k1
  have short : L.length < 64 := by
    refine Nat.lt_of_le_of_lt ?_ few
    exact (List.Nodup.length_le_of_subset S.one fun x hx => (mem x).mp hx)
  refine sort_set (I2.ok.hd hc) at1 S short fun s' b out c ys k g o z at2 are pm cl => ?_
  obtain ⟨J, n⟩ := inv_list I2 k g o z at2 are (by rw [pm.length_eq]; exact short)
  exact ⟨.ref b, _, J, rfl, fin ys b cl (pm.nodup_iff.mpr S.one) (fun x => pm.mem_iff.trans (mem x)) n⟩
/-- len(set(y)), y a text -/
def tLenSetS (ta : TE) : TE := fun σ H Q => ta σ H fun x H1 => ∃ y : Str, x = .str y ∧ y.cps.size ≤ 1000 ∧ ∀ l : List Str, l.Nodup → (∀ x, x ∈ l ↔ ∃ c ∈ y.cps.toList, x = ⟨#[c]⟩) → Q (.int l.length) H1
theorem pe_lenSetS {a : Expr} {ta : TE} {p p2 q pos : Pos} (hc : X.calm = true) (hg : Gl X "len") (hm : X.mg "len" = none) (hg2 : Gl X "set") (hm2 : X.mg "set" = none) (ha : PE X a ta)
    (na : starEach [a] X.env = (false, eval a X.env) :: starEach [] X.env := by rfl) : PE X (.Call (.Name "len" p) [.Call (.Name "set" p2) [a] [] q] [] pos) (tLenSetS ta) := by
  refine ⟨fun pins s σ H Q I h => Call_ (ld_blt I hg hm PySem.boot_len (PyProof.Rows.callWith_builtin1 (PyProof.Rows.args_cons ?_ rfl) rfl rfl))⟩
  refine Call_ (ld_blt I hg2 hm2 PyProof.Rows.boot_set (PyProof.Rows.callWith_type1 (PyProof.Rows.args_cons (thn (ha.run pins s σ H _ I h) fun v s1 ⟨x, H1, I1, r1, q1⟩ => PyProof.Rows.args_nil ?_) na) na rfl))
  obtain ⟨y, rfl, few, fin⟩ := q1
  obtain ⟨t, rfl⟩ := r1
  refine set_text (I1.ok.hd hc) (by unfold scanBound; omega) fun h' tk D L k1 at1 S mem => PyProof.Rows.args_nil ?_
  have I2 : Inv X pins σ H1 { s1 with heap := h', toks := tk } := I1.kept k1
  have short : D.1.size = L.length := S.ok.sz
  have le : L.length ≤ y.cps.size := by
    have z := List.Nodup.length_le_of_subset S.one (l₂ := y.cps.toList.map fun c => (⟨#[c]⟩ : Str)) fun x hx => by
      obtain ⟨c, hc, rfl⟩ := (mem x).mp hx
      exact List.mem_map.mpr ⟨c, hc, rfl⟩
    simpa using z
  refine call_len_set at1 ⟨rfl, rfl, rfl⟩ rfl S.ok.fit (by rw [short] <;> omega) ⟨.int L.length, H1, I2.tok _, ⟨_, by rw [short]⟩, fin L S.one mem⟩
/-- sorted(y), y a text -/
def rSortText : List V → Hp → VK → Prop := fun vs H Q => ∃ y : Str, vs = [.str y] ∧ y.cps.size < 64 ∧ ∀ (ys : List Str) (p : Addr), ys.Perm (signs y) → sortedS ys = true → H p = none → Q (.ref p) (upd H p (.lst (ys.map V.str)))
theorem cr_sortText (hc : X.calm = true) : CallR X (.builtin "sorted") rSortText := by
  intro pins s σ H vs us Q I r h
  obtain ⟨y, rfl, few, q⟩ := h
  cases r with
  | cons r rr =>
    cases rr
    obtain ⟨t, rfl⟩ := r
    refine sort_texts (good := fun s1 ss => ss = signs y ∧ (∀ b o, s.heap.get? b = some o → s1.heap.get? b = some o) ∧ s1.gens = s.gens ∧ s1.drawn = s.drawn ∧ s1.os = s.os) (fun s1 ss h => by rw [h.1, signs_length]; exact few) (fun E' Q' k => ?_)
      fun s1 s' out c ys ss ⟨e, k1, g1, d1, o1⟩ k g o at1 are pm so => ?_
    · exact wpAny_collect_str (by simpa using I.ok.hd hc) y t (fun s1 acc k1 g d o it => k s1 acc.toList _ ⟨rfl, k1, g, d, o⟩ (are_signs it)) (by rw [sizeLine_eq]; omega)
    · subst e
      have I1 : Inv X pins σ H s1 := by
        have z : s1 = { s with heap := s1.heap, toks := s1.toks } := by
          cases s1
          cases s
          cases g1
          cases d1
          cases o1
          rfl
        rw [z]
        exact I.kept k1
      obtain ⟨J, n⟩ := inv_list I1 k g o (Nat.le_refl _) at1 are (by rw [pm.length_eq, signs_length]; exact few)
      exact ⟨.ref _, _, J, rfl, q ys _ pm so n⟩
/-- list(y), y a text -/
def rListText : List V → Hp → VK → Prop := fun vs H Q => ∃ y : Str, vs = [.str y] ∧ y.cps.size ≤ 1000 ∧ ∀ p : Addr, H p = none → Q (.ref p) (upd H p (.lst ((signs y).map V.str)))
theorem cr_listText (hc : X.calm = true) : CallR X (.type "list") rListText := by
  intro pins s σ H vs us Q I r h
  obtain ⟨y, rfl, few, q⟩ := h
  cases r with
  | cons r rr =>
    cases rr
    obtain ⟨t, rfl⟩ := r
    refine call_list_str (I.ok.hd hc) y t (fun h' tk acc c k at1 it => ?_) (by rw [sizeLine_eq]; omega)
    have are := are_signs it
    have len : ((signs y).map V.str).length ≤ sizeLine := by
      rw [List.length_map, signs_length, sizeLine_eq]
      show y.cps.size ≤ _
      omega
    exact ⟨.ref s.heap.objs.size, _, I.laid (t' := tk) k (Nat.le_refl _) (show ObjOk X.prog X.w _ h' _ (.lst ((signs y).map V.str)) from ⟨len, acc.toList, c, vals_of_strs are, at1⟩), rfl, q _ (I.hok.fresh (Nat.le_refl _))⟩
end
end L2.Cal
end

section
set_option maxRecDepth 100000
set_option maxHeartbeats 4000000
namespace L2.Cal
open PySem PySem.Spec PyProof.Rows L2
abbrev sShuf : Stmt := topS 34
theorem scShuf : FnScope ["_law_jar_here", "_law_things_here", "_law_rest", "_law_found", "_law_turn"] ["_law_jar_here", "_law_things_here"] (defScope sShuf) := ⟨rfl, rfl, rfl, by decide +kernel, rfl, by decide +kernel, by decide +kernel⟩

theorem app_cps (a b : Str) : (a ++ b).cps.toList = a.cps.toList ++ b.cps.toList := by
  show (Array.append _ _).toList = _
  simp
theorem sign_cps (a : Str) (c : Nat) : (a ++ (⟨#[c]⟩ : Str)).cps.toList = a.cps.toList ++ [c] := app_cps _ _
theorem Jar.keep {H H' : Hp} {j p : Addr} (J : Jar H j) (n : H p = none) (k : ∀ b o, b ≠ p → H b = some o → H' b = some o) : Jar H' j := by
  obtain ⟨d, s, c, e, r⟩ := J
  exact ⟨d, s, c, k _ _ (fun z => by rw [z, n] at e; cases e) e, r⟩
theorem seq_in {r : Int} {n : Nat} (h0 : 0 ≤ r) (h1 : r < n) : seqIndex? r n = some r.toNat := by
  unfold seqIndex?
  dsimp only
  rw [if_neg (by omega : ¬ r < 0), if_pos (by rw [Bool.and_eq_true]; exact ⟨decide_eq_true h0, decide_eq_true h1⟩)]
theorem erase_map {α β : Type} (f : α → β) : ∀ (l : List α) (k : Nat), (l.map f).eraseIdx k = (l.eraseIdx k).map f
  | [], _ => rfl
  | _ :: _, 0 => rfl
  | a :: l, k + 1 => congrArg (f a :: ·) (erase_map f l k)
theorem erase_perm {α : Type} : ∀ {l : List α} {k : Nat} (h : k < l.length), ([l[k]] ++ l.eraseIdx k).Perm l
  | a :: l, 0, _ => .refl _
  | a :: l, k + 1, h => (List.Perm.swap a _ _).trans (.cons a (erase_perm (l := l) (Nat.lt_of_succ_lt_succ h)))
def spShuf : Sp := fun vs H Q _ => ∃ (j : Addr) (y : Str), vs = [.ref j, .str y] ∧ Jar H j ∧ y.cps.size ≤ 100 ∧ ∀ (z : Str) (H' : Hp), Kp j H H' → Jar H' j → z.cps.toList.Perm y.cps.toList → Q (.str z) H'
section
variable {P : Program} {w : World} {K : PySem.W.Frag} {mg : Str → Option Value} {base : Heap}
theorem ok_shuf {f fD : Addr} {fd fdD : FuncData} (D : DefAt K mg "_law_shuffled" sShuf ["_law_jar_here", "_law_things_here"] f fd) (DD : DefAt K mg "_law_dip" sDip ["_law_jar_here", "_law_wide"] fD fdD) (T : Txt mg) : FnOk P w K mg base CX0 2 f fd ["_law_jar_here", "_law_things_here"] spShuf := by
  have GD : FnOk P w K mg base CX0 1 fD fdD ["_law_jar_here", "_law_wide"] spDip := ok_dip DD T
  refine D.F.ok scShuf (fun vs H Q E h => ?_) (fun cdv A outer sh H vs Q E hr h => ?_)
  · obtain ⟨j, y, rfl, _⟩ := h
    rfl
  · obtain ⟨j, y, rfl, hj, hy, q⟩ := h
    refine ⟨_, (pss_cons (ps_par (i := 2) (j := 3) (by rfl) scShuf.nd rfl rfl (by decide) rfl rfl (pa_cons (pe_callTy (cr_listText rfl) (by rfl) T.b_list (by decide +kernel) (pa_cons (pv 1) pa_nil)) (pa_cons pe_str pa_nil)) (by rfl))
  (pss_cons (ps_for PassesOwn.never rfl (pi_range1 (by rfl) T.b_range (pa_cons (pe_callB call_len_seq (by rfl) T.b_len (by decide +kernel) (pa_cons (pv 2) pa_nil)) pa_nil)) (pg_name (i := 4) scShuf.nd rfl (.inl rfl))
   (pss_one (ps_set (i := 3) scShuf.nd rfl (.inl rfl) (pe_op op_add_str (pv 3) (pe_bm PySem.F.plainAttrs_list PySem.F.slot_list_pop PySem.F.type_list_pop mt_popAt (pv 2) (pa_cons (pe_call GD (hr.mono (by decide)) (by rfl) DD.g DD.F.kp DD.b .nil pass0 (pa_cons (pv 0) (pa_cons (pe_callB call_len_seq (by rfl) T.b_len (by decide +kernel) (pa_cons (pv 2) pa_nil)) pa_nil))) pa_nil))))))
  (pss_one (ps_ret (pv 3))))), ?_⟩
    refine ⟨_, rfl, y, rfl, by omega, fun p np => ⟨_, _, rfl, _, rfl, p, _, rfl, .inl (SqL.of upd_same), ?_⟩⟩
    rw [List.length_map, signs_length]
    have hp : j ≠ p := by
      obtain ⟨d, s, c, e, _⟩ := hj
      exact fun z => by rw [z, np] at e; cases e
    have hly : y.length = y.cps.size := rfl
    refine ⟨(y.length : Int), rfl, by omega, by omega, for_range (n := y.cps.size) (fun i σ H' => ∃ (z : Str) (cs : List Nat) (v : Option V), σ = [some (.ref j), some (.str y), some (.ref p), some (.str z), v] ∧
      H' p = some (.lst (cs.map fun c => V.str ⟨#[c]⟩)) ∧ Jar H' j ∧ (∀ b o, b ≠ j → b ≠ p → H b = some o → H' b = some o) ∧ (z.cps.toList ++ cs).Perm y.cps.toList ∧ z.cps.toList.length = i)
      ⟨⟨#[]⟩, y.cps.toList, none, rfl, ?_, hj.new np, fun b o _ n e => by rw [upd_ne n]; exact e, .refl _, rfl⟩ (fun i σ H' hi hP => ?_) (fun σ H' hP => ?_)⟩
    · rw [upd_same]
      unfold signs
      rw [List.map_map] <;> rfl
    · obtain ⟨z, cs, v, rfl, hl, hJ, hk, hpm, hz⟩ := hP
      obtain ⟨d, s, c, ej, h0, h1, h2, h3⟩ := hJ
      have hlen := hpm.length_eq
      simp only [List.length_append, Array.length_toList] at hlen hz
      have hcs : 0 < cs.length := by omega
      refine ⟨_, rfl, _, rfl, .inl ⟨rfl, _, SqL.of hl⟩, _, rfl, _, rfl, p, _, rfl, .inl (SqL.of hl), j, _, d, s, c, rfl, ej, h0, h1, h2, h3, by rw [List.length_map]; omega, by rw [List.length_map]; omega, fun r d' s' c' r0 r1 a0 a1 a2 a3 => ?_⟩
      rw [List.length_map] at r1
      have hk1 : r.toNat < cs.length := by omega
      have up : (upd H' j (.lst [.int d', .int s', .int c'])) p = some (.lst (cs.map fun c => V.str ⟨#[c]⟩)) := by rw [upd_ne hp.symm]; exact hl
      have hsi : seqIndex? r (cs.map fun c => V.str ⟨#[c]⟩).length = some r.toNat := by
        rw [List.length_map]
        exact seq_in r0 r1
      refine ⟨p, _, r, r.toNat, _, rfl, rfl, up, by omega, by omega, hsi, (by rw [List.getElem?_map, List.getElem?_eq_getElem hk1] <;> rfl), _, _, rfl, rfl, ?_, ?_⟩
      · rw [sizeLine_eq]
        show z.cps.size + 1 ≤ _
        have : z.cps.size = i := by rw [← Array.length_toList]; exact hz
        omega
      · refine ⟨_, cs.eraseIdx r.toNat, _, rfl, ?_, ?_, fun b o n1 n2 e => ?_, ?_, ?_⟩
        · rw [upd_same, erase_map]
        · exact ⟨d', s', c', by rw [upd_ne hp, upd_same], a0, a1, a2, a3⟩
        · rw [upd_ne n2, upd_ne n1]
          exact hk b o n1 n2 e
        · rw [sign_cps, List.append_assoc]
          exact (List.Perm.append_left _ (erase_perm hk1)).trans hpm
        · rw [sign_cps]
          simp only [List.length_append, List.length_cons, List.length_nil, Array.length_toList] at hz ⊢
          omega
    · obtain ⟨z, cs, v, rfl, hl, hJ, hk, hpm, hz⟩ := hP
      have hlen := hpm.length_eq
      simp only [List.length_append, Array.length_toList] at hlen hz
      have hcs : cs = [] := List.length_eq_zero_iff.mp (by omega)
      subst hcs
      rw [List.append_nil] at hpm
      exact ⟨_, rfl, q z _ (fun b o n e => hk b o n (fun z => by rw [z, np] at e; cases e) e) hJ hpm⟩
end
end L2.Cal
end

section
set_option maxRecDepth 100000
set_option maxHeartbeats 4000000
namespace L2.Cal
open PySem PySem.Spec PyProof.Rows L2
abbrev sLett : Stmt := topS 35
theorem scLett : FnScope ["_law_jar_here", "_law_many", "_law_rest", "_law_found", "_law_turn"] ["_law_jar_here", "_law_many"] (defScope sLett) := ⟨rfl, rfl, rfl, by decide +kernel, rfl, by decide +kernel, by decide +kernel⟩

def one (c : Nat) : Str := ⟨#[c]⟩
theorem join_signs (z : Str) : Txt.join (PySem.Str.ofString "") (signs z) = z := by
  have e : Txt.join (PySem.Str.ofString "") (signs z) = PySem.Str.join (PySem.Str.ofString "") (signs z) := eq_of_beq (join_plain_closes _ _)
  rw [e, show PySem.Str.ofString "" = (⟨#[]⟩ : Str) by decide +kernel]
  exact join_nil_signs z
theorem ones_back {ys : List Str} {cs : List Nat} (h : ys.Perm (cs.map one)) : ∃ z : Str, ys = signs z ∧ z.cps.toList.Perm cs := by
  have g : (cs.map one).map (fun s => s.cps.getD 0 0) = cs := by
    rw [List.map_map]
    exact (List.map_congr_left fun c _ => rfl).trans (List.map_id _)
  refine ⟨⟨(ys.map fun s => s.cps.getD 0 0).toArray⟩, ?_, ?_⟩
  · unfold signs
    dsimp only
    rw [List.map_map]
    refine (List.map_id' ys).symm.trans (List.map_congr_left fun s hs => ?_)
    obtain ⟨c, _, rfl⟩ := List.mem_map.mp (h.mem_iff.mp hs)
    rfl
  · dsimp only
    have := h.map (fun s => s.cps.getD 0 0)
    rw [g] at this
    exact this
/-- letters, each once -/
def Lett (z : Str) : Prop := z.cps.toList.Nodup ∧ ∀ c ∈ z.cps.toList, 97 ≤ c ∧ c ≤ 122
theorem Lett.perm {y z : Str} (h : Lett y) (p : z.cps.toList.Perm y.cps.toList) : Lett z := ⟨p.nodup_iff.mpr h.1, fun c hc => h.2 c (p.mem_iff.mp hc)⟩
theorem sum_ones : ∀ l : List Nat, (l.map fun _ => 1).sum = l.length
  | [] => rfl
  | a :: l => by rw [List.map_cons, List.sum_cons, sum_ones l, List.length_cons, Nat.add_comm]
def spLett : Sp := fun vs H Q _ => ∃ (j : Addr) (m : Nat), vs = [.ref j, .int m] ∧ Jar H j ∧ m ≤ 11 ∧ ∀ (z : Str) (H' : Hp), Kp j H H' → Jar H' j → Lett z → z.cps.size = m → Q (.str z) H'
section
variable {P : Program} {w : World} {K : PySem.W.Frag} {mg : Str → Option Value} {base : Heap}
theorem ok_lett {f fD : Addr} {fd fdD : FuncData} (D : DefAt K mg "_law_letters" sLett ["_law_jar_here", "_law_many"] f fd) (DD : DefAt K mg "_law_dip" sDip ["_law_jar_here", "_law_wide"] fD fdD) (T : Txt mg) : FnOk P w K mg base CX0 2 f fd ["_law_jar_here", "_law_many"] spLett := by
  have GD : FnOk P w K mg base CX0 1 fD fdD ["_law_jar_here", "_law_wide"] spDip := ok_dip DD T
  refine D.F.ok scLett (fun vs H Q E h => ?_) (fun cdv A outer sh H vs Q E hr h => ?_)
  · obtain ⟨j, m, rfl, _⟩ := h
    rfl
  · obtain ⟨j, m, rfl, hj, hm, q⟩ := h
    refine ⟨_, (pss_cons (ps_par (i := 2) (j := 3) (by rfl) scLett.nd rfl rfl (by decide) rfl rfl (pa_cons (pe_callTy (cr_listText rfl) (by rfl) T.b_list (by decide +kernel) (pa_cons pe_str pa_nil)) (pa_cons (pe_lstS pa_nil) pa_nil)) (by rfl))
  (pss_cons (ps_for PassesOwn.never rfl (pi_range1 (by rfl) T.b_range (pa_cons (pv 1) pa_nil)) (pg_name (i := 4) scLett.nd rfl (.inl rfl))
   (pss_one (ps_expr (pe_bm PySem.F.plainAttrs_list PySem.F.slot_list_append PySem.F.type_list_append mt_append (pv 3) (pa_cons (pe_bm PySem.F.plainAttrs_list PySem.F.slot_list_pop PySem.F.type_list_pop mt_popAt (pv 2) (pa_cons (pe_call GD (hr.mono (by decide)) (by rfl) DD.g DD.F.kp DD.b .nil pass0 (pa_cons (pv 0) (pa_cons (pe_callB call_len_seq (by rfl) T.b_len (by decide +kernel) (pa_cons (pv 2) pa_nil)) pa_nil))) pa_nil)) pa_nil)))))
  (pss_one (ps_ret (pe_join pe_str (pe_callB cr_sortedS (by rfl) T.b_sorted (by decide +kernel) (pa_cons (pv 3) pa_nil))))))), ?_⟩
    refine ⟨_, rfl, by decide +kernel, fun p np => ⟨(by show 0 ≤ sizeLine; decide), fun l H1 s1 nl el => ?_⟩⟩
    have hp : j ≠ p := by
      obtain ⟨d, s, c, e, _⟩ := hj
      exact fun z => by rw [z, np] at e; cases e
    have abc : (Str.ofString "abcdefkmxyz").cps.toList = [97, 98, 99, 100, 101, 102, 107, 109, 120, 121, 122] := by decide +kernel
    have ep : H1 p = some (.lst ([97, 98, 99, 100, 101, 102, 107, 109, 120, 121, 122].map fun c => V.str (one c))) := by
      refine s1 _ _ ?_
      rw [upd_same]
      unfold signs
      rw [abc, List.map_map] <;> rfl
    have hjl : j ≠ l := by
      obtain ⟨d, s, c, e, _⟩ := (hj.new np).same s1
      exact fun z => by
        obtain ⟨d2, s2, c2, e2, _⟩ := hj.new (o := .lst ((signs (Str.ofString "abcdefkmxyz")).map V.str)) np
        rw [z, nl] at e2
        cases e2
    have hpl : p ≠ l := fun z => by rw [← z, upd_same] at nl; cases nl
    have nl0 : H l = none := by
      cases e : H l with
      | none => rfl
      | some o => rw [upd_ne hpl.symm, e] at nl; cases nl
    refine ⟨_, _, rfl, _, rfl, (m : Int), rfl, by omega, by omega, for_range (n := m) (fun i σ H' => ∃ (cs fs : List Nat) (v : Option V), σ = [some (.ref j), some (.int m), some (.ref p), some (.ref l), v] ∧
      H' p = some (.lst (cs.map fun c => V.str (one c))) ∧ H' l = some (.lst (fs.map fun c => V.str (one c))) ∧ Jar H' j ∧ (∀ b o, b ≠ j → b ≠ p → b ≠ l → H b = some o → H' b = some o) ∧ (fs ++ cs).Perm [97, 98, 99, 100, 101, 102, 107, 109, 120, 121, 122] ∧ fs.length = i)
      ⟨_, [], none, rfl, ep, el, (hj.new np).same s1, fun b o _ n _ e => s1 _ _ (by rw [upd_ne n]; exact e), .refl _, rfl⟩ (fun i σ H' hi hP => ?_) (fun σ H' hP => ?_)⟩
    · obtain ⟨cs, fs, v, rfl, hc, hf, hJ, hk, hpm, hz⟩ := hP
      obtain ⟨d, s, c, ej, h0, h1, h2, h3⟩ := hJ
      have hlen := hpm.length_eq
      rw [List.length_append, hz] at hlen
      simp only [List.length_cons, List.length_nil] at hlen
      have hcs : 0 < cs.length := by omega
      refine ⟨_, rfl, .inl ⟨rfl, _, SqL.of hf⟩, _, rfl, .inl ⟨rfl, _, SqL.of hc⟩, _, rfl, _, rfl, p, _, rfl, .inl (SqL.of hc), j, _, d, s, c, rfl, ej, h0, h1, h2, h3, by rw [List.length_map]; omega, by rw [List.length_map]; omega, fun r d' s' c' r0 r1 a0 a1 a2 a3 => ?_⟩
      rw [List.length_map] at r1
      have hk1 : r.toNat < cs.length := by omega
      have up : (upd H' j (.lst [.int d', .int s', .int c'])) p = some (.lst (cs.map fun c => V.str (one c))) := by rw [upd_ne hp.symm]; exact hc
      have ul : (upd (upd H' j (.lst [.int d', .int s', .int c'])) p (.lst ((cs.map fun c => V.str (one c)).eraseIdx r.toNat))) l = some (.lst (fs.map fun c => V.str (one c))) := by rw [upd_ne hpl.symm, upd_ne hjl.symm]; exact hf
      have hsi : seqIndex? r (cs.map fun c => V.str (one c)).length = some r.toNat := by
        rw [List.length_map]
        exact seq_in r0 r1
      refine ⟨p, _, r, r.toNat, _, rfl, rfl, up, by omega, by omega, hsi, (by rw [List.getElem?_map, List.getElem?_eq_getElem hk1] <;> rfl), l, _, _, rfl, rfl, ul, ?_, ?_⟩
      · rw [List.length_map, hz, sizeLine_eq]
        omega
      · refine ⟨cs.eraseIdx r.toNat, fs ++ [cs[r.toNat]], _, rfl, ?_, ?_, ?_, fun b o n1 n2 n3 e => ?_, ?_, ?_⟩
        · rw [upd_ne hpl, upd_same, erase_map]
        · rw [upd_same, List.map_append]
          rfl
        · exact ⟨d', s', c', by rw [upd_ne hjl, upd_ne hp, upd_same], a0, a1, a2, a3⟩
        · rw [upd_ne n3, upd_ne n2, upd_ne n1]
          exact hk b o n1 n2 n3 e
        · rw [List.append_assoc]
          exact (List.Perm.append_left _ (erase_perm hk1)).trans hpm
        · simp [hz]
    · obtain ⟨cs, fs, v, rfl, hc, hf, hJ, hk, hpm, hz⟩ := hP
      refine ⟨⟨_, rfl⟩, _, rfl, l, fs.map one, rfl, SqL.of (by rw [hf, List.map_map] <;> rfl), by rw [List.length_map]; omega, fun ys p2 pm so n2 => ?_⟩
      obtain ⟨z, rfl, hzp⟩ := ones_back pm
      have sub := List.Nodup.sublist (List.sublist_append_left fs cs) (hpm.nodup_iff.mpr (by decide))
      have zl : z.cps.size = m := by
        rw [← Array.length_toList, hzp.length_eq, hz]
      refine ⟨_, p2, _, rfl, rfl, .inl (SqL.of upd_same), ?_, ?_⟩
      · have e1 : ((signs z).map (·.length)).sum = m := by
          unfold signs
          rw [List.map_map, show ((fun x : Str => x.length) ∘ fun n => (⟨#[n]⟩ : Str)) = fun _ => 1 from rfl, sum_ones, Array.length_toList]
          exact zl
        rw [e1, signs_length, show (PySem.Str.ofString "").length = 0 by decide +kernel]
        omega
      · rw [join_signs]
        refine q z _ (fun b o n e => ?_) ?_ ⟨hzp.nodup_iff.mpr sub, fun c hc => ?_⟩ zl
        · have nb : b ≠ p := fun z => by rw [z, np] at e; cases e
          have nb2 : b ≠ l := fun z => by rw [z, nl0] at e; cases e
          rw [upd_ne (ne_of_none (hk b o n nb nb2 e) n2)]
          exact hk b o n nb nb2 e
        · exact hJ.new n2
        · have := hpm.mem_iff.mp (List.mem_append_left cs (hzp.mem_iff.mp hc))
          simp only [List.mem_cons, List.not_mem_nil, or_false] at this
          omega
end
end L2.Cal
end

section
set_option maxRecDepth 100000
set_option maxHeartbeats 4000000
namespace L2.Cal
open PySem PySem.Spec PyProof.Rows L2
abbrev sHill : Stmt := topS 36
theorem scHill : FnScope ["_law_jar_here", "_law_line_here", "_law_at", "_law_low", "_law_high", "_law_found", "_law_turn"] ["_law_jar_here", "_law_line_here"] (defScope sHill) := ⟨rfl, rfl, rfl, by decide +kernel, rfl, by decide +kernel, by decide +kernel⟩

def spHill : Sp := fun vs H Q _ => ∃ (j : Addr) (y : Str), vs = [.ref j, .str y] ∧ Jar H j ∧ 0 < y.cps.size ∧ y.cps.size ≤ 100 ∧ ∀ (z : Str) (H' : Hp), Kp j H H' → Jar H' j → z.cps.toList.Perm y.cps.toList → Q (.str z) H'
section
variable {P : Program} {w : World} {K : PySem.W.Frag} {mg : Str → Option Value} {base : Heap}
theorem ok_hill {f fD : Addr} {fd fdD : FuncData} (D : DefAt K mg "_law_hill" sHill ["_law_jar_here", "_law_line_here"] f fd) (DD : DefAt K mg "_law_dip" sDip ["_law_jar_here", "_law_wide"] fD fdD) (T : Txt mg) : FnOk P w K mg base CX0 2 f fd ["_law_jar_here", "_law_line_here"] spHill := by
  have GD : FnOk P w K mg base CX0 1 fD fdD ["_law_jar_here", "_law_wide"] spDip := ok_dip DD T
  refine D.F.ok scHill (fun vs H Q E h => ?_) (fun cdv A outer sh H vs Q E hr h => ?_)
  · obtain ⟨j, y, rfl, _⟩ := h
    rfl
  · obtain ⟨j, y, rfl, hj, hy0, hy, q⟩ := h
    obtain ⟨d, s, c, ej, h0, h1, h2, h3⟩ := hj
    refine ⟨_, (pss_cons (ps_set (i := 2) scHill.nd rfl (.inl rfl) (pe_call GD (hr.mono (by decide)) (by rfl) DD.g DD.F.kp DD.b .nil pass0 (pa_cons (pv 0) (pa_cons (pe_callB call_len_str (by rfl) T.b_len (by decide +kernel) (pa_cons (pv 1) pa_nil)) pa_nil))))
  (pss_cons (ps_par3 (i := 3) (j := 4) (l := 5) (by rfl) scHill.nd rfl rfl rfl (by decide) (by decide) (by decide) rfl rfl rfl (pa_cons (pe_op op_sub (pv 2) pe_int) (pa_cons (pe_op op_add (pv 2) pe_int) (pa_cons (pe_ix ix_str (pv 1) (pv 2) (fun _ _ => rfl)) pa_nil))) (by rfl))
  (pss_cons (ps_for PassesOwn.never rfl (pi_range1 (by rfl) T.b_range (pa_cons (pe_op op_sub (pe_callB call_len_str (by rfl) T.b_len (by decide +kernel) (pa_cons (pv 1) pa_nil)) pe_int) pa_nil)) (pg_name (i := 6) scHill.nd rfl (.inl rfl))
   (pss_one (ps_if (PW.pt (pw_or (pt_cmpR op_eq (pv 4) (pe_callB call_len_str (by rfl) T.b_len (by decide +kernel) (pa_cons (pv 1) pa_nil)) (nomark _)) (pw_or1 (PW.pt (pw_and (pt_cmpR op_ge (pv 3) pe_int (nomark _)) (pw_and1 (pt_cmpR op_eq (pe_call GD (hr.mono (by decide)) (by rfl) DD.g DD.F.kp DD.b .nil pass0 (pa_cons (pv 0) (pa_cons pe_int pa_nil))) pe_int (nomark _))))))))
   (pss_one (ps_par (i := 5) (j := 3) (by rfl) scHill.nd rfl rfl (by decide) rfl rfl (pa_cons (pe_op op_add_str (pv 5) (pe_ix ix_str (pv 1) (pv 3) (fun _ _ => rfl))) (pa_cons (pe_op op_sub (pv 3) pe_int) pa_nil)) (by rfl)))
   (pss_one (ps_par (i := 5) (j := 4) (by rfl) scHill.nd rfl rfl (by decide) rfl rfl (pa_cons (pe_op op_add_str (pv 5) (pe_ix ix_str (pv 1) (pv 4) (fun _ _ => rfl))) (pa_cons (pe_op op_add (pv 4) pe_int) pa_nil)) (by rfl))))))
  (pss_one (ps_ret (pv 5)))))), ?_⟩
    have sz : y.length = y.cps.size := rfl
    refine ⟨_, rfl, _, rfl, y, rfl, (by rw [sizeLine_eq, sz]; omega), j, _, d, s, c, rfl, ej, h0, h1, h2, h3, by omega, by omega, fun r d' s' c' r0 r1 a0 a1 a2 a3 => ?_⟩
    have ej1 : ((y.length : Int) - 1) = ((y.cps.size - 1 : Nat) : Int) := by rw [sz]; omega
    obtain ⟨rn, rfl⟩ := Int.eq_ofNat_of_zero_le r0
    have rl : rn < y.cps.size := by omega
    have szl : y.cps.toList.length = y.cps.size := Array.length_toList
    have gat : ∀ k : Nat, (hk : k < y.cps.size) → atI y.cps.toList (k : Int) = some (y.cps.toList[k]'(by omega)) := fun k hk => atI_nat (List.getElem?_eq_getElem _)
    refine ⟨_, rfl, _, _, rfl, rfl, _, rfl, _, _, rfl, rfl, _, rfl, _, rfl, y, rn, _, rfl, rfl, (by rw [sizeLine_eq, sz]; omega), gat rn rl, _, _, _, rfl, ?_⟩
    refine ⟨_, rfl, y, rfl, (by rw [sizeLine_eq, sz]; omega), _, _, rfl, rfl, ((y.cps.size - 1 : Nat) : Int), congrArg (fun t => [V.int t]) ej1, by omega, by omega, for_range (n := y.cps.size - 1) (fun i σ H' => ∃ (A B : Nat) (z : Str) (v : Option V), σ = [some (.ref j), some (.str y), some (.int rn), some (.int ((A : Int) - 1)), some (.int B), some (.str z), v] ∧
      A + i + 1 = B ∧ B ≤ y.cps.size ∧ Jar H' j ∧ Kp j H H' ∧ z.cps.toList.Perm ((y.cps.toList.take B).drop A))
      ⟨rn, rn + 1, one (y.cps.toList[rn]'(by omega)), none, rfl, by omega, by omega, .up a0 a1 a2 a3, .jar, ?_⟩ (fun i σ H' hi hP => ?_) (fun σ H' hP => ?_)⟩
    · rw [List.take_succ, List.getElem?_eq_getElem (by omega), List.drop_append, List.drop_of_length_le (by rw [List.length_take]; omega), List.length_take, Nat.min_eq_left (by omega), Nat.sub_self]
      exact .refl _
    · obtain ⟨A, B, z, v, rfl, hAB, hB, hJ, hk, hpm⟩ := hP
      have zl : z.cps.size = i + 1 := by
        rw [← Array.length_toList, hpm.length_eq, List.length_drop, List.length_take]
        omega
      have fit : z.length + 1 ≤ sizeLine := by
        rw [sizeLine_eq]
        show z.cps.size + 1 ≤ _
        omega
      have lo : ∀ a : Nat, ∀ e : A = a + 1, (z ++ one (y.cps.toList[a]'(by omega))).cps.toList.Perm ((y.cps.toList.take B).drop a) := fun a e => by
        have hb : a < (y.cps.toList.take B).length := by rw [List.length_take]; omega
        rw [List.drop_eq_getElem_cons hb, List.getElem_take, ← e]
        refine .trans (by rw [show (z ++ one (y.cps.toList[a]'(by omega))).cps.toList = z.cps.toList ++ [y.cps.toList[a]'(by omega)] from sign_cps _ _]; exact List.perm_append_singleton _ _) (.cons _ hpm)
      have hi2 : (hb : B < y.cps.size) → (z ++ one (y.cps.toList[B]'(by omega))).cps.toList.Perm ((y.cps.toList.take (B + 1)).drop A) := fun hb => by
        rw [List.take_succ, List.getElem?_eq_getElem (by omega), List.drop_append, List.length_take, show A - min B y.cps.toList.length = 0 by omega, show (z ++ one (y.cps.toList[B]'(by omega))).cps.toList = z.cps.toList ++ [y.cps.toList[B]'(by omega)] from sign_cps _ _]
        exact List.Perm.append_right _ hpm
      have goLo : 0 < A → ∀ H2 : Hp, Jar H2 j → Kp j H H2 → ∃ a : Nat, A = a + 1 := fun h _ _ _ => ⟨A - 1, by omega⟩
      obtain ⟨d2, s2, c2, ej2, b0, b1, b2, b3⟩ := hJ
      have J2 : Jar H' j := ⟨d2, s2, c2, ej2, b0, b1, b2, b3⟩
      refine ⟨_, rfl, _, rfl, y, rfl, (by rw [sizeLine_eq, sz]; omega), rfl, _, rfl, ite2 (fun e => ?_) (fun e => ⟨_, rfl, _, _, rfl, rfl, _, rfl, ite2 (fun e2 => ⟨_, rfl, j, 2, d2, s2, c2, rfl, ej2, b0, b1, b2, b3, by decide, by decide, fun r d' s' c' r0 r1 x0 x1 x2 x3 => ⟨rfl, _, rfl, ite2 (fun e3 => ?_) (fun e3 => ?_)⟩⟩) (fun e2 => iteF ?_)⟩)⟩
      · have eB : B = y.cps.size := by
          have := V.int.inj (of_decide_eq_true e)
          rw [sz] at this
          omega
        obtain ⟨a, rfl⟩ : ∃ a : Nat, A = a + 1 := ⟨A - 1, by omega⟩
        refine iteT ?_
        have ea : (((a + 1 : Nat) : Int) - 1) = (a : Int) := by omega
        rw [ea]
        refine ⟨_, rfl, _, rfl, _, rfl, y, a, _, rfl, rfl, (by rw [sizeLine_eq, sz]; omega), gat a (by omega), _, _, rfl, rfl, fit, _, rfl, _, _, rfl, rfl, _, _, rfl, ?_⟩
        exact ⟨a, B, _, _, rfl, by omega, hB, J2, hk, lo a rfl⟩
      · have eA : 0 < A := by
          have := of_decide_eq_true e2
          omega
        obtain ⟨a, rfl⟩ : ∃ a : Nat, A = a + 1 := ⟨A - 1, by omega⟩
        have ea : (((a + 1 : Nat) : Int) - 1) = (a : Int) := by omega
        rw [ea]
        refine ⟨_, rfl, _, rfl, _, rfl, y, a, _, rfl, rfl, (by rw [sizeLine_eq, sz]; omega), gat a (by omega), _, _, rfl, rfl, fit, _, rfl, _, _, rfl, rfl, _, _, rfl, ?_⟩
        exact ⟨a, B, _, _, rfl, by omega, hB, .up x0 x1 x2 x3, hk.trans .jar, lo a rfl⟩
      · have nB : B < y.cps.size := by
          have : ¬ B = y.cps.size := fun z => e (decide_eq_true (by rw [z] <;> rfl))
          omega
        refine ⟨_, rfl, _, rfl, _, rfl, y, B, _, rfl, rfl, (by rw [sizeLine_eq, sz]; omega), gat B nB, _, _, rfl, rfl, fit, _, rfl, _, _, rfl, rfl, _, _, rfl, ?_⟩
        exact ⟨A, B + 1, _, _, rfl, by omega, nB, .up x0 x1 x2 x3, hk.trans .jar, hi2 nB⟩
      · have nB : B < y.cps.size := by
          have : ¬ B = y.cps.size := fun z => e (decide_eq_true (by rw [z] <;> rfl))
          omega
        refine ⟨_, rfl, _, rfl, _, rfl, y, B, _, rfl, rfl, (by rw [sizeLine_eq, sz]; omega), gat B nB, _, _, rfl, rfl, fit, _, rfl, _, _, rfl, rfl, _, _, rfl, ?_⟩
        exact ⟨A, B + 1, _, _, rfl, by omega, nB, J2, hk, hi2 nB⟩
    · obtain ⟨A, B, z, v, rfl, hAB, hB, hJ, hk, hpm⟩ := hP
      have eA : A = 0 := by omega
      have eB : B = y.cps.size := by omega
      subst eA eB
      rw [List.drop_zero, List.take_of_length_le (by omega)] at hpm
      exact ⟨_, rfl, q z _ hk hJ hpm⟩
end
end L2.Cal
end

section
set_option maxRecDepth 100000
set_option maxHeartbeats 4000000
namespace L2.Cal
open PySem PySem.Spec PyProof.Rows L2
abbrev sLot : Stmt := topS 37
theorem scLot : FnScope ["_law_jar_here", "_law_things_here", "_law_many", "_law_way", "_law_found", "_law_line_here", "_law_turn", "_law_each", "_law_at", "_law_pair"] ["_law_jar_here", "_law_things_here", "_law_many"] (defScope sLot) := ⟨rfl, rfl, rfl, by decide +kernel, rfl, by decide +kernel, by decide +kernel⟩

theorem len_app (a b : Str) : (a ++ b).length = a.length + b.length := by
  show (a ++ b).cps.size = a.cps.size + b.cps.size
  rw [← Array.length_toList, app_cps, List.length_append, Array.length_toList, Array.length_toList]
theorem swap_perm (x : Str) (a : Nat) (h : a + 1 < x.cps.size) :
    (cutS x none (some (a : Int)) ++ ((⟨#[x.cps.toList[a + 1]'(by rw [Array.length_toList]; omega)]⟩ : Str) ++ (⟨#[x.cps.toList[a]'(by rw [Array.length_toList]; omega)]⟩ : Str)) ++ cutS x (some ((a : Int) + 2)) none).cps.toList.Perm x.cps.toList := by
  have sz : x.cps.toList.length = x.length := Array.length_toList
  have e1 : (cutS x none (some (a : Int))).cps.toList = x.cps.toList.take a := by
    unfold cutS
    rw [HT.sIx_none, show HT.sIx x.length x.length (some (a : Int)) = min a x.length from HT.sIx_nat _ _ a]
    have : min a x.length = a := Nat.min_eq_left (by show a ≤ x.cps.size; omega)
    rw [this]
    simp
  have e2 : (cutS x (some ((a : Int) + 2)) none).cps.toList = x.cps.toList.drop (a + 2) := by
    unfold cutS
    rw [HT.sIx_none, show HT.sIx x.length 0 (some ((a : Int) + 2)) = min (a + 2) x.length from HT.sIx_nat _ _ (a + 2)]
    have : min (a + 2) x.length = a + 2 := Nat.min_eq_left (by show a + 2 ≤ x.cps.size; omega)
    rw [this]
    dsimp only
    rw [List.take_of_length_le]
    rw [List.length_drop, sz]
    exact Nat.le_refl _
  rw [app_cps, app_cps, app_cps, e1, e2]
  have d1 : x.cps.toList.drop a = x.cps.toList[a]'(by rw [sz]; show a < x.cps.size; omega) :: x.cps.toList[a + 1]'(by rw [sz]; exact h) :: x.cps.toList.drop (a + 2) := by
    rw [List.drop_eq_getElem_cons (by rw [sz]; show a < x.cps.size; omega), List.drop_eq_getElem_cons (by rw [sz]; exact h)]
  refine .trans ?_ (List.Perm.of_eq (List.take_append_drop a x.cps.toList))
  rw [d1, List.append_assoc]
  exact List.Perm.append_left _ (.swap _ _ _)
/-- a lot of orders of the letters of y -/
structure Lot (ys : List Str) (y : Str) : Prop where
  up : Climbs ys
  one : ys.Nodup
  some : 0 < ys.length
  of : ∀ z, z ∈ ys → z.cps.toList.Perm y.cps.toList
def spLot : Sp := fun vs H Q _ => ∃ (j : Addr) (y : Str) (m : Int), vs = [.ref j, .str y, .int m] ∧ Jar H j ∧ 2 ≤ y.cps.size ∧ y.cps.size ≤ 100 ∧ 0 < m ∧ m ≤ 60 ∧
  ∀ (ys : List Str) (p : Addr) (H' : Hp), Kp j H H' → Jar H' j → H p = none → TupF.Frt H' p (ys.map V.str) → Lot ys y → (ys.length : Int) ≤ m → Q (.ref p) H'
section
variable {P : Program} {w : World} {K : PySem.W.Frag} {mg : Str → Option Value} {base : Heap}
theorem ok_lot {f fD fS fH : Addr} {fd fdD fdS fdH : FuncData} (D : DefAt K mg "_law_lot_of" sLot ["_law_jar_here", "_law_things_here", "_law_many"] f fd) (DD : DefAt K mg "_law_dip" sDip ["_law_jar_here", "_law_wide"] fD fdD)
    (DS : DefAt K mg "_law_shuffled" sShuf ["_law_jar_here", "_law_things_here"] fS fdS) (DH : DefAt K mg "_law_hill" sHill ["_law_jar_here", "_law_line_here"] fH fdH) (T : Txt mg) : FnOk P w K mg base CX0 3 f fd ["_law_jar_here", "_law_things_here", "_law_many"] spLot := by
  have GD : FnOk P w K mg base CX0 1 fD fdD ["_law_jar_here", "_law_wide"] spDip := ok_dip DD T
  have GS : FnOk P w K mg base CX0 2 fS fdS ["_law_jar_here", "_law_things_here"] spShuf := ok_shuf DS DD T
  have GH : FnOk P w K mg base CX0 2 fH fdH ["_law_jar_here", "_law_line_here"] spHill := ok_hill DH DD T
  refine D.F.ok scLot (fun vs H Q E h => ?_) (fun cdv A outer sh H vs Q E hr h => ?_)
  · obtain ⟨j, y, m, rfl, _⟩ := h
    rfl
  · obtain ⟨j, y, m, rfl, hj, hy0, hy, hm0, hm, q⟩ := h
    obtain ⟨d, s, c, ej, h0, h1, h2, h3⟩ := hj
    refine ⟨_, (pss_cons (ps_par (i := 3) (j := 4) (by rfl) scLot.nd rfl rfl (by decide) rfl rfl (pa_cons (pe_call GD (hr.mono (by decide)) (by rfl) DD.g DD.F.kp DD.b .nil pass0 (pa_cons (pv 0) (pa_cons pe_int pa_nil))) (pa_cons (pe_lstS pa_nil) pa_nil)) (by rfl))
  (pss_cons (ps_set (i := 5) scLot.nd rfl (.inl rfl) (pe_call GS (hr.mono (by decide)) (by rfl) DS.g DS.F.kp DS.b .nil pass0 (pa_cons (pv 0) (pa_cons (pv 1) pa_nil))))
  (pss_cons (ps_for PassesOwn.never rfl (pi_range1 (by rfl) T.b_range (pa_cons (pe_op op_add pe_int (pe_call GD (hr.mono (by decide)) (by rfl) DD.g DD.F.kp DD.b .nil pass0 (pa_cons (pv 0) (pa_cons (pv 2) pa_nil)))) pa_nil)) (pg_name (i := 6) scLot.nd rfl (.inl rfl))
   (pss_cons (ps_set (i := 7) scLot.nd rfl (.inl rfl) (pe_ifExp (PW.pt (pw_or (pt_cmpR op_eq (pv 3) pe_int (nomark _)) (pw_or1 (pt_cmpR op_eq (pe_call GD (hr.mono (by decide)) (by rfl) DD.g DD.F.kp DD.b .nil pass0 (pa_cons (pv 0) (pa_cons pe_int pa_nil))) pe_int (nomark _))))) (pe_call GS (hr.mono (by decide)) (by rfl) DS.g DS.F.kp DS.b .nil pass0 (pa_cons (pv 0) (pa_cons (pv 1) pa_nil))) (pe_call GH (hr.mono (by decide)) (by rfl) DH.g DH.F.kp DH.b .nil pass0 (pa_cons (pv 0) (pa_cons (pv 5) pa_nil)))))
  (pss_cons (ps_if (pt_cmpR op_eq (pv 3) pe_int (nomark _))
   (pss_cons (ps_set (i := 8) scLot.nd rfl (.inl rfl) (pe_call GD (hr.mono (by decide)) (by rfl) DD.g DD.F.kp DD.b .nil pass0 (pa_cons (pv 0) (pa_cons (pe_op op_sub (pe_callB call_len_str (by rfl) T.b_len (by decide +kernel) (pa_cons (pv 5) pa_nil)) pe_int) pa_nil))))
  (pss_cons (ps_set (i := 9) scLot.nd rfl (.inl rfl) (pe_op op_add_str (pe_ix ix_str (pv 5) (pe_op op_add (pv 8) pe_int) (fun _ _ => rfl)) (pe_ix ix_str (pv 5) (pv 8) (fun _ _ => rfl))))
  (pss_cons (ps_set (i := 5) scLot.nd rfl (.inl rfl) (pe_op op_add_str (pe_op op_add_str (pe_slice sl_str (pv 5) po_none (po_some (pv 8))) (pv 9)) (pe_slice sl_str (pv 5) (po_some (pe_op op_add (pv 8) pe_int)) po_none)))
  (pss_one (ps_set (i := 7) scLot.nd rfl (.inl rfl) (pv 5))))))
   pss_nil)
  (pss_one (ps_expr (pe_bm PySem.F.plainAttrs_list PySem.F.slot_list_append PySem.F.type_list_append mt_append (pv 4) (pa_cons (pv 7) pa_nil)))))))
  (pss_one (ps_ret (pe_callTy TupF.call_tupleF (by rfl) T.b_tuple (by decide +kernel) (pa_cons (pe_sortedSet rfl (by rfl) T.b_sorted (by rfl) T.b_set (pv 4)) pa_nil))))))), ?_⟩
    refine ⟨_, rfl, j, _, d, s, c, rfl, ej, h0, h1, h2, h3, by decide, by decide, fun way d' s' c' w0 w1 a0 a1 a2 a3 => ?_⟩
    refine ⟨(by show 0 ≤ sizeLine; decide), fun l H1 s1 nl el => ⟨_, _, rfl, ?_⟩⟩
    have J1 : Jar H1 j := (Jar.up a0 a1 a2 a3).same s1
    have hjl : j ≠ l := fun z => by rw [← z, upd_same] at nl; cases nl
    have nl0 : H l = none := by rw [upd_ne hjl.symm] at nl; exact nl
    refine ⟨_, rfl, _, rfl, j, y, rfl, J1, hy, fun x H2 k2 J2 px => ?_⟩
    obtain ⟨d2, s2, c2, ej2, b0, b1, b2, b3⟩ := J2
    refine ⟨_, rfl, _, rfl, j, m, d2, s2, c2, rfl, ej2, b0, b1, b2, b3, hm0, by omega, fun r d3 s3 c3 r0 r1 x0 x1 x2 x3 => ?_⟩
    obtain ⟨rn, rfl⟩ := Int.eq_ofNat_of_zero_le r0
    have el2 : H2 l = some (.lst []) := k2 _ _ hjl.symm el
    refine ⟨_, _, rfl, rfl, ((1 + rn : Nat) : Int), congrArg (fun t => [V.int t]) (by omega : (1 : Int) + (rn : Int) = ((1 + rn : Nat) : Int)), by omega, by omega, for_range (n := 1 + rn) (fun i σ H' => ∃ (x : Str) (fs : List Str) (v6 v7 v8 v9 : Option V), σ = [some (.ref j), some (.str y), some (.int m), some (.int way), some (.ref l), some (.str x), v6, v7, v8, v9] ∧
      x.cps.toList.Perm y.cps.toList ∧ H' l = some (.lst (fs.map V.str)) ∧ Jar H' j ∧ (∀ b o, b ≠ j → b ≠ l → H b = some o → H' b = some o) ∧ (∀ z, z ∈ fs → z.cps.toList.Perm y.cps.toList) ∧ fs.length = i)
      ⟨x, [], none, none, none, none, rfl, px, by rw [upd_ne hjl.symm]; exact el2, .up x0 x1 x2 x3, fun b o n1 n2 e => ?_, fun z hz => by simp at hz, rfl⟩ (fun i σ H' hi hP => ?_) (fun σ H' hP => ?_)⟩
    · rw [upd_ne n1]
      exact k2 _ _ n1 (s1 _ _ (by rw [upd_ne n1]; exact e))
    · obtain ⟨x, fs, v6, v7, v8, v9, rfl, px, hl, hJ, hk, hf, hz⟩ := hP
      have J0 := hJ
      obtain ⟨d4, s4, c4, ej4, e0, e1, e2, e3⟩ := hJ
      have lx : x.cps.size = y.cps.size := by rw [← Array.length_toList, px.length_eq, Array.length_toList]
      have sx : x.length = x.cps.size := rfl
      have szx : x.cps.toList.length = x.cps.size := Array.length_toList
      have fitx : x.length ≤ sizeLine := by rw [sizeLine_eq, sx]; omega
      refine ⟨_, rfl, rfl, _, rfl, ite2 (fun e => iteT ?a) (fun e => ⟨_, rfl, j, 9, d4, s4, c4, rfl, ej4, e0, e1, e2, e3, by decide, by decide, fun r d5 s5 c5 r0 r1 y0 y1 y2 y3 => ⟨rfl, _, rfl, ite2 (fun e5 => ?b) (fun e5 => ?c)⟩⟩)⟩
      case' a => refine ⟨_, rfl, _, rfl, j, y, rfl, J0, hy, fun e H3 k3 J3 p3 => ?_⟩
      case' b =>
        have kj : Kp j H' (upd H' j (.lst [.int d5, .int s5, .int c5])) := .jar
        refine ⟨_, rfl, _, rfl, j, y, rfl, .up y0 y1 y2 y3, hy, fun e H3 k3' J3 p3 => ?_⟩
        have k3 := kj.trans k3'
      case' c =>
        have kj : Kp j H' (upd H' j (.lst [.int d5, .int s5, .int c5])) := .jar
        refine ⟨_, rfl, _, rfl, j, x, rfl, .up y0 y1 y2 y3, by omega, by omega, fun e H3 k3' J3 p3' => ?_⟩
        have k3 := kj.trans k3'
        have p3 := p3'.trans px
      all_goals
        have hl3 : H3 l = some (.lst (fs.map V.str)) := k3 _ _ hjl.symm hl
        have put : ∀ (e' x' : Str) (H4 : Hp) (u7 u8 u9 : Option V), e'.cps.toList.Perm y.cps.toList → x'.cps.toList.Perm y.cps.toList → H4 l = some (.lst (fs.map V.str)) → Jar H4 j → Kp j H' H4 → ∃ (l' : Addr) (xs : List V) (y' : V), V.ref l = V.ref l' ∧ [V.str e'] = [y'] ∧ H4 l' = some (.lst xs) ∧ xs.length < sizeLine ∧
            ∃ (x'' : Str) (fs' : List Str) (v6 v7 v8 v9 : Option V), [some (V.ref j), some (V.str y), some (V.int m), some (V.int way), some (V.ref l), some (V.str x'), some (V.int (0 + (i : Int))), u7, u8, u9] = [some (.ref j), some (.str y), some (.int m), some (.int way), some (.ref l), some (.str x''), v6, v7, v8, v9] ∧
              x''.cps.toList.Perm y.cps.toList ∧ (upd H4 l' (.lst (xs ++ [y']))) l = some (.lst (fs'.map V.str)) ∧ Jar (upd H4 l' (.lst (xs ++ [y']))) j ∧ (∀ b o, b ≠ j → b ≠ l → H b = some o → (upd H4 l' (.lst (xs ++ [y']))) b = some o) ∧ (∀ z, z ∈ fs' → z.cps.toList.Perm y.cps.toList) ∧ fs'.length = i + 1 := by
          intro e' x' H4 u7 u8 u9 pe pX h4 J4 k4
          refine ⟨l, _, _, rfl, rfl, h4, by rw [List.length_map, hz, sizeLine_eq]; omega, x', fs ++ [e'], _, _, _, _, rfl, pX, by rw [upd_same, List.map_append] <;> rfl, ?_, fun b o n1 n2 q => ?_, fun z hz' => ?_, by rw [List.length_append, hz] <;> rfl⟩
          · obtain ⟨d, s, c, q, r⟩ := J4
            exact ⟨d, s, c, by rw [upd_ne hjl]; exact q, r⟩
          · rw [upd_ne n2]
            exact k4 _ _ n1 (hk b o n1 n2 q)
          · rcases List.mem_append.mp hz' with q | q
            · exact hf z q
            · rw [List.mem_singleton.mp q]
              exact pe
        refine ⟨_, rfl, rfl, _, rfl, ite2 (fun e2 => ?_) (fun e2 => ⟨_, rfl, .inl ⟨rfl, _, SqL.of hl3⟩, _, rfl, put e x H3 _ _ _ p3 px hl3 J3 k3⟩)⟩
        obtain ⟨d6, s6, c6, ej6, f0, f1, f2, f3⟩ := J3
        refine ⟨_, rfl, _, rfl, x, rfl, fitx, _, _, rfl, rfl, j, _, d6, s6, c6, rfl, ej6, f0, f1, f2, f3, by omega, by omega, fun r d7 s7 c7 r0 r1 z0 z1 z2 z3 => ?_⟩
        obtain ⟨a, rfl⟩ := Int.eq_ofNat_of_zero_le r0
        have ha : a + 1 < x.cps.size := by omega
        have g1 : atI x.cps.toList ((a : Int) + 1) = some (x.cps.toList[a + 1]'(by omega)) := atI_nat (j := a + 1) (List.getElem?_eq_getElem _)
        have g0 : atI x.cps.toList (a : Int) = some (x.cps.toList[a]'(by omega)) := atI_nat (List.getElem?_eq_getElem _)
        have eP : (cutS x none (some (a : Int)) ++ ((⟨#[x.cps.toList[a + 1]'(by omega)]⟩ : Str) ++ (⟨#[x.cps.toList[a]'(by omega)]⟩ : Str)) ++ cutS x (some ((a : Int) + 2)) none).cps.toList.Perm x.cps.toList := swap_perm x a ha
        have fit2 : ∀ u v : Str, u.length ≤ 200 → v.length ≤ 200 → u.length + v.length ≤ sizeLine := fun u v h1 h2 => by rw [sizeLine_eq]; omega
        have le1 := cutS_length x none (some (a : Int))
        have le2 := cutS_length x (some ((a : Int) + 2)) none
        refine ⟨_, rfl, _, rfl, _, _, rfl, rfl, x, _, _, rfl, rfl, fitx, g1, _, rfl, _, rfl, x, _, _, rfl, rfl, fitx, g0, _, _, rfl, rfl, (by rw [sizeLine_eq]; show 2 ≤ 16777216; decide), ?_⟩
        refine ⟨_, rfl, _, rfl, _, rfl, x, rfl, fitx, _, rfl, _, _, rfl, rfl, ?_, ?_⟩
        · exact fit2 _ _ (by omega) (by show 2 ≤ 200; decide)
        refine ⟨_, rfl, _, rfl, _, _, rfl, rfl, _, rfl, x, rfl, fitx, _, _, rfl, rfl, ?_, ?_⟩
        · refine fit2 _ _ ?_ (by omega)
          rw [len_app, len_app]
          show (cutS x none (some (a : Int))).length + (1 + 1) ≤ 200
          omega
        refine ⟨_, rfl, _, rfl, .inl ⟨rfl, _, SqL.of (by rw [upd_ne hjl.symm]; exact hl3)⟩, _, rfl, put _ _ _ _ _ _ (eP.trans px) (eP.trans px) (by rw [upd_ne hjl.symm]; exact hl3) (.up z0 z1 z2 z3) (k3.trans .jar)⟩
    · obtain ⟨x, fs, v6, v7, v8, v9, rfl, px, hl, hJ, hk, hf, hz⟩ := hP
      refine ⟨_, rfl, l, fs, rfl, SqL.of hl, by omega, fun ys p cl nd mem np => ⟨p, _, rfl, SqL.of upd_same, fun t ob dn nt => ?_⟩⟩
      have len : ys.length ≤ fs.length := List.Nodup.length_le_of_subset nd fun z hz => (mem z).mp hz
      have old : ∀ b o, b ≠ j → H b = some o → H' b = some o := fun b o n e => hk b o n (fun z => by rw [z, nl0] at e; cases e) e
      have newT : ∀ b o, H' b = some o → (upd (upd H' p (.lst (ys.map V.str))) t (.frz ob (.tup (ys.map V.str)))) b = some o := fun b o e => by
        have e2 : (upd H' p (.lst (ys.map V.str))) b = some o := by rw [upd_ne (ne_of_none e np)]; exact e
        rw [upd_ne (ne_of_none e2 nt)]
        exact e2
      obtain ⟨d, s, c, q1, q2⟩ := hJ
      refine q ys t _ (fun b o n e => newT _ _ (old b o n e)) ⟨d, s, c, newT _ _ q1, q2⟩ ?_ ⟨ob, dn, upd_same⟩ ⟨cl, nd, ?_, fun z hz => hf z ((mem z).mp hz)⟩ (by omega)
      · cases e : H t with
        | none => rfl
        | some o =>
          by_cases c : t = j
          · rw [c] at nt
            have := ne_of_none q1 np
            rw [upd_ne this, q1] at nt
            cases nt
          · have e2 := old t o c e
            rw [upd_ne (ne_of_none e2 np), e2] at nt
            cases nt
      · cases ys with
        | cons _ _ => exact Nat.succ_pos _
        | nil =>
          cases fs with
          | nil => simp at hz; omega
          | cons f _ => exact absurd ((mem f).mpr (List.mem_cons_self ..)) (by simp)
end
end L2.Cal
end

section
set_option maxRecDepth 100000
set_option maxHeartbeats 4000000
namespace L2.Cal
open PySem PySem.Spec PyProof.Rows L2
abbrev sRos : Stmt := topS 38
theorem scRos : FnScope ["_law_jar_here", "_law_size", "_law_many"] ["_law_jar_here", "_law_size", "_law_many"] (defScope sRos) := ⟨rfl, rfl, rfl, by decide +kernel, rfl, by decide +kernel, by decide +kernel⟩

def spRos : Sp := fun vs H Q _ => ∃ (j : Addr) (s m : Int), vs = [.ref j, .int s, .int m] ∧ Jar H j ∧ 3 ≤ s ∧ s ≤ 6 ∧ 0 < m ∧ m ≤ 60 ∧
  ∀ (ys : List Str) (y : Str) (p : Addr) (H' : Hp), Kp j H H' → Jar H' j → H p = none → TupF.Frt H' p (ys.map V.str) → Lot ys y → Lett y → 3 ≤ y.cps.size → (y.cps.size : Int) ≤ s → (ys.length : Int) ≤ m → Q (.ref p) H'
section
variable {P : Program} {w : World} {K : PySem.W.Frag} {mg : Str → Option Value} {base : Heap}
theorem ok_ros {f fD fS fH fL fA : Addr} {fd fdD fdS fdH fdL fdA : FuncData} (D : DefAt K mg "_law_roster" sRos ["_law_jar_here", "_law_size", "_law_many"] f fd) (DL : DefAt K mg "_law_lot_of" sLot ["_law_jar_here", "_law_things_here", "_law_many"] fL fdL) (DA : DefAt K mg "_law_letters" sLett ["_law_jar_here", "_law_many"] fA fdA) (DD : DefAt K mg "_law_dip" sDip ["_law_jar_here", "_law_wide"] fD fdD)
    (DS : DefAt K mg "_law_shuffled" sShuf ["_law_jar_here", "_law_things_here"] fS fdS) (DH : DefAt K mg "_law_hill" sHill ["_law_jar_here", "_law_line_here"] fH fdH) (T : Txt mg) : FnOk P w K mg base CX0 4 f fd ["_law_jar_here", "_law_size", "_law_many"] spRos := by
  have GD : FnOk P w K mg base CX0 1 fD fdD ["_law_jar_here", "_law_wide"] spDip := ok_dip DD T
  have GA : FnOk P w K mg base CX0 2 fA fdA ["_law_jar_here", "_law_many"] spLett := ok_lett DA DD T
  have GL : FnOk P w K mg base CX0 3 fL fdL ["_law_jar_here", "_law_things_here", "_law_many"] spLot := ok_lot DL DD DS DH T
  refine D.F.ok scRos (fun vs H Q E h => ?_) (fun cdv A outer sh H vs Q E hr h => ?_)
  · obtain ⟨j, s, m, rfl, _⟩ := h
    rfl
  · obtain ⟨j, sz, m, rfl, hj, hs0, hs, hm0, hm, q⟩ := h
    obtain ⟨d, s, c, ej, h0, h1, h2, h3⟩ := hj
    refine ⟨_, (pss_one (ps_ret (pe_call GL (hr.mono (by decide)) (by rfl) DL.g DL.F.kp DL.b .nil pass0 (pa_cons (pv 0) (pa_cons (pe_call GA (hr.mono (by decide)) (by rfl) DA.g DA.F.kp DA.b .nil pass0 (pa_cons (pv 0) (pa_cons (pe_op op_add pe_int (pe_call GD (hr.mono (by decide)) (by rfl) DD.g DD.F.kp DD.b .nil pass0 (pa_cons (pv 0) (pa_cons (pe_op op_sub (pv 1) pe_int) pa_nil)))) pa_nil))) (pa_cons (pv 2) pa_nil)))))), ?_⟩
    refine ⟨_, rfl, _, rfl, _, rfl, _, rfl, _, _, rfl, rfl, j, _, d, s, c, rfl, ej, h0, h1, h2, h3, by omega, by omega, fun r d' s' c' r0 r1 a0 a1 a2 a3 => ?_⟩
    obtain ⟨rn, rfl⟩ := Int.eq_ofNat_of_zero_le r0
    refine ⟨_, _, rfl, rfl, j, 3 + rn, congrArg (fun t => [V.ref j, V.int t]) (by omega : (3 : Int) + (rn : Int) = ((3 + rn : Nat) : Int)), .up a0 a1 a2 a3, by omega, fun y H2 k2 J2 ly sy => ?_⟩
    have kj : Kp j H (upd H j (.lst [.int d', .int s', .int c'])) := .jar
    have k2' := kj.trans k2
    refine ⟨_, rfl, j, y, m, rfl, J2, by omega, by omega, hm0, hm, fun ys p H3 k3 J3 np ep lo lm => ?_⟩
    refine q ys y p H3 (k2'.trans k3) J3 ?_ ep lo ly (by omega) (by omega) lm
    cases e : H p with
    | none => rfl
    | some o =>
      by_cases c : p = j
      · obtain ⟨_, _, _, z, _⟩ := J2
        rw [c, z] at np
        cases np
      · rw [k2' _ _ c e] at np
        cases np
end
end L2.Cal
end

section
set_option maxRecDepth 100000
set_option maxHeartbeats 4000000
namespace L2.Cal
open PySem PySem.Spec PyProof.Rows L2
abbrev sIsO : Stmt := topS 18
theorem scIsO : FnScope ["value", "letter"] ["value"] (defScope sIsO) := ⟨rfl, rfl, rfl, by decide +kernel, rfl, by decide +kernel, by decide +kernel⟩

theorem one_lt (a b : Nat) : decide (([a] : List Nat) < [b]) = decide (a < b) := by
  rw [← ltCps_eq]
  simp [ltCps]
theorem nodup_back {l : List Nat} (h : (l.map fun n => (⟨#[n]⟩ : Str)).Nodup) : l.Nodup := List.Pairwise.of_map _ (fun a b n e => n (by rw [e])) h
theorem nodup_signs {y : Str} (h : y.cps.toList.Nodup) : (signs y).Nodup := by
  refine List.Pairwise.map _ (fun a b n e => n ?_) h
  have : ([a] : List Nat) = [b] := congrArg (fun z : Str => z.cps.toList) e
  exact (List.cons.inj this).1
theorem ca : (Str.ofString "a").cps.toList = [97] := by decide +kernel
theorem cz : (Str.ofString "z").cps.toList = [122] := by decide +kernel
structure Lims (mg : Str → Option Value) : Prop where
  c1 : ∃ t, mg "LEAST_THINGS" = some (.int 3 t)
  c2 : ∃ t, mg "MOST_THINGS" = some (.int 6 t)
  c3 : ∃ t, mg "MOST_ORDERS" = some (.int 48 t)
def ordB (y : Str) : Bool := decide (3 ≤ y.cps.size ∧ y.cps.size ≤ 6) && (decide y.cps.toList.Nodup && y.cps.toList.all fun c => decide (97 ≤ c) && decide (c ≤ 122))
def spIsO : Sp := fun vs H Q _ => ∃ y : Str, vs = [.str y] ∧ y.cps.size ≤ 1000 ∧ ∀ H', Same H H' → Q (.bl (ordB y)) H'
section
variable {P : Program} {w : World} {K : PySem.W.Frag} {mg : Str → Option Value} {base : Heap}
theorem ok_iso {f : Addr} {fd : FuncData} (D : DefAt K mg "is_order" sIsO ["value"] f fd) (T : Txt mg) (Lm : Lims mg) : FnOk P w K mg base CX0 1 f fd ["value"] spIsO := by
  obtain ⟨_, c1⟩ := Lm.c1
  obtain ⟨_, c2⟩ := Lm.c2
  refine D.F.ok scIsO (fun vs H Q E h => ?_) (fun cdv A outer sh H vs Q E hr h => ?_)
  · obtain ⟨y, rfl, _⟩ := h
    rfl
  · obtain ⟨y, rfl, hy, q⟩ := h
    refine ⟨_, (pss_cons (ps_if (PW.pt (pw_or (pt_not (pt_val (pe_callB call_isi (by rfl) T.b_isinstance (by decide +kernel) (pa_cons (pv 0) (pa_cons (pe_bty (n := "str") (by rfl) T.b_str (by decide +kernel)) pa_nil))))) (pw_or1 (pt_not (pt_chain op_le op_le (pe_glob (v := .int 3) (by rfl) c1 ⟨_, rfl⟩) (pe_callB call_len_str (by rfl) T.b_len (by decide +kernel) (pa_cons (pv 0) pa_nil)) (pe_glob (v := .int 6) (by rfl) c2 ⟨_, rfl⟩))))))
   (pss_one (ps_ret pe_bl))
   pss_nil)
  (pss_one (ps_ret (pe_and (pe_cmpR op_eq (pe_lenSetS rfl (by rfl) T.b_len (by rfl) T.b_set (pv 0)) (pe_callB call_len_str (by rfl) T.b_len (by decide +kernel) (pa_cons (pv 0) pa_nil)) (nomark _)) (pe_one (pe_callB (cr_all rfl) (by rfl) T.b_all (by decide +kernel) (pa_cons (pe_lc (own := [("letter", 1)]) (g := gName 1) (tt := tYes) rfl scIsO.nd (pi_str (pv 0)) (blkOk_by (own := [("letter", 1)]) (N := ["value", "letter"]) (sc := (defScope sIsO)) (by decide +kernel)) (fun _ _ _ _ _ => pg_name (i := 1) scIsO.nd rfl (Or.inl rfl)) (fun _ _ _ _ _ => pts_nil) (fun _ _ _ _ _ => (pe_chain op_le_str op_le_str pe_str (pv 1) pe_str))) pa_nil))))))), ?_⟩
    have sz : y.length = y.cps.size := rfl
    have fit : y.length ≤ sizeLine := by rw [sizeLine_eq, sz]; omega
    refine ⟨_, rfl, .str y, .ty "str", .type "str", .type "str", true, rfl, .ty _, .base (.str y), rfl, true, rfl, iteF ?_⟩
    refine ⟨_, rfl, y, rfl, fit, _, _, rfl, rfl, _, rfl, ite2 (fun e => ⟨_, _, rfl, rfl, _, rfl, ?_⟩) (fun e => ⟨_, rfl, ?_⟩)⟩
    · have e3 : 3 ≤ y.cps.size := by
        have := of_decide_eq_true e
        rw [sz] at this
        omega
      by_cases c6 : y.cps.size ≤ 6
      · rw [decide_eq_true (show (y.length : Int) ≤ 6 by rw [sz]; omega)]
        refine iteF ?_
        have e36 : decide (3 ≤ y.cps.size ∧ y.cps.size ≤ 6) = true := decide_eq_true ⟨e3, c6⟩
        refine ⟨_, rfl, y, rfl, hy, fun l nd mem => ⟨_, rfl, y, rfl, fit, rfl, _, rfl, ite2 (fun e => ?_) (fun e => ?_)⟩⟩
        · have ndy : y.cps.toList.Nodup := by
            have el : l.length = y.cps.size := by
              have := V.int.inj (of_decide_eq_true e)
              rw [sz] at this
              omega
            have pm : (signs y).Perm l := perm_of_into l (signs y) nd (fun x hx => by
              obtain ⟨c, hc, rfl⟩ := (mem x).mp hx
              exact List.mem_map.mpr ⟨c, hc, rfl⟩) (by rw [signs_length, el]; exact Nat.le_refl _)
            have := pm.nodup_iff.mpr nd
            unfold signs at this
            exact nodup_back this
          refine ⟨_, rfl, y, rfl, fun D nD => lc_it walk_str (fun k H' => Same H H' ∧ H' D = some (.lst ((y.cps.toList.take k).map fun c => V.bl (decide (97 ≤ c) && decide (c ≤ 122))))) ⟨same_new nD, upd_same⟩ (fun _ _ _ _ => trivial) (fun k x H1 H2 hk hP hY => ?_) (fun H1 hP => ?_)⟩
          · obtain ⟨sm, eD⟩ := hP
            obtain ⟨rfl, c, hc, rfl⟩ := hY
            have hk2 : k < y.cps.toList.length := by rw [Array.length_toList]; exact hk
            have ec : y.cps.toList[k] = c := by
              rw [Array.getElem_toList]
              exact (Array.getElem?_eq_some_iff.mp hc).2
            have fin : ∀ b, b = (decide (97 ≤ c) && decide (c ≤ 122)) → ∃ acc, H2 D = some (.lst acc) ∧ acc.length < sizeLine ∧ Same H (upd H2 D (.lst (acc ++ [V.bl b]))) ∧ (upd H2 D (.lst (acc ++ [V.bl b]))) D = some (.lst ((y.cps.toList.take (k + 1)).map fun c => V.bl (decide (97 ≤ c) && decide (c ≤ 122)))) := fun b eb => by
              refine ⟨_, eD, ?_, fun a o z => ?_, ?_⟩
              · rw [List.length_map, List.length_take, sizeLine_eq]
                omega
              · rw [upd_ne (ne_of_none z nD)]
                exact sm _ _ z
              · rw [upd_same, List.take_succ, List.getElem?_eq_getElem hk2, ec, List.map_append, eb] <;> rfl
            refine ⟨rfl, _, rfl, _, _, rfl, rfl, _, rfl, ite2 (fun e => ⟨_, _, rfl, rfl, fin _ ?_⟩) (fun e => fin _ ?_)⟩
            · rw [ca, one_lt] at e
              have e97 : 97 ≤ c := by
                have := of_decide_eq_false (by simpa using e : decide (c < 97) = false)
                omega
              rw [cz, one_lt, decide_eq_true e97, Bool.true_and]
              by_cases h : c ≤ 122
              · rw [decide_eq_true h, decide_eq_false (by omega)] <;> rfl
              · rw [decide_eq_false h, decide_eq_true (by omega)] <;> rfl
            · rw [ca, one_lt] at e
              have e97 : ¬ 97 ≤ c := fun z => e (by rw [decide_eq_false (by omega)] <;> rfl)
              rw [decide_eq_false e97, Bool.false_and]
          · obtain ⟨sm, eD⟩ := hP
            rw [List.take_of_length_le (by rw [Array.length_toList]; exact Nat.le_refl _)] at eD
            refine ⟨D, y.cps.toList.map fun c => decide (97 ≤ c) && decide (c ≤ 122), rfl, SqL.of (by rw [eD, List.map_map] <;> rfl), ?_⟩
            have z := q H1 sm
            unfold ordB at z
            rw [e36, decide_eq_true ndy, Bool.true_and, Bool.true_and] at z
            rw [List.all_map]
            exact z
        · have z := q H (fun _ _ z => z)
          unfold ordB at z
          rw [e36, decide_eq_false (show ¬ y.cps.toList.Nodup from fun nd2 => e (decide_eq_true ?_)), Bool.true_and, Bool.false_and] at z
          · exact z
          · have into : ∀ x, x ∈ l → x ∈ signs y := fun x hx => by
              obtain ⟨c, hc, rfl⟩ := (mem x).mp hx
              exact List.mem_map.mpr ⟨c, hc, rfl⟩
            have nds : (signs y).Nodup := nodup_signs nd2
            have le1 := List.Nodup.length_le_of_subset nd into
            have le2 := List.Nodup.length_le_of_subset nds fun x hx => by
              obtain ⟨c, hc, rfl⟩ := List.mem_map.mp hx
              exact (mem _).mpr ⟨c, hc, rfl⟩
            rw [signs_length] at le1 le2
            rw [Nat.le_antisymm le1 le2]
      · rw [decide_eq_false (show ¬ (y.length : Int) ≤ 6 by rw [sz]; omega)]
        refine iteT ?_
        have z := q H (fun _ _ z => z)
        unfold ordB at z
        rw [decide_eq_false (show ¬ (3 ≤ y.cps.size ∧ y.cps.size ≤ 6) by omega), Bool.false_and] at z
        exact z
    · refine iteT ?_
      have z := q H (fun _ _ z => z)
      unfold ordB at z
      rw [decide_eq_false (show ¬ (3 ≤ y.cps.size ∧ y.cps.size ≤ 6) from fun c => e (decide_eq_true (show (3 : Int) ≤ (y.length : Int) by rw [sz]; omega))), Bool.false_and] at z
      exact z
end
end L2.Cal
end

section
set_option maxRecDepth 100000
set_option maxHeartbeats 4000000
/-! `for i, x in enumerate(t)`, t a tuple -/
namespace L2.Cal
open PySem PySem.Spec PyProof.Rows L2
theorem enum_meets {v : Value} {o : Obj} {H : Heap → Prop} (B : Begins v o H) : Meets (Builtin.«enumerate.__new__» ⟨[.type "enumerate", v], []⟩) (fun _ R s => H s.heap ∧
    R (.ok (.ret (.ref (s.heap.push o).objs.size))) { s with heap := (s.heap.push o).push { cls := .type "enumerate", data := .fields #[.none, .bool false, .ref s.heap.objs.size, rawInt 0, .none, .none] } }) :=
  .of_wp fun prog w A R s h => by
    obtain ⟨hp, g, d, tk, os⟩ := s
    obtain ⟨hH, fin⟩ := h
    have below := PySem.sub_enumerate
    have start : ∀ {A' : Around} {E : Value → Shared → Prop} {Q : Value → Shared → Prop}, Q (.ref hp.objs.size) ⟨hp.push o, g, d, tk, os⟩ → wpAny (model prog w) A' (pyIter v) Q E ⟨hp, g, d, tk, os⟩ := fun q => B.iter prog w _ _ ⟨hp, g, d, tk, os⟩ _ hH q
    wp_walk using start
    refine wpAny_stack_any fun _ => wpAny_pure ?_
    split
    · rename_i c _ _ _ _ _
      cases (c == Value.type "enumerate") <;> (wp_walk using start; exact ⟨_, rfl, fin⟩)
    · wp_walk using start
      exact ⟨_, rfl, fin⟩
section
variable {prog : Program} {w : World} {A : Around} {E : Value → Shared → Prop} {s : Shared}
theorem enum_one {v : Value} {o : Obj} {H : Heap → Prop} {Q : Value → Shared → Prop} (B : Begins v o H) (hH : H s.heap)
    (q : ∀ h', IsEnum h' (s.heap.objs.size + 1) s.heap.objs.size 0 .none → h'.get? s.heap.objs.size = some o → (∀ b o, s.heap.get? b = some o → h'.get? b = some o) → Q (.ref (s.heap.objs.size + 1)) { s with heap := h' }) :
    wpAny (model prog w) A (call (.type "enumerate") [v]) Q E s := by
  have z : (s.heap.push o).objs.size = s.heap.objs.size + 1 := Heap.size_push ..
  have at1 : IsEnum ((s.heap.push o).push { cls := .type "enumerate", data := .fields #[.none, .bool false, .ref s.heap.objs.size, rawInt 0, .none, .none] }) (s.heap.objs.size + 1) s.heap.objs.size 0 .none := by
    rw [← z]
    exact Heap.get?_push_size _ rfl
  refine callType_new PySem.F.called_enumerate (by decide) (PySem.F.typeCall_enumerate_1 _) (PySem.F.newCall_enumerate_1 _) (fun obj => PySem.F.args_object_init_2 obj _) PySem.F.entry_enumerate_new (enum_meets B) ⟨hH, ?_⟩
  show _ ∧ _
  rw [z]
  exact ⟨⟨_, at1, rfl⟩, q _ at1 (Heap.get?_push_of_some _ (Heap.get?_push_size _ B.free)) fun b o e => Heap.get?_push_of_some _ (Heap.get?_push_of_some _ e)⟩
end
/-- the tuple at a, each item in a new pair with its place -/
def IteT (K : PySem.W.Frag) (a : Addr) : It :=
  ⟨fun i H => ∃ (xs : List V) (x : V), SqT K H a xs ∧ xs[i]? = some x, fun i H v H' => ∃ T x, v = .ref T ∧ H T = none ∧ H' = upd H T (.tup [.int (i : Nat), x]) ∧ ∀ xs, SqT K H a xs → xs[i]? = some x, fun i H => ∃ xs : List V, SqT K H a xs ∧ xs.length ≤ i⟩
theorem turn_enumT {P : Program} {w : World} {K : PySem.W.Frag} {elts : List Expr} {kk : Nat} {tpos : Pos} (a e it : Addr) :
    Turn P w K (.Tuple elts kk tpos) (IteT K a) [e, it] e (fun i h => (∃ old, IsEnum h e it ((i : Nat) : Int) old) ∧ h.IsTupleIter it a i ∧ e ≠ it) where
  mem := by simp
  obj := fun i h st b hb => by
    obtain ⟨⟨old, he⟩, ⟨o, ho, hc, hd⟩, _⟩ := st
    rcases List.mem_cons.mp hb with z | z
    · rw [z]
      exact ⟨_, he, fun v q => nomatch q⟩
    · rw [List.mem_singleton.mp z]
      exact ⟨o, ho, fun v q => by rw [hd] at q; cases q⟩
  keep := fun i h h' st k => let ⟨⟨old, he⟩, hi, hne⟩ := st; ⟨⟨old, k e (by simp) _ he⟩, hi.at fun o q => k it (by simp) o q, hne⟩
  item := by
    intro X hP hw hK hc i pins s σ H E I hf st hg
    subst hP hw hK
    obtain ⟨⟨old, he⟩, hit, hne⟩ := st
    obtain ⟨xs, x, hq, hx⟩ := hg
    obtain ⟨its, rv, p, hz⟩ := I.tuple hq
    obtain ⟨u, hu, ru⟩ := rv.get hx
    have lt1 : e < s.heap.objs.size := Heap.lt_size he
    have lt2 : it < s.heap.objs.size := by obtain ⟨_, q, _⟩ := hit; exact Heap.lt_size q
    have tup : s.heap.IsTuple a its.toArray := p
    have nai : a ≠ it := fun z => by
      obtain ⟨o1, e1, c1, _⟩ := tup
      obtain ⟨o2, e2, c2, _⟩ := hit
      rw [z, e2] at e1
      cases e1
      rw [c2] at c1
      exact absurd c1 (by decide)
    have nae : e ∉ [it, a] := by
      intro z
      rcases List.mem_cons.mp z with z | z
      · exact hne z
      · have z := List.mem_singleton.mp z
        obtain ⟨o1, e1, c1, _⟩ := tup
        rw [← z, he] at e1
        cases e1
        exact absurd (show Value.type "enumerate" = .type "tuple" from c1) (by decide)
    have isz : i < its.toArray.size := by
      have := (List.getElem?_eq_some_iff.mp hu).1
      simpa using this
    refine wpAny_pyNext_enum_itemD (Draws.tuple (A := X.A.in1) (by simpa using I.ok.hd hc) it a nai its.toArray) he ⟨hit, tup⟩ isz hne nae fun x' h' tk hx' ho hst hT hsz hk => ?_
    have ex : x' = u := by
      have : its.toArray[i]? = some u := by simpa using hu
      rw [this] at hx'
      exact (Option.some.inj hx').symm
    subst ex
    obtain ⟨hit', _⟩ := hst
    refine ⟨_, rfl, wpAny_letOwnedTupleGo_enum (s := { s with heap := h', toks := tk + 1 }) ho fun h'' he' sb => ?_⟩
    have hT2 : h''.get? s.heap.objs.size = some { cls := .type "tuple", data := .seq #[.int i tk, x'] } := (sb.2 _ (Nat.ne_of_gt lt1)).trans hT
    have new : ObjOk X.prog X.w (upd H s.heap.objs.size (.tup [.int (i : Nat), x])) h'' s.heap.objs.size (.tup [.int (i : Nat), x]) := ⟨by show 2 ≤ sizeLine; decide, [.int i tk, x'], .cons ⟨_, rfl⟩ (.cons ru .nil), ⟨_, hT2, rfl, _, rfl⟩⟩
    have J : Inv X pins σ (upd H s.heap.objs.size (.tup [.int (i : Nat), x])) { s with heap := h'', toks := tk + 1 } :=
      I.turnedNew (ch := [e, it]) (fun b ob hb q => (sb.2 b (fun z => hb (by simp [z]))).trans (hk b ob (fun z => hb (by simp [z])) (fun z => hb (by simp [z])) q)) hf (Nat.le_refl _) new
    refine ⟨.ref s.heap.objs.size, _, J, rfl, ⟨_, x, rfl, I.hok.fresh (Nat.le_refl _), rfl, fun ys hy => by rw [I.tuple_inj hy hq]; exact hx⟩, ⟨⟨x', ?_⟩, hit'.at fun o q => (sb.2 it (Ne.symm hne)).trans q, hne⟩, fun b hb => ?_⟩
    · rw [show ((i + 1 : Nat) : Int) = (i : Int) + 1 by omega]
      exact he'
    · have lt : b < s.heap.objs.size := by
        rcases List.mem_cons.mp hb with z | z
        · rw [z]; exact lt1
        · rw [List.mem_singleton.mp z]; exact lt2
      rw [upd_ne (Nat.ne_of_lt lt)]
      exact (hf b hb).1
  done := by
    intro X hP hw hK hc i pins s σ H E I hf st hg
    subst hP hw hK
    obtain ⟨⟨old, he⟩, hit, hne⟩ := st
    obtain ⟨xs, hq, hx⟩ := hg
    obtain ⟨its, rv, p, hz⟩ := I.tuple hq
    obtain ⟨f0, f1, f2, f3, f4, f5⟩ := hf it (by simp)
    have len := rv.length
    have kind : s.TypeIs (.ref e) "enumerate" := ⟨_, he, rfl⟩
    unfold pyNext
    refine wpAny_bind (wpAny_attempt (wpAny_callSpecial?_slot (name := Str.ofString "__next__") kind PySem.F.slot_enumerate_next (wpAny_call_entry PySem.F.slot_enumerate_next kind PySem.F.entry_enumerate_next ?_ (PySem.F.args_enumerate_next_1 _))))
    show wpAny _ _ (field (.ref e) 2 >>= _) _ _ _
    refine wpAny_bind (wpAny_field he rfl (x := .ref it) rfl (wpAny_bind (wpAny_nextOf_tuple_end (by simpa using I.ok.hd hc) hit (show s.heap.IsTuple a its.toArray from p) (by simp; omega) fun h' x he' ⟨o, ho, hc'⟩ => ?_)))
    exact wpAny_bind (wpAny_isInstance (T := "StopIteration") (b := true) ⟨o, ho, hc'⟩ isSubtype_stop (wpAny_pure ⟨rfl, I.turned (t' := s.toks) (fun b o hb q => he' b o hb q) f0 f1 f3 f4 f5⟩))
  self := fun A i s Q E st h => let ⟨⟨_, he⟩, _⟩ := st; wpAny_pyIter_enum he h
def iEnumT (K : PySem.W.Frag) (ta : TA) : TI := fun σ H R => ta σ H fun vs H1 => ∃ a xs, vs = [.ref a] ∧ SqT K H1 a xs ∧ R (IteT K a) H1
theorem pi_enumT {X : Cx} {e : Expr} {ta : TA} {p pos tpos : Pos} {elts : List Expr} {kk : Nat} (hg : Gl X "enumerate") (hm : X.mg "enumerate" = none) (ha : PA X [e] ta) (hs : starEach [e] X.env = [(false, eval e X.env)] := by rfl) :
    PI X (.Tuple elts kk tpos) (.Call (.Name "enumerate" p) [e] [] pos) (iEnumT X.K ta) := by
  refine ⟨fun pins s σ H R I h => Call_ (ld_blt I hg hm boot_enumerate (PyProof.Rows.callWith_type1 (thn (ha.run pos pins s σ H _ I h) fun us s1 ⟨vs, H1, I1, r1, q1⟩ => ?_) hs rfl))⟩
  obtain ⟨a, xs, rfl, hq, q⟩ := q1
  match us, r1 with
  | _, .cons r .nil =>
    cases r
    obtain ⟨its, rv, tup, _⟩ := I1.tuple hq
    refine enum_one (begins_tuple a its.toArray) tup fun h' he hit k => wpAny_pyIter_enum he ?_
    have I2 : Inv X pins σ H1 { s1 with heap := h' } := I1.kept (t' := s1.toks) k
    refine ⟨s1.heap.objs.size + 1, [s1.heap.objs.size + 1, s1.heap.objs.size], _, _, H1, rfl, I2, turn_enumT a (s1.heap.objs.size + 1) s1.heap.objs.size, ⟨⟨.none, he⟩, ⟨_, hit, rfl, rfl⟩, Nat.succ_ne_self _⟩, fun b hb => ?_, q⟩
    have le : s1.heap.objs.size ≤ b := by
      rcases List.mem_cons.mp hb with z | z
      · rw [z]; exact Nat.le_add_right _ _
      · rw [List.mem_singleton.mp z]; exact Nat.le_refl _
    exact I1.fpOk le (I1.hok.fresh le)
theorem walk_enumT {K : PySem.W.Frag} {a : Addr} {xs : List V} : Walk (IteT K a) xs.length (fun H => SqT K H a xs) (YPair (fun i => some (.int (i : Nat))) (fun i => xs[i]?)) :=
  ⟨fun i H hi hq => ⟨xs, _, hq, List.getElem?_eq_getElem hi⟩, fun H hq => ⟨xs, hq, Nat.le_refl _⟩, fun i H v H' hi hq ⟨T, x, e1, e2, e3, e4⟩ => ⟨T, _, x, e1, e2, e3, rfl, e4 xs hq⟩⟩
end L2.Cal
end

section
set_option maxRecDepth 100000
set_option maxHeartbeats 4000000
namespace L2.Cal
open PySem PySem.Spec PyProof.Rows L2
abbrev sThO : Stmt := topS 19
theorem scThO : FnScope ["order"] ["order"] (defScope sThO) := ⟨rfl, rfl, rfl, by decide +kernel, rfl, by decide +kernel, by decide +kernel⟩
abbrev sRah : Stmt := topS 21
theorem scRah : FnScope ["orders", "index", "order"] ["orders"] (defScope sRah) := ⟨rfl, rfl, rfl, by decide +kernel, rfl, by decide +kernel, by decide +kernel⟩

/-- a text's letters in order -/
def tidy (y : Str) : Str := ⟨(y.cps.toList.mergeSort fun a b => decide (a ≤ b)).toArray⟩
theorem rising_ones : ∀ (r : List Nat) (p : Nat), risingS ⟨#[p]⟩ (r.map fun n => ⟨#[n]⟩) = true → (p :: r).Pairwise (· ≤ ·)
  | [], _, _ => List.pairwise_singleton _ _
  | x :: r, p, h => by
    simp only [List.map_cons, risingS, Bool.and_eq_true, Bool.not_eq_true'] at h
    have le : p ≤ x := by
      have z := h.1
      simp [ltCps] at z
      omega
    have ih := rising_ones r x h.2
    refine List.pairwise_cons.mpr ⟨fun y hy => ?_, ih⟩
    rcases List.mem_cons.mp hy with e | hy
    · omega
    · exact Nat.le_trans le ((List.pairwise_cons.mp ih).1 y hy)
theorem signs_cps (z : Str) : (signs z).map (fun s => s.cps.getD 0 0) = z.cps.toList := by
  unfold signs
  rw [List.map_map]
  exact (List.map_congr_left fun c _ => rfl).trans (List.map_id _)
theorem tidy_perm (y : Str) : (tidy y).cps.toList.Perm y.cps.toList := List.mergeSort_perm _ _
theorem tidy_up (y : Str) : (tidy y).cps.toList.Pairwise (· ≤ ·) := by
  have := List.pairwise_mergeSort (le := fun a b : Nat => decide (a ≤ b)) (fun a b c h1 h2 => decide_eq_true (Nat.le_trans (of_decide_eq_true h1) (of_decide_eq_true h2))) (fun a b => by
    rcases Nat.le_total a b with h | h <;> simp [h]) y.cps.toList
  exact this.imp fun h => of_decide_eq_true h
theorem str_ext {a b : Str} (h : a.cps.toList = b.cps.toList) : a = b := by
  cases a
  cases b
  exact congrArg Str.mk (Array.toList_inj.mp h)
theorem tidy_of {y z : Str} (p : (signs z).Perm (signs y)) (s : sortedS (signs z) = true) : z = tidy y := by
  have p2 := p.map fun s => s.cps.getD 0 0
  rw [signs_cps, signs_cps] at p2
  have up : z.cps.toList.Pairwise (· ≤ ·) := by
    unfold signs at s
    cases e : z.cps.toList with
    | nil => exact .nil
    | cons a r =>
      rw [e] at s
      exact rising_ones r a s
  exact str_ext (List.Perm.eq_of_pairwise (fun a b _ _ h1 h2 => Nat.le_antisymm h1 h2) up (tidy_up y) (p2.trans (tidy_perm y).symm))
theorem tidy_same {x y : Str} (p : x.cps.toList.Perm y.cps.toList) : tidy x = tidy y :=
  str_ext (List.Perm.eq_of_pairwise (fun a b _ _ h1 h2 => Nat.le_antisymm h1 h2) (tidy_up x) (tidy_up y) ((tidy_perm x).trans (p.trans (tidy_perm y).symm)))
theorem sign_sum (z : Str) : ((signs z).map (·.length)).sum = z.cps.size := by
  unfold signs
  rw [List.map_map, show ((fun x : Str => x.length) ∘ fun n => (⟨#[n]⟩ : Str)) = fun _ => 1 from rfl, sum_ones, Array.length_toList]
theorem ys_signs {ys : List Str} {y : Str} (h : ys.Perm (signs y)) : ∃ z : Str, ys = signs z ∧ z.cps.toList.Perm y.cps.toList := ones_back (cs := y.cps.toList) h
theorem same_seqT {K : PySem.W.Frag} {a : Addr} {H H' : Hp} {xs : List V} (h : SqT K H a xs) (s : Same H H') : SqT K H' a xs := by
  rcases h with (z | ⟨o, z⟩) | z
  · exact .inl (.inl (s _ _ z))
  · exact .inl (.inr ⟨o, s _ _ z⟩)
  · exact .inr z
def spThO : Sp := fun vs H Q _ => ∃ y : Str, vs = [.str y] ∧ y.cps.size < 64 ∧ ∀ H', Same H H' → Q (.str (tidy y)) H'
def spRah (K : PySem.W.Frag) : Sp := fun vs H Q _ => ∃ (t : Addr) (ys : List Str) (y : Str), vs = [.ref t] ∧ SqT K H t (ys.map V.str) ∧ Lot ys y ∧ Lett y ∧ 3 ≤ y.cps.size ∧ y.cps.size ≤ 6 ∧ ys.length ≤ 48 ∧ ∀ H', Same H H' → Q (.int ys.length) H'
section
variable {P : Program} {w : World} {K : PySem.W.Frag} {mg : Str → Option Value} {base : Heap}
theorem ok_tho {f : Addr} {fd : FuncData} (D : DefAt K mg "things_of" sThO ["order"] f fd) (T : Txt mg) : FnOk P w K mg base CX0 1 f fd ["order"] spThO := by
  refine D.F.ok scThO (fun vs H Q E h => ?_) (fun cdv A outer sh H vs Q E hr h => ?_)
  · obtain ⟨y, rfl, _⟩ := h
    rfl
  · obtain ⟨y, rfl, hy, q⟩ := h
    refine ⟨_, (pss_one (ps_ret (pe_join pe_str (pe_callB (cr_sortText rfl) (by rfl) T.b_sorted (by decide +kernel) (pa_cons (pv 0) pa_nil))))), ?_⟩
    refine ⟨⟨_, rfl⟩, _, rfl, y, rfl, hy, fun ys p pm so np => ?_⟩
    obtain ⟨z, rfl, hz⟩ := ys_signs pm
    refine ⟨_, p, _, rfl, rfl, .inl (SqL.of upd_same), ?_, ?_⟩
    · rw [sign_sum, signs_length, show (PySem.Str.ofString "").length = 0 by decide +kernel]
      have : z.cps.size = y.cps.size := by rw [← Array.length_toList, hz.length_eq, Array.length_toList]
      omega
    · rw [join_signs, tidy_of pm so]
      exact q _ (same_new np)
theorem Lot.fine {ys : List Str} {y z : Str} (L : Lot ys y) (ly : Lett y) (h3 : 3 ≤ y.cps.size) (h6 : y.cps.size ≤ 6) (hz : z ∈ ys) : z.cps.size = y.cps.size ∧ ordB z = true := by
  have pm := L.of z hz
  have e : z.cps.size = y.cps.size := by rw [← Array.length_toList, pm.length_eq, Array.length_toList]
  have lz := ly.perm pm
  refine ⟨e, ?_⟩
  unfold ordB
  rw [decide_eq_true (show 3 ≤ z.cps.size ∧ z.cps.size ≤ 6 by omega), decide_eq_true lz.1, Bool.true_and, Bool.true_and, List.all_eq_true]
  intro c hc
  have := lz.2 c hc
  rw [decide_eq_true this.1, decide_eq_true this.2] <;> rfl
theorem ok_rah {f fI fT : Addr} {fd fdI fdT : FuncData} (D : DefAt K mg "right_ahead" sRah ["orders"] f fd) (DI : DefAt K mg "is_order" sIsO ["value"] fI fdI) (DT : DefAt K mg "things_of" sThO ["order"] fT fdT) (T : Txt mg) (Lm : Lims mg) : FnOk P w K mg base CX0 2 f fd ["orders"] (spRah K) := by
  have GI : FnOk P w K mg base CX0 1 fI fdI ["value"] spIsO := ok_iso DI T Lm
  have GT : FnOk P w K mg base CX0 1 fT fdT ["order"] spThO := ok_tho DT T
  obtain ⟨_, c3⟩ := Lm.c3
  refine D.F.ok scRah (fun vs H Q E h => ?_) (fun cdv A outer sh H vs Q E hr h => ?_)
  · obtain ⟨t, ys, y, rfl, _⟩ := h
    rfl
  · obtain ⟨t, ys, y, rfl, hT, L, ly, h3, h6, hl, q⟩ := h
    refine ⟨_, (pss_cons (ps_for PassesOwn.never rfl (pi_enumT (by rfl) T.b_enumerate (pa_cons (pv 0) pa_nil)) (pg_tup rfl (pgs_cons (pg_name (i := 1) scRah.nd rfl (.inl rfl)) (pgs_cons (pg_name (i := 2) scRah.nd rfl (.inl rfl)) pgs_nil)))
   (pss_cons (ps_if (PW.pt (pw_or (pt_cmpR op_eq (pv 1) (pe_glob (v := .int 48) (by rfl) c3 ⟨_, rfl⟩) (nomark _)) (pw_or1 (pt_not (pt_val (pe_call GI (hr.mono (by decide)) (by rfl) DI.g DI.F.kp DI.b .nil pass0 (pa_cons (pv 2) pa_nil)))))))
   (pss_one (ps_ret (pv 1)))
   pss_nil)
  (pss_cons (ps_if (pt_cmpR op_ne (pe_call GT (hr.mono (by decide)) (by rfl) DT.g DT.F.kp DT.b .nil pass0 (pa_cons (pv 2) pa_nil)) (pe_call GT (hr.mono (by decide)) (by rfl) DT.g DT.F.kp DT.b .nil pass0 (pa_cons (pe_ix ix_tup (pv 0) pe_int (fun _ _ => rfl)) pa_nil)) (nomark _))
   (pss_one (ps_ret (pv 1)))
   pss_nil)
  (pss_one (ps_if (PW.pt (pw_and (pt_cmpR op_gt (pv 1) pe_int (nomark _)) (pw_and1 (pt_cmpR op_le_str (pv 2) (pe_ix ix_tup (pv 0) (pe_op op_sub (pv 1) pe_int) (fun _ _ => rfl)) (nomark _)))))
   (pss_one (ps_ret (pv 1)))
   pss_nil)))))
  (pss_one (ps_ret (pe_callB call_len_seq (by rfl) T.b_len (by decide +kernel) (pa_cons (pv 0) pa_nil))))), ?_⟩
    refine ⟨_, rfl, t, _, rfl, hT, for_it (walk_enumT (xs := ys.map V.str)) (fun i σ H' => ∃ v1 v2, σ = [some (.ref t), v1, v2] ∧ Same H H') ⟨none, none, rfl, fun _ _ z => z⟩ (fun i σ H' _ hP => ?_) (fun i x σ H1 H2 hi hP hY => ?_) (fun σ H' hP => ?_)⟩
    · obtain ⟨_, _, _, sm⟩ := hP
      exact same_seqT hT sm
    · obtain ⟨v1, v2, rfl, sm⟩ := hP
      obtain ⟨T', a, b, rfl, nT, rfl, e1, e2⟩ := hY
      cases e1
      rw [List.length_map] at hi
      have e2 : (ys.map V.str)[i]? = some b := e2
      rw [List.getElem?_map, List.getElem?_eq_getElem hi] at e2
      cases e2
      have zin : ys[i] ∈ ys := List.getElem_mem hi
      obtain ⟨sz, oz⟩ := L.fine ly h3 h6 zin
      have sm1 : Same H (upd H1 T' (.tup [.int (i : Nat), .str ys[i]])) := fun b o e => by
        rw [upd_ne (ne_of_none (sm _ _ e) nT)]
        exact sm _ _ e
      have at_ : ∀ k, (hk : k < ys.length) → atI (ys.map V.str) (k : Int) = some (.str ys[k]) := fun k hk => atI_nat (by rw [List.getElem?_map, List.getElem?_eq_getElem hk] <;> rfl)
      have h0 : 0 < ys.length := L.some
      obtain ⟨sz0, _⟩ := L.fine ly h3 h6 (List.getElem_mem h0)
      refine ⟨T', _, rfl, SqT.of upd_same, rfl, _, _, rfl, _, _, rfl, rfl, ?_⟩
      refine ⟨_, rfl, rfl, _, rfl, ite2 (fun e => absurd (V.int.inj (of_decide_eq_true e)) (by omega)) (fun e => ⟨_, rfl, ys[i], rfl, by omega, fun H3 s3 => ⟨_, rfl, ?_⟩⟩)⟩
      rw [oz]
      have sm3 : Same H H3 := sm1.trans s3
      refine iteF ⟨_, rfl, ys[i], rfl, by omega, fun H4 s4 => ⟨_, rfl, t, _, 0, _, rfl, rfl, same_seqT hT (sm3.trans s4), at_ 0 h0, ys[0], rfl, by omega, fun H5 s5 => ⟨rfl, _, rfl, iteNS (by rw [tidy_same ((L.of _ zin).trans (L.of _ (List.getElem_mem h0)).symm)]) ?_⟩⟩⟩
      have sm5 : Same H H5 := sm3.trans (s4.trans s5)
      refine ⟨_, rfl, _, _, rfl, rfl, _, rfl, ite2 (fun e => ?_) (fun e => iteF ⟨_, _, rfl, sm5⟩)⟩
      have i0 : 0 < i := by
        have := of_decide_eq_true e
        omega
      have e1 : ((i : Int) - 1) = ((i - 1 : Nat) : Int) := by omega
      have up : Below ys[i - 1] ys[i] := L.up.at (i - 1) _ _ (List.getElem?_eq_getElem (by omega)) (by rw [Nat.sub_add_cancel i0]; exact List.getElem?_eq_getElem hi)
      refine ⟨_, rfl, _, rfl, _, rfl, _, _, rfl, rfl, t, _, _, _, rfl, rfl, same_seqT hT sm5, (by show atI _ ((i : Int) - 1) = _; rw [e1]; exact at_ (i - 1) (by omega)), _, _, rfl, rfl, _, rfl, ?_⟩
      have lt : decide (ys[i - 1].cps.toList < ys[i].cps.toList) = true := by rw [← ltCps_eq]; exact up
      rw [lt]
      exact iteF ⟨_, _, rfl, sm5⟩
    · obtain ⟨v1, v2, rfl, sm⟩ := hP
      exact ⟨_, rfl, t, _, rfl, .inr (same_seqT hT sm), by rw [List.length_map]; exact q _ sm⟩
end
end L2.Cal
end

section
set_option maxRecDepth 100000
set_option maxHeartbeats 4000000
/-! what built-in functions and operators ask of an object of an own class -/
namespace L2.Cal
open PySem PySem.Spec PyProof.Rows L2
section
variable {X : Cx} {CX : CXT} {k : Nat} {C f : Addr} {fd : FuncData} {ps : List Str} {sp : Sp} {E : XK} {pins : List (Addr × Obj)} {σ : St} {H : Hp} {s : Shared}
/-- a def at work further in -/
theorem run_at {A : Around} {E' : Value → Shared → Prop} {vs : List V} {us : List Value} {Q : VK} (e0 : Env0 X.prog X.w X.K X.mg X.base A X.stack s H) (hr : Room k A) (I : Inv X pins σ H s) (F : FnOk X.prog X.w X.K X.mg X.base CX k f fd ps sp) (hb : Binds X.K fd ps []) (r : Vals vs us) (hx : Passes CX X.nox E) (h : sp vs H Q E) :
    wpAny (model X.prog X.w) A (call (.ref f) us) (EP X pins σ Q) E' s := by
  have hl : (us ++ []).length = ps.length := by
    rw [List.append_nil, ← F.len _ _ _ _ h]
    exact r.length.symm
  have bind := hb s us I.kIn hl
  rw [List.append_nil] at bind
  refine wpAny_call (codeAny_mono (F.run A X.stack s H ⟨us, []⟩ us vs Q E hr e0 bind r h) fun r s' hq => ?_)
  match r, hq with
  | .error er, hq => exact False.elim (hx pins σ H s er s' (I.wish _) hq)
  | .ok (.ret u), hq => exact I.after hq
theorem ins_at {a dx : Addr} {fs : List (Str × V)} (I : Inv X pins σ H s) (ea : H a = some (.ins C dx fs)) : ∃ ox od, PySem.W.InstAt s.heap a ox C (some od) := by
  obtain ⟨mA, O, _⟩ := ins_get I.hok ea
  obtain ⟨od, J, _⟩ := O.look
  exact ⟨_, od, J⟩
/-- an own method that stands in the class -/
structure Own (K : PySem.W.Frag) (C : Addr) (m : Str) (f : Addr) : Prop where
  at_ : PySem.W.findIn K (.ref C) m = some (some (.ref f))
  fn : PySem.W.typeIn K (.ref f) = some (.type "function")
theorem Own.isFn {K : PySem.W.Frag} {m : Str} (o : Own K C m f) : PySem.W.isFn K (.ref f) = true := beq_iff_eq.mpr o.fn
/-- len(o) -/
def rLenO (C : Addr) (sp : Sp) (E : XK) : List V → Hp → VK → Prop := fun xs H Q => ∃ (a dx : Addr) (fs : List (Str × V)), xs = [.ref a] ∧ H a = some (.ins C dx fs) ∧ sp [.ref a] H (fun v H' => ∃ n : Nat, v = .int n ∧ n < 2 ^ 62 ∧ Q (.int n) H') E
theorem call_lenO (o : Own X.K C "__len__" f) (F : FnOk X.prog X.w X.K X.mg X.base CX k f fd ps sp) (hr : Room (k + 1) X.A) (hb : Binds X.K fd ps []) (hx : Passes CX X.nox E) : CallR X (.builtin "len") (rLenO C sp E) := by
  intro pins s σ H xs us Q I r h
  obtain ⟨a, dx, fs, rfl, ea, h⟩ := h
  rw [Vals.ref1 r]
  obtain ⟨ox, od, J⟩ := ins_at I ea
  refine Calls.call_function_entry kind_len plain_len entry_len (args_len1 _) ?_
  unfold Builtin.«len»
  refine wpAny_bind (m := oneArg "len" _) (wpAny_pure (wpAny_bind (m := callSpecial? (.ref a) (Str.ofString "__len__")) (PySem.W.special_fn I.kIn J o.at_ o.fn (wpAny_mono (run_at (A := X.A.in1) I.env0.in1 hr.in1 (vs := [.ref a]) I F hb (.cons rfl .nil) hx h) (fun u s' hq => ?_) fun _ _ z => z))))
  obtain ⟨v, H', I', rv, n, rfl, lt, q⟩ := hq
  obtain ⟨t, rfl⟩ := rv
  refine wpAny_bind (wpAny_holding (wpAny_pure (wpAny_bind (wpAny_letGo ?_))))
  show wpAny _ _ (if ((n : Int) < 0) then _ else _) _ _ _
  rw [if_neg (by omega)]
  show wpAny _ _ (if ((n : Int) ≥ 2 ^ 63) then _ else _) _ _ _
  rw [if_neg (by omega)]
  exact wpAny_bind (wpAny_mkInt (wpAny_pure ⟨_, rfl, .int n, H', I'.tok _, ⟨_, rfl⟩, q⟩))
/-- str(o) -/
def rStrO (C : Addr) (sp : Sp) (E : XK) : List V → Hp → VK → Prop := fun xs H Q => ∃ (a dx : Addr) (fs : List (Str × V)), xs = [.ref a] ∧ H a = some (.ins C dx fs) ∧ sp [.ref a] H (fun v H' => ∃ y : Str, v = .str y ∧ Q (.str y) H') E
theorem call_strO (o : Own X.K C "__str__" f) (F : FnOk X.prog X.w X.K X.mg X.base CX k f fd ps sp) (hr : Room (k + 2) X.A) (hb : Binds X.K fd ps []) (hx : Passes CX X.nox E) : CallR X (.type "str") (rStrO C sp E) := by
  intro pins s σ H xs us Q I r h
  obtain ⟨a, dx, fs, rfl, ea, h⟩ := h
  rw [Vals.ref1 r]
  obtain ⟨ox, od, J⟩ := ins_at I ea
  refine PySem.W.kso_call (by have := hr.in1.in1.units; omega) I.kIn J o.at_ o.isFn (wpAny_mono (run_at (A := X.A.in1.in1) I.env0.in1.in1 hr.in1.in1 (vs := [.ref a]) I F hb (.cons rfl .nil) hx h) (fun u s' hq => ?_) fun _ _ z => z)
  obtain ⟨v, H', I', rv, y, rfl, q⟩ := hq
  obtain ⟨t, rfl⟩ := rv
  exact ⟨.str y, H', I', ⟨t, rfl⟩, q⟩
/-- x in o -/
def rInO (C : Addr) (sp : Sp) (E : XK) : V → V → Hp → VK → Prop := fun x y H Q => ∃ (a dx : Addr) (fs : List (Str × V)), y = .ref a ∧ H a = some (.ins C dx fs) ∧ sp [.ref a, x] H (fun v H' => ∃ b : Bool, v = .bl b ∧ Q (.bl b) H') E
theorem op_inO (o : Own X.K C "__contains__" f) (F : FnOk X.prog X.w X.K X.mg X.base CX k f fd ps sp) (hr : Room k X.A) (hb : Binds X.K fd ps []) (hx : Passes CX X.nox E) : OpR X (compareOp .In) (rInO C sp E) := by
  intro pins s σ H x y v u Q I rx ry h
  obtain ⟨a, dx, fs, rfl, ea, h⟩ := h
  cases ry
  obtain ⟨ox, od, J⟩ := ins_at I ea
  refine wpAny_bind (m := contains _ _) ?_
  unfold contains
  refine wpAny_holding (wpAny_bind (wpAny_bind (J.type.here ((PySem.W.looks_findIn I.kIn o.at_).here ?_))))
  rw [if_neg (by simp)]
  refine wpAny_bind (PySem.W.unlessNone_K I.kIn J o.at_ o.isFn (wpAny_mono (run_at (vs := [.ref a, x]) I.env0 hr I F hb (.cons rfl (.cons rx .nil)) hx h) (fun u s' hq => ?_) fun _ _ z => z))
  obtain ⟨v', H', I', rv, b, rfl, q⟩ := hq
  cases rv
  exact wpAny_pure (wpAny_pure ⟨.bl b, H', I', rfl, q⟩)
end
end L2.Cal
end

section
set_option maxRecDepth 100000
set_option maxHeartbeats 4000000
namespace L2.Cal
open PySem PySem.Spec PyProof.Rows L2
section
variable {X : Cx} {CX : CXT} {k : Nat} {C f : Addr} {fd : FuncData} {ps : List Str} {sp : Sp} {E : XK} {pins : List (Addr × Obj)} {σ : St} {H : Hp} {s : Shared}
/-- o == y, o's own `__eq__` asked first -/
def rEqO (K : PySem.W.Frag) (C : Addr) (sp : Sp) (E : XK) (g : Bool → Bool) : V → V → Hp → VK → Prop := fun x y H Q => ∃ (a dx : Addr) (fs : List (Str × V)) (t : Value), x = .ref a ∧ H a = some (.ins C dx fs) ∧ TyX K H y t ∧ PySem.W.notFirst K C t = true ∧
  sp [.ref a, y] H (fun v H' => ∃ b : Bool, v = .bl b ∧ Q (.bl (g b)) H') E
theorem op_eqO (o : Own X.K C "__eq__" f) (F : FnOk X.prog X.w X.K X.mg X.base CX k f fd ps sp) (hr : Room k X.A) (hb : Binds X.K fd ps []) (hx : Passes CX X.nox E) : OpR X (compareOp .Eq) (rEqO X.K C sp E id) := by
  intro pins s σ H x y v u Q I rx ry h
  obtain ⟨a, dx, fs, t, rfl, ea, ty, nf, h⟩ := h
  cases rx
  obtain ⟨ox, od, J⟩ := ins_at I ea
  obtain ⟨Pt, kt, hP, _⟩ := kit_of I ry ty
  obtain ⟨m, hF⟩ := I.fr
  refine PySem.W.cmp_K (op := .Eq) hr.units0 hF I.ok.mod.kin J (kt.ty _ _ I.kIn hP) nf o.at_ o.isFn (wpAny_mono (run_at (vs := [.ref a, y]) I.env0 hr I F hb (.cons rfl (.cons ry .nil)) hx h) (fun u' s' hq => ?_) fun _ _ z => z)
  obtain ⟨v', H', I', rv, b, rfl, q⟩ := hq
  cases rv
  exact ⟨.bl b, H', I', rfl, q⟩
/-- o's `__ne__` is object's, which asks o's own `__eq__` -/
theorem try_ne {a dx : Addr} {fs : List (Str × V)} {y : V} {u : Value} {Q : VK} (o : Own X.K C "__eq__" f) (hne : PySem.W.findIn X.K (.ref C) "__ne__" = some (some (.builtin "object.__ne__"))) (hob : PySem.W.mroIn X.K C (.type "object") = some true)
    (F : FnOk X.prog X.w X.K X.mg X.base CX k f fd ps sp) (hr : Room (k + 1) X.A) (hb : Binds X.K fd ps []) (hx : Passes CX X.nox E) (I : Inv X pins σ H s) (ea : H a = some (.ins C dx fs)) (ry : RelV y u) (h : sp [.ref a, y] H (fun v H' => ∃ b : Bool, v = .bl b ∧ Q (.bl (!b)) H') E) :
    wpAny (model X.prog X.w) X.A (tryCompare (.ref a) "__ne__" u) (fun r s' => ∃ v, r = some v ∧ EP X pins σ Q v s') X.xe s := by
  obtain ⟨ox, od, J⟩ := ins_at I ea
  have S := PySem.F.cmp_object.ne
  have sub : PySem.W.Looks (model X.prog X.w) s.heap (isInstance (.ref a) (.type "object")) true := J.type.andThen (PySem.W.looks_mroIn I.kIn hob)
  have body : wpAny (model X.prog X.w) X.A (call (.builtin "object.__ne__") [.ref a, u]) (fun v s' => ∃ (b : Bool) (H' : Hp), v = .bool b ∧ Inv X pins σ H' s' ∧ Q (.bl b) H') X.xe s := by
    refine wpAny_call (codeAny_call_builtin S.plain PySem.F.cmpEntry_ne (@PySem.W.check_slot (model X.prog X.w) _ _ s "object.__ne__" "object" "__ne__" (.ref a) [u] [] _ PySem.F.cmpKind_ne PySem.F.cmpSplit_ne sub (PySem.F.cmpArgs_ne _ _) ?_))
    unfold Builtin.«object.__ne__»
    have room : X.A.in1.units < cLine := hr.in1.units0
    have asked : wpAny (model X.prog X.w) X.A.in1 (callSpecialIfBound? (.ref a) (Str.ofString "__eq__") [u]) (fun r s' => ∃ (b : Bool) (H' : Hp), r = some (.bool b) ∧ Inv X pins σ H' s' ∧ Q (.bl (!b)) H') X.xe s := by
      refine PySem.W.ifBound_K I.kIn J o.at_ o.isFn (wpAny_mono (run_at (vs := [.ref a, y]) I.env0.in1 hr.in1 I F hb (.cons rfl (.cons ry .nil)) hx h) (fun u' s' hq => ?_) fun _ _ z => z)
      obtain ⟨v', H', I', rv, b, rfl, q⟩ := hq
      cases rv
      exact ⟨b, H', rfl, I', q⟩
    repeat (first
      | with_reducible refine wpAny_cRoomFor room ?_
      | (refine wpAny_bind (m := callSpecialIfBound? (.ref a) (Str.ofString "__eq__") [u]) (wpAny_mono asked (fun r s' hq => ?_) fun _ _ z => z))
      | wp_step)
    obtain ⟨b, H', rfl, I', q⟩ := hq
    exact wpAny_bind (wpAny_truthy_bool (wpAny_pure ⟨!b, H', rfl, I', q⟩))
  unfold tryCompare callSpecialIfBound? bindSpecialIfBound?
  have fin : wpAny (model X.prog X.w) X.A (call (.builtin "object.__ne__") ([.ref a] ++ [u]) >>= fun v => pure (some v)) (fun r s' => ∃ (b : Bool) (H' : Hp), r = some (.bool b) ∧ Inv X pins σ H' s' ∧ Q (.bl b) H') X.xe s := wpAny_bind (wpAny_mono body (fun v s' z => let ⟨b, H', e, r⟩ := z; wpAny_pure ⟨b, H', congrArg some e, r⟩) fun _ _ z => z)
  refine wpAny_bind (wpAny_mono (Q := fun r s' => ∃ (b : Bool) (H' : Hp), r = some (.bool b) ∧ Inv X pins σ H' s' ∧ Q (.bl b) H') ?_ (fun r s' z => ?_) fun _ _ z => z)
  · refine wpAny_holding (wpAny_bind (wpAny_bind (wpAny_bind (J.type.here ((PySem.W.looks_findIn I.kIn hne).here ?_)))))
    simp only [S.bind]
    refine wpAny_bind (wpAny_askSetting (wpAny_ite ?_))
    split
    · exact wpAny_bind (wpAny_pure (wpAny_pure fin))
    · exact wpAny_tryCatch (wpAny_bind (wpAny_pure (wpAny_pure fin)))
  · obtain ⟨b, H', rfl, I', q⟩ := z
    exact wpAny_pure ⟨_, rfl, .bl b, H', I', rfl, q⟩
theorem op_neO (o : Own X.K C "__eq__" f) (hne : PySem.W.findIn X.K (.ref C) "__ne__" = some (some (.builtin "object.__ne__"))) (hob : PySem.W.mroIn X.K C (.type "object") = some true) (F : FnOk X.prog X.w X.K X.mg X.base CX k f fd ps sp) (hr : Room (k + 1) X.A) (hb : Binds X.K fd ps []) (hx : Passes CX X.nox E) :
    OpR X (compareOp .NotEq) (rEqO X.K C sp E fun b => !b) := by
  intro pins s σ H x y v u Q I rx ry h
  obtain ⟨a, dx, fs, t, rfl, ea, ty, nf, h⟩ := h
  cases rx
  obtain ⟨ox, od, J⟩ := ins_at I ea
  obtain ⟨Pt, kt, hP, _⟩ := kit_of I ry ty
  have ask := try_ne o hne hob F hr hb hx I ea ry h
  show wpAny (model X.prog X.w) X.A (richCompare .NotEq (.ref a) u) (EP X pins σ Q) X.xe s
  unfold richCompare
  simp only [oneThing_ref]
  refine wpAny_holding (wpAny_bind (wpAny_cRoomFor hr.units0 (wpAny_bind (J.type.here (wpAny_bind ((kt.ty _ _ I.kIn hP).here ?_))))))
  split
  · rename_i q
    have e : PySem.W.subIn X.K t (.ref C) = some false := by
      rcases Bool.or_eq_true_iff.mp nf with e | e
      · rw [beq_iff_eq.mp e] at q
        simp at q
      · exact beq_iff_eq.mp e
    refine wpAny_bind ((PySem.W.looks_subIn I.kIn e).here ?_)
    simp only [Bool.false_eq_true, if_false]
    refine wpAny_bind (wpAny_mono ask (fun r s' z => ?_) fun _ _ e => e)
    obtain ⟨v, rfl, hq⟩ := z
    exact wpAny_pure hq
  · refine wpAny_bind (wpAny_pure ?_)
    simp only [Bool.false_eq_true, if_false]
    refine wpAny_bind (wpAny_mono ask (fun r s' z => ?_) fun _ _ e => e)
    obtain ⟨v, rfl, hq⟩ := z
    exact wpAny_pure hq
end
end L2.Cal
end

section
set_option maxRecDepth 100000
set_option maxHeartbeats 4000000
/-! `v == o`, v of a built-in type that declines: o's own `__eq__` is asked -/
namespace L2.Cal
open PySem PySem.Spec PyProof.Rows L2
open PySem.AutoSeq1 (wpAny_loadPart')
section
variable {P : Program} {w : World} {A : Around} {E : Value → Shared → Prop} {s : Shared} {C b dx l : Addr} {Q : Value → Shared → Prop}
theorem nay_list {o : Obj} (hl : s.heap.get? l = some o) (hc : o.cls = .type "list") (no : PySem.W.Looks (model P w) s.heap (isInstance (.ref b) (.type "list")) false) (q : Q .notImplemented s) : wpAny (model P w) A (call (.builtin "list.__eq__") [.ref l, .ref b]) Q E s := by
  refine wpAny_call_entry PySem.F.slot_list_eq ⟨_, hl, hc⟩ PySem.F.entry_list_eq ?_ (PySem.F.args_list_eq_2 _ _)
  unfold Builtin.«list.__eq__»
  repeat (first | with_reducible refine no.here ?_ | wp_step)
  exact ⟨_, rfl, q⟩
theorem nay_tuple {o : Obj} (hl : s.heap.get? l = some o) (hc : o.cls = .type "tuple") (no : PySem.W.Looks (model P w) s.heap (isInstance (.ref b) (.type "tuple")) false) (q : Q .notImplemented s) : wpAny (model P w) A (call (.builtin "tuple.__eq__") [.ref l, .ref b]) Q E s := by
  refine wpAny_call_entry PySem.F.slot_tuple_eq ⟨_, hl, hc⟩ PySem.F.entry_tuple_eq ?_ (PySem.F.args_tuple_eq_2 _ _)
  unfold Builtin.«tuple.__eq__»
  repeat (first | with_reducible refine no.here ?_ | wp_step)
  exact ⟨_, rfl, q⟩
theorem nay_dict {o : Obj} (hl : s.heap.get? l = some o) (hc : o.cls = .type "dict") (no : PySem.W.Looks (model P w) s.heap (isInstance (.ref b) (.type "dict")) false) (q : Q .notImplemented s) : wpAny (model P w) A (call (.builtin "dict.__eq__") [.ref l, .ref b]) Q E s := by
  refine wpAny_call_entry PySem.F.slot_dict_eq ⟨_, hl, hc⟩ PySem.F.entry_dict_eq ?_ (PySem.F.args_dict_eq_2 _ _)
  unfold Builtin.«dict.__eq__»
  repeat (first | with_reducible refine no.here ?_ | wp_step)
  exact ⟨_, rfl, q⟩
theorem nay_none (q : Q .notImplemented s) : wpAny (model P w) A (call (.builtin "NoneType.__eq__") [.none, .ref b]) Q E s := by
  refine wpAny_call_entry PySem.F.slot_NoneType_eq rfl PySem.F.entry_NoneType_eq ?_ (PySem.F.args_NoneType_eq_2 _ _)
  wp_walk
  exact ⟨_, rfl, q⟩
theorem nay_str {y : Str} {t : Tok} (hb : s.heap.get? b = some (PySem.W.instObj C dx)) (q : Q .notImplemented s) : wpAny (model P w) A (call (.builtin "str.__eq__") [.str y t, .ref b]) Q E s := by
  refine wpAny_call_entry PySem.F.slot_str_eq (typeIs_str s y t) PySem.F.entry_str_eq ?_ (PySem.F.args_str_eq_2 _ _)
  wp_walk using wpAny_loadPart' hb, wpAny_load hb
  exact ⟨_, rfl, q⟩
theorem nay_int {i : Int} {t : Tok} (hb : s.heap.get? b = some (PySem.W.instObj C dx)) (q : Q .notImplemented s) : wpAny (model P w) A (call (.builtin "int.__eq__") [.int i t, .ref b]) Q E s := by
  refine wpAny_call_entry PySem.F.slot_int_eq rfl PySem.F.entry_int_eq ?_ (PySem.F.args_int_eq_2 _ _)
  wp_walk using wpAny_loadPart' hb, wpAny_load hb
  exact ⟨_, rfl, q⟩
end
/-- values whose type declines -/
inductive Dcl (H : Hp) : V → String → Prop where
  | non : Dcl H .non "NoneType"
  | int (i : Int) : Dcl H (.int i) "int"
  | str (y : Str) : Dcl H (.str y) "str"
  | lst {l : Addr} {xs : List V} (e : H l = some (.lst xs)) : Dcl H (.ref l) "list"
  | tup {l : Addr} {xs : List V} (e : H l = some (.tup xs)) : Dcl H (.ref l) "tuple"
  | dct {l : Addr} {kvs : List (Key × V)} (e : H l = some (.dK kvs)) : Dcl H (.ref l) "dict"
section
variable {X : Cx} {CX : CXT} {k : Nat} {C f : Addr} {fd : FuncData} {ps : List Str} {sp : Sp} {E : XK} {pins : List (Addr × Obj)} {σ : St} {H : Hp} {s : Shared}
theorem Dcl.ty {K : PySem.W.Frag} {x : V} {T : String} (d : Dcl H x T) : TyX K H x (.type T) := by
  cases d with
  | non => exact .base .non
  | int i => exact .base (.int i)
  | str y => exact .base (.str y)
  | lst e => exact .base (.lst e)
  | tup e => exact .base (.tup e)
  | dct e => exact .base (.dK e)
theorem Dcl.try_ {A : Around} {E' : Value → Shared → Prop} {Q : Option Value → Shared → Prop} {x : V} {v : Value} {T : String} {b dx : Addr} {fs : List (Str × V)} (d : Dcl H x T) (I : Inv X pins σ H s) (rx : RelV x v) (eb : H b = some (.ins C dx fs)) (no : PySem.W.mroIn X.K C (.type T) = some false) (q : Q none s) :
    wpAny (model X.prog X.w) A (tryCompare v "__eq__" (.ref b)) Q E' s := by
  obtain ⟨mA, O, _⟩ := ins_get I.hok eb
  have ob := O.obj
  obtain ⟨od, J, _⟩ := O.look
  have isi : PySem.W.Looks (model X.prog X.w) s.heap (isInstance (.ref b) (.type T)) false := J.type.andThen (PySem.W.looks_mroIn I.kIn no)
  obtain ⟨Pt, kt, hP, _⟩ := kit_of I rx (d.ty (K := X.K))
  cases d with
  | non =>
    cases (show v = Value.none from rx)
    exact wpAny_tryCompare_declines (T := "NoneType") rfl PySem.F.slot_NoneType_eq (nay_none ⟨rfl, q⟩)
  | int i =>
    obtain ⟨t, rfl⟩ := (show ∃ t, v = Value.int i t from rx)
    exact wpAny_tryCompare_declines (T := "int") rfl PySem.F.slot_int_eq (nay_int ob ⟨rfl, q⟩)
  | str y =>
    obtain ⟨t, rfl⟩ := (show ∃ t, v = Value.str y t from rx)
    exact wpAny_tryCompare_declines (T := "str") (typeIs_str s y t) PySem.F.slot_str_eq (nay_str ob ⟨rfl, q⟩)
  | @lst l xs e =>
    cases (show v = Value.ref l from rx)
    obtain ⟨_, _, n, _, h1⟩ := (show ObjOk X.prog X.w H s.heap l (.lst xs) from I.hok l _ e)
    exact wpAny_tryCompare_declines (T := "list") ⟨_, h1, rfl⟩ PySem.F.slot_list_eq (nay_list h1 rfl isi ⟨rfl, q⟩)
  | @tup l xs e =>
    cases (show v = Value.ref l from rx)
    obtain ⟨_, _, _, o, h1, h2, _⟩ := (show ObjOk X.prog X.w H s.heap l (.tup xs) from I.hok l _ e)
    exact wpAny_tryCompare_declines (T := "tuple") ⟨_, h1, h2⟩ PySem.F.slot_tuple_eq (nay_tuple h1 h2 isi ⟨rfl, q⟩)
  | @dct l kvs e =>
    cases (show v = Value.ref l from rx)
    obtain ⟨_, _, vs, _, o, es, ep, h1, h2, _⟩ := (show ObjOk X.prog X.w H s.heap l (.dK kvs) from I.hok l _ e)
    exact wpAny_tryCompare_declines (T := "dict") ⟨_, h1, h2.1⟩ PySem.F.slot_dict_eq (nay_dict h1 h2.1 isi ⟨rfl, q⟩)
/-- v == o -/
def rEqR (K : PySem.W.Frag) (C : Addr) (sp : Sp) (E : XK) : V → V → Hp → VK → Prop := fun x y H Q => ∃ (b dx : Addr) (fs : List (Str × V)) (T : String), y = .ref b ∧ H b = some (.ins C dx fs) ∧ Dcl H x T ∧ PySem.W.mroIn K C (.type T) = some false ∧ PySem.W.subIn K (.ref C) (.type T) = some false ∧
  sp [.ref b, x] H (fun v H' => ∃ b : Bool, v = .bl b ∧ Q (.bl b) H') E
theorem op_eqR (o : Own X.K C "__eq__" f) (F : FnOk X.prog X.w X.K X.mg X.base CX k f fd ps sp) (hr : Room k X.A) (hb : Binds X.K fd ps []) (hx : Passes CX X.nox E) : OpR X (compareOp .Eq) (rEqR X.K C sp E) := by
  intro pins s σ H x y v u Q I rx ry h
  obtain ⟨b, dx, fs, T, rfl, eb, d, nm, ns, h⟩ := h
  cases ry
  obtain ⟨ox, od, J⟩ := ins_at I eb
  obtain ⟨Pt, kt, hP, _⟩ := kit_of I rx (d.ty (K := X.K))
  show wpAny (model X.prog X.w) X.A (richCompare .Eq v (.ref b)) (EP X pins σ Q) X.xe s
  have one : oneThing? .Eq v (.ref b) = none := by
    cases d <;> first
      | (cases (show v = Value.none from rx); rfl)
      | (obtain ⟨t, rfl⟩ := (show ∃ t, v = Value.int _ t from rx); rfl)
      | (obtain ⟨t, rfl⟩ := (show ∃ t, v = Value.str _ t from rx); rfl)
      | (cases (show v = Value.ref _ from rx); exact oneThing_ref ..)
  unfold richCompare
  simp only [one]
  refine wpAny_holding (wpAny_bind (wpAny_cRoomFor hr.units0 (wpAny_bind ((kt.ty _ _ I.kIn hP).here (wpAny_bind (J.type.here ?_))))))
  have fin : wpAny (model X.prog X.w) X.A (tryCompare (.ref b) "__eq__" v) (fun r s' => ∃ z, r = some z ∧ EP X pins σ Q z s') X.xe s := by
    unfold tryCompare
    refine wpAny_bind (PySem.W.ifBound_K I.kIn J o.at_ o.isFn (wpAny_mono (run_at (vs := [.ref b, x]) I.env0 hr I F hb (.cons rfl (.cons rx .nil)) hx h) (fun u' s' hq => ?_) fun _ _ z => z))
    obtain ⟨v', H', I', rv, c, rfl, q⟩ := hq
    cases rv
    exact wpAny_pure ⟨_, rfl, .bl c, H', I', rfl, q⟩
  have nt : (Value.type T != Value.ref C) = true := by simp
  rw [if_pos nt]
  refine wpAny_bind ((PySem.W.looks_subIn I.kIn ns).here ?_)
  simp only [Bool.false_eq_true, if_false]
  refine wpAny_bind (m := tryCompare v _ (.ref b)) (d.try_ I rx eb nm ?_)
  simp only [Bool.not_false, if_true]
  refine wpAny_bind (m := tryCompare (.ref b) _ v) (wpAny_mono fin (fun r s' z => ?_) fun _ _ e => e)
  obtain ⟨z, rfl, hq⟩ := z
  exact wpAny_pure hq
end
end L2.Cal
end

section
set_option maxRecDepth 100000
set_option maxHeartbeats 4000000
namespace L2.Cal
open PySem PySem.Spec PyProof.Rows L2
section
variable {X : Cx} {CX : CXT} {k : Nat} {C f : Addr} {fd : FuncData} {ps : List Str} {sp : Sp} {E : XK} {pins : List (Addr × Obj)} {σ : St} {H : Hp} {s : Shared}
/-- truth of an object that has a length -/
theorem truth_len {A : Around} {E' : Value → Shared → Prop} {Q : Bool → Hp → Prop} {a dx : Addr} {fs : List (Str × V)} (e0 : Env0 X.prog X.w X.K X.mg X.base A.in1 X.stack s H) (hr : Room k A.in1) (I : Inv X pins σ H s) (ea : H a = some (.ins C dx fs)) (o : Own X.K C "__len__" f) (nb : PySem.W.findIn X.K (.ref C) "__bool__" = some none)
    (F : FnOk X.prog X.w X.K X.mg X.base CX k f fd ps sp) (hb : Binds X.K fd ps []) (hx : Passes CX X.nox E) (h : sp [.ref a] H (fun v H' => ∃ n : Nat, v = .int n ∧ n < 2 ^ 62 ∧ Q (decide (n ≠ 0)) H') E) :
    wpAny (model X.prog X.w) A (truthy (.ref a)) (fun b s' => ∃ H', Inv X pins σ H' s' ∧ Q b H') E' s := by
  obtain ⟨ox, od, J⟩ := ins_at I ea
  unfold truthy
  refine wpAny_bind (m := callSpecial? (.ref a) (Str.ofString "__bool__")) (wpAny_bind (wpAny_bind (J.type.here ((PySem.W.looks_findIn I.kIn nb).here (wpAny_pure ?_)))))
  refine wpAny_bind (wpAny_bind (J.type.here ((PySem.W.looks_findIn I.kIn o.at_).here ?_)))
  rw [if_neg (by simp)]
  refine wpAny_bind (wpAny_runValue (codeAny_builtin entry_len ?_))
  rw [Around.under_plainId plain_len _]
  unfold Builtin.«len»
  refine wpAny_bind (m := oneArg "len" _) (wpAny_pure (wpAny_bind (m := callSpecial? (.ref a) (Str.ofString "__len__")) (PySem.W.special_fn I.kIn J o.at_ o.fn (wpAny_mono (run_at (vs := [.ref a]) e0 hr I F hb (.cons rfl .nil) hx h) (fun u s' hq => ?_) fun _ _ z => z))))
  obtain ⟨v, H', I', rv, n, rfl, lt, q⟩ := hq
  obtain ⟨t, rfl⟩ := rv
  refine wpAny_bind (wpAny_holding (wpAny_pure (wpAny_bind (wpAny_letGo ?_))))
  show wpAny _ _ (if ((n : Int) < 0) then _ else _) _ _ _
  rw [if_neg (by omega)]
  show wpAny _ _ (if ((n : Int) ≥ 2 ^ 63) then _ else _) _ _ _
  rw [if_neg (by omega)]
  refine wpAny_bind (wpAny_mkInt (wpAny_pure ?_))
  show wpAny _ _ (pure ((n : Int) != 0)) _ _ _
  have e : ((n : Int) != 0) = decide (n ≠ 0) := by
    by_cases c : n = 0
    · subst c; rfl
    · rw [decide_eq_true c]
      exact bne_iff_ne.mpr (by omega)
  rw [e]
  exact wpAny_pure ⟨H', I'.tok _, q⟩
/-- bool(o) -/
def rBoolO (C : Addr) (sp : Sp) (E : XK) : List V → Hp → VK → Prop := fun xs H Q => ∃ (a dx : Addr) (fs : List (Str × V)), xs = [.ref a] ∧ H a = some (.ins C dx fs) ∧ sp [.ref a] H (fun v H' => ∃ n : Nat, v = .int n ∧ n < 2 ^ 62 ∧ Q (.bl (decide (n ≠ 0))) H') E
theorem call_boolO (o : Own X.K C "__len__" f) (nb : PySem.W.findIn X.K (.ref C) "__bool__" = some none) (F : FnOk X.prog X.w X.K X.mg X.base CX k f fd ps sp) (hr : Room (k + 3) X.A) (hb : Binds X.K fd ps []) (hx : Passes CX X.nox E) : CallR X (.type "bool") (rBoolO C sp E) := by
  intro pins s σ H xs us Q I r h
  obtain ⟨a, dx, fs, rfl, ea, h⟩ := h
  rw [Vals.ref1 r]
  have tr : ∀ E', wpAny (model X.prog X.w) X.A.in1.in1 (truthy (.ref a)) (fun b s' => ∃ H', Inv X pins σ H' s' ∧ Q (.bl b) H') E' s := fun E' => truth_len (Q := fun b H' => Q (.bl b) H') I.env0.in1.in1.in1 hr.in1.in1.in1 I ea o nb F hb hx h
  refine callType_codes (T := "bool") (Bi := Builtin.«object.__init__») (Q₁ := fun r s₁ => ∃ (b : Bool) (H' : Hp), r = .bool b ∧ Inv X pins σ H' s₁ ∧ Q (.bl b) H') PySem.F.called_bool (PySem.F.typeCall_bool_1 _) PySem.F.entry_object_init ?_ ?_
  · refine codeAny_of_tree ?_
    show wpAny _ X.A.in1.in1 (do checkBuiltinCall "bool.__new__" ⟨[.type "bool", .ref a], []⟩; again (.builtin "bool.__new__" ⟨[.type "bool", .ref a], []⟩)) _ _ s
    refine wpAny_bind (wpAny_of_eq (PySem.F.newCall_bool_1 _) (wpAny_pure ⟨plainId_quiet (by decide +kernel) _, codeAny_builtin PySem.F.entry_bool_new ?_⟩))
    rw [Around.under_plainId (by decide +kernel) _]
    unfold Builtin.«bool.__new__»
    have below := PySem.F.conv_sub_bool
    generalize hT : truthy = T
    repeat (first | assumption | wp_step)
    subst hT
    refine wpAny_mono (tr _) (fun b s' hq => ?_) fun _ _ z => z
    obtain ⟨H', I', q⟩ := hq
    exact wpAny_pure ⟨b, H', rfl, I', q⟩
  · rintro obj s₁ ⟨b, H', rfl, I', q⟩
    exact ⟨rfl, PySem.F.args_object_init_2 _ _, object_init_meets PySem.F.called_bool.init.lookup PySem.F.called_bool.made (by decide) X.prog X.w X.A.in1 _ s₁ ⟨rfl, rfl, ⟨.bl b, H', I', rfl, q⟩⟩⟩
end
end L2.Cal
end

section
set_option maxRecDepth 100000
set_option maxHeartbeats 4000000
namespace L2.Cal
open PySem PySem.Spec PyProof.Rows L2
def clsBody (s : Stmt) : List Stmt := match s with
  | .ClassDef _ _ _ b _ _ _ _ _ _ _ => b
  | _ => []
def methS (j : Nat) : Stmt := (clsBody (topS 22)).getD j (.Pass ⟨0, 0, 0, 0⟩)
abbrev sIni : Stmt := methS 0
theorem scIni : FnScope ["self", "orders", "right"] ["self", "orders"] (defScope sIni) := ⟨rfl, rfl, rfl, by decide +kernel, rfl, by decide +kernel, by decide +kernel⟩
abbrev sOrd : Stmt := methS 2
theorem scOrd : FnScope ["self"] ["self"] (defScope sOrd) := ⟨rfl, rfl, rfl, by decide +kernel, rfl, by decide +kernel, by decide +kernel⟩
abbrev sThi : Stmt := methS 3
theorem scThi : FnScope ["self"] ["self"] (defScope sThi) := ⟨rfl, rfl, rfl, by decide +kernel, rfl, by decide +kernel, by decide +kernel⟩
abbrev sLen : Stmt := methS 4
theorem scLen : FnScope ["self"] ["self"] (defScope sLen) := ⟨rfl, rfl, rfl, by decide +kernel, rfl, by decide +kernel, by decide +kernel⟩
abbrev sStr : Stmt := methS 5
theorem scStr : FnScope ["self"] ["self"] (defScope sStr) := ⟨rfl, rfl, rfl, by decide +kernel, rfl, by decide +kernel, by decide +kernel⟩
abbrev sCon : Stmt := methS 6
theorem scCon : FnScope ["self", "x"] ["self", "x"] (defScope sCon) := ⟨rfl, rfl, rfl, by decide +kernel, rfl, by decide +kernel, by decide +kernel⟩
abbrev sEqu : Stmt := methS 7
theorem scEqu : FnScope ["self", "other"] ["self", "other"] (defScope sEqu) := ⟨rfl, rfl, rfl, by decide +kernel, rfl, by decide +kernel, by decide +kernel⟩
/-- what the class is asked for -/
structure RollC (K : PySem.W.Frag) (mg : Str → Option Value) (C : Addr) : Prop where
  g : mg "Roll" = some (.ref C)
  cls : Cls K C
  no1 : NoAttr K C "_orders"
  no2 : NoAttr K C "_things"
  dcl : PySem.W.findIn K (.ref C) "__class__" = some (some (.builtin "object.__class__"))
  dget : PySem.W.specialIn K (.builtin "object.__class__") "__get__" = some (some (.builtin "getset_descriptor.__get__"))
  dtk : PySem.W.takesIn K (.builtin "object.__class__") = some true
  mobj : PySem.W.mroIn K C (.type "object") = some true
/-- a roll's fields: its two and no others -/
abbrev Flds := { fs : List (Str × V) // ∀ f : Str, f ≠ "_orders" → f ≠ "_things" → fs.lookup f = none }
def RollAt (C : Addr) (H : Hp) (a t : Addr) (z : Str) : Prop := ∃ (dx : Addr) (fs : Flds), H a = some (.ins C dx fs.1) ∧ fs.1.lookup ("_orders" : Str) = some (.ref t) ∧ fs.1.lookup ("_things" : Str) = some (.str z)
theorem RollAt.same {C : Addr} {H H' : Hp} {a t : Addr} {z : Str} (r : RollAt C H a t z) (s : Same H H') : RollAt C H' a t z := by
  obtain ⟨dx, fs, h, r⟩ := r
  exact ⟨dx, fs, s _ _ h, r⟩
/-- a lot that a roll takes -/
structure Good (ys : List Str) (y : Str) : Prop where
  lot : Lot ys y
  let_ : Lett y
  h3 : 3 ≤ y.cps.size
  h6 : y.cps.size ≤ 6
  few : ys.length ≤ 48
theorem seqT_off {K : PySem.W.Frag} {a t C dx : Addr} {fs : List (Str × V)} {H H' : Hp} {xs : List V} (h : SqT K H t xs) (ha : H a = some (.ins C dx fs)) (k : ∀ b o, b ≠ a → H b = some o → H' b = some o) : SqT K H' t xs := by
  rcases h with (z | ⟨o, z⟩) | z
  · exact .inl (.inl (k _ _ (fun e => by rw [e, ha] at z; cases z) z))
  · exact .inl (.inr ⟨o, k _ _ (fun e => by rw [e, ha] at z; cases z) z⟩)
  · exact .inr z
def spIni (K : PySem.W.Frag) (C : Addr) : Sp := fun vs H Q _ => ∃ (a t dx : Addr) (ys : List Str) (y : Str), vs = [.ref a, .ref t] ∧ H a = some (.ins C dx []) ∧ SqT K H t (ys.map V.str) ∧ TyX K H (.ref t) (.type "tuple") ∧ Good ys y ∧
  ∀ H' : Hp, (∀ b o, b ≠ a → H b = some o → H' b = some o) → RollAt C H' a t (tidy y) → Q .non H'
def spOrd (C : Addr) : Sp := fun vs H Q _ => ∃ (a t : Addr) (z : Str), vs = [.ref a] ∧ RollAt C H a t z ∧ Q (.ref t) H
def spThi (C : Addr) : Sp := fun vs H Q _ => ∃ (a t : Addr) (z : Str), vs = [.ref a] ∧ RollAt C H a t z ∧ Q (.str z) H
def spLen (K : PySem.W.Frag) (C : Addr) : Sp := fun vs H Q _ => ∃ (a t : Addr) (z : Str) (xs : List V), vs = [.ref a] ∧ RollAt C H a t z ∧ SqT K H t xs ∧ Q (.int xs.length) H
def spStr (K : PySem.W.Frag) (C : Addr) : Sp := fun vs H Q _ => ∃ (a t : Addr) (z : Str) (ys : List Str), vs = [.ref a] ∧ RollAt C H a t z ∧ SqT K H t (ys.map V.str) ∧ (ys.map (·.length)).sum + ys.length ≤ 10000 ∧ Q (.str (Txt.join (PySem.Str.ofString "\n") ys)) H
section
variable {P : Program} {w : World} {K : PySem.W.Frag} {mg : Str → Option Value} {base : Heap} {C : Addr}
theorem ok_ini {f fR fT : Addr} {fd fdR fdT fdI : FuncData} (F : Fun K "__init__" "Roll.__init__" sIni f fd) (DR : DefAt K mg "right_ahead" sRah ["orders"] fR fdR) {fI : Addr} (DI : DefAt K mg "is_order" sIsO ["value"] fI fdI) (DT : DefAt K mg "things_of" sThO ["order"] fT fdT) (T : Txt mg) (Lm : Lims mg) (R : RollC K mg C) :
    FnOk P w K mg base CX0 3 f fd ["self", "orders"] (spIni K C) := by
  have GT : FnOk P w K mg base CX0 1 fT fdT ["order"] spThO := ok_tho DT T
  have GR : FnOk P w K mg base CX0 2 fR fdR ["orders"] (spRah K) := ok_rah DR DI DT T Lm
  refine F.ok scIni (fun vs H Q E h => ?_) (fun cdv A outer sh H vs Q E hr h => ?_)
  · obtain ⟨a, t, dx, ys, y, rfl, _⟩ := h
    rfl
  · obtain ⟨a, t, dx, ys, y, rfl, ha, hT, ty, G, q⟩ := h
    refine ⟨_, (pss_cons (ps_if (PW.pt (pw_or (pt_not (pt_val (pe_callB call_isi (by rfl) T.b_isinstance (by decide +kernel) (pa_cons (pv 1) (pa_cons (pe_bty (n := "tuple") (by rfl) T.b_tuple (by decide +kernel)) pa_nil))))) (pw_or1 (pt_cmpR op_eq (pe_callB call_len_seq (by rfl) T.b_len (by decide +kernel) (pa_cons (pv 1) pa_nil)) pe_int (nomark _)))))
   (pss_one ps_never)
   pss_nil)
  (pss_cons (ps_set (i := 2) scIni.nd rfl (.inl rfl) (pe_call GR (hr.mono (by decide)) (by rfl) DR.g DR.F.kp DR.b .nil pass0 (pa_cons (pv 1) pa_nil)))
  (pss_cons (ps_if (pt_cmpR op_lt (pv 2) (pe_callB call_len_seq (by rfl) T.b_len (by decide +kernel) (pa_cons (pv 1) pa_nil)) (nomark _))
   (pss_one ps_never)
   pss_nil)
  (pss_cons (ps_fld (pv 0) (pv 1) rfl)
  (pss_one (ps_fld (pv 0) (pe_call GT (hr.mono (by decide)) (by rfl) DT.g DT.F.kp DT.b .nil pass0 (pa_cons (pe_ix ix_tup (pv 1) pe_int (fun _ _ => rfl)) pa_nil)) rfl)))))), ?_⟩
    have h0 : 0 < ys.length := G.lot.some
    refine ⟨_, rfl, .ref t, .ty "tuple", .type "tuple", .type "tuple", true, rfl, .ty _, ty, rfl, true, rfl, iteF ?_⟩
    refine ⟨_, rfl, t, _, rfl, .inr hT, rfl, _, rfl, ite2 (fun e => ?_) (fun e => ?_)⟩
    · have := V.int.inj (of_decide_eq_true e)
      rw [List.length_map] at this
      omega
    refine ⟨_, rfl, t, ys, y, rfl, hT, G.lot, G.let_, G.h3, G.h6, G.few, fun H1 s1 => ?_⟩
    refine ⟨_, rfl, _, rfl, t, _, rfl, .inr (same_seqT hT s1), _, _, rfl, rfl, _, rfl, ite2 (fun e => ?_) (fun e => ?_)⟩
    · have := of_decide_eq_true e
      rw [List.length_map] at this
      omega
    refine ⟨_, rfl, _, rfl, a, C, dx, [], rfl, s1 _ _ ha, R.cls, R.no1, by decide, ?_⟩
    have off : ∀ b o, b ≠ a → H1 b = some o → (upd H1 a (.ins C dx (putF "_orders" (.ref t) []))) b = some o := fun b o n e => by rw [upd_ne n]; exact e
    have hT2 := seqT_off (same_seqT hT s1) (s1 _ _ ha) off
    have at0 : atI (ys.map V.str) 0 = some (.str ys[0]) := atI_nat (j := 0) (by rw [List.getElem?_map, List.getElem?_eq_getElem h0] <;> rfl)
    obtain ⟨sz0, _⟩ := G.lot.fine G.let_ G.h3 G.h6 (List.getElem_mem h0)
    refine ⟨_, rfl, t, _, 0, _, rfl, rfl, hT2, at0, ys[0], rfl, (by have := G.h6; omega), fun H2 s2 => ⟨_, rfl, a, C, dx, _, rfl, s2 _ _ upd_same, R.cls, R.no2, Nat.lt_of_le_of_lt (length_putF _ _ _) (by decide), ?_⟩⟩
    rw [tidy_same (G.lot.of _ (List.getElem_mem h0))]
    refine q _ (fun b o n e => ?_) ⟨dx, ⟨putF "_things" (.str (tidy y)) (putF "_orders" (.ref t) []), fun f n1 n2 => (lookup_putF ..).trans ((if_neg n2).trans ((lookup_putF ..).trans ((if_neg n1).trans rfl)))⟩, upd_same, ?_, ?_⟩
    · rw [upd_ne n]
      exact s2 _ _ (off b o n (s1 _ _ e))
    · rw [lookup_putF, if_neg (by decide), lookup_putF, if_pos rfl]
    · rw [lookup_putF, if_pos rfl]
theorem ok_ord {f : Addr} {fd : FuncData} (F : Fun K "orders" "Roll.orders" sOrd f fd) (R : RollC K mg C) : FnOk P w K mg base CX0 1 f fd ["self"] (spOrd C) := by
  refine F.ok scOrd (fun vs H Q E h => ?_) (fun cdv A outer sh H vs Q E hr h => ?_)
  · obtain ⟨a, t, z, rfl, _⟩ := h
    rfl
  · obtain ⟨a, t, z, rfl, ⟨dx, fs, ha, l1, l2⟩, q⟩ := h
    exact ⟨_, (pss_one (ps_ret (pe_fld (pv 0) rfl))), _, rfl, a, C, dx, fs, _, rfl, ha, R.cls, R.no1, l1, q⟩
theorem ok_thi {f : Addr} {fd : FuncData} (F : Fun K "things" "Roll.things" sThi f fd) (R : RollC K mg C) : FnOk P w K mg base CX0 1 f fd ["self"] (spThi C) := by
  refine F.ok scThi (fun vs H Q E h => ?_) (fun cdv A outer sh H vs Q E hr h => ?_)
  · obtain ⟨a, t, z, rfl, _⟩ := h
    rfl
  · obtain ⟨a, t, z, rfl, ⟨dx, fs, ha, l1, l2⟩, q⟩ := h
    exact ⟨_, (pss_one (ps_ret (pe_fld (pv 0) rfl))), _, rfl, a, C, dx, fs, _, rfl, ha, R.cls, R.no2, l2, q⟩
theorem ok_len {f : Addr} {fd : FuncData} (F : Fun K "__len__" "Roll.__len__" sLen f fd) (T : Txt mg) (R : RollC K mg C) : FnOk P w K mg base CX0 1 f fd ["self"] (spLen K C) := by
  refine F.ok scLen (fun vs H Q E h => ?_) (fun cdv A outer sh H vs Q E hr h => ?_)
  · obtain ⟨a, t, z, xs, rfl, _⟩ := h
    rfl
  · obtain ⟨a, t, z, xs, rfl, ⟨dx, fs, ha, l1, l2⟩, hT, q⟩ := h
    exact ⟨_, (pss_one (ps_ret (pe_callB call_len_seq (by rfl) T.b_len (by decide +kernel) (pa_cons (pe_fld (pv 0) rfl) pa_nil)))), _, rfl, a, C, dx, fs, _, rfl, ha, R.cls, R.no1, l1, t, _, rfl, .inr hT, q⟩
theorem ok_str {f : Addr} {fd : FuncData} (F : Fun K "__str__" "Roll.__str__" sStr f fd) (T : Txt mg) (R : RollC K mg C) : FnOk P w K mg base CX0 1 f fd ["self"] (spStr K C) := by
  refine F.ok scStr (fun vs H Q E h => ?_) (fun cdv A outer sh H vs Q E hr h => ?_)
  · obtain ⟨a, t, z, ys, rfl, _⟩ := h
    rfl
  · obtain ⟨a, t, z, ys, rfl, ⟨dx, fs, ha, l1, l2⟩, hT, hl, q⟩ := h
    refine ⟨_, (pss_one (ps_ret (pe_join pe_str (pe_fld (pv 0) rfl)))), ⟨_, rfl⟩, _, rfl, a, C, dx, fs, _, rfl, ha, R.cls, R.no1, l1, _, t, ys, rfl, rfl, .inr hT, ?_, q⟩
    rw [show (PySem.Str.ofString "\n").length = 1 by decide +kernel]
    omega
/-- x is a text of ys -/
def inB : V → List Str → Bool
  | .str y, ys => decide (y ∈ ys)
  | _, _ => false
/-- x in o: only texts are in it -/
def spCon (K : PySem.W.Frag) (C : Addr) : Sp := fun vs H Q _ => ∃ (a t : Addr) (z : Str) (ys : List Str) (x : V) (T : Value) (b : Bool), vs = [.ref a, x] ∧ RollAt C H a t z ∧ SqT K H t (ys.map V.str) ∧ TyX K H x T ∧ PySem.W.kitOne K T (.type "str") = some b ∧ (b = true → ∃ y, x = .str y) ∧
  Q (.bl (b && inB x ys)) H
theorem ok_con {f : Addr} {fd : FuncData} (F : Fun K "__contains__" "Roll.__contains__" sCon f fd) (T : Txt mg) (R : RollC K mg C) : FnOk P w K mg base CX0 1 f fd ["self", "x"] (spCon K C) := by
  refine F.ok scCon (fun vs H Q E h => ?_) (fun cdv A outer sh H vs Q E hr h => ?_)
  · obtain ⟨a, t, z, ys, x, T, b, rfl, _⟩ := h
    rfl
  · obtain ⟨a, t, z, ys, x, Ty, b, rfl, ⟨dx, fs, ha, l1, l2⟩, hT, ty, kit, bt, q⟩ := h
    refine ⟨_, (pss_one (ps_ret (pe_and (pe_callB call_isi (by rfl) T.b_isinstance (by decide +kernel) (pa_cons (pv 1) (pa_cons (pe_bty (n := "str") (by rfl) T.b_str (by decide +kernel)) pa_nil))) (pe_one (pe_cmpR op_in_seq (pv 1) (pe_fld (pv 0) rfl) (by rfl)))))), ?_⟩
    refine ⟨_, rfl, x, .ty "str", Ty, .type "str", b, rfl, .ty _, ty, kit, b, rfl, ?_⟩
    cases b with
    | false => exact iteF q
    | true =>
      obtain ⟨y, rfl⟩ := bt rfl
      refine iteT ⟨_, rfl, _, rfl, a, C, dx, fs, _, rfl, ha, R.cls, R.no1, l1, t, _, rfl, .inr hT, rfl, by simp [List.all_eq_true, flatV], ?_⟩
      have e : inV (.str y) (ys.map V.str) = inB (.str y) ys := by
        unfold inV inB
        rw [Bool.eq_iff_iff, decide_eq_true_eq, List.any_eq_true]
        constructor
        · rintro ⟨v, hv, e⟩
          obtain ⟨y', hy, rfl⟩ := List.mem_map.mp hv
          have : y' = y := by simpa [eqV] using e
          exact this ▸ hy
        · intro hy
          exact ⟨.str y, List.mem_map.mpr ⟨y, hy, rfl⟩, by simp [eqV]⟩
      rw [Bool.true_and, ← e] at q
      exact q
theorem dp_strs {H0 : Hp} : ∀ ys : List Str, DpAll K H0 (ys.map V.str) (ys.map PyData.str)
  | [] => .nil
  | y :: ys => .cons (.str y) (dp_strs ys)
theorem shaped_strs (ys : List Str) (ok : ∀ y, y ∈ ys → PyData.strOk y = true) : SeqAt.shaped (.tuple (ys.map PyData.str)) = true := by
  have lay : ∀ ys : List Str, (∀ y, y ∈ ys → PyData.strOk y = true) → PyData.canLayAll0 (ys.map PyData.str) = true := fun ys => by
    induction ys with
    | nil => intro _; simp [PyData.canLayAll0]
    | cons y ys ih =>
      intro ok
      have h1 := ok y (List.mem_cons_self ..)
      simp [PyData.canLayAll0, PyData.canLay0, h1, ih fun z hz => ok z (List.mem_cons_of_mem _ hz)]
  have deep : ∀ ys : List Str, PyData.depthAll (ys.map PyData.str) = 0 := fun ys => by
    induction ys with
    | nil => simp [PyData.depthAll]
    | cons y ys ih => simp [PyData.depthAll, PyData.depth, ih]
  simp [SeqAt.shaped, PyData.canLay0, lay ys ok, PyData.depth, deep]
theorem eqv_strs (ys zs : List Str) : PyData.eqv (.tuple (ys.map PyData.str)) (.tuple (zs.map PyData.str)) = decide (ys = zs) := by
  have all : ∀ ys zs : List Str, PyData.eqvAll (ys.map PyData.str) (zs.map PyData.str) = decide (ys = zs) := fun ys => by
    induction ys with
    | nil => intro zs; cases zs <;> simp [PyData.eqvAll]
    | cons y ys ih =>
      intro zs
      cases zs with
      | nil => simp [PyData.eqvAll]
      | cons z zs =>
        simp only [List.map_cons, PyData.eqvAll, ih]
        simp [PyData.eqv, show (y == z) = decide (y = z) by rw [Bool.eq_iff_iff]; simp]
  simp [PyData.eqv, all]
/-- o == x -/
def spEqu (K : PySem.W.Frag) (C : Addr) : Sp := fun vs H Q _ => ∃ (a t : Addr) (z : Str) (x : V), vs = [.ref a, x] ∧ RollAt C H a t z ∧
  ((∃ (b t2 : Addr) (z2 : Str) (ys zs : List Str), x = .ref b ∧ RollAt C H b t2 z2 ∧ SqT K H t (ys.map V.str) ∧ SqT K H t2 (zs.map V.str) ∧ (∀ y, y ∈ ys → PyData.strOk y = true) ∧ (∀ y, y ∈ zs → PyData.strOk y = true) ∧ Q (.bl (decide (ys = zs))) H) ∨ (∃ T : Value, TyX K H x T ∧ PySem.W.kitOne K T (.ref C) = some false ∧ Q (.bl false) H))
theorem ok_equ {f : Addr} {fd : FuncData} (F : Fun K "__eq__" "Roll.__eq__" sEqu f fd) (T : Txt mg) (R : RollC K mg C) : FnOk P w K mg base CX0 1 f fd ["self", "other"] (spEqu K C) := by
  refine F.ok scEqu (fun vs H Q E h => ?_) (fun cdv A outer sh H vs Q E hr h => ?_)
  · obtain ⟨a, t, z, x, rfl, _⟩ := h
    rfl
  · obtain ⟨a, t, z, x, rfl, ⟨dx, fs, ha, l1, l2⟩, h⟩ := h
    have hu := hr.units
    refine ⟨_, (pss_one (ps_ret (pe_and (pe_callB call_isi (by rfl) T.b_isinstance (by decide +kernel) (pa_cons (pv 1) (pa_cons (pe_cls (by rfl) R.g) pa_nil))) (pe_one (pe_cmpR (op_eqD hu) (pe_fld (pv 0) rfl) (pe_fld (pv 1) rfl) (nomark _)))))), ?_⟩
    rcases h with ⟨b, t2, z2, ys, zs, rfl, ⟨dx2, fs2, hb, m1, m2⟩, hT, hT2, o1, o2, q⟩ | ⟨Ty, ty, kit, q⟩
    · have ty : TyX K H (.ref b) (.ref C) := .base (.ins hb R.cls R.dcl R.dget R.dtk R.mobj)
      have kit : PySem.W.kitOne K (.ref C) (.ref C) = some true := by unfold PySem.W.kitOne; rw [if_pos (by simp)]
      refine ⟨_, rfl, .ref b, .ref C, .ref C, .ref C, true, rfl, .own C, ty, kit, true, rfl, iteT ?_⟩
      refine ⟨_, rfl, a, C, dx, fs, _, rfl, ha, R.cls, R.no1, l1, _, rfl, b, C, dx2, fs2, _, rfl, hb, R.cls, R.no1, m1, _, _, .tup hT (dp_strs ys), .tup hT2 (dp_strs zs), shaped_strs _ o1, shaped_strs _ o2, ?_⟩
      rw [eqv_strs]
      exact q
    · exact ⟨_, rfl, x, .ref C, Ty, .ref C, false, rfl, .own C, ty, kit, false, rfl, iteF q⟩
end
end L2.Cal
end

section
set_option maxRecDepth 100000
set_option maxHeartbeats 4000000
namespace L2.Cal
open PySem PySem.Spec PyProof.Rows L2
/-- as spDip, of great numbers, too -/
def spDipB : Sp := fun vs H Q _ => ∃ (j : Addr) (w d s c : Int), vs = [.ref j, .int w] ∧ H j = some (.lst [.int d, .int s, .int c]) ∧ 0 ≤ d ∧ 0 ≤ s ∧ s < 2147483648 ∧ 0 ≤ c ∧ 0 < w ∧ w < 10 ^ 32 ∧
  ∀ r d' s' c' : Int, 0 ≤ r → r < w → 0 ≤ d' → 0 ≤ s' → s' < 2147483648 → 0 ≤ c' → Q (.int r) (upd H j (.lst [.int d', .int s', .int c']))
section
variable {P : Program} {w : World} {K : PySem.W.Frag} {mg : Str → Option Value} {base : Heap}
theorem ok_dipB {f : Addr} {fd : FuncData} (D : DefAt K mg "_law_dip" sDip ["_law_jar_here", "_law_wide"] f fd) (T : Txt mg) : FnOk P w K mg base CX0 1 f fd ["_law_jar_here", "_law_wide"] spDipB := by
  refine D.F.ok scDip (fun vs H Q E h => ?_) (fun cdv A outer sh H vs Q E hr h => ?_)
  · obtain ⟨j, w, d, s, c, rfl, _⟩ := h
    rfl
  · obtain ⟨j, w, d, s, c, rfl, hj, hd, hs, hs2, hc, hw, hw2, q⟩ := h
    refine ⟨_, (pss_cons (ps_asg (pe_op op_add (pe_ix ix_list (pv 0) pe_int (fun _ _ => rfl)) pe_int) (pg_sub (pv 0) pe_int L2.set_list))
  (pss_cons (ps_if (pt_cmpR op_gt (pe_ix ix_list (pv 0) pe_int (fun _ _ => rfl)) pe_int (nomark _))
   (pss_cons (ps_set (i := 2) scDip.nd rfl (.inl rfl) (pe_op op_mod (pe_callTy call_int1 (by rfl) T.b_int (by decide +kernel) (pa_cons (pe_ix ix_list (pv 0) pe_int (fun _ _ => rfl)) pa_nil)) (pv 1)))
  (pss_cons (ps_asg (pe_op op_fdivW (pe_callTy call_int1 (by rfl) T.b_int (by decide +kernel) (pa_cons (pe_ix ix_list (pv 0) pe_int (fun _ _ => rfl)) pa_nil)) (pv 1)) (pg_sub (pv 0) pe_int L2.set_list))
  (pss_one (ps_ret (pv 2)))))
   pss_nil)
  (pss_cons (ps_set (i := 3) scDip.nd rfl (.inl rfl) (pe_callTy call_int1 (by rfl) T.b_int (by decide +kernel) (pa_cons (pe_ix ix_list (pv 0) pe_int (fun _ _ => rfl)) pa_nil)))
  (pss_cons (ps_asg (pe_op op_mod (pe_callTy call_int1 (by rfl) T.b_int (by decide +kernel) (pa_cons (pe_op op_add (pe_op op_add (pe_op op_mul (pv 3) pe_int) (pe_op op_mul (pe_ix ix_list (pv 0) pe_int (fun _ _ => rfl)) pe_int)) pe_int) pa_nil)) pe_int) (pg_sub (pv 0) pe_int L2.set_list))
  (pss_one (ps_ret (pe_op op_mod (pe_callTy call_int1 (by rfl) T.b_int (by decide +kernel) (pa_cons (pe_op op_fdiv (pe_ix ix_list (pv 0) pe_int (fun _ _ => rfl)) pe_int) pa_nil)) (pv 1)))))))), ?_⟩
    have i0 : ∀ a b c : Int, atI [V.int a, V.int b, V.int c] 0 = some (.int a) := fun a b c => atI_nat (j := 0) rfl
    have i1 : ∀ a b c : Int, atI [V.int a, V.int b, V.int c] 1 = some (.int b) := fun a b c => atI_nat (j := 1) rfl
    have i2 : ∀ a b c : Int, atI [V.int a, V.int b, V.int c] 2 = some (.int c) := fun a b c => atI_nat (j := 2) rfl
    have hb : w.natAbs < 2 ^ 107 := by
      have e : (10 : Int) ^ 32 = 100000000000000000000000000000000 := by decide
      have e2 : (2 : Nat) ^ 107 = 162259276829213363391578010288128 := by decide
      rw [e2]
      omega
    refine ⟨_, rfl, j, _, _, _, rfl, rfl, SqL.of hj, i2 _ _ _, _, _, rfl, rfl, _, rfl, j, _, _, 2, rfl, rfl, hj, rfl, ?_⟩
    refine ⟨_, rfl, j, _, _, _, rfl, rfl, SqL.of upd_same, i0 _ _ _, _, _, rfl, rfl, _, rfl, ite2 (fun e => ?_) (fun e => ?_)⟩
    · have e0 : 0 < d := of_decide_eq_true e
      refine ⟨_, rfl, j, _, _, _, rfl, rfl, SqL.of upd_same, i0 _ _ _, .inl ⟨_, rfl, _, rfl, _, _, rfl, rfl, hw, ?_⟩⟩
      refine ⟨_, rfl, j, _, _, _, rfl, rfl, SqL.of upd_same, i0 _ _ _, .inl ⟨_, rfl, _, rfl, _, _, rfl, rfl, wide_div (b := 107) hw hb (by decide) (by decide), _, rfl, j, _, _, 0, rfl, rfl, upd_same, rfl, ?_⟩⟩
      refine ⟨_, rfl, ?_⟩
      rw [upd_upd]
      exact q _ _ _ _ (Int.emod_nonneg _ (by omega)) (Int.emod_lt_of_pos _ hw) (Int.ediv_nonneg (by omega) (by omega)) hs hs2 (by omega)
    · refine ⟨_, rfl, j, _, _, _, rfl, rfl, SqL.of upd_same, i1 _ _ _, .inl ⟨_, rfl, ?_⟩⟩
      refine ⟨_, rfl, _, _, rfl, rfl, .inr ⟨by decide, by decide⟩, _, rfl, j, _, _, _, rfl, rfl, SqL.of upd_same, i2 _ _ _, _, _, rfl, rfl, .inr ⟨by decide, by decide⟩, _, _, rfl, rfl, _, _, rfl, rfl, .inl ⟨_, rfl, _, _, rfl, rfl, (by show (0:Int) < 2147483399; decide), _, rfl, j, _, _, 1, rfl, rfl, upd_same, rfl, ?_⟩⟩
      refine ⟨_, rfl, j, _, _, _, rfl, rfl, SqL.of upd_same, i1 _ _ _, _, _, rfl, rfl, ⟨by decide, by decide⟩, .inl ⟨_, rfl, _, rfl, _, _, rfl, rfl, hw, ?_⟩⟩
      rw [upd_upd]
      exact q _ _ _ _ (Int.emod_nonneg _ (by omega)) (Int.emod_lt_of_pos _ hw) (by omega) (Int.emod_nonneg _ (by omega)) (by have := Int.emod_lt_of_pos (s * 40692 + (c + 1) * 52021 + 31) (b := 2147483399) (by decide); omega) (by omega)
end
end L2.Cal
end

section
set_option maxRecDepth 100000
set_option maxHeartbeats 4000000
/-! sum of a list or a tuple of integers -/
namespace L2.Cal
open PySem PySem.Spec PyProof.Rows L2
theorem ints_at : ∀ {ns : List Int} {us : List Value}, Vals (ns.map V.int) us → us.length = ns.length ∧ ∀ (i : Nat) v, us[i]? = some v → ∃ t, v = .int (ns.getD i 0) t
  | [], us, h => by
    cases h
    exact ⟨rfl, fun i v e => by simp at e⟩
  | n :: ns, us, h => by
    cases h with
    | @cons _ u _ us r rr =>
      obtain ⟨t, rfl⟩ := r
      obtain ⟨l, at_⟩ := ints_at rr
      refine ⟨by simp [l], fun i v e => ?_⟩
      cases i with
      | zero => exact ⟨t, by cases e; rfl⟩
      | succ i => exact at_ i v e
theorem preSum_take (ns : List Int) : ∀ n, n ≤ ns.length → preSum (fun i => ns.getD i 0) n = (ns.take n).sum := by
  intro n
  induction n with
  | zero => intro _; simp [preSum]
  | succ n ih =>
    intro h
    have hn : n < ns.length := by omega
    rw [List.take_succ, List.getElem?_eq_getElem hn, Option.toList_some, List.sum_append, ← ih (by omega)]
    simp [preSum, List.getElem?_eq_getElem hn]
section
variable {X : Cx}
def rSumI (K : PySem.W.Frag) : List V → Hp → VK → Prop := fun vs H Q => ∃ (a : Addr) (ns : List Int), vs = [.ref a] ∧ (SqL K H a (ns.map V.int) ∨ SqT K H a (ns.map V.int)) ∧ Q (.int ns.sum) H
theorem call_sumI (hc : X.calm = true) : CallR X (.builtin "sum") (rSumI X.K) := by
  intro pins s σ H vs us Q I r h
  obtain ⟨a, ns, rfl, hs, q⟩ := h
  cases r with
  | cons r rr =>
    cases rr
    cases r
    have hh : X.A.in1.handled = none := by simpa using I.ok.hd hc
    have fin : ∀ (its : List Value) (h' : Heap) (tk : Nat) (t' : Tok), Vals (ns.map V.int) its → (∀ b o, s.heap.get? b = some o → h'.get? b = some o) → EP X pins σ Q (.int (preSum (fun i => ns.getD i 0) its.length) t') { s with heap := h', toks := tk } := fun its h' tk t' rv k => by
      have l := (ints_at rv).1
      rw [l, preSum_take ns _ (Nat.le_refl _), List.take_length]
      exact ⟨.int ns.sum, H, I.kept k, ⟨t', rfl⟩, q⟩
    rcases hs with hs | hs
    · obtain ⟨its, rv, pl, _⟩ := I.list hs
      refine call_sum_walkG (wpAny_pyIter_list pl.isList ?_)
      have lt : a < s.heap.objs.size := by obtain ⟨o, n, e, _⟩ := pl; exact Heap.lt_size e
      refine ⟨s.heap.objs.size, [s.heap.objs.size, a], [s.heap.objs.size], its.toArray.size, _, _, fun i => ns.getD i 0, rfl, Walks.list hh _ a (Nat.ne_of_lt lt) its.toArray, ⟨⟨_, Heap.get?_push_size _ rfl, rfl, rfl⟩, pl.isList.push _⟩, fun b hb => ?_, fun i v e => ?_, fun h' tk t' k => ?_⟩
      · rw [Heap.size_push]
        rcases List.mem_cons.mp hb with rfl | hb
        · exact Nat.lt_succ_self _
        · cases List.mem_singleton.mp hb
          exact Nat.lt_succ_of_lt lt
      · exact (ints_at rv).2 i v (by simpa using e)
      · rw [List.size_toArray]
        refine fin its h' tk t' rv fun b o e => k b o (fun m => ?_) (Heap.get?_push_of_some _ e)
        exact Nat.ne_of_lt (Heap.lt_size e) (List.mem_singleton.mp m)
    · obtain ⟨its, rv, pl, _⟩ := I.tuple hs
      refine call_sum_walkG (wpAny_pyIter_tuple pl ?_)
      have lt : a < s.heap.objs.size := by obtain ⟨o, e, _⟩ := pl; exact Heap.lt_size e
      refine ⟨s.heap.objs.size, [s.heap.objs.size, a], [s.heap.objs.size], its.toArray.size, _, _, fun i => ns.getD i 0, rfl, Walks.tuple hh _ a (Nat.ne_of_lt lt) its.toArray, ⟨⟨_, Heap.get?_push_size _ rfl, rfl, rfl⟩, Heap.IsTuple.push pl _⟩, fun b hb => ?_, fun i v e => ?_, fun h' tk t' k => ?_⟩
      · rw [Heap.size_push]
        rcases List.mem_cons.mp hb with rfl | hb
        · exact Nat.lt_succ_self _
        · cases List.mem_singleton.mp hb
          exact Nat.lt_succ_of_lt lt
      · exact (ints_at rv).2 i v (by simpa using e)
      · rw [List.size_toArray]
        refine fin its h' tk t' rv fun b o e => k b o (fun m => ?_) (Heap.get?_push_of_some _ e)
        exact Nat.ne_of_lt (Heap.lt_size e) (List.mem_singleton.mp m)
end
end L2.Cal
end

section
set_option maxRecDepth 100000
set_option maxHeartbeats 4000000
set_option synthInstance.maxHeartbeats 400000
namespace L2.Cal
open PySem PySem.Spec PyProof.Rows L2
abbrev sChk : Stmt := topS 23
theorem scChk : FnScope ["roll"] ["roll"] (defScope sChk) := ⟨rfl, rfl, rfl, by decide +kernel, rfl, by decide +kernel, by decide +kernel⟩
abbrev sNum : Stmt := topS 26
theorem scNum : FnScope ["value"] ["value"] (defScope sNum) := ⟨rfl, rfl, rfl, by decide +kernel, rfl, by decide +kernel, by decide +kernel⟩
abbrev sRnu : Stmt := topS 27
theorem scRnu : FnScope ["numbers", "many", "index", "number"] ["numbers", "many"] (defScope sRnu) := ⟨rfl, rfl, rfl, by decide +kernel, rfl, by decide +kernel, by decide +kernel⟩
def crS (j : Nat) : Stmt := (clsBody (topS 29)).getD j (.Pass ⟨0, 0, 0, 0⟩)
abbrev sCIn : Stmt := crS 0
theorem scCIn : FnScope ["self", "roll", "numbers", "right"] ["self", "roll", "numbers"] (defScope sCIn) := ⟨rfl, rfl, rfl, by decide +kernel, rfl, by decide +kernel, by decide +kernel⟩
abbrev sCRo : Stmt := crS 1
theorem scCRo : FnScope ["self"] ["self"] (defScope sCRo) := ⟨rfl, rfl, rfl, by decide +kernel, rfl, by decide +kernel, by decide +kernel⟩
abbrev sCNu : Stmt := crS 2
theorem scCNu : FnScope ["self"] ["self"] (defScope sCNu) := ⟨rfl, rfl, rfl, by decide +kernel, rfl, by decide +kernel, by decide +kernel⟩
abbrev sCPe : Stmt := crS 3
theorem scCPe : FnScope ["self"] ["self"] (defScope sCPe) := ⟨rfl, rfl, rfl, by decide +kernel, rfl, by decide +kernel, by decide +kernel⟩
abbrev sCEq : Stmt := crS 4
theorem scCEq : FnScope ["self", "other"] ["self", "other"] (defScope sCEq) := ⟨rfl, rfl, rfl, by decide +kernel, rfl, by decide +kernel, by decide +kernel⟩
/-- what the class of crowds is asked for -/
structure CrC (K : PySem.W.Frag) (mg : Str → Option Value) (Cr : Addr) : Prop where
  g : mg "Crowd" = some (.ref Cr)
  cls : Cls K Cr
  no1 : NoAttr K Cr "_roll"
  no2 : NoAttr K Cr "_numbers"
  no3 : NoAttr K Cr "_people"
  dcl : PySem.W.findIn K (.ref Cr) "__class__" = some (some (.builtin "object.__class__"))
  dget : PySem.W.specialIn K (.builtin "object.__class__") "__get__" = some (some (.builtin "getset_descriptor.__get__"))
  dtk : PySem.W.takesIn K (.builtin "object.__class__") = some true
  mobj : PySem.W.mroIn K Cr (.type "object") = some true
def CrAt (Cr : Addr) (H : Hp) (c r n : Addr) (p : Int) : Prop := ∃ dx fs, H c = some (.ins Cr dx fs) ∧ fs.lookup ("_roll" : Str) = some (.ref r) ∧ fs.lookup ("_numbers" : Str) = some (.ref n) ∧ fs.lookup ("_people" : Str) = some (.int p)
/-- a crowd has no other fields -/
def NoF (Cr : Addr) (H : Hp) (c : Addr) : Prop := ∃ dx fs, H c = some (.ins Cr dx fs) ∧ ∀ m : Str, m ≠ "_roll" → m ≠ "_numbers" → m ≠ "_people" → fs.lookup m = none
theorem CrAt.same {Cr : Addr} {H H' : Hp} {c r n : Addr} {p : Int} (h : CrAt Cr H c r n p) (s : Same H H') : CrAt Cr H' c r n p := by
  obtain ⟨dx, fs, h, r⟩ := h
  exact ⟨dx, fs, s _ _ h, r⟩
def spChk (C : Addr) : Sp := fun vs H Q _ => ∃ (a t : Addr) (z : Str), vs = [.ref a] ∧ RollAt C H a t z ∧ Q .non H
def spNum : Sp := fun vs H Q _ => ∃ i : Int, vs = [.int i] ∧ Q (.bl true) H
def spRnu (K : PySem.W.Frag) : Sp := fun vs H Q _ => ∃ (n : Addr) (ns : List Int) (m : Int), vs = [.ref n, .int m] ∧ SqT K H n (ns.map V.int) ∧ (ns.length : Int) = m ∧ (∀ i, i ∈ ns → 0 ≤ i) ∧ ns.length ≤ 60 ∧ ∀ H', Same H H' → Q (.int ns.length) H'
def spCIn (K : PySem.W.Frag) (C Cr : Addr) : Sp := fun vs H Q _ => ∃ (a r n t dx : Addr) (z : Str) (ys : List Str) (ns : List Int), vs = [.ref a, .ref r, .ref n] ∧ H a = some (.ins Cr dx []) ∧ RollAt C H r t z ∧ r ≠ a ∧ SqT K H t (ys.map V.str) ∧ SqT K H n (ns.map V.int) ∧ TyX K H (.ref n) (.type "tuple") ∧
  ns.length = ys.length ∧ ys.length ≤ 60 ∧ (∀ i, i ∈ ns → 0 ≤ i) ∧ ns.sum ≠ 0 ∧ ∀ H' : Hp, (∀ b o, b ≠ a → H b = some o → H' b = some o) → CrAt Cr H' a r n ns.sum → NoF Cr H' a → Q .non H'
def spCRo (Cr : Addr) : Sp := fun vs H Q _ => ∃ (c r n : Addr) (p : Int), vs = [.ref c] ∧ CrAt Cr H c r n p ∧ Q (.ref r) H
def spCNu (Cr : Addr) : Sp := fun vs H Q _ => ∃ (c r n : Addr) (p : Int), vs = [.ref c] ∧ CrAt Cr H c r n p ∧ Q (.ref n) H
def spCPe (Cr : Addr) : Sp := fun vs H Q _ => ∃ (c r n : Addr) (p : Int), vs = [.ref c] ∧ CrAt Cr H c r n p ∧ Q (.int p) H
section
variable {P : Program} {w : World} {K : PySem.W.Frag} {mg : Str → Option Value} {base : Heap} {C Cr : Addr}
theorem ok_chk {f : Addr} {fd : FuncData} (D : DefAt K mg "check_roll" sChk ["roll"] f fd) (T : Txt mg) (R : RollC K mg C) : FnOk P w K mg base CX0 1 f fd ["roll"] (spChk C) := by
  refine D.F.ok scChk (fun vs H Q E h => ?_) (fun cdv A outer sh H vs Q E hr h => ?_)
  · obtain ⟨a, t, z, rfl, _⟩ := h
    rfl
  · obtain ⟨a, t, z, rfl, ⟨dx, fs, ha, l1, l2⟩, q⟩ := h
    have ty : TyX K H (.ref a) (.ref C) := .base (.ins ha R.cls R.dcl R.dget R.dtk R.mobj)
    have kit : PySem.W.kitOne K (.ref C) (.ref C) = some true := by unfold PySem.W.kitOne; rw [if_pos (by simp)]
    refine ⟨_, pss_one (ps_if (pt_not (pt_val (pe_callB call_isi (by rfl) T.b_isinstance (by decide +kernel) (pa_cons (pv 0) (pa_cons (pe_cls (by rfl) R.g) pa_nil))))) (pss_one ps_never) pss_nil), ?_⟩
    exact ⟨_, rfl, .ref a, .ref C, .ref C, .ref C, true, rfl, .own C, ty, kit, true, rfl, iteF q⟩
theorem ok_num {f : Addr} {fd : FuncData} (D : DefAt K mg "is_number" sNum ["value"] f fd) (T : Txt mg) : FnOk P w K mg base CX0 1 f fd ["value"] spNum := by
  refine D.F.ok scNum (fun vs H Q E h => ?_) (fun cdv A outer sh H vs Q E hr h => ?_)
  · obtain ⟨i, rfl, _⟩ := h
    rfl
  · obtain ⟨i, rfl, q⟩ := h
    refine ⟨_, pss_one (ps_ret (pe_and (pe_callB call_isi (by rfl) T.b_isinstance (by decide +kernel) (pa_cons (pv 0) (pa_cons (pe_bty (n := "int") (by rfl) T.b_int (by decide +kernel)) pa_nil))) (pe_one (pe_not (pe_callB call_isi (by rfl) T.b_isinstance (by decide +kernel) (pa_cons (pv 0) (pa_cons (pe_bty (n := "bool") (by rfl) T.b_bool (by decide +kernel)) pa_nil))))))), ?_⟩
    exact ⟨_, rfl, .int i, .ty "int", .type "int", .type "int", true, rfl, .ty _, .base (.int i), rfl, true, rfl, iteT ⟨_, rfl, .int i, .ty "bool", .type "int", .type "bool", false, rfl, .ty _, .base (.int i), rfl, false, rfl, q⟩⟩
theorem ok_rnu {f fN : Addr} {fd fdN : FuncData} (D : DefAt K mg "right_numbers" sRnu ["numbers", "many"] f fd) (DN : DefAt K mg "is_number" sNum ["value"] fN fdN) (T : Txt mg) : FnOk P w K mg base CX0 2 f fd ["numbers", "many"] (spRnu K) := by
  have GN : FnOk P w K mg base CX0 1 fN fdN ["value"] spNum := ok_num DN T
  refine D.F.ok scRnu (fun vs H Q E h => ?_) (fun cdv A outer sh H vs Q E hr h => ?_)
  · obtain ⟨n, ns, m, rfl, _⟩ := h
    rfl
  · obtain ⟨n, ns, m, rfl, hT, hm, pos, few, q⟩ := h
    refine ⟨_, (pss_cons (ps_for PassesOwn.never rfl (pi_enumT (by rfl) T.b_enumerate (pa_cons (pv 0) pa_nil)) (pg_tup rfl (pgs_cons (pg_name (i := 2) scRnu.nd rfl (.inl rfl)) (pgs_cons (pg_name (i := 3) scRnu.nd rfl (.inl rfl)) pgs_nil)))
        (pss_one (ps_if (PW.pt (pw_or (pt_cmpR op_eq (pv 2) (pv 1) (nomark _)) (pw_or (pt_not (pt_val (pe_call GN (hr.mono (by decide)) (by rfl) DN.g DN.F.kp DN.b .nil pass0 (pa_cons (pv 3) pa_nil)))) (pw_or1 (pt_cmpR op_lt (pv 3) pe_int (nomark _)))))) (pss_one (ps_ret (pv 2))) pss_nil)))
      (pss_one (ps_ret (pe_callB call_len_seq (by rfl) T.b_len (by decide +kernel) (pa_cons (pv 0) pa_nil))))), ?_⟩
    refine ⟨_, rfl, n, _, rfl, hT, for_it (walk_enumT (xs := ns.map V.int)) (fun i σ H' => ∃ v2 v3, σ = [some (.ref n), some (.int m), v2, v3] ∧ Same H H') ⟨none, none, rfl, fun _ _ z => z⟩ (fun i σ H' _ hP => ?_) (fun i x σ H1 H2 hi hP hY => ?_) (fun σ H' hP => ?_)⟩
    · obtain ⟨_, _, _, sm⟩ := hP
      exact same_seqT hT sm
    · obtain ⟨v1, v2, rfl, sm⟩ := hP
      obtain ⟨T', a, b, rfl, nT, rfl, e1, e2⟩ := hY
      cases e1
      rw [List.length_map] at hi
      have e2 : (ns.map V.int)[i]? = some b := e2
      rw [List.getElem?_map, List.getElem?_eq_getElem hi] at e2
      cases e2
      have sm1 : Same H (upd H1 T' (.tup [.int (i : Nat), .int ns[i]])) := fun b o e => by
        rw [upd_ne (ne_of_none (sm _ _ e) nT)]
        exact sm _ _ e
      have p0 := pos ns[i] (List.getElem_mem hi)
      refine ⟨T', _, rfl, SqT.of upd_same, rfl, _, _, rfl, _, _, rfl, rfl, ?_⟩
      refine ⟨_, rfl, _, rfl, rfl, _, rfl, ite2 (fun e => absurd (V.int.inj (of_decide_eq_true e)) (by omega)) (fun e => ⟨_, rfl, ns[i], rfl, true, rfl, iteF ⟨_, rfl, _, _, rfl, rfl, _, rfl, ite2 (fun e3 => absurd (of_decide_eq_true e3) (by omega)) (fun _ => ⟨_, _, rfl, sm1⟩)⟩⟩)⟩
    · obtain ⟨v1, v2, rfl, sm⟩ := hP
      exact ⟨_, rfl, n, _, rfl, .inr (same_seqT hT sm), by rw [List.length_map]; exact q _ sm⟩
end
end L2.Cal
end

section
set_option maxRecDepth 100000
set_option maxHeartbeats 4000000
set_option synthInstance.maxHeartbeats 400000
namespace L2.Cal
open PySem PySem.Spec PyProof.Rows L2
theorem dp_ints {K : PySem.W.Frag} {H0 : Hp} : ∀ ns : List Int, DpAll K H0 (ns.map V.int) (ns.map PyData.int)
  | [] => .nil
  | n :: ns => .cons (.int n) (dp_ints ns)
theorem shaped_ints (ns : List Int) : SeqAt.shaped (.tuple (ns.map PyData.int)) = true := by
  have lay : ∀ ns : List Int, PyData.canLayAll0 (ns.map PyData.int) = true := fun ns => by
    induction ns with
    | nil => simp [PyData.canLayAll0]
    | cons n ns ih => simp [PyData.canLayAll0, PyData.canLay0, ih]
  have deep : ∀ ns : List Int, PyData.depthAll (ns.map PyData.int) = 0 := fun ns => by
    induction ns with
    | nil => simp [PyData.depthAll]
    | cons n ns ih => simp [PyData.depthAll, PyData.depth, ih]
  simp [SeqAt.shaped, PyData.canLay0, lay ns, PyData.depth, deep]
theorem eqv_ints (ns ms : List Int) : PyData.eqv (.tuple (ns.map PyData.int)) (.tuple (ms.map PyData.int)) = decide (ns = ms) := by
  have all : ∀ ns ms : List Int, PyData.eqvAll (ns.map PyData.int) (ms.map PyData.int) = decide (ns = ms) := fun ns => by
    induction ns with
    | nil => intro ms; cases ms <;> simp [PyData.eqvAll]
    | cons n ns ih =>
      intro ms
      cases ms with
      | nil => simp [PyData.eqvAll]
      | cons m ms =>
        simp only [List.map_cons, PyData.eqvAll, ih]
        simp [PyData.eqv, show (n == m) = decide (n = m) by rw [Bool.eq_iff_iff]; simp]
  simp [PyData.eqv, all]
def spCEq (K : PySem.W.Frag) (C Cr : Addr) : Sp := fun vs H Q _ => ∃ (c r n : Addr) (p : Int) (x : V), vs = [.ref c, x] ∧ CrAt Cr H c r n p ∧
  ((∃ (c2 r2 n2 t t2 : Addr) (p2 : Int) (z z2 : Str) (ys zs : List Str) (ns ms : List Int), x = .ref c2 ∧ CrAt Cr H c2 r2 n2 p2 ∧ RollAt C H r t z ∧ RollAt C H r2 t2 z2 ∧ SqT K H t (ys.map V.str) ∧ SqT K H t2 (zs.map V.str) ∧ (∀ y, y ∈ ys → PyData.strOk y = true) ∧ (∀ y, y ∈ zs → PyData.strOk y = true) ∧
    SqT K H n (ns.map V.int) ∧ SqT K H n2 (ms.map V.int) ∧ Q (.bl (decide (ys = zs) && decide (ns = ms))) H) ∨ (∃ T : Value, TyX K H x T ∧ PySem.W.kitOne K T (.ref Cr) = some false ∧ Q (.bl false) H))
theorem roll_ty {K : PySem.W.Frag} {mg : Str → Option Value} {C : Addr} {H : Hp} {a t : Addr} {z : Str} (R : RollC K mg C) (h : RollAt C H a t z) : TyX K H (.ref a) (.ref C) := by
  obtain ⟨dx, fs, ha, _⟩ := h
  exact .base (.ins ha R.cls R.dcl R.dget R.dtk R.mobj)
theorem crowd_ty {K : PySem.W.Frag} {mg : Str → Option Value} {Cr : Addr} {H : Hp} {c r n : Addr} {p : Int} (R : CrC K mg Cr) (h : CrAt Cr H c r n p) : TyX K H (.ref c) (.ref Cr) := by
  obtain ⟨dx, fs, ha, _⟩ := h
  exact .base (.ins ha R.cls R.dcl R.dget R.dtk R.mobj)
theorem kit_self {K : PySem.W.Frag} {C : Addr} : PySem.W.kitOne K (.ref C) (.ref C) = some true := by unfold PySem.W.kitOne; rw [if_pos (by simp)]
section
variable {P : Program} {w : World} {K : PySem.W.Frag} {mg : Str → Option Value} {base : Heap} {C Cr : Addr}
theorem ok_cro {f : Addr} {fd : FuncData} (F : Fun K "roll" "Crowd.roll" sCRo f fd) (R : CrC K mg Cr) : FnOk P w K mg base CX0 1 f fd ["self"] (spCRo Cr) := by
  refine F.ok scCRo (fun vs H Q E h => ?_) (fun cdv A outer sh H vs Q E hr h => ?_)
  · obtain ⟨c, r, n, p, rfl, _⟩ := h
    rfl
  · obtain ⟨c, r, n, p, rfl, ⟨dx, fs, ha, l1, l2, l3⟩, q⟩ := h
    exact ⟨_, (pss_one (ps_ret (pe_fld (pv 0) rfl))), _, rfl, c, Cr, dx, fs, _, rfl, ha, R.cls, R.no1, l1, q⟩
theorem ok_cnu {f : Addr} {fd : FuncData} (F : Fun K "numbers" "Crowd.numbers" sCNu f fd) (R : CrC K mg Cr) : FnOk P w K mg base CX0 1 f fd ["self"] (spCNu Cr) := by
  refine F.ok scCNu (fun vs H Q E h => ?_) (fun cdv A outer sh H vs Q E hr h => ?_)
  · obtain ⟨c, r, n, p, rfl, _⟩ := h
    rfl
  · obtain ⟨c, r, n, p, rfl, ⟨dx, fs, ha, l1, l2, l3⟩, q⟩ := h
    exact ⟨_, (pss_one (ps_ret (pe_fld (pv 0) rfl))), _, rfl, c, Cr, dx, fs, _, rfl, ha, R.cls, R.no2, l2, q⟩
theorem ok_cpe {f : Addr} {fd : FuncData} (F : Fun K "people" "Crowd.people" sCPe f fd) (R : CrC K mg Cr) : FnOk P w K mg base CX0 1 f fd ["self"] (spCPe Cr) := by
  refine F.ok scCPe (fun vs H Q E h => ?_) (fun cdv A outer sh H vs Q E hr h => ?_)
  · obtain ⟨c, r, n, p, rfl, _⟩ := h
    rfl
  · obtain ⟨c, r, n, p, rfl, ⟨dx, fs, ha, l1, l2, l3⟩, q⟩ := h
    exact ⟨_, (pss_one (ps_ret (pe_fld (pv 0) rfl))), _, rfl, c, Cr, dx, fs, _, rfl, ha, R.cls, R.no3, l3, q⟩
theorem ok_ceq {f fE : Addr} {fd fdE : FuncData} (F : Fun K "__eq__" "Crowd.__eq__" sCEq f fd) (FE : Fun K "__eq__" "Roll.__eq__" sEqu fE fdE) (bE : Binds K fdE ["self", "other"] []) (OE : Own K C "__eq__" fE) (nf : PySem.W.notFirst K C (.ref C) = true) (T : Txt mg) (R : RollC K mg C) (RC : CrC K mg Cr) :
    FnOk P w K mg base CX0 2 f fd ["self", "other"] (spCEq K C Cr) := by
  have GE : FnOk P w K mg base CX0 1 fE fdE ["self", "other"] (spEqu K C) := ok_equ FE T R
  refine F.ok scCEq (fun vs H Q E h => ?_) (fun cdv A outer sh H vs Q E hr h => ?_)
  · obtain ⟨c, r, n, p, x, rfl, _⟩ := h
    rfl
  · obtain ⟨c, r, n, p, x, rfl, hc, h⟩ := h
    have hu := hr.units
    refine ⟨_, (pss_one (ps_ret (pe_and (pe_callB call_isi (by rfl) T.b_isinstance (by decide +kernel) (pa_cons (pv 1) (pa_cons (pe_cls (by rfl) RC.g) pa_nil))) (pe_and (pe_cmpR (op_eqO OE GE (hr.mono (by decide)) bE pass0) (pe_fld (pv 0) rfl) (pe_fld (pv 1) rfl) (nomark _)) (pe_one (pe_cmpR (op_eqD hu) (pe_fld (pv 0) rfl) (pe_fld (pv 1) rfl) (nomark _))))))), ?_⟩
    rcases h with ⟨c2, r2, n2, t, t2, p2, z, z2, ys, zs, ns, ms, rfl, hc2, hR, hR2, hT, hT2, o1, o2, hN, hN2, q⟩ | ⟨Ty, ty, kit, q⟩
    · have ty := crowd_ty RC hc2
      have tr := roll_ty R hR2
      obtain ⟨dx, fs, ha, l1, l2, l3⟩ := hc
      obtain ⟨dx2, fs2, hb, m1, m2, m3⟩ := hc2
      refine ⟨_, rfl, .ref c2, .ref Cr, .ref Cr, .ref Cr, true, rfl, .own Cr, ty, kit_self, true, rfl, iteT ?_⟩
      have hR' := hR
      obtain ⟨dr, fr, hr1, _⟩ := hR'
      refine ⟨_, rfl, c, Cr, dx, fs, _, rfl, ha, RC.cls, RC.no1, l1, _, rfl, c2, Cr, dx2, fs2, _, rfl, hb, RC.cls, RC.no1, m1, r, dr, fr, .ref C, rfl, hr1, tr, nf, ?_⟩
      refine ⟨r, t, z, .ref r2, rfl, hR, .inl ⟨r2, t2, z2, ys, zs, rfl, hR2, hT, hT2, o1, o2, decide (ys = zs), rfl, decide (ys = zs), rfl, ?_⟩⟩
      cases e : decide (ys = zs) with
      | false =>
        rw [e, Bool.false_and] at q
        exact iteF q
      | true =>
        rw [e, Bool.true_and] at q
        refine iteT ⟨_, rfl, c, Cr, dx, fs, _, rfl, ha, RC.cls, RC.no2, l2, _, rfl, c2, Cr, dx2, fs2, _, rfl, hb, RC.cls, RC.no2, m2, _, _, .tup hN (dp_ints ns), .tup hN2 (dp_ints ms), shaped_ints _, shaped_ints _, ?_⟩
        rw [eqv_ints]
        exact q
    · exact ⟨_, rfl, x, .ref Cr, Ty, .ref Cr, false, rfl, .own Cr, ty, kit, false, rfl, iteF q⟩
theorem ok_cin {f fK fN fM fL : Addr} {fd fdK fdN fdM fdL : FuncData} (F : Fun K "__init__" "Crowd.__init__" sCIn f fd) (DK : DefAt K mg "check_roll" sChk ["roll"] fK fdK) (DM : DefAt K mg "right_numbers" sRnu ["numbers", "many"] fM fdM) (DN : DefAt K mg "is_number" sNum ["value"] fN fdN)
    (FL : Fun K "__len__" "Roll.__len__" sLen fL fdL) (bL : Binds K fdL ["self"] []) (OL : Own K C "__len__" fL) (bsum : mg "sum" = none) (T : Txt mg) (R : RollC K mg C) (RC : CrC K mg Cr) :
    FnOk P w K mg base CX0 3 f fd ["self", "roll", "numbers"] (spCIn K C Cr) := by
  have GK : FnOk P w K mg base CX0 1 fK fdK ["roll"] (spChk C) := ok_chk DK T R
  have GM : FnOk P w K mg base CX0 2 fM fdM ["numbers", "many"] (spRnu K) := ok_rnu DM DN T
  have GL : FnOk P w K mg base CX0 1 fL fdL ["self"] (spLen K C) := ok_len FL T R
  refine F.ok scCIn (fun vs H Q E h => ?_) (fun cdv A outer sh H vs Q E hr h => ?_)
  · obtain ⟨a, r, n, t, dx, z, ys, ns, rfl, _⟩ := h
    rfl
  · obtain ⟨a, r, n, t, dx, z, ys, ns, rfl, ha, hR, ne, hT, hN, ty, lens, few, pos, s0, q⟩ := h
    refine ⟨_, pss_cons (ps_expr (pe_call GK (hr.mono (by decide)) (by rfl) DK.g DK.F.kp DK.b .nil pass0 (pa_cons (pv 1) pa_nil)))
      (pss_cons (ps_if (pt_not (pt_val (pe_callB call_isi (by rfl) T.b_isinstance (by decide +kernel) (pa_cons (pv 2) (pa_cons (pe_bty (n := "tuple") (by rfl) T.b_tuple (by decide +kernel)) pa_nil))))) (pss_one ps_never) pss_nil)
      (pss_cons (ps_set (i := 3) scCIn.nd rfl (.inl rfl) (pe_call GM (hr.mono (by decide)) (by rfl) DM.g DM.F.kp DM.b .nil pass0 (pa_cons (pv 2) (pa_cons (pe_callB (call_lenO OL GL (hr.mono (by decide)) bL pass0) (by rfl) T.b_len (by decide +kernel) (pa_cons (pv 1) pa_nil)) pa_nil))))
      (pss_cons (ps_if (PW.pt (pw_or (pt_cmpR op_lt (pv 3) (pe_callB call_len_seq (by rfl) T.b_len (by decide +kernel) (pa_cons (pv 2) pa_nil)) (nomark _)) (pw_or1 (pt_cmpR op_lt (pv 3) (pe_callB (call_lenO OL GL (hr.mono (by decide)) bL pass0) (by rfl) T.b_len (by decide +kernel) (pa_cons (pv 1) pa_nil)) (nomark _))))) (pss_one ps_never) pss_nil)
      (pss_cons (ps_if (pt_cmpR op_eq (pe_callB (call_sumI rfl) (by rfl) bsum (by decide +kernel) (pa_cons (pv 2) pa_nil)) pe_int (nomark _)) (pss_one ps_never) pss_nil)
      (pss_cons (ps_fld (pv 0) (pv 1) rfl)
      (pss_cons (ps_fld (pv 0) (pv 2) rfl)
      (pss_one (ps_fld (pv 0) (pe_callB (call_sumI rfl) (by rfl) bsum (by decide +kernel) (pa_cons (pv 2) pa_nil)) rfl)))))))), ?_⟩
    have hR' := hR
    obtain ⟨dr, fr, hr1, _⟩ := hR'
    have small : ys.length < 2 ^ 62 := by omega
    refine ⟨_, rfl, r, t, z, rfl, hR, ?_⟩
    refine ⟨_, rfl, .ref n, .ty "tuple", .type "tuple", .type "tuple", true, rfl, .ty _, ty, rfl, true, rfl, iteF ?_⟩
    refine ⟨_, rfl, _, rfl, r, dr, fr, rfl, hr1, r, t, z, ys.map V.str, rfl, hR, hT, ys.length, by rw [List.length_map], small, ?_⟩
    refine ⟨n, ns, _, rfl, hN, by rw [lens], pos, by omega, fun H1 s1 => ?_⟩
    have hN1 := same_seqT hN s1
    have hR1 := hR.same s1
    refine ⟨_, rfl, _, rfl, n, _, rfl, .inr hN1, _, _, rfl, rfl, _, rfl, ite2 (fun e => ?_) (fun e => ?_)⟩
    · have := of_decide_eq_true e
      rw [List.length_map] at this
      omega
    refine ⟨_, rfl, _, rfl, r, dr, fr, rfl, s1 _ _ hr1, r, t, z, ys.map V.str, rfl, hR1, same_seqT hT s1, ys.length, by rw [List.length_map], small, _, _, rfl, rfl, _, rfl, ite2 (fun e => ?_) (fun e => ?_)⟩
    · have := of_decide_eq_true e
      omega
    refine ⟨_, rfl, n, ns, rfl, .inr hN1, rfl, _, rfl, ite2 (fun e => ?_) (fun e => ?_)⟩
    · exact absurd (V.int.inj (of_decide_eq_true e)) s0
    refine ⟨_, rfl, _, rfl, a, Cr, dx, [], rfl, s1 _ _ ha, RC.cls, RC.no1, by decide, ?_⟩
    refine ⟨_, rfl, _, rfl, a, Cr, dx, _, rfl, upd_same, RC.cls, RC.no2, Nat.lt_of_le_of_lt (length_putF _ _ _) (by decide), ?_⟩
    rw [upd_upd]
    have off : ∀ fs : List (Str × V), ∀ b o, b ≠ a → H1 b = some o → (upd H1 a (.ins Cr dx fs)) b = some o := fun fs b o n e => by rw [upd_ne n]; exact e
    have hN2 := seqT_off hN1 (s1 _ _ ha) (off (putF "_numbers" (.ref n) (putF "_roll" (.ref r) [])))
    refine ⟨_, rfl, n, ns, rfl, .inr hN2, _, rfl, a, Cr, dx, _, rfl, upd_same, RC.cls, RC.no3, ?_, ?_⟩
    · have h1 := length_putF "_numbers" (.ref n) (putF "_roll" (.ref r) ([] : List (Str × V)))
      have h2 := length_putF "_roll" (.ref r) ([] : List (Str × V))
      have h3 : 100 < sizeLine := by rw [sizeLine_eq]; omega
      simp only [List.length_nil] at h2
      omega
    rw [upd_upd]
    refine q _ (fun b o nb e => off _ b o nb (s1 _ _ e)) ⟨dx, _, upd_same, ?_, ?_, ?_⟩ ⟨dx, _, upd_same, fun m h1 h2 h3 => ?_⟩
    · rw [lookup_putF, if_neg (by decide), lookup_putF, if_neg (by decide), lookup_putF, if_pos rfl]
    · rw [lookup_putF, if_neg (by decide), lookup_putF, if_pos rfl]
    · rw [lookup_putF, if_pos rfl]
    · rw [lookup_putF, if_neg (by first | exact h3 | exact fun e => h3 e.symm), lookup_putF, if_neg (by first | exact h2 | exact fun e => h2 e.symm), lookup_putF, if_neg (by first | exact h1 | exact fun e => h1 e.symm)] <;> rfl
end
end L2.Cal
end

section
set_option maxRecDepth 100000
set_option maxHeartbeats 4000000
set_option synthInstance.maxHeartbeats 400000
namespace L2.Cal
open PySem PySem.Spec PyProof.Rows L2
abbrev sCnt : Stmt := topS 39
theorem scCnt : FnScope ["_law_jar_here", "_law_lot", "_law_top", "_law_found", "_law_row_here"] ["_law_jar_here", "_law_lot"] (defScope sCnt) := ⟨rfl, rfl, rfl, by decide +kernel, rfl, by decide +kernel, by decide +kernel⟩
def spCnt (K : PySem.W.Frag) : Sp := fun vs H Q _ => ∃ (j t : Addr) (ys : List Str), vs = [.ref j, .ref t] ∧ Jar H j ∧ TupF.Frt H t (ys.map V.str) ∧ 0 < ys.length ∧ ys.length ≤ 48 ∧
  ∀ (n : Addr) (ns : List Int) (H' : Hp), Kp j H H' → Jar H' j → H' n = some (.tup (ns.map V.int)) → H n = none → ns.length = ys.length → (∀ i, i ∈ ns → 0 ≤ i ∧ i ≤ 10 ^ 30) → 0 < ns.sum → Q (.ref n) H'
theorem jar_ne {H : Hp} {j D : Addr} (J : Jar H j) (n : H D = none) : D ≠ j := fun z => by
  obtain ⟨_, _, _, w, _⟩ := J
  rw [z, w] at n
  cases n
theorem sum_pos : ∀ {ns : List Int}, (∀ i, i ∈ ns → 0 ≤ i) → (∃ i, i ∈ ns ∧ 0 < i) → 0 < ns.sum
  | [], _, h => by
    obtain ⟨i, h, _⟩ := h
    cases h
  | n :: ns, p, h => by
    obtain ⟨i, hi, h0⟩ := h
    have nn : ∀ {ns : List Int}, (∀ i, i ∈ ns → 0 ≤ i) → 0 ≤ ns.sum := fun {ns} => by
      induction ns with
      | nil => intro _; simp
      | cons a r ih =>
        intro p
        have h1 := p a (List.mem_cons_self ..)
        have h2 := ih fun i hi => p i (List.mem_cons_of_mem _ hi)
        rw [List.sum_cons]
        omega
    have h1 := p n (List.mem_cons_self ..)
    have h2 := nn fun i hi => p i (List.mem_cons_of_mem _ hi)
    rw [List.sum_cons]
    rcases List.mem_cons.mp hi with rfl | hi
    · omega
    · have := sum_pos (fun i hi => p i (List.mem_cons_of_mem _ hi)) ⟨i, hi, h0⟩
      omega
section
variable {P : Program} {w : World} {K : PySem.W.Frag} {mg : Str → Option Value} {base : Heap} {C Cr : Addr}
theorem ok_cnt {f fD fP : Addr} {fd fdD fdP : FuncData} (D : DefAt K mg "_law_counts" sCnt ["_law_jar_here", "_law_lot"] f fd) (DP : DefAt K mg "_law_pick" sPick ["_law_jar_here", "_law_menu"] fP fdP) (DD : DefAt K mg "_law_dip" sDip ["_law_jar_here", "_law_wide"] fD fdD) (T : Txt mg) :
    FnOk P w K mg base CX0 3 f fd ["_law_jar_here", "_law_lot"] (spCnt K) := by
  have GP : FnOk P w K mg base CX0 2 fP fdP ["_law_jar_here", "_law_menu"] (spPick K) := ok_pick DP DD T
  have GB : FnOk P w K mg base CX0 1 fD fdD ["_law_jar_here", "_law_wide"] spDipB := ok_dipB DD T
  refine D.F.ok scCnt (fun vs H Q E h => ?_) (fun cdv A outer sh H vs Q E hr h => ?_)
  · obtain ⟨j, t, ys, rfl, _⟩ := h
    rfl
  · obtain ⟨j, t, ys, rfl, hj, ⟨ob, dn, ht⟩, some_, few, q⟩ := h
    refine ⟨_, pss_cons (ps_set (i := 2) scCnt.nd rfl (.inr rfl) (pe_call GP (hr.mono (by decide)) (by rfl) DP.g DP.F.kp DP.b .nil pass0 (pa_cons (pv 0) (pa_cons (pe_lstS (pa_cons pe_int (pa_cons pe_int (pa_cons pe_int (pa_cons (pe_op op_pow pe_int pe_int) (pa_cons (pe_op op_pow pe_int pe_int) pa_nil)))))) pa_nil))))
      (pss_cons (ps_setLc (i := 3) (own := [("_law_row_here", 4)]) (g := gName 4) (tt := tYes) rfl scCnt.nd rfl rfl (sw_true rfl rfl rfl (by decide +kernel)) (pi_tup (pv 1)) (blkOk_by (own := [("_law_row_here", 4)]) (N := ["_law_jar_here", "_law_lot", "_law_top", "_law_found", "_law_row_here"]) (sc := defScope sCnt) (by decide +kernel))
        (fun _ _ _ _ _ => pg_name (i := 4) scCnt.nd rfl (Or.inl rfl)) (fun _ _ _ _ _ => pts_nil) (fun _ _ _ _ _ => pe_call GB (hr.mono (by decide)) (by rfl) DD.g DD.F.kp DD.b .nil pass0 (pa_cons (pv 0) (pa_cons (pv 2) pa_nil))))
      (pss_cons (ps_asg (pe_op op_add pe_int (pe_call GB (hr.mono (by decide)) (by rfl) DD.g DD.F.kp DD.b .nil pass0 (pa_cons (pv 0) (pa_cons (pv 2) pa_nil)))) (pg_sub (pv 3) (pe_call GB (hr.mono (by decide)) (by rfl) DD.g DD.F.kp DD.b .nil pass0 (pa_cons (pv 0) (pa_cons (pe_callB call_len_seq (by rfl) T.b_len (by decide +kernel) (pa_cons (pv 1) pa_nil)) pa_nil))) L2.set_list))
      (pss_one (ps_ret (pe_callTy call_tuple_of (by rfl) T.b_tuple (by decide +kernel) (pa_cons (pv 3) pa_nil)))))), ?_⟩
    have tj : t ≠ j := fun z => by
      obtain ⟨_, _, _, w, _⟩ := hj
      rw [z, w] at ht
      cases ht
    refine ⟨_, rfl, _, _, rfl, rfl, ⟨by decide, by decide, by decide⟩, _, _, rfl, rfl, ⟨by decide, by decide, by decide⟩, by decide, fun m H1 s1 n1 e1 => ?_⟩
    have mj : m ≠ j := fun z => by
      obtain ⟨_, _, _, w, _⟩ := hj
      rw [z, w] at n1
      cases n1
    obtain ⟨d, s, c, ej, b0, b1, b2, b3⟩ := hj.same s1
    refine ⟨j, m, _, d, s, c, rfl, ej, b0, b1, b2, b3, mj, .inl (SqL.of e1), by decide, by decide, fun i v d' s' c' hv a0 a1 a2 a3 => ?_⟩
    obtain ⟨tp, rfl, tp0, tp1⟩ : ∃ tp : Int, v = .int tp ∧ 0 < tp ∧ tp ≤ 10 ^ 30 := by
      match i, hv with
      | 0, hv => cases hv; exact ⟨_, rfl, by decide, by decide⟩
      | 1, hv => cases hv; exact ⟨_, rfl, by decide, by decide⟩
      | 2, hv => cases hv; exact ⟨_, rfl, by decide, by decide⟩
      | 3, hv => cases hv; exact ⟨_, rfl, by decide, by decide⟩
      | 4, hv => cases hv; exact ⟨_, rfl, by decide, by decide⟩
      | n + 5, hv => simp at hv
    have tp2 : tp < 10 ^ 32 := Int.lt_of_le_of_lt tp1 (by decide)
    have J2 : Jar (upd H1 j (.lst [.int d', .int s', .int c'])) j := .up a0 a1 a2 a3
    have K2 : Kp j H (upd H1 j (.lst [.int d', .int s', .int c'])) := (Kp.of s1).trans .jar
    have t2 : (upd H1 j (.lst [.int d', .int s', .int c'])) t = some (.frz ob (.tup (ys.map V.str))) := K2 _ _ tj ht
    generalize upd H1 j (.lst [.int d', .int s', .int c']) = H2 at J2 K2 t2
    refine ⟨_, rfl, t, rfl, ⟨_, TupF.sqF t2⟩, fun D nD => lc_tup (K := K) (a := t) (xs := ys.map V.str) (fun k H' => Jar H' j ∧ (∀ b o, b ≠ j → H2 b = some o → H' b = some o) ∧ ∃ ns : List Int, H' D = some (.lst (ns.map V.int)) ∧ ns.length = k ∧ ∀ i, i ∈ ns → 0 ≤ i ∧ i ≤ 10 ^ 30)
      ⟨J2.new nD, Kp.new nD, [], upd_same, rfl, fun z hz => by cases hz⟩ (fun k H' _ hP => TupF.sqF (hP.2.1 _ _ tj t2)) (fun k x H4 hk hP => ?_) (fun H4 hP => ?_)⟩
    · have Dj : D ≠ j := jar_ne J2 nD
      obtain ⟨J4, k4, ns, eD, nl, np⟩ := hP
      have hk' : k < ys.length := by
        have := (List.getElem?_eq_some_iff.mp hk).1
        rw [List.length_map] at this
        exact this
      obtain ⟨d, s, c, ej, b0, b1, b2, b3⟩ := J4
      refine ⟨rfl, _, rfl, _, rfl, j, tp, d, s, c, rfl, ej, b0, b1, b2, b3, tp0, tp2, fun r d' s' c' r0 r1 a0 a1 a2 a3 => ?_⟩
      refine ⟨_, by rw [upd_ne Dj]; exact eD, by rw [List.length_map, nl, sizeLine_eq]; omega, ?_, fun b o n h => ?_, ns ++ [r], ?_, by rw [List.length_append, nl] <;> rfl, fun u hu => ?_⟩
      · exact ⟨d', s', c', by rw [upd_ne Dj.symm, upd_same], a0, a1, a2, a3⟩
      · rw [upd_ne (ne_of_none h nD), upd_ne n]
        exact k4 _ _ n h
      · rw [upd_same, List.map_append] <;> rfl
      · rcases List.mem_append.mp hu with hu | hu
        · exact np u hu
        · cases List.mem_singleton.mp hu
          exact ⟨r0, by omega⟩
    · have Dj : D ≠ j := jar_ne J2 nD
      obtain ⟨J4, k4, ns, eD, nl, np⟩ := hP
      rw [List.length_map] at nl
      have K4 : Kp j H H4 := K2.trans k4
      have t4 := k4 _ _ tj t2
      have nD0 : H D = none := by
        cases e : H D with
        | none => rfl
        | some o =>
          rw [K2 _ _ Dj e] at nD
          cases nD
      obtain ⟨d, s, c, ej, b0, b1, b2, b3⟩ := J4
      refine ⟨_, rfl, _, rfl, j, tp, d, s, c, rfl, ej, b0, b1, b2, b3, tp0, tp2, fun x d' s' c' x0 x1 a0 a1 a2 a3 => ⟨_, _, rfl, rfl, ?_⟩⟩
      have K5 : Kp j H (upd H4 j (.lst [.int d', .int s', .int c'])) := K4.trans .jar
      have t5 : (upd H4 j (.lst [.int d', .int s', .int c'])) t = some (.frz ob (.tup (ys.map V.str))) := by rw [upd_ne tj]; exact t4
      have e5 : (upd H4 j (.lst [.int d', .int s', .int c'])) D = some (.lst (ns.map V.int)) := by rw [upd_ne Dj]; exact eD
      refine ⟨_, rfl, _, rfl, _, rfl, t, _, rfl, .inr (TupF.sqF t5), j, _, d', s', c', rfl, upd_same, a0, a1, a2, a3, by rw [List.length_map]; omega, by rw [List.length_map]; omega, fun r d2 s2 c2 r0 r1 f0 f1 f2 f3 => ?_⟩
      rw [List.length_map] at r1
      obtain ⟨rn, rfl⟩ := Int.eq_ofNat_of_zero_le r0
      rw [upd_upd]
      have hr0 : rn < ys.length := by omega
      have eI : ixN (ns.map V.int).length (rn : Int) = some rn := by
        rw [List.length_map, nl]
        unfold ixN
        rw [if_pos (by omega), if_pos (by omega)]
        simp
      have e6 : (upd H4 j (.lst [.int d2, .int s2, .int c2])) D = some (.lst (ns.map V.int)) := by rw [upd_ne Dj]; exact eD
      have J6 : Jar (upd H4 j (.lst [.int d2, .int s2, .int c2])) j := .up f0 f1 f2 f3
      have K6 : Kp j H (upd H4 j (.lst [.int d2, .int s2, .int c2])) := K4.trans .jar
      refine ⟨D, _, _, rn, rfl, rfl, e6, eI, ?_⟩
      generalize upd H4 j (.lst [.int d2, .int s2, .int c2]) = H6 at J6 K6 e6
      have em : (ns.map V.int).set rn (.int (1 + x)) = (ns.set rn (1 + x)).map V.int := by rw [List.map_set]
      refine ⟨_, rfl, D, _, rfl, .inl ⟨SqL.of upd_same, fun n nn => ?_⟩⟩
      have nnD : n ≠ D := fun z => by rw [z, upd_same] at nn; cases nn
      rw [upd_ne nnD] at nn
      refine q n (ns.set rn (1 + x)) _ (fun b o nb h => ?_) ?_ (by rw [upd_same, em]) ?_ (by rw [List.length_set, nl]) (fun i hi => ?_) (sum_pos (fun i hi => ?_) ⟨1 + x, ?_, by omega⟩)
      · have bD : b ≠ D := ne_of_none h nD0
        have e := K6 _ _ nb h
        rw [upd_ne (ne_of_none e nn), upd_ne bD]
        exact e
      · have jn : j ≠ n := (jar_ne J6 nn).symm
        obtain ⟨d, s, c, e, r⟩ := J6
        exact ⟨d, s, c, by rw [upd_ne jn, upd_ne Dj.symm]; exact e, r⟩
      · have nj : n ≠ j := jar_ne J6 nn
        cases e : H n with
        | none => rfl
        | some o =>
          rw [K6 _ _ nj e] at nn
          cases nn
      · rcases List.mem_or_eq_of_mem_set hi with hi | rfl
        · exact np i hi
        · exact ⟨by omega, by omega⟩
      · rcases List.mem_or_eq_of_mem_set hi with hi | rfl
        · exact (np i hi).1
        · omega
      · exact List.mem_set (by omega) _
end
end L2.Cal
end

section
set_option maxRecDepth 100000
set_option maxHeartbeats 4000000
/-! repr of any data; promises of defs that are called where nothing is being shown (repr asks that) -/
namespace L2.Cal
open PySem PySem.Spec PyProof.Rows L2
mutual
theorem dp_nodict {K : PySem.W.Frag} {H : Hp} : ∀ (d : PyData) (v : V), Dp K H v d → d.hasDict = false
  | .none, _, _ => by simp only [PyData.hasDict]
  | .bool _, _, _ => by simp only [PyData.hasDict]
  | .int _, _, _ => by simp only [PyData.hasDict]
  | .str _, _, _ => by simp only [PyData.hasDict]
  | .list ds, _, h => by
    cases h with
    | lst _ h => simp only [PyData.hasDict]; exact dp_nodictAll ds _ h
  | .tuple ds, _, h => by
    cases h with
    | tup _ h => simp only [PyData.hasDict]; exact dp_nodictAll ds _ h
  | .dict _, _, h => by cases h
theorem dp_nodictAll {K : PySem.W.Frag} {H : Hp} : ∀ (ds : List PyData) (vs : List V), DpAll K H vs ds → PyData.hasDictAll ds = false
  | [], _, _ => by simp only [PyData.hasDictAll]
  | d :: ds, _, h => by
    cases h with
    | cons h1 h2 => simp only [PyData.hasDictAll, dp_nodict d _ h1, dp_nodictAll ds _ h2, Bool.or_false]
end
mutual
theorem dp_same {K : PySem.W.Frag} {H H' : Hp} (e : Same H H') : ∀ (d : PyData) (v : V), Dp K H v d → Dp K H' v d
  | .none, _, h => by cases h; exact .non
  | .bool _, _, h => by cases h; exact .bl _
  | .int _, _, h => by cases h; exact .int _
  | .str _, _, h => by cases h; exact .str _
  | .list ds, _, h => by
    cases h with
    | lst q h => exact .lst (e.seq q) (dp_sameAll e ds _ h)
  | .tuple ds, _, h => by
    cases h with
    | tup q h =>
      refine .tup ?_ (dp_sameAll e ds _ h)
      rcases q with (q | ⟨o, q⟩) | q
      · exact .inl (.inl (e _ _ q))
      · exact .inl (.inr ⟨o, e _ _ q⟩)
      · exact .inr q
  | .dict _, _, h => by cases h
theorem dp_sameAll {K : PySem.W.Frag} {H H' : Hp} (e : Same H H') : ∀ (ds : List PyData) (vs : List V), DpAll K H vs ds → DpAll K H' vs ds
  | [], _, h => by cases h; exact .nil
  | d :: ds, _, h => by
    cases h with
    | cons h1 h2 => exact .cons (dp_same e d _ h1) (dp_sameAll e ds _ h2)
end
/-- data, perhaps a dict of at most one text and a number -/
inductive DD (K : PySem.W.Frag) (H : Hp) : V → PyData → Prop
  | base {v : V} {d : PyData} : Dp K H v d → DD K H v d
  | dict0 {a : Addr} : H a = some (.dK []) → DD K H (.ref a) (.dict [])
  | dict1 {a : Addr} {x : Str} {i : Int} : H a = some (.dK [(Sum.inr x, .int i)]) → DD K H (.ref a) (.dict [(.str x, .int i)])
theorem DD.same {K : PySem.W.Frag} {H H' : Hp} {v : V} {d : PyData} (e : Same H H') (h : DD K H v d) : DD K H' v d := by
  cases h with
  | base h => exact .base (dp_same e _ _ h)
  | dict0 h => exact .dict0 (e _ _ h)
  | dict1 h => exact .dict1 (e _ _ h)
theorem DD.reads {X : Cx} {pins : List (Addr × Obj)} {σ : St} {H : Hp} {s : Shared} (I : Inv X pins σ H s) {v : V} {d : PyData} {u : Value} (h : DD X.K H v d) (r : RelV v u) : ∃ as, Reads s.heap u d as ∧ (d.hasDict = true → sysModules ∉ as) := by
  cases h with
  | base h =>
    obtain ⟨as, q⟩ := Dp.reads I d v u h r
    exact ⟨as, q, fun z => by rw [dp_nodict d v h] at z; cases z⟩
  | @dict0 a h =>
    obtain rfl : u = Value.ref a := r
    obtain ⟨_, ns, vs, rk, o, es, ep, ho, hx, hd, _, hp, _⟩ := I.hok a _ h
    cases rk
    have he : es.toList = [] := by
      cases e : es.toList with
      | nil => rfl
      | cons y r => rw [e] at hp; cases hp
    refine ⟨[a], Reads.dict (as := []) (bs := []) ho hx.1 hd (by rw [he]; exact .nil) (by rw [he]; exact .nil), fun _ z => ?_⟩
    rw [List.mem_singleton] at z
    rw [← z] at ns
    simp at ns
  | @dict1 a x i h =>
    obtain rfl : u = Value.ref a := r
    obtain ⟨_, ns, vs, rk, o, es, ep, ho, hx, hd, _, hp, _⟩ := I.hok a _ h
    cases rk with
    | @cons _ q _ vr r0 rr =>
      cases rr
      obtain ⟨qk, qv⟩ := q
      obtain ⟨e1, e2⟩ := r0
      have e1' : (Sum.inr x : L2.Key) = qk := e1
      subst e1'
      obtain ⟨t, e2'⟩ := (show ∃ t, qv = Value.int i t from e2)
      subst e2'
      cases e : es.toList with
      | nil => rw [e] at hp; cases hp
      | cons y r =>
        rw [e] at hp
        cases hp with
        | cons k1 k2 k3 =>
          cases k3
          obtain ⟨t', hk⟩ : ∃ t', y.key = Value.str x t' := by
            rcases keyIs_shape (k := Sum.inr x) (v := y.key) k1 with ⟨_, _, z, _⟩ | ⟨x', t', z, q⟩
            · cases z
            · cases z
              exact ⟨t', q⟩
          refine ⟨[a], Reads.dict (as := [] ++ []) (bs := [] ++ []) ho hx.1 hd ?_ ?_, fun _ z => ?_⟩
          · rw [e]
            show ReadsAll s.heap [y.key] [.str x] ([] ++ [])
            rw [hk]
            exact .cons (.str x t') .nil
          · rw [e]
            show ReadsAll s.heap [y.val] [.int i] ([] ++ [])
            rw [k2]
            exact .cons (.int i t) .nil
          · rw [List.mem_singleton] at z
            rw [← z] at ns
            simp at ns
def rRepr (K : PySem.W.Frag) : List V → Hp → VK → Prop := fun xs H Q => ∃ x d, xs = [x] ∧ DD K H x d ∧ d.showable = true ∧ d.shown.length ≤ sizeLine ∧ d.depth ≤ 40 ∧ Q (.str d.shown) H
theorem call_reprD {X : Cx} (hg : X.A.guards = some []) (hu : X.A.units + 64 < cLine) : CallR X (.builtin "repr") (rRepr X.K) := by
  intro pins s σ H xs us Q I r h
  obtain ⟨x, d, rfl, hd, hs, hz, hdp, q⟩ := h
  cases r with
  | @cons _ u _ ur r rr =>
    cases rr
    obtain ⟨as, rd, hm⟩ := hd.reads I r
    cases rd with
    | none =>
      rw [PyData.shown_none] at q
      exact P.repr_of_none ⟨.str _, H, I.tok _, ⟨_, rfl⟩, q⟩
    | bool b =>
      rw [PyData.shown_bool] at q
      exact P.repr_of_bool ⟨.str _, H, I.tok _, ⟨_, rfl⟩, q⟩
    | int i t =>
      rw [PyData.shown_int] at q
      exact P.repr_of_int (by simpa [PyData.showable] using hs) ⟨.str _, H, I.tok _, ⟨_, rfl⟩, q⟩
    | str y t =>
      rw [PyData.shown_str] at q hz
      exact P.repr_of_str ⟨.str _, H, I.tok _, ⟨_, rfl⟩, q⟩ hz
    | list h1 h2 h3 h4 => exact repr_of_reads' (.list h1 h2 h3 h4) hs hm hg (by omega) (fun _ _ e => e) (fun h' u tk hk => ⟨.str _, H, I.kept (t' := tk) hk, ⟨_, rfl⟩, q⟩) hz
    | tuple h1 h2 h3 h4 => exact repr_of_reads' (.tuple h1 h2 h3 h4) hs hm hg (by omega) (fun _ _ e => e) (fun h' u tk hk => ⟨.str _, H, I.kept (t' := tk) hk, ⟨_, rfl⟩, q⟩) hz
    | dict h1 h2 h3 h4 h5 => exact repr_of_reads' (.dict h1 h2 h3 h4 h5) hs hm hg (by omega) (fun _ _ e => e) (fun h' u tk hk => ⟨.str _, H, I.kept (t' := tk) hk, ⟨_, rfl⟩, q⟩) hz
/-! ### promises where nothing is being shown -/
structure FnOkG (P : Program) (w : World) (K : PySem.W.Frag) (mg : Str → Option Value) (base : Heap) (CX : CXT) (k : Nat) (f : Addr) (fd : FuncData) (ps : List Str) (sp : Sp) : Prop where
  len : ∀ vs H Q E, sp vs H Q E → vs.length = ps.length
  run : ∀ (A : Around) (outer : List Env) (s : Shared) (H : Hp) (args : Args) (us : List Value) (vs : List V) (Q : VK) (E : XK), A.guards = some [] → Room k A → Env0 P w K mg base A outer s H → BindsTo s fd args (ps.zip us) → Vals vs us → sp vs H Q E →
    codeAny (model P w) A (.call (.ref f) args) (CR CX outer P w H s Q E) s
theorem FnOk.toG {P : Program} {w : World} {K : PySem.W.Frag} {mg : Str → Option Value} {base : Heap} {CX : CXT} {k : Nat} {f : Addr} {fd : FuncData} {ps : List Str} {sp : Sp} (F : FnOk P w K mg base CX k f fd ps sp) : FnOkG P w K mg base CX k f fd ps sp := ⟨F.len, fun A o s H a us vs Q E _ => F.run A o s H a us vs Q E⟩
section
variable {P : Program} {w : World} {K : PySem.W.Frag} {mg : Str → Option Value} {base : Heap}
theorem Fun.okG {x qual : Str} {st : Stmt} {f : Addr} {fd : FuncData} {N ps : List Str} {k : Nat} {sp : Sp} (F : Fun K x qual st f fd) (S : FnScope N ps (defScope st)) (len : ∀ vs H Q E, sp vs H Q E → vs.length = ps.length)
    (body : ∀ (cdv : Value) (A : Around) (outer : List Env) (s : Shared) (H : Hp) (vs : List V) (Q : VK) (E : XK), A.guards = some [] → Room k (A.deeper (envOfC qual (defScope st) s.heap.objs.size f cdv)) → sp vs H Q E →
      ∃ t, PSs (cxOf CX0 P w K mg base N qual (defScope st) f cdv A outer s H E).nox (defBody st) t ∧ t { nx := fun _ H' => Q .non H', rt := Q } (start N vs) H) : FnOkG P w K mg base CX0 (k + 1) f fd ps sp := by
  obtain ⟨oc, od, kV, doc, pm, an, cdv, ct, osl, rfl, lk, hcd⟩ := F.ex
  refine ⟨len, fun A outer s H args us vs Q E hg hr e0 hb r hsp => ?_⟩
  have same : ∀ b o, base.get? b = some o → s.heap.get? b = some o := fun b o e => (e0.bs b o e).1
  have KX : K.In s.heap := e0.mod.kin.keeps same
  have lim : s.heap.NoLimit := e0.mod.nolimit.keeps same
  refine codeAny_call_function hr.depth (KX _ _ lk) rfl S.co S.gen rfl (PySem.W.codeRec_of KX hcd) (hb _ _ _ _ ?_)
  refine wpAny_newFunctionEnv_cells S.kind (fun y hy => ?_) fun env he s1 y => ?_
  · obtain ⟨n, v⟩ := y
    exact (S.par n (List.of_mem_zip hy).1).elim .inl fun q => .inr ⟨q, PySem.W.cellsFrom_some _ _ _ (.inl q)⟩
  · subst he
    refine ⟨lim.keeps y.toInCall.keep, codeAny_func ?_⟩
    obtain ⟨t, ht, hq⟩ := body cdv A outer s H vs Q E hg (hr.deeper _) hsp
    have I := inv_start (CX := CX0) (P := P) (w := w) (mg := mg) (E := E) S hr.hd e0 (len _ _ _ _ hsp) r y
    refine wpAny_mono (ht.nox.run [] s1 (start N vs) H _ I hq) (fun fl s' hs => ?_) fun e s' hs => hs
    cases fl with
    | ret u => obtain ⟨v, σ', H', J, rv, q⟩ := hs; exact ⟨v, H', J.os, J.bare, J.base, J.hok, rv, q⟩
    | next => obtain ⟨σ', H', J, q⟩ := hs; exact ⟨.non, H', J.os, J.bare, J.base, J.hok, rfl, q⟩
    | brk => obtain ⟨_, _, _, q⟩ := hs; exact q.elim
    | cont => obtain ⟨_, _, _, q⟩ := hs; exact q.elim
end
section
variable {X : Cx} {CX : CXT} {k : Nat} {f : Addr} {fd : FuncData} {ps : List Str} {sp : Sp} {E : XK} {x : Str} {p pos : Pos} {e : Expr} {es : List Expr} {t : TA} {dvs : List V} {ds : List Value}
theorem pe_callG (F : FnOkG X.prog X.w X.K X.mg X.base CX k f fd ps sp) (hA : X.A.guards = some []) (hr : Room k X.A) (hg : Gl X x) (hm : X.mg x = some (.ref f)) (hk : PySem.W.keepIn X.K (.ref f) = true) (hb : Binds X.K fd ps ds) (hd : Vals dvs ds) (hx : Passes CX X E)
    (ha : PA X (e :: es) t) (hdb : (x == ("__debug__" : Str)) = false := by decide) (he : starEach (e :: es) X.env = (false, eval e X.env) :: starEach es X.env := by rfl) (hpl : (backTo pos (starEach es X.env)).any (·.1) = false := by rfl) :
    PE X (.Call (.Name x p) (e :: es) [] pos) (tCall sp dvs E t) := ⟨fun pins s σ H Q I h => wpAny_Call_Name_kw (ld_glob I hg hm
    (PySem.W.callWith_K (h₀ := X.base) I.ok.mod.kin hk (thn (ha.run pos pins s σ H _ I h) fun us s1 ⟨vs, H1, I1, r, q⟩ => ⟨I1.kIn, by
      have r2 : Vals (vs ++ dvs) (us ++ ds) := r.append hd
      have hl : (us ++ ds).length = ps.length := r2.length.symm.trans (F.len _ _ _ _ q)
      refine wpAny_call (codeAny_mono (F.run X.A X.stack s1 H1 ⟨us, []⟩ (us ++ ds) (vs ++ dvs) Q E hA hr I1.env0 (hb s1 us I1.kIn hl) r2 q) fun r s' hq => ?_)
      cases r with
      | error e => exact hx pins σ H1 s1 e s' I1 hq
      | ok fl => cases fl <;> first | exact I1.after hq | exact False.elim hq⟩) he hpl) hdb)⟩
end
end L2.Cal
end

section
set_option maxRecDepth 100000
set_option maxHeartbeats 4000000
/-! text[::-1] -/
namespace L2.Cal
open PySem PySem.Spec PyProof.Rows L2
def revS (x : Str) : Str := ⟨x.cps.reverse⟩
theorem rev_range (n : Nat) : Builtin.Str.strSliceIndices none none (-1) n = (List.range n).map fun k => n - 1 - k := by
  unfold Builtin.Str.strSliceIndices sliceRange
  simp only [show ¬ ((-1 : Int) > 0) by decide, if_false]
  have e : (if ((n : Int) - 1) > -1 then ((n : Int) - 1 - -1 - -1 - 1) / - -1 else 0) = (n : Int) := by
    split
    · have : ((n : Int) - 1 - -1 - -1 - 1) = n := by omega
      rw [this]
      simp
    · omega
  rw [e]
  show List.map _ (List.range ((n : Int).toNat)) = _
  rw [Int.toNat_natCast]
  refine List.map_congr_left fun k hk => ?_
  have := List.mem_range.mp hk
  omega
theorem fm_congr {α β : Type} {f g : α → Option β} : ∀ {l : List α}, (∀ x, x ∈ l → f x = g x) → l.filterMap f = l.filterMap g
  | [], _ => rfl
  | x :: l, h => by rw [List.filterMap_cons, List.filterMap_cons, h x (List.mem_cons_self ..), fm_congr fun y hy => h y (List.mem_cons_of_mem _ hy)]
theorem get_range : ∀ m : List Nat, (List.range m.length).filterMap (fun k => m[k]?) = m
  | [] => rfl
  | a :: r => by
    rw [List.length_cons, List.range_succ_eq_map, List.filterMap_cons, List.filterMap_map]
    show a :: List.filterMap (fun k => (a :: r)[k + 1]?) (List.range r.length) = a :: r
    have h := get_range r
    congr 1
theorem rev_get (l : List Nat) : (((List.range l.length).map fun k => l.length - 1 - k).filterMap fun i => l[i]?) = l.reverse := by
  have h := get_range l.reverse
  rw [List.length_reverse] at h
  rw [List.filterMap_map]
  refine Eq.trans (fm_congr fun k hk => ?_) h
  show l[l.length - 1 - k]? = l.reverse[k]?
  rw [List.getElem?_reverse (List.mem_range.mp hk)]
theorem made_rev (z : Str) (t t2 : Tok) : sliceMade z t none none (some (-1, t2)) = .str (revS z) := by
  unfold sliceMade
  rw [if_neg (by simp)]
  congr 1
  unfold slicePicked
  show Str.mk _ = _
  rw [show ((Option.map (fun (x : Int × Tok) => x.fst) (some (-1, t2))).getD 1) = -1 from rfl]
  show Str.mk (List.filterMap (fun (x : Nat) => z.cps[x]?) (Builtin.Str.strSliceIndices none none (-1) z.length)).toArray = _
  rw [rev_range]
  have h := rev_get z.cps.toList
  rw [Array.length_toList] at h
  have e : (fun (x : Nat) => z.cps[x]?) = fun (i : Nat) => z.cps.toList[i]? := by
    funext i
    exact (Array.getElem?_toList).symm
  rw [e, show z.length = z.cps.size from rfl, h]
  unfold revS
  congr 1
  rw [← Array.toList_reverse]
section
variable {X : Cx}
def tRev (te ts : TE) : TE := fun σ H Q => te σ H fun x H1 => ts σ H1 fun v H2 => v = .int (-1) ∧ ∃ z, x = .str z ∧ z.length ≤ sizeLine ∧ Q (.str (revS z)) H2
theorem pe_rev {e st : Expr} {te ts : TE} {pos p2 : Pos} (he : PE X e te) (hs : PE X st ts) : PE X (e.Subscript (Expr.Slice none none (some st) p2) pos) (tRev te ts) where
  run pins s σ H Q I h := by
    refine Subscript_ (thn (he.run pins s σ H (fun x H1 => ts σ H1 fun v H2 => v = .int (-1) ∧ ∃ z, x = .str z ∧ z.length ≤ sizeLine ∧ Q (.str (revS z)) H2) I h) fun v s1 hq => ?_)
    obtain ⟨x, H1, I1, r1, q1⟩ := hq
    refine wpAny_Slice ?_
    rw [evalPart_none]
    refine wpAny_pure (wpAny_pure ?_)
    refine thn (hs.run pins s1 σ H1 (fun v H2 => v = .int (-1) ∧ ∃ z, x = .str z ∧ z.length ≤ sizeLine ∧ Q (.str (revS z)) H2) I1 q1) fun vs s3 hq => ?_
    obtain ⟨vx, H2, I2, rs, rfl, z, rfl, hz, q⟩ := hq
    obtain ⟨t2, rfl⟩ := rs
    obtain ⟨t, rfl⟩ := r1
    have I4 := Inv.kept (t' := s3.toks) I2 (fun b ob q => Heap.get?_push_of_some { cls := Value.type "slice", data := Data.fields #[Value.none, Value.none, Value.int (-1) t2] } q)
    refine tail_any (typeIs_str _ z t) F.slot_str_getitem.lookup ?_ (Eq.refl (subscripted (Expr.Slice none none (some st) p2) false _ _))
    refine wpAny_getItem_str_slice (l := none) (u := none) (st := some (-1, t2)) (Heap.IsSliceOf.new s3.heap Value.none Value.none (Value.int (-1) t2)) rfl ?_
    rw [made_rev]
    refine ⟨?_, .str (revS z), H2, Inv.tok I4 _, ⟨_, rfl⟩, q⟩
    show (revS z).cps.size ≤ sizeLine
    unfold revS
    rw [Array.size_reverse]
    exact hz
end
end L2.Cal
end

section
set_option maxRecDepth 100000
set_option maxHeartbeats 4000000
/-! bool(o) of an object with neither a length nor a truth of its own; two rules for one operation -/
namespace L2.Cal
open PySem PySem.Spec PyProof.Rows L2
section
variable {X : Cx} {C : Addr} {pins : List (Addr × Obj)} {σ : St} {H : Hp} {s : Shared}
theorem op_or {o : Value → Value → Sem Value} {r r' : V → V → Hp → VK → Prop} (a : OpR X o r) (b : OpR X o r') : OpR X o (fun x y H Q => r x y H Q ∨ r' x y H Q) := by
  intro pins s σ H x y v u Q I rx ry h
  rcases h with h | h
  · exact a _ _ _ _ _ _ _ _ _ I rx ry h
  · exact b _ _ _ _ _ _ _ _ _ I rx ry h
def rBoolP (C : Addr) : List V → Hp → VK → Prop := fun xs H Q => ∃ (a dx : Addr) (fs : List (Str × V)), xs = [.ref a] ∧ H a = some (.ins C dx fs) ∧ Q (.bl true) H
theorem call_boolP (nb : PySem.W.findIn X.K (.ref C) "__bool__" = some none) (nl : PySem.W.findIn X.K (.ref C) "__len__" = some none) : CallR X (.type "bool") (rBoolP C) := by
  intro pins s σ H xs us Q I r h
  obtain ⟨a, dx, fs, rfl, ea, h⟩ := h
  rw [Vals.ref1 r]
  obtain ⟨ox, od, J⟩ := ins_at I ea
  have tr : ∀ E', wpAny (model X.prog X.w) X.A.in1.in1 (truthy (.ref a)) (fun b s' => ∃ H', Inv X pins σ H' s' ∧ Q (.bl b) H') E' s := fun E' => by
    unfold truthy
    refine wpAny_bind (m := callSpecial? (.ref a) (Str.ofString "__bool__")) (wpAny_bind (wpAny_bind (J.type.here ((PySem.W.looks_findIn I.kIn nb).here (wpAny_pure ?_)))))
    refine wpAny_bind (wpAny_bind (J.type.here ((PySem.W.looks_findIn I.kIn nl).here ?_)))
    rw [if_pos (by simp)]
    exact wpAny_pure ⟨H, I, h⟩
  refine callType_codes (T := "bool") (Bi := Builtin.«object.__init__») (Q₁ := fun r s₁ => ∃ (b : Bool) (H' : Hp), r = .bool b ∧ Inv X pins σ H' s₁ ∧ Q (.bl b) H') PySem.F.called_bool (PySem.F.typeCall_bool_1 _) PySem.F.entry_object_init ?_ ?_
  · refine codeAny_of_tree ?_
    show wpAny _ X.A.in1.in1 (do checkBuiltinCall "bool.__new__" ⟨[.type "bool", .ref a], []⟩; again (.builtin "bool.__new__" ⟨[.type "bool", .ref a], []⟩)) _ _ s
    refine wpAny_bind (wpAny_of_eq (PySem.F.newCall_bool_1 _) (wpAny_pure ⟨plainId_quiet (by decide +kernel) _, codeAny_builtin PySem.F.entry_bool_new ?_⟩))
    rw [Around.under_plainId (by decide +kernel) _]
    unfold Builtin.«bool.__new__»
    have below := PySem.F.conv_sub_bool
    generalize hT : truthy = T
    repeat (first | assumption | wp_step)
    subst hT
    refine wpAny_mono (tr _) (fun b s' hq => ?_) fun _ _ z => z
    obtain ⟨H', I', q⟩ := hq
    exact wpAny_pure ⟨b, H', rfl, I', q⟩
  · rintro obj s₁ ⟨b, H', rfl, I', q⟩
    exact ⟨rfl, PySem.F.args_object_init_2 _ _, object_init_meets PySem.F.called_bool.init.lookup PySem.F.called_bool.made (by decide) X.prog X.w X.A.in1 _ s₁ ⟨rfl, rfl, ⟨.bl b, H', I', rfl, q⟩⟩⟩
end
end L2.Cal
end

section
set_option maxRecDepth 100000
set_option maxHeartbeats 4000000
set_option synthInstance.maxHeartbeats 400000
namespace L2.Cal
open PySem PySem.Spec PyProof.Rows L2
theorem shown_big {i : Int} (h0 : 0 ≤ i) (h : i < 10 ^ 33) : (PyData.shown (.int i)).length ≤ 40 := by
  obtain ⟨n, rfl⟩ := Int.eq_ofNat_of_zero_le h0
  have hn : n < 10 ^ 33 := by
    have : ((n : Int)) < ((10 ^ 33 : Nat) : Int) := by simpa using h
    omega
  show (Str.ofString (toString (n : Int))).length ≤ 40
  rw [show toString (n : Int) = toString n from rfl]
  rw [Nat.toString_eq_ofList_toDigits]
  have l := (Nat.length_toDigits_le_iff (b := 10) (k := 33) (by decide) (by decide) (n := n)).mpr hn
  rw [PySem.ofString_ofList_length]
  omega
theorem log_big {i : Int} (h0 : 0 ≤ i) (h : i < 10 ^ 33) : i.natAbs.log2 < 110 := by
  by_cases e : i.natAbs = 0
  · rw [e]
    decide
  · rw [Nat.log2_lt e]
    have e1 : (10 : Int) ^ 33 = 1000000000000000000000000000000000 := by decide
    have e2 : (2 : Nat) ^ 110 = 1298074214633706907132624082305024 := by decide
    rw [e2]
    omega
def toldC (ns : List Int) : PyData := .list [.tuple (ns.map PyData.int), .int ns.sum, .bool true]
theorem sum_bound : ∀ {ns : List Int}, (∀ i, i ∈ ns → 0 ≤ i ∧ i ≤ 10 ^ 30) → 0 ≤ ns.sum ∧ ns.sum ≤ (ns.length : Int) * 10 ^ 30
  | [], _ => ⟨by simp, by simp⟩
  | n :: ns, h => by
    have h1 := h n (List.mem_cons_self ..)
    have h2 := sum_bound fun i hi => h i (List.mem_cons_of_mem _ hi)
    rw [List.sum_cons, List.length_cons]
    push_cast
    rw [Int.add_mul]
    exact ⟨by omega, by omega⟩
theorem toldC_fine {ns : List Int} (few : ns.length ≤ 8) (h : ∀ i, i ∈ ns → 0 ≤ i ∧ i ≤ 10 ^ 30) : (toldC ns).showable = true ∧ (toldC ns).shown.length ≤ sizeLine ∧ (toldC ns).depth ≤ 40 := by
  have big : ∀ i, i ∈ ns → 0 ≤ i ∧ i < 10 ^ 33 := fun i hi => ⟨(h i hi).1, Int.lt_of_le_of_lt (h i hi).2 (by decide)⟩
  have sb : 0 ≤ ns.sum ∧ ns.sum < 10 ^ 33 := by
    have e := sum_bound h
    have e1 : (10 : Int) ^ 33 = 1000000000000000000000000000000000 := by decide
    have e2 : (10 : Int) ^ 30 = 1000000000000000000000000000000 := by decide
    rw [e2] at e
    rw [e1]
    omega
  have lv : ∀ ns : List Int, (∀ i, i ∈ ns → 0 ≤ i ∧ i < 10 ^ 33) → PyData.leavesShortAll 40 (ns.map PyData.int) = true := fun ns => by
    induction ns with
    | nil => intro _; simp [PyData.leavesShortAll]
    | cons z zs ih =>
      intro h
      simp only [List.map_cons, PyData.leavesShortAll, PyData.leavesShort, Bool.and_eq_true]
      have hz := h z (List.mem_cons_self ..)
      exact ⟨decide_eq_true (shown_big hz.1 hz.2), ih fun x hx => h x (List.mem_cons_of_mem _ hx)⟩
  have wt : ∀ ns : List Int, (∀ i, i ∈ ns → 0 ≤ i ∧ i < 10 ^ 33) → PyData.weightAll (ns.map PyData.int) ≤ 112 * ns.length := fun ns => by
    induction ns with
    | nil => intro _; simp [PyData.weightAll]
    | cons z zs ih =>
      intro h
      have hz := h z (List.mem_cons_self ..)
      have hl := log_big hz.1 hz.2
      have i2 := ih fun x hx => h x (List.mem_cons_of_mem _ hx)
      simp only [List.map_cons, PyData.weightAll, PyData.weight, List.length_cons]
      split <;> omega
  have dp : ∀ ns : List Int, PyData.depthAll (ns.map PyData.int) = 0 := fun ns => by
    induction ns with
    | nil => simp [PyData.depthAll]
    | cons z zs ih => simp [PyData.depthAll, PyData.depth, ih]
  have sw : ∀ ns : List Int, (∀ i, i ∈ ns → 0 ≤ i ∧ i < 10 ^ 33) → PyData.showableAll (ns.map PyData.int) = true := fun ns => by
    induction ns with
    | nil => intro _; simp [PyData.showableAll]
    | cons z zs ih =>
      intro h
      have hz := h z (List.mem_cons_self ..)
      have hl := log_big hz.1 hz.2
      simp only [List.map_cons, PyData.showableAll, PyData.showable, ih fun x hx => h x (List.mem_cons_of_mem _ hx), Bool.and_true]
      exact decide_eq_true (by omega)
  have sl := log_big sb.1 sb.2
  refine ⟨?_, ?_, ?_⟩
  · simp only [toldC, PyData.showable, PyData.showableAll, sw ns big, Bool.and_true, Bool.true_and]
    exact decide_eq_true (by omega)
  · have lf : (toldC ns).leavesShort 40 = true := by
      simp only [toldC, PyData.leavesShort, PyData.leavesShortAll, lv ns big, Bool.true_and, Bool.and_true]
      exact decide_eq_true (shown_big sb.1 sb.2)
    have h := PyData.shown_le 40 (by decide) (toldC ns) lf
    have w : (toldC ns).weight ≤ 1200 := by
      have := wt ns big
      simp only [toldC, PyData.weight, PyData.weightAll]
      split <;> omega
    rw [sizeLine_eq]
    omega
  · simp only [toldC, PyData.depth, PyData.depthAll, dp]
    decide
theorem Good.strOk {y : Str} {ys : List Str} (G : Good ys y) : ∀ z, z ∈ ys → PyData.strOk z = true := fun z hz => by
  unfold PyData.strOk
  rw [← Array.all_toList, List.all_eq_true]
  intro c hc
  have := (G.let_.perm (G.lot.of z hz)).2 c hc
  exact decide_eq_true (by omega)
theorem Good.sizes {y : Str} {ys : List Str} (G : Good ys y) : ∀ z, z ∈ ys → z.cps.size = y.cps.size := fun z hz => by
  rw [← Array.length_toList, (G.lot.of z hz).length_eq, Array.length_toList]
section
variable {P : Program} {w : World} {K : PySem.W.Frag} {mg : Str → Option Value} {base : Heap} {C Cr : Addr}
theorem mk_roll {Q : VK} {E : XK} {H : Hp} {p x dx : Addr} {ys : List Str} {y : Str} (ep : TupF.Frt H p (ys.map V.str)) (G : Good ys y) (nx : H x = none) (nd : H dx = none) (q : ∀ H', Same H H' → RollAt C H' x p (tidy y) → Q .non H') :
    spIni K C [.ref x, .ref p] (upd (upd H dx (.own x)) x (.ins C dx [])) Q E := by
  have m : Same H (upd (upd H dx (.own x)) x (.ins C dx [])) := fun b o e => by rw [upd_ne (ne_of_none e nx), upd_ne (ne_of_none e nd)]; exact e
  exact ⟨x, p, dx, ys, y, rfl, upd_same, (ep.same m).sq, (ep.same m).ty, G, fun H' k r => q H' (fun b o e => k b o (ne_of_none e nx) (m _ _ e)) r⟩
theorem mk_crowd {Q : VK} {E : XK} {H : Hp} {r t n x dx : Addr} {z : Str} {ys : List Str} {ns : List Int} (hr : RollAt C H r t z) (ht : TupF.Frt H t (ys.map V.str)) (hn : H n = some (.tup (ns.map V.int))) (len : ns.length = ys.length) (few : ys.length ≤ 60) (pos : ∀ i, i ∈ ns → 0 ≤ i) (s0 : 0 < ns.sum)
    (nx : H x = none) (nd : H dx = none) (q : ∀ H', Same H H' → CrAt Cr H' x r n ns.sum → NoF Cr H' x → Q .non H') :
    spCIn K C Cr [.ref x, .ref r, .ref n] (upd (upd H dx (.own x)) x (.ins Cr dx [])) Q E := by
  have m : Same H (upd (upd H dx (.own x)) x (.ins Cr dx [])) := fun b o e => by rw [upd_ne (ne_of_none e nx), upd_ne (ne_of_none e nd)]; exact e
  have rx : r ≠ x := fun e => by
    obtain ⟨_, _, h, _⟩ := hr
    rw [e, nx] at h
    cases h
  exact ⟨x, r, n, t, dx, z, ys, ns, rfl, upd_same, hr.same m, rx, (ht.same m).sq, SqT.of (m _ _ hn), .base (.tup (m _ _ hn)), len, few, pos, by omega, fun H' k c nf => q H' (fun b o e => k b o (ne_of_none e nx) (m _ _ e)) c nf⟩
/-- a crowd over these orders with these numbers -/
def CrdAt (C Cr : Addr) (H : Hp) (c : Addr) (ys : List Str) (ns : List Int) : Prop := ∃ (r n t : Addr) (z : Str), CrAt Cr H c r n ns.sum ∧ RollAt C H r t z ∧ H t = some (.tup (ys.map V.str)) ∧ H n = some (.tup (ns.map V.int)) ∧ ∀ y, y ∈ ys → PyData.strOk y = true
theorem CrdAt.same {H H' : Hp} {c : Addr} {ys : List Str} {ns : List Int} (h : CrdAt C Cr H c ys ns) (s : Same H H') : CrdAt C Cr H' c ys ns := by
  obtain ⟨r, n, t, z, h1, h2, h3, h4, h5⟩ := h
  exact ⟨r, n, t, z, h1.same s, h2.same s, s _ _ h3, s _ _ h4, h5⟩
theorem off_jar {H : Hp} {j b : Addr} {o : HO} (J : Jar H j) (h : H b = some o) (no : ∀ xs, o ≠ .lst xs) : b ≠ j := fun e => by
  obtain ⟨_, _, _, w, _⟩ := J
  rw [e, w] at h
  exact no _ (Option.some.inj h).symm
theorem CrdAt.kp {j : Addr} {H H' : Hp} {c : Addr} {ys : List Str} {ns : List Int} (J : Jar H j) (k : Kp j H H') (h : CrdAt C Cr H c ys ns) : CrdAt C Cr H' c ys ns := by
  obtain ⟨r, n, t, z, ⟨dx, fs, e1, l1⟩, ⟨dx2, fs2, e2, l2⟩, h3, h4, h5⟩ := h
  exact ⟨r, n, t, z, ⟨dx, fs, k _ _ (off_jar J e1 fun _ => nofun) e1, l1⟩, ⟨dx2, fs2, k _ _ (off_jar J e2 fun _ => nofun) e2, l2⟩, k _ _ (off_jar J h3 fun _ => nofun) h3, k _ _ (off_jar J h4 fun _ => nofun) h4, h5⟩
/-- what `==` of two crowds asks -/
theorem ceq_of {H : Hp} {c c2 : Addr} {ys zs : List Str} {ns ms : List Int} {Q : VK} {E : XK} (h : CrdAt C Cr H c ys ns) (h2 : CrdAt C Cr H c2 zs ms) (q : Q (.bl (decide (ys = zs) && decide (ns = ms))) H) : spCEq K C Cr [.ref c, .ref c2] H Q E := by
  obtain ⟨r, n, t, z, a1, a2, a3, a4, a5⟩ := h
  obtain ⟨r2, n2, t2, z2, b1, b2, b3, b4, b5⟩ := h2
  exact ⟨c, r, n, _, _, rfl, a1, .inl ⟨c2, r2, n2, t, t2, _, z, z2, ys, zs, ns, ms, rfl, b1, a2, b2, SqT.of a3, SqT.of b3, a5, b5, SqT.of a4, SqT.of b4, q⟩⟩
theorem CrdAt.ty {H : Hp} {c : Addr} {ys : List Str} {ns : List Int} (RC : CrC K mg Cr) (h : CrdAt C Cr H c ys ns) : TyX K H (.ref c) (.ref Cr) := by
  obtain ⟨r, n, t, z, h1, _⟩ := h
  exact crowd_ty RC h1
theorem CrdAt.ins {H : Hp} {c : Addr} {ys : List Str} {ns : List Int} (h : CrdAt C Cr H c ys ns) : ∃ dx fs, H c = some (.ins Cr dx fs) := by
  obtain ⟨r, n, t, z, ⟨dx, fs, e, _⟩, _⟩ := h
  exact ⟨dx, fs, e⟩
end
end L2.Cal
end

section
set_option maxRecDepth 100000
set_option maxHeartbeats 4000000
/-! the repr of a text of plain signs is a text that can be laid -/
namespace L2.Cal
open PySem PySem.Spec PyProof.Rows L2
def plainT (q : Nat) : Bool := (List.range 128).all fun c => (Builtin.Str.reprChar q c).all fun d => decide (d < 128)
theorem plain_39 : plainT 39 = true := by decide +kernel
theorem plain_34 : plainT 34 = true := by decide +kernel
theorem quote_of (x : Str) : reprQuote x = 39 ∨ reprQuote x = 34 := by
  unfold reprQuote
  split <;> first | exact .inl rfl | exact .inr rfl
theorem repr_plain {x : Str} (h : ∀ c ∈ x.cps.toList, c < 128) : ∀ c ∈ (reprText x).cps.toList, c < 128 := by
  have hq : plainT (reprQuote x) = true := by
    rcases quote_of x with e | e <;> rw [e]
    · exact plain_39
    · exact plain_34
  have q128 : reprQuote x < 128 := by rcases quote_of x with e | e <;> rw [e] <;> decide
  have all : ∀ (l : List Nat) (acc : Array Nat), (∀ c ∈ l, c < 128) → (∀ c ∈ acc.toList, c < 128) → ∀ c ∈ (l.foldl (fun out c => out ++ (Builtin.Str.reprChar (reprQuote x) c).toArray) acc).toList, c < 128 := by
    intro l
    induction l with
    | nil => intro acc _ ha; exact ha
    | cons a r ih =>
      intro acc hl ha
      refine ih _ (fun c hc => hl c (List.mem_cons_of_mem _ hc)) fun c hc => ?_
      rw [Array.toList_append] at hc
      rcases List.mem_append.mp hc with hc | hc
      · exact ha c hc
      · have z := List.all_eq_true.mp hq a (List.mem_range.mpr (hl a List.mem_cons_self))
        exact of_decide_eq_true (List.all_eq_true.mp z c (by simpa using hc))
  intro c hc
  unfold reprText at hc
  simp only [Array.toList_push, ← Array.foldl_toList] at hc
  rcases List.mem_append.mp hc with hc | hc
  · exact all x.cps.toList _ h (by intro c hc; rw [List.mem_singleton.mp (show c ∈ [reprQuote x] from hc)]; exact q128) c hc
  · rw [List.mem_singleton.mp hc]; exact q128
theorem strOk_plain {x : Str} (h : ∀ c ∈ x.cps.toList, c < 128) : PyData.strOk x = true := by
  unfold PyData.strOk
  rw [Array.all_eq_true']
  intro c hc
  have := h c (Array.mem_toList_iff.mpr hc)
  exact decide_eq_true (by omega)
theorem strOk_repr {x : Str} (h : ∀ c ∈ x.cps.toList, c < 128) : PyData.strOk (reprText x) = true := strOk_plain (repr_plain h)
end L2.Cal
end

section
set_option maxRecDepth 100000
set_option maxHeartbeats 4000000
/-! values of any kind that a law draws: what they show, of which type they are -/
namespace L2.Cal
open PySem PySem.Spec PyProof.Rows L2
/-- a text of few plain signs, or no text -/
def smallT : PyData → Bool
  | .str y => decide (y.cps.size ≤ 20) && y.cps.toList.all fun c => decide (c < 128)
  | _ => true
def goodE (d : PyData) : Bool := d.showable && (decide (d.shown.length ≤ 1000) && (decide (d.depth ≤ 40) && (PyData.strOk d.shown && smallT d)))
inductive TyV (H : Hp) : V → PyData → String → Prop where
  | non : TyV H .non .none "NoneType"
  | bl (b : Bool) : TyV H (.bl b) (.bool b) "bool"
  | int (i : Int) : TyV H (.int i) (.int i) "int"
  | str (y : Str) : TyV H (.str y) (.str y) "str"
  | lst {l : Addr} {xs : List V} {ds : List PyData} (e : H l = some (.lst xs)) : TyV H (.ref l) (.list ds) "list"
  | tup {l : Addr} {xs : List V} {ds : List PyData} (e : H l = some (.tup xs)) : TyV H (.ref l) (.tuple ds) "tuple"
  | dct {l : Addr} {kvs : List (Key × V)} {ds : List (PyData × PyData)} (e : H l = some (.dK kvs)) : TyV H (.ref l) (.dict ds) "dict"
abbrev tyNames : List String := ["NoneType", "bool", "int", "str", "list", "tuple", "dict"]
theorem TyV.same {H H' : Hp} {v : V} {d : PyData} {T : String} (t : TyV H v d T) (s : Same H H') : TyV H' v d T := by
  cases t with
  | non => exact .non
  | bl b => exact .bl b
  | int i => exact .int i
  | str y => exact .str y
  | lst e => exact .lst (s _ _ e)
  | tup e => exact .tup (s _ _ e)
  | dct e => exact .dct (s _ _ e)
theorem TyV.ty {K : PySem.W.Frag} {H : Hp} {v : V} {d : PyData} {T : String} (t : TyV H v d T) : TyX K H v (.type T) := by
  cases t with
  | non => exact .base .non
  | bl b => exact .base (.bl b)
  | int i => exact .base (.int i)
  | str y => exact .base (.str y)
  | lst e => exact .base (.lst e)
  | tup e => exact .base (.tup e)
  | dct e => exact .base (.dK e)
theorem TyV.name {H : Hp} {v : V} {d : PyData} {T : String} (t : TyV H v d T) : T ∈ tyNames := by
  cases t <;> decide
theorem TyV.isStr {H : Hp} {v : V} {d : PyData} {T : String} (t : TyV H v d T) : (∃ y, v = .str y ∧ d = .str y ∧ T = "str") ∨ ((∀ y, v ≠ .str y) ∧ T ≠ "str") := by
  cases t
  case str y => exact .inl ⟨y, rfl, rfl, rfl⟩
  all_goals exact .inr ⟨(fun y z => nomatch z), by decide⟩
/-- a drawn value v, its data d -/
structure AnyV (K : PySem.W.Frag) (H : Hp) (v : V) (d : PyData) : Prop where
  dd : DD K H v d
  good : goodE d = true
  ty : ∃ T, TyV H v d T
theorem AnyV.same {K : PySem.W.Frag} {H H' : Hp} {v : V} {d : PyData} (h : AnyV K H v d) (s : Same H H') : AnyV K H' v d := ⟨h.dd.same s, h.good, h.ty.imp fun _ t => t.same s⟩
theorem AnyV.shown {K : PySem.W.Frag} {H : Hp} {v : V} {d : PyData} (h : AnyV K H v d) : d.showable = true ∧ d.shown.length ≤ 1000 ∧ d.depth ≤ 40 ∧ PyData.strOk d.shown = true := by
  have g := h.good
  unfold goodE at g
  simp only [Bool.and_eq_true, decide_eq_true_eq] at g
  exact ⟨g.1, g.2.1, g.2.2.1, g.2.2.2.1⟩
theorem AnyV.small {K : PySem.W.Frag} {H : Hp} {v : V} {y : Str} (h : AnyV K H v (.str y)) : y.cps.size ≤ 20 ∧ ∀ c ∈ y.cps.toList, c < 128 := by
  have g := h.good
  unfold goodE at g
  simp only [Bool.and_eq_true, decide_eq_true_eq] at g
  have s := g.2.2.2.2
  unfold smallT at s
  simp only [Bool.and_eq_true, decide_eq_true_eq, List.all_eq_true] at s
  exact s
/-- without the jar -/
def AnyJ (K : PySem.W.Frag) (j : Addr) (H : Hp) (v : V) : Prop := ∃ d, AnyV K (del H j) v d
theorem del_kp {j : Addr} {H H' : Hp} (k : ∀ b o, b ≠ j → H b = some o → H' b = some o) : Same (del H j) (del H' j) := fun b o e => by
  have hb : b ≠ j := fun z => by rw [z, del_same] at e; cases e
  rw [del_ne hb] at e ⊢
  exact k b o hb e
theorem del_in {j : Addr} {H : Hp} : Same (del H j) H := fun b o e => by
  have hb : b ≠ j := fun z => by rw [z, del_same] at e; cases e
  rw [del_ne hb] at e
  exact e
theorem AnyV.text {K : PySem.W.Frag} {H : Hp} {y : Str} (hl : y.cps.size ≤ 20) (hp : ∀ c ∈ y.cps.toList, c < 128) : AnyV K H (.str y) (.str y) := by
  refine ⟨.base (.str y), ?_, "str", .str y⟩
  have l := StrLaws.reprText_len y fun c hc => by have := hp c hc; omega
  have e : y.length = y.cps.size := rfl
  unfold goodE smallT
  simp only [Bool.and_eq_true, decide_eq_true_eq, List.all_eq_true]
  refine ⟨by simp [PyData.showable], by rw [PyData.shown_str]; omega, by simp [PyData.depth], by rw [PyData.shown_str]; exact strOk_repr hp, hl, hp⟩
/-- a written value -/
theorem any_by {K : PySem.W.Frag} {H : Hp} {v : V} {d : PyData} {T : String} (dd : DD K H v d) (t : TyV H v d T) (g : goodE d = true) : AnyV K H v d := ⟨dd, g, T, t⟩
end L2.Cal
end

section
set_option maxRecDepth 100000
set_option maxHeartbeats 4000000
/-! drawn values where lambdas are made: the tables change -/
namespace L2.Cal
open PySem PySem.Spec PyProof.Rows L2 LamX
theorem ext_lst {K : PySem.W.Frag} {H H' : Hp} {a : Addr} {xs : List V} (e : ExtN H H') (q : SqL K H a xs) : SqL K H' a xs := by
  rcases q with (q | ⟨o, q⟩) | q
  · exact .inl (.inl (e _ _ q fun ps z => by cases z))
  · exact .inl (.inr ⟨o, e _ _ q fun ps z => by cases z⟩)
  · exact .inr q
theorem ext_tup {K : PySem.W.Frag} {H H' : Hp} {a : Addr} {xs : List V} (e : ExtN H H') (q : SqT K H a xs) : SqT K H' a xs := by
  rcases q with (q | ⟨o, q⟩) | q
  · exact .inl (.inl (e _ _ q fun ps z => by cases z))
  · exact .inl (.inr ⟨o, e _ _ q fun ps z => by cases z⟩)
  · exact .inr q
mutual
theorem dp_ext {K : PySem.W.Frag} {H H' : Hp} (e : ExtN H H') : ∀ (d : PyData) (v : V), Dp K H v d → Dp K H' v d
  | .none, _, h => by cases h; exact .non
  | .bool _, _, h => by cases h; exact .bl _
  | .int _, _, h => by cases h; exact .int _
  | .str _, _, h => by cases h; exact .str _
  | .dict _, _, h => by cases h
  | .list ds, _, h => by
    cases h with
    | lst q r => exact .lst (ext_lst e q) (dp_extAll e ds _ r)
  | .tuple ds, _, h => by
    cases h with
    | tup q r => exact .tup (ext_tup e q) (dp_extAll e ds _ r)
theorem dp_extAll {K : PySem.W.Frag} {H H' : Hp} (e : ExtN H H') : ∀ (ds : List PyData) (vs : List V), DpAll K H vs ds → DpAll K H' vs ds
  | [], _, h => by cases h; exact .nil
  | d :: ds, _, h => by
    cases h with
    | cons h r => exact .cons (dp_ext e d _ h) (dp_extAll e ds _ r)
end
theorem AnyV.ext {K : PySem.W.Frag} {H H' : Hp} {v : V} {d : PyData} (h : AnyV K H v d) (e : ExtN H H') : AnyV K H' v d := by
  obtain ⟨dd, g, T, t⟩ := h
  refine ⟨?_, g, T, ?_⟩
  · cases dd with
    | base q => exact .base (dp_ext e _ _ q)
    | dict0 q => exact .dict0 (e _ _ q fun ps z => by cases z)
    | dict1 q => exact .dict1 (e _ _ q fun ps z => by cases z)
  · cases t with
    | non => exact .non
    | bl b => exact .bl b
    | int i => exact .int i
    | str y => exact .str y
    | lst q => exact .lst (e _ _ q fun ps z => by cases z)
    | tup q => exact .tup (e _ _ q fun ps z => by cases z)
    | dct q => exact .dct (e _ _ q fun ps z => by cases z)
theorem AnyJ.now {K : PySem.W.Frag} {j : Addr} {H : Hp} {v : V} (h : AnyJ K j H v) : ∃ d, AnyV K H v d := h.imp fun _ a => a.same del_in
theorem AnyJ.kp {K : PySem.W.Frag} {j : Addr} {H H' : Hp} {v : V} (h : AnyJ K j H v) (k : ∀ b o, b ≠ j → H b = some o → H' b = some o) : AnyJ K j H' v := h.imp fun _ a => a.same (del_kp k)
end L2.Cal
end

section
set_option maxRecDepth 100000
set_option maxHeartbeats 4000000
set_option synthInstance.maxHeartbeats 400000
namespace L2.Cal
open PySem PySem.Spec PyProof.Rows L2 LamX
/-! ### a crowd that stays -/
structure CwAt (C Cr : Addr) (H : Hp) (c r p n : Addr) (z : Str) (ys : List Str) (ns : List Int) : Prop where
  cr : CrAt Cr H c r n ns.sum
  nf : NoF Cr H c
  rl : RollAt C H r p z
  lot : TupF.Frt H p (ys.map V.str)
  num : H n = some (.tup (ns.map V.int))
  ok : ∀ y, y ∈ ys → PyData.strOk y = true
theorem CwAt.to {C Cr : Addr} {H H' : Hp} {c r p n : Addr} {z : Str} {ys : List Str} {ns : List Int} (h : CwAt C Cr H c r p n z ys ns) (k : ∀ b o, (∀ xs, o ≠ .lst xs) → (∀ ps, o ≠ .tbl ps) → H b = some o → H' b = some o) : CwAt C Cr H' c r p n z ys ns := by
  obtain ⟨⟨d1, f1, h1, t1⟩, ⟨d2, f2, h2, t2⟩, ⟨d3, f3, h3, t3⟩, h4, h5, h6⟩ := h
  have ki : ∀ {b d e f}, H b = some (.ins e d f) → H' b = some (.ins e d f) := fun h => k _ _ (fun xs z => by cases z) (fun xs z => by cases z) h
  have kt : ∀ {b xs}, H b = some (.tup xs) → H' b = some (.tup xs) := fun h => k _ _ (fun xs z => by cases z) (fun xs z => by cases z) h
  exact ⟨⟨d1, f1, ki h1, t1⟩, ⟨d2, f2, ki h2, t2⟩, ⟨d3, f3, ki h3, t3⟩, h4.to k, kt h5, h6⟩
theorem CwAt.same {C Cr : Addr} {H H' : Hp} {c r p n : Addr} {z : Str} {ys : List Str} {ns : List Int} (h : CwAt C Cr H c r p n z ys ns) (s : Same H H') : CwAt C Cr H' c r p n z ys ns := h.to fun b o _ _ e => s b o e
theorem CwAt.ext {C Cr : Addr} {H H' : Hp} {c r p n : Addr} {z : Str} {ys : List Str} {ns : List Int} (h : CwAt C Cr H c r p n z ys ns) (s : ExtN H H') : CwAt C Cr H' c r p n z ys ns := h.to fun b o _ t e => s b o e t
theorem CwAt.kp {C Cr j : Addr} {H H' : Hp} {c r p n : Addr} {z : Str} {ys : List Str} {ns : List Int} (h : CwAt C Cr H c r p n z ys ns) (J : Jar H j) (s : Kp j H H') : CwAt C Cr H' c r p n z ys ns := h.to fun b o l _ e => s b o (off_jar J e l) e
/-- two crowds of one lot -/
theorem ceq_w {K : PySem.W.Frag} {C Cr : Addr} {H : Hp} {c r p n c2 r2 n2 : Addr} {z : Str} {ys : List Str} {ns : List Int} {Q : VK} {E : XK} (h : CwAt C Cr H c r p n z ys ns) (h2 : CwAt C Cr H c2 r2 p n2 z ys ns) (q : Q (.bl true) H) : spCEq K C Cr [.ref c, .ref c2] H Q E :=
  ⟨c, r, n, _, _, rfl, h.cr, .inl ⟨c2, r2, n2, p, p, _, z, z, ys, ys, ns, ns, rfl, h2.cr, h.rl, h2.rl, h.lot.sq, h.lot.sq, h.ok, h.ok, SqT.of h.num, SqT.of h2.num, by rw [decide_eq_true rfl, decide_eq_true rfl]; exact q⟩⟩
end L2.Cal
end

section
set_option maxRecDepth 100000
set_option maxHeartbeats 4000000
/-! a, b, c = a text; sets of texts from tuples and lists -/
namespace L2.Cal
open PySem PySem.Spec PyProof.Rows PySem.Froz L2
section
variable {prog : Program} {w : World} {A : Around} {E : Value → Shared → Prop}
theorem draw_walk {I : Addr} {fp wr : List Addr} {n : Nat} {P : Nat → Value → Prop} {St : Nat → Heap → Prop} (W : Walks prog w A I fp wr n P St) : ∀ (m i : Nat) (s : Shared) (Q : List Value → Shared → Prop), St i s.heap → i + m ≤ n →
    (∀ (vs : List Value) h' tk, vs.length = m → (∀ (j : Nat) v, vs[j]? = some v → P (i + j) v) → St (i + m) h' → (∀ b o, b ∉ wr → s.heap.get? b = some o → h'.get? b = some o) → Q vs { s with heap := h', toks := tk }) → wpAny (model prog w) A (draw (.ref I) m) Q E s
  | 0, i, s, Q, st, _, q => wpAny_pure (q [] s.heap s.toks rfl (fun j v h => by simp at h) st fun _ _ _ e => e)
  | m + 1, i, s, Q, st, hm, q => by
    show wpAny _ _ (pyNext (.ref I) >>= _) Q E s
    refine wpAny_bind (W.item i s _ _ (by omega) st fun v h1 t1 p st1 k1 => ?_)
    refine wpAny_bind (wpAny_holding (draw_walk W m (i + 1) _ _ st1 (by omega) fun vs h2 t2 l p2 st2 k2 => wpAny_pure ?_))
    refine q (v :: vs) h2 t2 (by rw [List.length_cons, l]) (fun j u e => ?_) (by rw [show i + (m + 1) = i + 1 + m by omega]; exact st2) fun b o n e => k2 b o n (k1 b o n e)
    cases j with
    | zero =>
      cases e
      exact p
    | succ j =>
      rw [show i + (j + 1) = i + 1 + j by omega]
      exact p2 j u e
theorem unpack_text {s : Shared} {x : Str} {t : Tok} {Q : List Value → Shared → Prop} (hh : A.handled = none)
    (q : ∀ vs h' tk, StrsAre vs (signs x) → (∀ b o, s.heap.get? b = some o → h'.get? b = some o) → Q vs { s with heap := h', toks := tk }) : wpAny (model prog w) A (unpackItems (.str x t) x.cps.size none) Q E s := by
  unfold unpackItems
  refine wpAny_bind ?_
  unfold notIterableAtAll
  refine wpAny_bind (wpAny_specialOf (typeIs_str s x t) F.slot_str_iter.lookup ?_)
  refine wpAny_pure ?_
  simp only [Bool.false_eq_true, if_false]
  have go : ∀ (ty : String) (W : Walks prog w A s.heap.objs.size [s.heap.objs.size] [s.heap.objs.size] x.cps.size (SignAt x) (fun i h => h.IsStrIter s.heap.objs.size ty x t i)),
      wpAny (model prog w) A (do
        let items ← holding [.ref s.heap.objs.size] (draw (.ref s.heap.objs.size) x.cps.size)
        if items.length < x.cps.size then
          rule "unpack.too-few"; raiseError "ValueError" s!"not enough values to unpack (expected {x.cps.size}, got {items.length})"
        if (← holding items (pyNext (.ref s.heap.objs.size))).isSome then
          rule "unpack.too-many"; raiseError "ValueError" s!"too many values to unpack (expected {x.cps.size})"
        return items) Q E { s with heap := s.heap.push { cls := .type ty, data := .fields #[.str x t, .int 0 0] } } := fun ty W => by
    refine wpAny_bind (wpAny_holding (draw_walk W x.cps.size 0 _ _ ⟨_, Heap.get?_push_size _ rfl, rfl, rfl⟩ (by omega) fun vs h1 t1 l p st k => ?_))
    rw [if_neg (by omega)]
    rw [Nat.zero_add] at st
    refine wpAny_bind (wpAny_holding (W.done _ _ _ st fun h2 t2 k2 => ?_))
    simp only [Option.isSome_none, Bool.false_eq_true, if_false]
    have are : StrsAre vs (signs x) := by
      have z : vs.map txtOf = signs x := by
        apply List.ext_getElem?
        intro i
        unfold signs
        rw [List.getElem?_map, List.getElem?_map, Array.getElem?_toList (xs := x.cps)]
        cases e : vs[i]? with
        | none =>
          rw [List.getElem?_eq_none_iff, l] at e
          rw [Array.getElem?_eq_none_iff.mpr e] <;> rfl
        | some v =>
          obtain ⟨c, u, hc, rfl⟩ := p i v e
          rw [Nat.zero_add] at hc
          rw [hc] <;> rfl
      rw [← z]
      refine are_of _ fun v hv => ?_
      obtain ⟨i, hi, e⟩ := List.getElem_of_mem hv
      obtain ⟨c, u, _, z⟩ := p i v (by rw [List.getElem?_eq_getElem hi, e])
      exact ⟨_, u, z⟩
    refine wpAny_pure (q vs h2 t2 are fun b o e => ?_)
    have nb : b ∉ [s.heap.objs.size] := fun z => Nat.ne_of_lt (Heap.lt_size e) (List.mem_singleton.mp z)
    exact k2 b o nb (k b o nb (Heap.get?_push_of_some _ e))
  cases ha : x.cps.all (· < 128) with
  | true => exact wpAny_bind (wpAny_holding (wpAny_pyIter_ascii ha (go _ (Walks.strAscii hh _ x t))))
  | false => exact wpAny_bind (wpAny_holding (wpAny_pyIter_wide ha (go _ (Walks.strWide hh _ x t))))
end
section
variable {X : Cx} {pos : Pos}
/-- a, b, .. = a text of that length -/
def gTxt (n : Nat) (t : TGs) : TG := fun v σ H Q => ∃ x, v = .str x ∧ x.cps.size = n ∧ t ((signs x).map V.str) σ H Q
theorem pg_txt {es : List Expr} {k : Nat} {t : TGs} {n : Nat} (hc : X.calm = true) (h : PGs X es t)
    (hn : (assignEach es X.env).length = n := by rfl) (hst : (assignEach es X.env).findIdx? (·.1) = none := by rfl) : PG X (.Tuple es k pos) (gTxt n t) := by
  refine ⟨fun pins s σ H v u Q I r hw => ?_⟩
  obtain ⟨x, rfl, hl, hw⟩ := hw
  obtain ⟨tk, rfl⟩ := r
  rw [assign_Tuple]
  refine wpAny_bind (wpAny_standAt ?_)
  unfold unpack
  rw [hn, hst, ← hl]
  refine wpAny_bind (wpAny_holding (unpack_text (I.ok.hd hc) fun vs h' tk' are kk => ?_))
  exact h.run pins _ σ H _ _ Q (I.kept kk) (vals_of_strs are) hw
end
section
variable {P : Program} {w : World} {A : Around} {E : Value → Shared → Prop} {s : Shared}
/-- set(xs), xs a tuple of texts -/
theorem set_tup {b : Addr} {items : Array Value} {ss : List Str} {Q : Value → Shared → Prop} (hh : A.handled = none) (at_ : s.heap.IsTuple b items) (are : StrsAre items.toList ss) (few : ss.length + 1 < scanBound)
    (q : ∀ (h' : Heap) (tk : Nat) (D : SD) (l : List Str), (∀ b o, s.heap.get? b = some o → h'.get? b = some o) → h'.get? s.heap.objs.size = some (sObj "set" D) → Has P w D l → (∀ x, x ∈ l ↔ x ∈ ss) → Q (.ref s.heap.objs.size) { s with heap := h', toks := tk }) :
    wpAny (model P w) A (call (.type "set") [.ref b]) Q E s := by
  refine fresh_set (mem := fun x => x ∈ ss) (fun A' E' Q' hA k => ?_) q
  have h2 : A'.handled = none := hA.trans hh
  obtain ⟨ol, hol, hcl, nl, hdl⟩ := at_
  have lt : b < s.heap.objs.size := Heap.lt_size hol
  obtain ⟨ocls, odict, odata, oslots⟩ := ol
  simp only at hcl hdl
  subst hcl; subst hdl
  have there : (s.heap.push (sObj "set" (#[], 0, .fresh 0 0 (!w.params.followText "set-order")))).get? b = some { cls := .type "tuple", dict := odict, data := .seq items nl, slots := oslots } := Heap.get?_push_of_some _ hol
  have no1 := PySem.F.sub_tuple_set
  have no2 := PySem.F.sub_tuple_frozenset
  have no3 : (Value.type "tuple" == Value.type "dict") = false := by decide
  have isl : (s.heap.push (sObj "set" (#[], 0, .fresh 0 0 (!w.params.followText "set-order")))).IsTuple b items := ⟨_, there, rfl, nl, rfl⟩
  unfold Builtin.Frozenset.updateFrom
  generalize hI : pyIter = it
  wp_walk
  subst hI
  refine wpAny_pyIter_tuple isl (wpAny_bind (wpAny_runValue ?_))
  have sz : (s.heap.push (sObj "set" (#[], 0, .fresh 0 0 (!w.params.followText "set-order")))).objs.size = s.heap.objs.size + 1 := Heap.size_push ..
  have off : b ≠ (s.heap.push (sObj "set" (#[], 0, .fresh 0 0 (!w.params.followText "set-order")))).objs.size := by rw [sz]; exact Nat.ne_of_lt (Nat.lt_succ_of_lt lt)
  have n : items.size = ss.length := by rw [← Array.length_toList]; exact are_length are
  refine fill (s := s) (T := "set") (val := fun i => ss.getD i ⟨#[]⟩) (Walks.tuple (by simp [h2]) _ b off items) (S := s.heap.objs.size) ?_ (fun i v hv => ?_) (by omega) (fun h' tk D l keep at1 H mem => wpAny_pure (k h' tk D l (fun c o z => keep c o (Nat.ne_of_lt (Heap.lt_size z)) (fun m => ?_) z) at1 H fun x => (mem x).trans ?_))
    (items.size - 0) 0 _ _ _ [] rfl (Nat.zero_le _) ⟨⟨_, Heap.get?_push_size _ rfl, rfl, rfl⟩, isl.push _⟩ (fun c o _ _ z => Heap.get?_push_of_some _ (Heap.get?_push_of_some _ z)) (Heap.get?_push_of_some _ (Heap.get?_push_size _ rfl)) (Has.none 0) (fun x => by simp) (Nat.zero_le _)
  · rw [sz]
    intro z
    rcases List.mem_cons.mp z with z | z
    · exact absurd z (Nat.ne_of_lt (Nat.lt_succ_self _))
    · exact absurd (List.mem_singleton.mp z) (Nat.ne_of_gt lt)
  · exact are_at are i v (by rw [Array.getElem?_toList]; exact hv)
  · rw [List.mem_singleton.mp m, sz] at z
    exact absurd (Heap.lt_size z) (Nat.not_lt.mpr (Nat.le_succ _))
  · rw [n]
    constructor
    · rintro ⟨j, hj, e⟩
      rw [List.getD_eq_getElem?_getD, List.getElem?_eq_getElem hj] at e
      exact e ▸ List.getElem_mem hj
    · intro hx
      obtain ⟨j, hj, e⟩ := List.getElem_of_mem hx
      exact ⟨j, hj, by rw [List.getD_eq_getElem?_getD, List.getElem?_eq_getElem hj]; exact e⟩
end
section
variable {X : Cx}
/-- sorted(set(xs)), xs a tuple of texts -/
def tSortedSetT (K : PySem.W.Frag) (ta : TE) : TE := fun σ H Q => ta σ H fun x H1 => ∃ (l : Addr) (xs : List Str), x = V.ref l ∧ SqT K H1 l (xs.map V.str) ∧ xs.length < 64 ∧
  ∀ (ys : List Str) (p : Addr), Climbs ys → ys.Nodup → (∀ x, x ∈ ys ↔ x ∈ xs) → H1 p = none → Q (.ref p) (upd H1 p (.lst (ys.map V.str)))
theorem pe_sortedSetT {a : Expr} {ta : TE} {p p2 q pos : Pos} (hc : X.calm = true) (hg : Gl X "sorted") (hm : X.mg "sorted" = none) (hg2 : Gl X "set") (hm2 : X.mg "set" = none) (ha : PE X a ta)
    (na : starEach [a] X.env = (false, eval a X.env) :: starEach [] X.env := by rfl) : PE X (.Call (.Name "sorted" p) [.Call (.Name "set" p2) [a] [] q] [] pos) (tSortedSetT X.K ta) := by
  refine ⟨fun pins s σ H Q I h => Call_ (ld_blt I hg hm PyProof.Rows.boot_sorted (PyProof.Rows.callWith_builtin1 (PyProof.Rows.args_cons ?_ rfl) rfl rfl))⟩
  refine Call_ (ld_blt I hg2 hm2 PyProof.Rows.boot_set (PyProof.Rows.callWith_type1 (PyProof.Rows.args_cons (thn (ha.run pins s σ H _ I h) fun v s1 ⟨x, H1, I1, r1, q1⟩ => PyProof.Rows.args_nil ?_) na) na rfl))
  obtain ⟨l, xs, rfl, hq, few, fin⟩ := q1
  cases r1
  obtain ⟨its, r, pl, _⟩ := I1.tuple hq
  refine set_tup (I1.ok.hd hc) pl (by simpa using r.strs) (by unfold scanBound; omega) fun h' tk D L k1 at1 S mem => PyProof.Rows.args_nil ?_
  have I2 : Inv X pins σ H1 { s1 with heap := h', toks := tk } := I1.kept k1
  have short : L.length < 64 := Nat.lt_of_le_of_lt (List.Nodup.length_le_of_subset S.one fun x hx => (mem x).mp hx) few
  refine sort_set (I2.ok.hd hc) at1 S short fun s' b out c ys k g o z at2 are pm cl => ?_
  obtain ⟨J, n⟩ := inv_list I2 k g o z at2 are (by rw [pm.length_eq]; exact short)
  exact ⟨.ref b, _, J, rfl, fin ys b cl (pm.nodup_iff.mpr S.one) (fun x => pm.mem_iff.trans (mem x)) n⟩
/-- len(set(xs)), xs a list of texts -/
def tLenSetL (K : PySem.W.Frag) (ta : TE) : TE := fun σ H Q => ta σ H fun x H1 => ∃ (l : Addr) (xs : List Str), x = V.ref l ∧ SqL K H1 l (xs.map V.str) ∧ xs.length < 64 ∧ ∀ ys : List Str, ys.Nodup → (∀ x, x ∈ ys ↔ x ∈ xs) → Q (.int ys.length) H1
theorem pe_lenSetL {a : Expr} {ta : TE} {p p2 q pos : Pos} (hc : X.calm = true) (hg : Gl X "len") (hm : X.mg "len" = none) (hg2 : Gl X "set") (hm2 : X.mg "set" = none) (ha : PE X a ta)
    (na : starEach [a] X.env = (false, eval a X.env) :: starEach [] X.env := by rfl) : PE X (.Call (.Name "len" p) [.Call (.Name "set" p2) [a] [] q] [] pos) (tLenSetL X.K ta) := by
  refine ⟨fun pins s σ H Q I h => Call_ (ld_blt I hg hm PySem.boot_len (PyProof.Rows.callWith_builtin1 (PyProof.Rows.args_cons ?_ rfl) rfl rfl))⟩
  refine Call_ (ld_blt I hg2 hm2 PyProof.Rows.boot_set (PyProof.Rows.callWith_type1 (PyProof.Rows.args_cons (thn (ha.run pins s σ H _ I h) fun v s1 ⟨x, H1, I1, r1, q1⟩ => PyProof.Rows.args_nil ?_) na) na rfl))
  obtain ⟨l, xs, rfl, hq, few, fin⟩ := q1
  cases r1
  obtain ⟨its, r, pl, _⟩ := I1.list hq
  refine set_list (I1.ok.hd hc) pl.isList (by simpa using r.strs) (by unfold scanBound; omega) fun h' tk D L k1 at1 S mem => PyProof.Rows.args_nil ?_
  have I2 : Inv X pins σ H1 { s1 with heap := h', toks := tk } := I1.kept k1
  have short : D.1.size = L.length := S.ok.sz
  have le : L.length ≤ xs.length := List.Nodup.length_le_of_subset S.one fun x hx => (mem x).mp hx
  refine call_len_set at1 ⟨rfl, rfl, rfl⟩ rfl S.ok.fit (by rw [short] <;> omega) ⟨.int L.length, H1, I2.tok _, ⟨_, by rw [short]⟩, fin L S.one mem⟩
end
end L2.Cal
end

section
set_option maxRecDepth 100000
set_option maxHeartbeats 4000000
/-! a list or tuple gathered; the heap grows -/
namespace CpComb
open PySem PySem.Spec
section
variable {prog : Program} {w : World} {A : Around} {E : Value → Shared → Prop} {s : Shared}
theorem collect_seq {Q : List Value → Shared → Prop} (it : Addr) {T : String} {o : Obj} {items : Array Value} {n : Nat} (hT : T = "list" ∨ T = "tuple") (ho : s.heap.get? it = some o) (hc : o.cls = .type T) (hd : o.data = .seq items n) (hsz : items.size ≤ sizeLine)
    (q : ∀ h' : Heap, s.heap.objs.size ≤ h'.objs.size → (∀ b o', s.heap.get? b = some o' → h'.get? b = some o') → Q items.toList { s with heap := h' }) : wpAny (model prog w) A (collect (.ref it)) Q E s := by
  have key : ∀ Q0 : Value → Shared → Prop, (∀ h' : Heap, (∀ b o', s.heap.get? b = some o' → h'.get? b = some o') → (∃ c', h'.get? s.heap.objs.size = some { cls := .type "list", data := .seq items c' }) → Q0 (.ref s.heap.objs.size) { s with heap := h' }) →
      wpAny (model prog w) A (runValue (Code.builtin "proto.collect" { pos := [.ref it] })) Q0 E s := fun Q0 q0 => by
    refine wpAny_runValue (codeAny_builtin F.entry_proto_collect ?_)
    rw [Around.under_plainId F.plain_proto_collect { pos := [.ref it] }]
    show wpAny _ _ (newList [] >>= _) _ _ _
    refine wpAny_bind (wpAny_newList ?_)
    refine wpAny_pure ⟨plainId_quiet F.plain_list_iadd _, codeAny_builtin F.entry_list_iadd ?_⟩
    rw [Around.under_plainId F.plain_list_iadd]
    show wpAny _ _ (Builtin.List.listExtendWith (.ref s.heap.objs.size) (.ref it) (.ref s.heap.objs.size)) _ _ _
    have hS : (s.heap.push { cls := .type "list", data := .seq ([] : List Value).toArray }).get? s.heap.objs.size = some { cls := .type "list", data := .seq #[] 0 } := Heap.get?_push_size _ rfl
    have hS2 := Heap.get?_update_self (Obj.mapSeq (· ++ items)) hS rfl
    refine wpAny_extend_seq (hsz := hsz) (R := fun r s' => match r with | .ok (.ret v) => Q0 v s' | .ok _ => False | .error e => E e s') (s := { s with heap := s.heap.push { cls := .type "list", data := .seq ([] : List Value).toArray } }) _ it _ 0 hT hS (Heap.get?_push_of_some _ ho) hc hd ?_
    refine q0 _ (fun b o' hb => (Heap.get?_update_other _ _ (Nat.ne_of_gt (Heap.lt_size hb))).trans (Heap.get?_push_of_some _ hb)) ?_
    have sh : ∃ c', Obj.mapSeq (· ++ items) { cls := .type "list", data := .seq #[] 0 } = { cls := .type "list", data := .seq items c' } := by
      unfold Obj.mapSeq
      dsimp only
      rw [Array.empty_append]
      exact ⟨_, rfl⟩
    obtain ⟨c', e⟩ := sh
    exact ⟨c', hS2.trans (congrArg some e)⟩
  unfold collect
  refine wpAny_bind (key _ fun h' k1 ⟨c', k2⟩ => wpAny_bind (wpAny_load k2 (wpAny_pure (q h' (Nat.le_of_lt (Heap.lt_size k2)) k1))))
end
end CpComb
end

section
set_option maxRecDepth 100000
set_option maxHeartbeats 4000000
/-! sorted(a tuple of texts); x not in o; one order of texts alone -/
namespace L2.Cal
open PySem PySem.Spec PyProof.Rows PySem.Froz L2
theorem below_lt {a b : Str} : Below a b ↔ a.cps.toList < b.cps.toList := by
  unfold Below
  rw [ltCps_eq, decide_eq_true_iff]
theorem below_trans {a b c : Str} (h : Below a b) (k : Below b c) : Below a c := below_lt.mpr (List.lt_trans (below_lt.mp h) (below_lt.mp k))
theorem below_irr {a : Str} (h : Below a a) : False := List.lt_irrefl _ (below_lt.mp h)
theorem climbs_all : ∀ {ys : List Str}, Climbs ys → ys.Pairwise Below
  | [], _ => .nil
  | [_], _ => List.pairwise_singleton _ _
  | a :: b :: r, h => by
    have ih := climbs_all (ys := b :: r) h.2
    refine List.Pairwise.cons (fun x hx => ?_) ih
    rcases List.mem_cons.mp hx with e | hx
    · exact e ▸ h.1
    · exact below_trans h.1 ((List.pairwise_cons.mp ih).1 x hx)
theorem climbs_of : ∀ {ys : List Str}, ys.Pairwise Below → Climbs ys
  | [], _ => trivial
  | [_], _ => trivial
  | a :: b :: r, h => ⟨(List.pairwise_cons.mp h).1 b List.mem_cons_self, climbs_of (List.pairwise_cons.mp h).2⟩
theorem climbs_nodup {ys : List Str} (h : Climbs ys) : ys.Nodup := by
  refine List.Pairwise.imp (R := Below) (fun {a b} k => ?_) (climbs_all h)
  intro e
  subst e
  exact below_irr k
theorem only_order : ∀ {xs ys : List Str}, xs.Pairwise Below → ys.Pairwise Below → (∀ z, z ∈ xs ↔ z ∈ ys) → xs = ys
  | [], [], _, _, _ => rfl
  | [], y :: ys, _, _, m => absurd ((m y).mpr List.mem_cons_self) (by simp)
  | x :: xs, [], _, _, m => absurd ((m x).mp List.mem_cons_self) (by simp)
  | x :: xs, y :: ys, hx, hy, m => by
    obtain ⟨h1, h2⟩ := List.pairwise_cons.mp hx
    obtain ⟨k1, k2⟩ := List.pairwise_cons.mp hy
    have e : x = y := by
      rcases List.mem_cons.mp ((m x).mp List.mem_cons_self) with e | h
      · exact e
      rcases List.mem_cons.mp ((m y).mpr List.mem_cons_self) with e | k
      · exact e.symm
      exact (below_irr (below_trans (h1 y k) (k1 x h))).elim
    subst e
    rw [only_order h2 k2 fun z => ⟨fun h => ?_, fun h => ?_⟩]
    · rcases List.mem_cons.mp ((m z).mp (List.mem_cons_of_mem _ h)) with e | k
      · exact (below_irr (e ▸ h1 z h)).elim
      · exact k
    · rcases List.mem_cons.mp ((m z).mpr (List.mem_cons_of_mem _ h)) with e | k
      · exact (below_irr (e ▸ k1 z h)).elim
      · exact k
theorem climbs_only {xs ys : List Str} (hx : Climbs xs) (hy : Climbs ys) (m : ∀ z, z ∈ xs ↔ z ∈ ys) : xs = ys := only_order (climbs_all hx) (climbs_all hy) m
theorem climbs_filter {ys : List Str} (p : Str → Bool) (h : Climbs ys) : Climbs (ys.filter p) := climbs_of ((climbs_all h).filter p)
section
variable {X : Cx} {CX : CXT} {k : Nat} {C f : Addr} {fd : FuncData} {ps : List Str} {sp : Sp} {E : XK}
/-- x not in o -/
def rNotInO (C : Addr) (sp : Sp) (E : XK) : V → V → Hp → VK → Prop := fun x y H Q => ∃ (a dx : Addr) (fs : List (Str × V)), y = .ref a ∧ H a = some (.ins C dx fs) ∧ sp [.ref a, x] H (fun v H' => ∃ b : Bool, v = .bl b ∧ Q (.bl (!b)) H') E
theorem op_notInO (o : Own X.K C "__contains__" f) (F : FnOk X.prog X.w X.K X.mg X.base CX k f fd ps sp) (hr : Room k X.A) (hb : Binds X.K fd ps []) (hx : Passes CX X.nox E) : OpR X (compareOp .NotIn) (rNotInO C sp E) := by
  rintro pins s σ H x _ v u Q I rx ry ⟨a, dx, fs, rfl, ea, h⟩
  cases ry
  obtain ⟨ox, od, J⟩ := ins_at I ea
  refine wpAny_bind (m := contains _ _) ?_
  unfold contains
  refine wpAny_holding (wpAny_bind (wpAny_bind (J.type.here ((PySem.W.looks_findIn I.kIn o.at_).here ?_))))
  rw [if_neg (by simp)]
  refine wpAny_bind (PySem.W.unlessNone_K I.kIn J o.at_ o.isFn (wpAny_mono (run_at (vs := [.ref a, x]) I.env0 hr I F hb (.cons rfl (.cons rx .nil)) hx h) (fun u s' hq => ?_) fun _ _ z => z))
  obtain ⟨v', H', I', rv, b, rfl, q⟩ := hq
  cases rv
  exact wpAny_pure (wpAny_pure ⟨.bl (!b), H', I', rfl, q⟩)
/-- sorted(t), t a tuple of texts -/
def rSortedT (K : PySem.W.Frag) : List V → Hp → VK → Prop := fun vs H Q => ∃ (a : Addr) (xs : List Str), vs = [.ref a] ∧ SqT K H a (xs.map V.str) ∧ xs.length < 64 ∧
  ∀ (ys : List Str) (p : Addr), ys.Perm xs → sortedS ys = true → H p = none → Q (.ref p) (upd H p (.lst (ys.map V.str)))
theorem cr_sortedT : CallR X (.builtin "sorted") (rSortedT X.K) := by
  rintro pins s σ H vs us Q I r ⟨a, xs, rfl, hs, few, q⟩
  rw [Vals.ref1 r]
  obtain ⟨its, rv, ⟨o, ho, hc, n, hd⟩, hl⟩ := I.tuple hs
  have len := rv.length
  rw [List.length_map] at len
  refine sort_texts (good := fun s1 ss => ss = xs ∧ (∀ b o, s.heap.get? b = some o → s1.heap.get? b = some o) ∧ s1.gens = s.gens ∧ s1.drawn = s.drawn ∧ s1.os = s.os ∧ s1.toks = s.toks ∧ s.heap.objs.size ≤ s1.heap.objs.size) (fun s1 ss h => by rw [h.1]; exact few) (fun E' Q' k => ?_)
    fun s1 s' out c ys ss ⟨e, k1, g1, d1, o1, t1, z1⟩ k g o at1 are pm so => ?_
  · refine CpComb.collect_seq a (T := "tuple") (.inr rfl) ho hc hd (by rw [List.size_toArray, ← len, sizeLine_eq]; omega) fun h' z kk => ?_
    exact k { s with heap := h' } _ xs ⟨rfl, kk, rfl, rfl, rfl, rfl, z⟩ (by simpa using rv.strs)
  · subst e
    have I1 : Inv X pins σ H s1 := by
      have z : s1 = { s with heap := s1.heap, toks := s1.toks } := by
        cases s1
        cases s
        cases g1
        cases d1
        cases o1
        rfl
      rw [z]
      exact I.kept k1
    obtain ⟨J, n⟩ := inv_list I1 k g o (Nat.le_refl _) at1 are (by rw [pm.length_eq]; exact few)
    exact ⟨.ref _, _, J, rfl, q ys _ pm so n⟩
end
end L2.Cal
end

section
set_option maxRecDepth 100000
set_option maxHeartbeats 4000000
/-! own error classes: under a base class of the program, with __init__ that says super().__init__(text) and self.f = f -/
namespace L2.Cal
open PySem PySem.W PySem.Calls PyProof.Rows
open Builtin Builtin.ObjectAttr
section
variable {prog : Program} {w : World} {A : Around} {E : Value → Shared → Prop} {R : Result → Shared → Prop} {hp : Heap} {g : Array GenState} {d : Drawn} {t : Nat} {os : OsState}
/-- `e.f = v` on a fresh error of an own class: its dict comes into being -/
theorem err_put {K : Frag} {B : String} {bmB : List Value} {f : Str} {tk : Tok} {v : Value} {e C t0 : Addr} (SF : StoreFacts B bmB "object.__setattr__" "object") (X : K.In hp) (he : hp.get? e = some (excObj C t0 none .none)) (over : excOver K C bmB = true) (hd : hasDictIn K C = true) (ha : findIn K (.ref C) f = some none)
    (done : ∀ h' tk' dx, (∀ b o, b ≠ e → hp.get? b = some o → h'.get? b = some o) → hp.get? dx = none → dx ≠ e → h'.get? e = some (excObj C t0 (some dx) .none) → h'.Ns1 dx (fun y => if y = f then some v else none) → R (.ok (.ret .none)) ⟨h', g, d, tk', os⟩) :
    codeAny (model prog w) A (.call (.builtin "object.__setattr__") ⟨[.ref e, .str f tk, v], []⟩) R ⟨hp, g, d, t, os⟩ := by
  have no : takerIn K C f = some none := by unfold takerIn; rw [ha]; rfl
  have away : hp.objs.size ≠ e := fun z => Nat.lt_irrefl _ (z ▸ Heap.lt_size he)
  refine osa_openX (od := none) SF X ⟨he, rfl, rfl, trivial⟩ over no fun _ => ?_
  obtain ⟨cd, hc, hdd⟩ := any_some hd
  refine wpAny_bind (wpAny_pure (wpAny_bind (instanceDict_exc he (looks_clsIn X hc) hdd ?_)))
  have kept : ∀ b o, b ≠ e → hp.get? b = some o → ((hp.push (dictOf [] 0)).update e fun o => { o with dict := some hp.objs.size }).get? b = some o := fun b o n z => (Heap.get?_update_ne _ _ _ _ n).trans (Heap.get?_push_of_some _ z)
  have fresh : hp.get? hp.objs.size = none := by
    cases z : hp.get? hp.objs.size with
    | none => rfl
    | some o => exact absurd (Heap.lt_size z) (Nat.lt_irrefl _)
  have dct : ((hp.push (dictOf [] 0)).update e fun o => { o with dict := some hp.objs.size }).get? hp.objs.size = some (dictOf [] 0) := (Heap.get?_update_ne _ _ _ _ away).trans (Heap.get?_push_at rfl rfl)
  have self : ((hp.push (dictOf [] 0)).update e fun o => { o with dict := some hp.objs.size }).get? e = some (excObj C t0 (some hp.objs.size) .none) := Heap.get?_update_self _ (Heap.get?_push_of_some _ he) rfl
  refine HandSPX.store_in_new ⟨_, #[], 0, dct, rfl, fun _ z => by simp at z, fun _ => rfl⟩ fun h' tk' n1 sb => ?_
  refine done h' tk' hp.objs.size (fun b o n z => ?_) fresh away ((sb.2 e away.symm).trans self) n1
  have : b ≠ hp.objs.size := fun q => by rw [q, fresh] at z; cases z
  exact (sb.2 b this).trans (kept b o n z)
end

/-- what is asked of a built-in base: ValueError, LookupError, ArithmeticError -/
structure BaseF (B newId initId : String) (bmB : List Value) : Prop where
  FB : ExcBaseFacts B newId initId bmB
  kx : KxsFacts B initId
  st : StoreFacts B bmB "object.__setattr__" "object"
theorem baseV : BaseF "ValueError" "ValueError.__new__" "ValueError.__init__" [.type "ValueError", .type "Exception", .type "BaseException", .type "object"] := ⟨F.excBase_ValueError, kxs_ValueError, PySem.F.store_ValueError⟩
theorem baseL : BaseF "LookupError" "LookupError.__new__" "LookupError.__init__" [.type "LookupError", .type "Exception", .type "BaseException", .type "object"] := ⟨F.excBase_LookupError, kxs_LookupError, PySem.F.store_LookupError⟩
theorem baseA : BaseF "ArithmeticError" "ArithmeticError.__new__" "ArithmeticError.__init__" [.type "ArithmeticError", .type "Exception", .type "BaseException", .type "object"] := ⟨F.excBase_ArithmeticError, kxs_ArithmeticError, PySem.F.store_ArithmeticError⟩


/-- what the written part says of an own error class -/
structure ErrC (K : Frag) (C : Addr) (B newId initId : String) (bmB : List Value) : Prop where
  bf : BaseF B newId initId bmB
  cls : ∃ nm q N bs bm sn sub ab col dd k0 k1 k2 k3 k5, K.lookup C = some (excClassObj nm q C N bs bm true sn sub ab col dd k0 k1 k2 k3 k5 newId) ∧ excTail bmB bm = true
  sa : findIn K (.ref C) "__setattr__" = some (some (.builtin "object.__setattr__"))
  kC : keepIn K (.ref C) = true
  ga : findIn K (.ref C) "__getattribute__" = some (some (.builtin "BaseException.__getattribute__"))
  gg : findIn K (.ref C) "__getattr__" = some none
  exC : subIn K (.ref C) (.type "BaseException") = some true
  tyC : typeIn K (.ref C) = some (.type "type")
  dcl : findIn K (.ref C) "__class__" = some (some (.builtin "object.__class__"))
  dget : specialIn K (.builtin "object.__class__") "__get__" = some (some (.builtin "getset_descriptor.__get__"))
  dtk : takesIn K (.builtin "object.__class__") = some true
  mobj : mroIn K C (.type "object") = some true
  opq : nsIn K cStatics "thirdparty.any" = some none
theorem ErrC.cd {K : Frag} {C : Addr} {B newId initId : String} {bmB : List Value} (T : ErrC K C B newId initId bmB) : ∃ cd bm, clsIn K C = some cd ∧ cd.mro = .ref C :: bm ∧ excTail bmB bm = true ∧ cd.hasDict = true := by
  obtain ⟨nm, q, N, bs, bm, sn, sub, ab, col, dd, k0, k1, k2, k3, k5, hC, hbm⟩ := T.cls
  exact ⟨{ name := nm, bases := bs, mro := .ref C :: bm, ns := N, qualname := q, hasDict := true, slotNames := sn, subclasses := sub, abstract := ab, collection := col, hasDel := false }, bm, by unfold clsIn; rw [hC] <;> rfl, rfl, hbm, rfl⟩
theorem ErrC.has {K : Frag} {C : Addr} {B newId initId : String} {bmB : List Value} (T : ErrC K C B newId initId bmB) {X : String} (h : bmB.contains (.type X) = true) : mroIn K C (.type X) = some true := by
  obtain ⟨cd, bm, hcd, hm, hbm, _⟩ := T.cd
  unfold mroIn
  rw [hcd, Option.bind_some, hm, if_neg (by simp), List.contains_cons, excTail_contains X bm hbm, h, Bool.or_true]

/-- the body of such an __init__ -/
abbrev initBody (txt n f : Str) (j : Nat) (p0 p1 p2 p3 p4 p5 p6 p7 p8 p9 : Pos) : List Stmt :=
  [.Expr (.Call (.Attribute (.Call (.Name "super" p0) [] [] p1) "__init__" p2) [.Constant (.str txt) j p3] [] p4) p5, .Assign [.Attribute (.Name "self" p6) f p7] (.Name n p8) p9]
section
variable {prog : Program} {w : World} {A : Around} {E : Value → Shared → Prop} {R : Result → Shared → Prop} {hp : Heap} {g : Array GenState} {d : Drawn} {t : Nat} {os : OsState} {K : Frag} {C : Addr} {B newId initId : String} {bmB : List Value}
theorem init_run {txt n f : Str} {j : Nat} {p0 p1 p2 p3 p4 p5 p6 p7 p8 p9 : Pos} {qual : Str} {params : Arguments} {scope : Scope} {kV doc pm ct oc ccl cl v : Value} {an od cdd cld : Option Addr} {osl ccs csl : Array (Option Value)} {fI cc cda e t0 : Addr}
    {vs : Array Value} {file : Str} {tf : Tok} {ar : Arg} {args : Args} {mg mb : Str → Option Value}
    (T : ErrC K C B newId initId bmB) (X : K.In hp) (hlim : hp.NoLimit) (hmg : hp.Ns mainGlobals mg) (hmb : hp.Ns builtinsNs mb) (hsb : mb "super" = some (.type "super")) (hsg : mg "super" = none)
    (hf : K.lookup fI = some ⟨oc, od, .func (ksFn "__init__" qual params (initBody txt n f j p0 p1 p2 p3 p4 p5 p6 p7 p8 p9) scope .none kV doc pm an (.ref cda) ct cc), osl⟩) (hcd : codeIn K (.ref cda) qual = true)
    (hcode : K.lookup cda = some ⟨ccl, cdd, .fields vs, ccs⟩) (hvs : vs[2]? = some (.str file tf)) (hfile : ((prog.main.file : Str) == file) = true) (hcell : K.lookup cc = some ⟨cl, cld, .cell (some (.ref C)), csl⟩)
    (htop : (prog.main.scope.names.lookup ("super" : Str)).isSome = false) (hpar : (params.posonlyargs ++ params.args).head? = some ar) (har : ar.arg = ("self" : Str))
    (hks : scope.names.lookup ("super" : Str) = some .globalImplicit) (hkc : scope.names.lookup ("__class__" : Str) = some .free) (hka : scope.names.lookup ("self" : Str) = some .local) (hkn : scope.names.lookup n = some .local) (hns : ¬ n = ("self" : Str)) (hnd : (n == ("__debug__" : Str)) = false)
    (hk : scope.kind = .function) (hnc : ∀ x ∈ scope.names, x.2 ≠ .cell) (hco : scope.isCoroutine = false) (hgen : scope.isGenerator = false)
    (hfo : findIn K (.ref C) f = some none) (hroom : A.depth < recursionLimit) (heK : K.lookup e = none) (he : hp.get? e = some (excObj C t0 none .none))
    (hbind : BindsTo ⟨hp, g, d, t, os⟩ (ksFn "__init__" qual params (initBody txt n f j p0 p1 p2 p3 p4 p5 p6 p7 p8 p9) scope .none kV doc pm an (.ref cda) ct cc) args [("self", .ref e), (n, v)])
    {pl : Env → Sem Bool} (hev : ∀ env : Env, eval (.Call (.Attribute (.Call (.Name "super" p0) [] [] p1) "__init__" p2) [.Constant (.str txt) j p3] [] p4) env = (do
      let ov ← attributeBase (.Call (.Name "super" p0) [] [] p1) "__init__" env (eval (.Call (.Name "super" p0) [] [] p1) env)
      standAt p2.atName
      let (f, first) ← holding [ov] (getMethod ov "__init__" (pl env))
      callWith p4 f first (backTo p4 (starEach [.Constant (.str txt) j p3] env)) []))
    (hsup : ks_superIn K C C "__init__" = some (some (.builtin initId)))
    (hq : ∀ h' tk' dx t1, (∀ b o, b ≠ e → hp.get? b = some o → h'.get? b = some o) → hp.get? dx = none → dx ≠ e → h'.get? e = some (excObj C t1 (some dx) .none) →
      h'.Ns1 dx (fun y => if y = f then some v else none) → R (.ok (.ret .none)) ⟨h', g, d, tk', os⟩) :
    codeAny (model prog w) A (.call (.ref fI) args) R ⟨hp, g, d, t, os⟩ := by
  refine ks_codeAny_call_defAt (fd := ksFn "__init__" qual params (initBody txt n f j p0 p1 p2 p3 p4 p5 p6 p7 p8 p9) scope .none kV doc pm an (.ref cda) ct cc) (body := initBody txt n f j p0 p1 p2 p3 p4 p5 p6 p7 p8 p9) (binds := [("self", .ref e), (n, v)]) hroom (X _ _ hf) rfl hlim (codeRec_of X hcd) rfl hbind hnc ?_ (fun h₁ hns1 hk₁ => ?_) hco hgen hk
  · intro y hy
    rcases List.mem_cons.mp hy with rfl | hy
    · exact hka
    · rcases List.mem_cons.mp hy with rfl | hy
      · exact hkn
      · cases hy
  · have X1 : K.In h₁ := X.keeps hk₁
    have he1 : h₁.get? e = some (excObj C t0 none .none) := hk₁ _ _ he
    obtain ⟨cd, bm, hcl, hm, hbm, hdct⟩ := T.cd
    obtain ⟨oD, hD1, hD2⟩ : ∃ oD, h₁.get? C = some oD ∧ oD.data = .cls cd := by
      unfold clsIn at hcl
      split at hcl
      · rename_i c d cd' sl ho
        cases hcl
        exact ⟨_, X1 _ _ ho, rfl⟩
      · cases hcl
    have mC : mroIn K C (.ref C) = some true := by
      unfold mroIn
      rw [hcl, Option.bind_some, hm, if_neg (by simp)]
      simp
    have hsB : subIn K (.ref C) (.type B) = some true := T.has (T.bf.FB.hasB)
    have I1 : InstAt h₁ e (excObj C t0 none .none) C none := ⟨he1, rfl, rfl, trivial⟩
    have hxC : e ≠ C := ks_ne X1 I1 hcl
    have lself : ([("self", Value.ref e), (n, v)] : List (Str × Value)).reverse.lookup ar.arg = some (.ref e) := by
      rw [har]
      show List.lookup ("self" : Str) [(n, v), (("self" : Str), Value.ref e)] = some (.ref e)
      simp [List.lookup, beq_eq_false_iff_ne.mpr (Ne.symm hns)]
    have lself2 : ([("self", Value.ref e), (n, v)] : List (Str × Value)).reverse.lookup ("self" : Str) = some (.ref e) := by
      show List.lookup ("self" : Str) [(n, v), (("self" : Str), Value.ref e)] = some (.ref e)
      simp [List.lookup, beq_eq_false_iff_ne.mpr (Ne.symm hns)]
    have ln : ([("self", Value.ref e), (n, v)] : List (Str × Value)).reverse.lookup n = some v := by
      show List.lookup n [(n, v), (("self" : Str), Value.ref e)] = some v
      simp [List.lookup]
    have hka' : scope.names.lookup ar.arg = some .local := by rw [har]; exact hka
    refine ks_wpAt_execs_cons ?_
    refine ks_wpAt_Expr_any ?_ (by unfold interactive; rw [show (callEnv (ksFn "__init__" qual params (initBody txt n f j p0 p1 p2 p3 p4 p5 p6 p7 p8 p9) scope .none kV doc pm an (.ref cda) ct cc) hp.objs.size fI).scope.kind = .function from hk]; rfl) (by rfl)
    refine ks_wpAt_MethodCall ?_ (hev _)
    refine ks_wpAt_super_base hks hkc rfl rfl (X1 _ _ hf) rfl hpar rfl (X1 _ _ hcode) rfl hvs hfile htop ?_
    refine ks_loadName_global hk hks (loadGlobal_builtin (hmg.keeps hk₁) hsg (hmb.keeps hk₁) hsb ⟨rfl, ?_⟩)
    refine wpAny_loadName_free hk hkc rfl ⟨_, X1 _ _ hcell, rfl⟩ ?_
    refine wpAny_loadName_local hk hka' hns1 lself ?_
    refine ks_wpAny_isType_cls hD1 hD2 ⟨rfl, ?_⟩
    refine ks_wpAny_call_super hD1 hD2 he1 rfl (fun c z => by cases z) (looks_mroIn X1 mC) (fun h2 es2 k2 => ?_)
    have X2 : K.In h2 := X1.keeps k2
    have he2 : h2.get? e = some (excObj C t0 none .none) := k2 _ _ he1
    have I2 : InstAt h2 e (excObj C t0 none .none) C none := ⟨he2, rfl, rfl, trivial⟩
    have hso : (h₁.objs.size : Nat) < h2.objs.size := Heap.lt_size es2
    refine kxs_getMethod T.bf.kx es2 (looks_opaque X2 T.opq) (l₀ := cd.mro) (fun A Q E s k q => wpAny_bind ((looks_clsIn X2 hcl) A _ E s k (wpAny_pure q))) rfl X2 ?_ (I2.type.andThen (looks_subIn X2 hsB)) hxC (by decide +kernel) ?_
    · unfold ks_superIn at hsup
      rw [hcl] at hsup
      exact hsup
    have k3 : ∀ b o, h2.get? b = some o → (h2.push (kxs_mw initId e)).get? b = some o := fun b o z => Heap.get?_push_of_some _ z
    have hu3 : (h2.push (kxs_mw initId e)).get? h2.objs.size = some (kxs_mw initId e) := Heap.get?_push_at rfl rfl
    have he3 := k3 _ _ he2
    obtain ⟨nm, q', N, bs, bm', sn, sub, ab, col, dd, k0', k1', k2', k3', k5', hC, hbm'⟩ := T.cls
    have hC3 := k3 _ _ (X2 _ _ hC)
    refine kxs_callWith (i := initId) (x := e) (by rfl) ?_
    refine evalArgs_plain ?_
    refine Calls.spliced_cons (x := eval (.Constant (.str txt) j p3) _) (Calls.Constant_str (k := j) (pos := p3) ?_)
    refine Calls.spliced_nil ⟨hu3, ?_⟩
    refine wpAny_call (codeAny_of_tree ?_)
    show wpAny _ _ (callAny (.ref h2.objs.size) ⟨[.str txt _], []⟩) _ _ _
    simp only [callAny]
    refine wpAny_bind (wpAny_load hu3 ?_)
    simp only [kxs_mw, show (Value.type "method-wrapper" == Value.type "method" || Value.type "method-wrapper" == Value.type "builtin_function_or_method" || Value.type "method-wrapper" == Value.type "method-wrapper") = true by decide, if_true]
    refine KFB.if_so (by decide) ?_
    refine wpAny_bind (check_bound_init T.bf.FB.toExcCallFacts hC3 he3 rfl ?_)
    refine wpAny_bind (wpAny_pure (wpAny_pure ?_))
    refine ⟨plainId_quiet T.bf.FB.init.plain _, codeAny_builtin T.bf.FB.initEntry ?_⟩
    refine exc_init_tree (cls := .ref C) (t0 := t0) (dv := none) (c2 := .none) (c3 := .none) (b4 := .bool false) he3 (by show 1 ≤ sizeLine; rw [sizeLine_eq]; omega) (fun h4 k4 he4 _ => ?_)
    have X4 : K.In h4 := fun b o z => k4 b o (fun y => by rw [y, heK] at z; cases z) (k3 _ _ (X2 b o z))
    have kk : ∀ b o, b ≠ e → h₁.get? b = some o → h4.get? b = some o := fun b o hb z => k4 b o hb (k3 _ _ (k2 _ _ z))
    obtain ⟨oL, es, ep, hL, hLr⟩ := id hns1
    have neL : hp.objs.size ≠ e := fun z => absurd (Heap.lt_size he) (by rw [← z]; exact Nat.lt_irrefl _)
    have hns4 : h4.Ns hp.objs.size (fun x => ([("self", Value.ref e), (n, v)] : List (Str × Value)).reverse.lookup x) := ⟨oL, es, ep, kk _ _ neL hL, hLr⟩
    refine wpAt_of_wpAny (wpAny_execs_cons (plainObj_wpAny_Assign_Attribute (wpAny_Name (wpAny_loadName_local hk hkn hns4 ln (wpAny_Name (wpAny_loadName_local hk hka hns4 lself2 ?_) (by decide +kernel))) hnd)))
    refine set_plain X4 (ox := excObj C h2.objs.size.succ none .none) (od := none) ⟨?_, rfl, rfl, trivial⟩ T.sa ?_
    · show h4.get? e = _
      rw [he4, Heap.size_push]
    have he5 : h4.get? e = some (excObj C (h2.objs.size + 1) none .none) := by
      rw [he4, Heap.size_push]
    have over : excOver K C bmB = true := by
      unfold excOver
      rw [hcl, Option.any_some, hm, Bool.and_eq_true]
      exact ⟨beq_self_eq_true C, hbm⟩
    have hdk : hasDictIn K C = true := by
      unfold hasDictIn
      rw [hcl, Option.any_some]
      exact hdct
    refine err_put T.bf.st X4 he5 over hdk hfo fun h' tk' dx k5 nd hdx he6 hns6 => ?_
    refine wpAny_execs_nil (hq h' tk' dx _ (fun b o hb z => k5 b o hb (kk b o hb (hk₁ _ _ z))) ?_ hdx he6 hns6)
    cases z : hp.get? dx with
    | none => rfl
    | some o => rw [kk dx o hdx (hk₁ _ _ z)] at nd; cases nd
end
end L2.Cal
end

section
set_option maxRecDepth 100000
set_option maxHeartbeats 4000000
/-! own errors made by word: C(f=v). The class's chain is that of a built-in base behind own ones; its `__new__` is the base's, its `__init__` its own -/
namespace L2.Cal
open PySem PySem.W PySem.Calls PySem.HandSPX
open Builtin Builtin.ObjectAttr
/-- the class as it lies in the heap -/
structure XCls (hp : Heap) (C : Addr) (B newId initId : String) (bmB bm : List Value) : Prop where
  at_ : ∃ nm q N bs dct sn sub ab col dd k0 k1 k2 k3 k5, hp.get? C = some (excClassObj nm q C N bs bm dct sn sub ab col dd k0 k1 k2 k3 k5 newId)
  facts : ExcBaseFacts B newId initId bmB
  same : ∀ T : String, bm.contains (.type T) = bmB.contains (.type T)
section
variable {prog : Program} {w : World} {M : Model} {A : Around} {E : Value → Shared → Prop} {R : Result → Shared → Prop} {hp : Heap} {g : Array GenState} {d : Drawn} {t : Nat} {os : OsState}
variable {C fI : Addr} {bm bmB : List Value} {B newId initId : String} {kws : List (Str × Value)}
theorem XCls.under {hp : Heap} {C : Addr} {B newId initId : String} {bmB bm : List Value} (O : XCls hp C B newId initId bmB bm) (T : String) (b : Bool) (e : bmB.contains (.type T) = b) : (Value.ref C :: bm).contains (.type T) = b := by
  have z := O.same T
  rw [e] at z
  exact (List.contains_cons ..).trans (by rw [z]; cases b <;> rfl)
/-- what `__new__` is asked before it runs -/
theorem XCls.asked (O : XCls hp C B newId initId bmB bm) {Q : Unit → Shared → Prop} (k : Q () ⟨hp, g, d, t, os⟩) : wpAny M A (checkBuiltinCall newId ⟨[.ref C], kws⟩) Q E ⟨hp, g, d, t, os⟩ := by
  obtain ⟨nm, q, N, bs, dct, sn, sub, ab, col, dd, k0, k1, k2, k3, k5, cl⟩ := O.at_
  have inB := O.under B true O.facts.hasB
  have st := O.facts.noStar
  simp only [checkBuiltinCall, O.facts.newRow, O.facts.newSplit, O.facts.newKind]
  repeat' (first
    | exact k
    | refine wpAny_madeBy_exc cl ?_
    | refine wpAny_staticBase_exc cl ?_
    | (refine wpAny_isSubtype_exc cl ?_
       rw [inB])
    | refine wpAny_loadPart_at cl ?_
    | simp only [bne_self_eq_false, if_false, Bool.false_eq_true]
    | wp_step)
/-- `__new__` lays an error without arguments -/
theorem XCls.laid (O : XCls hp C B newId initId bmB bm) (k : R (.ok (.ret (.ref (hp.objs.size + 1)))) ⟨(hp.push (kdv_tup [])).push (excO C hp.objs.size), g, d, t, os⟩) :
    codeAny (model prog w) A (.builtin newId ⟨[.ref C], kws⟩) R ⟨hp, g, d, t, os⟩ := by
  obtain ⟨nm, q, N, bs, dct, sn, sub, ab, col, dd, k0, k1, k2, k3, k5, cl⟩ := O.at_
  have inB := O.under B true O.facts.hasB
  have notA := O.under "AttributeError" false O.facts.noAttr
  have notN := O.under "NameError" false O.facts.noName
  have fin := O.facts.ends
  refine codeAny_builtinAt O.facts.entry (by
    unfold Builtin.«BaseException.__new__»
    refine PySem.wpAt_bind (show PySem.wpAt _ _ _ (stack >>= _) _ _ _ from PySem.wpAt_bind (wpAt_stack fun _ _ => wpAt_of_wpAny ?_))
    wp_walk
    refine wpAt_of_wpAny ?_
    rw [O.facts.owner]
    repeat (first
      | (with_reducible refine wpAny_isSubtype_exc cl ?_
         first | rw [notN] | rw [notA] | rw [inB])
      | with_reducible refine wpAny_madeHere_exc O.facts.canon cl ?_
      | with_reducible refine wpAny_loadPart_at cl ?_
      | wp_step)
    have z : (hp.push (kdv_tup [])).objs.size = hp.objs.size + 1 := Heap.size_push ..
    rw [← z] at k
    exact k)
/-- the whole of `type.__call__` -/
theorem XCls.born (O : XCls hp C B newId initId bmB bm) {Q : Fin → Shared → Prop} (look : Looks (model prog w) hp (typeLookup (.ref C) "__init__") (some (.ref fI))) (tie : ∀ self, Looks (model prog w) hp (bindSpecial (.ref fI) self) (.ref fI, [self]))
    (run : codeAny (model prog w) A (.call (.ref fI) ⟨[.ref (hp.objs.size + 1)], kws⟩) (fun r s' => match r with | .ok (.ret v) => v = .none ∧ Q (.done (.ret (.ref (hp.objs.size + 1)))) s' | .ok _ => False | .error e => E e s')
      ⟨(hp.push (kdv_tup [])).push (excO C hp.objs.size), g, d, t, os⟩) : wpAny (model prog w) A (Builtin.«type.__call__» ⟨[.ref C], kws⟩) Q E ⟨hp, g, d, t, os⟩ := by
  obtain ⟨nm, q, N, bs, dct, sn, sub, ab, col, dd, k0, k1, k2, k3, k5, cl⟩ := O.at_
  have on2 : ∀ b o, hp.get? b = some o → ((hp.push (kdv_tup [])).push (excO C hp.objs.size)).get? b = some o := fun _ _ z => Heap.get?_push_of_some _ (Heap.get?_push_of_some _ z)
  have self : (Value.ref C :: bm).contains (.ref C) = true := by simp
  have cl2 := on2 _ _ cl
  have me : ((hp.push (kdv_tup [])).push (excO C hp.objs.size)).get? (hp.objs.size + 1) = some (excO C hp.objs.size) := by heap_get
  repeat (first | with_reducible refine wpAny_madeBy_exc cl ?_ | with_reducible refine wpAny_loadPart_at cl ?_ | wp_step)
  refine codeAny_call_builtin_code (Code.quiet_builtin _ O.facts.quiet) (O.asked (O.laid ?_))
  show wpAny _ _ _ _ _ _
  unfold isInstance
  repeat (first
    | (with_reducible refine wpAny_isSubtype_exc cl2 ?_
       rw [self])
    | with_reducible refine wpAny_loadPart_at me ?_
    | wp_step)
  have bound := (tie (.ref (hp.objs.size + 1))).keeps on2
  show wpAny _ _ (typeLookup (.ref C) _) _ _ _
  refine (look.keeps on2).at (wpAny_holding (wpAny_bind (bound.at (wpAny_bind (wpAny_call (codeAny_mono run fun r s' z => ?_))))))
  match r, z with
  | .error _, z => exact z
  | .ok (.ret _), ⟨e, z⟩ =>
    subst e
    first | exact wpAny_pure (wpAny_pure z) | (wp_walk; exact z)
/-- what `type.__call__` is asked before it runs -/
theorem XCls.called (O : XCls hp C B newId initId bmB bm) {Q : Unit → Shared → Prop} (k : Q () ⟨hp, g, d, t, os⟩) : wpAny M A (checkBuiltinCall "type.__call__" ⟨[.ref C], kws⟩) Q E ⟨hp, g, d, t, os⟩ := by
  obtain ⟨nm, q, N, bs, dct, sn, sub, ab, col, dd, k0, k1, k2, k3, k5, cl⟩ := O.at_
  have kind : (⟨hp, g, d, t, os⟩ : Shared).TypeIs (.ref C) "type" := ⟨_, cl, rfl⟩
  have sub_ := tc_sub
  simp only [checkBuiltinCall, tc_split, tc_kind]
  repeat (any_goals (first | assumption | with_reducible refine wpAny_map ?_ | with_reducible refine wpAny_onRaise ?_ | with_reducible refine wpAny_loadPart_at cl ?_ | wp_step))
/-- C(f=v): `__init__` runs on the fresh error with the words -/
theorem XCls.by_word (O : XCls hp C B newId initId bmB bm) (look : Looks (model prog w) hp (typeLookup (.ref C) "__init__") (some (.ref fI))) (tie : ∀ self, Looks (model prog w) hp (bindSpecial (.ref fI) self) (.ref fI, [self]))
    (run : codeAny (model prog w) (A.under (.builtin "type.__call__" ⟨[.ref C], kws⟩)) (.call (.ref fI) ⟨[.ref (hp.objs.size + 1)], kws⟩) (InitBack (hp.objs.size + 1) R) ⟨(hp.push (kdv_tup [])).push (excO C hp.objs.size), g, d, t, os⟩) :
    codeAny (model prog w) A (.call (.ref C) ⟨[], kws⟩) R ⟨hp, g, d, t, os⟩ := by
  obtain ⟨nm, q, N, bs, dct, sn, sub, ab, col, dd, k0, k1, k2, k3, k5, cl⟩ := O.at_
  have look1 := tc_lookup
  have tie1 := tc_bind (.ref C)
  have kind : (⟨hp, g, d, t, os⟩ : Shared).TypeIs (.ref C) "type" := ⟨_, cl, rfl⟩
  refine codeAny_of_tree (show wpAny _ _ (callAny (.ref C) _) _ _ _ from ?_)
  repeat (any_goals (first | with_reducible refine wpAny_loadPart_at cl ?_ | assumption | wp_step))
  refine ⟨rfl, codeAny_call_builtin_at (Code.quiet_builtin _ (by decide +kernel)) entry_typeCall (O.called (O.born look tie (codeAny_mono run fun r s' z => ?_)))⟩
  match r, z with
  | .error _, z => exact z
  | .ok (.ret _), z => exact z
end
end L2.Cal
end

section
set_option maxRecDepth 100000
set_option maxHeartbeats 4000000
namespace L2.Cal
open PySem PySem.Spec PyProof.Rows L2
/-- an own error class, its __init__ told: C(v), C(n=v) -/
structure ErrI (P : Program) (K : PySem.W.Frag) (C : Addr) (n f : Str) : Prop where
  ex : ∃ (B newId initId : String) (bmB : List Value) (fI : Addr), ErrC K C B newId initId bmB ∧ PySem.W.findIn K (.ref C) "__init__" = some (some (.ref fI)) ∧ PySem.W.typeIn K (.ref fI) = some (.type "function") ∧
    ∀ {w : World} {A : Around} {hp : Heap} {g : Array GenState} {d : Drawn} {t : Nat} {os : OsState} {e t0 : Addr} {v : Value} {args : Args} {R : Result → Shared → Prop} {mg mb : Str → Option Value}, K.In hp → hp.NoLimit → hp.Ns mainGlobals mg → mg "super" = none → hp.Ns builtinsNs mb → mb "super" = some (.type "super") →
      A.depth < recursionLimit → K.lookup e = none → hp.get? e = some (PySem.W.excObj C t0 none .none) → (args = ⟨[.ref e, v], []⟩ ∨ args = ⟨[.ref e], [(n, v)]⟩) →
      (∀ h' tk' dx t1, (∀ b o, b ≠ e → hp.get? b = some o → h'.get? b = some o) → hp.get? dx = none → dx ≠ e → h'.get? e = some (PySem.W.excObj C t1 (some dx) .none) →
        h'.Ns1 dx (fun y => if y = f then some v else none) → R (.ok (.ret .none)) ⟨h', g, d, tk', os⟩) →
      codeAny (model P w) A (.call (.ref fI) args) R ⟨hp, g, d, t, os⟩
/-- the error as a value -/
def ErrAt (H : Hp) (e C : Addr) (f : Str) (v : V) : Prop := ∃ d, H e = some (exo e C (some d)) ∧ H d = some (exd d [(f, v)])
/-- a new error -/
abbrev NewErr (H : Hp) (C : Addr) (f : Str) (v : V) (Q : VK) : Prop := ∀ (a : Addr) (H2 : Hp), Same H H2 → H a = none → ErrAt H2 a C f v → Q (.ref a) H2
theorem NewErr.use {H : Hp} {C : Addr} {f : Str} {v : V} {Q : VK} (h : NewErr H C f v Q) (a d : Addr) (na : H a = none) (nd : H d = none) (ne : d ≠ a) : Q (.ref a) (upd (upd H d (exd d [(f, v)])) a (exo a C (some d))) :=
  h a _ ((same_new nd).trans (same_new (by rw [upd_ne (Ne.symm ne)]; exact na))) na ⟨d, upd_same, by rw [upd_ne ne, upd_same]⟩
theorem ErrAt.same {H H' : Hp} {e C : Addr} {f : Str} {v : V} (h : ErrAt H e C f v) (s : Same H H') : ErrAt H' e C f v := by
  obtain ⟨d, h1, h2⟩ := h
  exact ⟨d, s _ _ h1, s _ _ h2⟩
def tErr (f : Str) (C : Addr) (te : TE) : TE := fun σ H Q => te σ H fun v H1 => NewErr H1 C f v Q
def tErrK (f : Str) (C : Addr) (te : TE) : TE := fun σ H Q => tCons te tNil σ H fun vs H1 => ∃ v, vs = [v] ∧ NewErr H1 C f v Q
section
variable {X : Cx} {C : Addr} {n f x : Str} {p pos : Pos} {e : Expr} {te : TE}
theorem err_laid {pins : List (Addr × Obj)} {σ : St} {H : Hp} {hp h' : Heap} {g : Array GenState} {d : Drawn} {t t' : Nat} {os : OsState} {a dx t1 : Addr} {v : V} {u : Value} (I : Inv X pins σ H ⟨hp, g, d, t, os⟩) (rv : RelV v u)
    (k : ∀ b o, hp.get? b = some o → h'.get? b = some o) (ha : hp.get? a = none) (hd : hp.get? dx = none) (ne : dx ≠ a) (hx : h'.get? a = some (PySem.W.excObj C t1 (some dx) .none)) (hn : h'.Ns1 dx (fun y => if y = f then some u else none)) :
    Inv X pins σ (upd (upd H dx (exd dx [(f, v)])) a (exo a C (some dx))) ⟨h', g, d, t', os⟩ := by
  have na : H a = none := I.hok.gone ha
  have nd : H dx = none := I.hok.gone hd
  have ea : ∀ {b o}, hp.get? b = some o → b ≠ a := fun {b o} q z => by rw [z, ha] at q; cases q
  have ed : ∀ {b o}, hp.get? b = some o → b ≠ dx := fun {b o} q z => by rw [z, hd] at q; cases q
  have U : Un X.fs [] H (upd (upd H dx (exd dx [(f, v)])) a (exo a C (some dx))) hp h' := {
    keep := fun b o q _ _ _ => k b o q
    slot := fun b o q _ _ _ => ⟨o.slots, k b o q⟩
    free := fun b o q n' _ => by rw [upd_ne (ea q), upd_ne (ed q)]; exact n'
    there := fun b o q _ => ⟨o, k b o q⟩
    tups := fun b xs q => by rw [upd_ne (ne_of_none q na), upd_ne (ne_of_none q nd)]; exact q
    frzs := fun b o u q => by rw [upd_ne (ne_of_none q na), upd_ne (ne_of_none q nd)]; exact q
    tbls := fun b ps q => ⟨#[], by rw [upd_ne (ne_of_none q na), upd_ne (ne_of_none q nd), q]; simp⟩ }
  refine I.un (t' := t') U fun b o q => ?_
  by_cases hb : b = a
  · subst hb
    rw [upd_same] at q
    cases q
    exact exo_ok hx
  · rw [upd_ne hb] at q
    by_cases hb2 : b = dx
    · subst hb2
      rw [upd_same] at q
      cases q
      exact exd_ok hn (relO_put (fs := []) rv fun g => True.intro)
    · rw [upd_ne hb2] at q
      exact (I.hok b o q).stay (fun c v _ z => k c v z) (fun c hc => by rw [upd_ne (ne_of_none hc na), upd_ne (ne_of_none hc nd)]; exact hc) (fun c xs hc => by rw [upd_ne (ne_of_none hc na), upd_ne (ne_of_none hc nd)]; exact hc)
theorem super_mb {pins : List (Addr × Obj)} {σ : St} {H : Hp} {s : Shared} (I : Inv X pins σ H s) : ∃ mb, s.heap.Ns builtinsNs mb ∧ mb "super" = some (.type "super") := by
  obtain ⟨mb, h1, h2⟩ := I.mod.blt
  exact ⟨mb, h1.keeps I.bk, (h2 "super" (by decide +kernel)).trans (by first | boot_by_name | rfl | kernel_rfl)⟩
/-- C(v), by value -/
theorem call_err {pins : List (Addr × Obj)} {σ : St} {H : Hp} {s : Shared} {Q : VK} {v : V} {u : Value} (T : ErrI X.prog X.K C n f) (hsup : X.mg "super" = none) (hr : Room 1 X.A) (I : Inv X pins σ H s) (rv : RelV v u)
    (h : ∀ a d, H a = none → H d = none → d ≠ a → Q (.ref a) (upd (upd H d (exd d [(f, v)])) a (exo a C (some d)))) :
    wpAny (model X.prog X.w) X.A (call (.ref C) [u]) (EP X pins σ Q) X.xe s ∧ wpAny (model X.prog X.w) X.A (call (.ref C) [] [(n, u)]) (EP X pins σ Q) X.xe s := by
  obtain ⟨B, newId, initId, bmB, fI, TC, iC, tI, run⟩ := T.ex
  obtain ⟨nm, q, N, bs, bm, sn, sub, ab, col, dd, k0, k1, k2, k3, k5, hC, hbm⟩ := TC.cls
  obtain ⟨mb, hmb, hsb⟩ := super_mb I
  have hmg : s.heap.Ns mainGlobals X.mg := I.mod.glob.keeps I.bk
  have KX := I.kIn
  have lim := I.nolimit
  obtain ⟨hp, g, dr, tk, os⟩ := s
  have hT : ∀ Y : String, bm.contains (.type Y) = bmB.contains (.type Y) := fun Y => PySem.W.excTail_contains Y bm hbm
  have fin : ∀ (us : List Value), ∀ h' tk' dx t1, (∀ b o, b ≠ hp.objs.size + 1 → ((hp.push (PySem.W.kdv_tup us)).push (PySem.HandSPX.excO C hp.objs.size)).get? b = some o → h'.get? b = some o) → ((hp.push (PySem.W.kdv_tup us)).push (PySem.HandSPX.excO C hp.objs.size)).get? dx = none → dx ≠ hp.objs.size + 1 →
      h'.get? (hp.objs.size + 1) = some (PySem.W.excObj C t1 (some dx) .none) → h'.Ns1 dx (fun y => if y = f then some u else none) → EP X pins σ Q (.ref (hp.objs.size + 1)) ⟨h', g, dr, tk', os⟩ := fun us h' tk' dx t1 k hd ne hx hn => by
    have kk : ∀ b o, hp.get? b = some o → ((hp.push (PySem.W.kdv_tup us)).push (PySem.HandSPX.excO C hp.objs.size)).get? b = some o := fun b o e => Heap.get?_push_of_some _ (Heap.get?_push_of_some _ e)
    have h1 : hp.get? (hp.objs.size + 1) = none := Heap.get?_none_of_le (Nat.le_succ _)
    have h2 : hp.get? dx = none := by
      cases z : hp.get? dx with
      | none => rfl
      | some o => rw [kk _ _ z] at hd; cases hd
    have J := err_laid (C := C) (f := f) (t' := tk') I rv (fun b o z => k b o (Nat.ne_of_lt (Nat.lt_succ_of_lt (Heap.lt_size z))) (kk b o z)) h1 h2 ne hx hn
    exact ⟨.ref (hp.objs.size + 1), _, J, rfl, h _ _ (I.hok.gone h1) (I.hok.gone h2) ne⟩
  have look : PySem.W.Looks (model X.prog X.w) hp (typeLookup (.ref C) "__init__") (some (.ref fI)) := PySem.W.looks_findIn KX iC
  have heK : X.K.lookup (hp.objs.size + 1) = none := by
    cases z : X.K.lookup (hp.objs.size + 1) with
    | none => rfl
    | some o => exact absurd (show hp.objs.size + 1 < hp.objs.size from Heap.lt_size (KX _ _ z)) (by omega)
  have ready : ∀ (us : List Value) (args : Args) (args2 : Args) (R : Result → Shared → Prop), (args = ⟨[.ref (hp.objs.size + 1), u], []⟩ ∨ args = ⟨[.ref (hp.objs.size + 1)], [(n, u)]⟩) → (∀ s', EP X pins σ Q (.ref (hp.objs.size + 1)) s' → R (.ok (.ret .none)) s') → ∀ A : Around, A.depth < recursionLimit →
      codeAny (model X.prog X.w) A (.call (.ref fI) args) R ⟨(hp.push (PySem.W.kdv_tup us)).push (PySem.HandSPX.excO C hp.objs.size), g, dr, tk, os⟩ := fun us args args2 R ha hR A hA => by
    have kk : ∀ b o, hp.get? b = some o → ((hp.push (PySem.W.kdv_tup us)).push (PySem.HandSPX.excO C hp.objs.size)).get? b = some o := fun b o e => Heap.get?_push_of_some _ (Heap.get?_push_of_some _ e)
    refine run (KX.keeps kk) (lim.keeps kk) (hmg.keeps kk) hsup (hmb.keeps kk) hsb hA heK (by heap_get) ha fun h' tk' dx t1 k hd ne hx hn => hR _ (fin us h' tk' dx t1 k hd ne hx hn)
  constructor
  · refine wpAny_call (PySem.HandSPX.call_own TC.bf.FB hT (KX _ _ hC) look (fun self => PySem.W.bind_fn KX self tI) (by show 1 ≤ sizeLine; rw [sizeLine_eq]; omega) (ready [u] _ ⟨[u], []⟩ _ (.inl rfl) (fun s' q => ⟨rfl, q⟩) _ (hr.make C [u] []).depth))
  · refine wpAny_call ((XCls.mk (bm := bm) ⟨_, _, _, _, _, _, _, _, _, _, _, _, _, _, _, KX _ _ hC⟩ TC.bf.FB hT).by_word look (fun self => PySem.W.bind_fn KX self tI) (ready [] _ ⟨[], [(n, u)]⟩ _ (.inr rfl) (fun s' q => ⟨rfl, q⟩) _ (hr.make C [] [(n, u)]).depth))
theorem pe_err (T : ErrI X.prog X.K C n f) (hsup : X.mg "super" = none) (hr : Room 1 X.A) (hg : Gl X x) (hm : X.mg x = some (.ref C)) (he : PE X e te)
    (hdb : (x == ("__debug__" : Str)) = false := by decide) (hs : starEach [e] X.env = (false, eval e X.env) :: starEach [] X.env := by rfl) : PE X (.Call (.Name x p) [e] [] pos) (tErr f C te) := by
  refine ⟨fun pins s σ H Q I h => ?_⟩
  refine wpAny_Call_Name_kw (ld_glob I hg hm ?_ hdb)
  have kC : PySem.W.keepIn X.K (.ref C) = true := by
    obtain ⟨B, newId, initId, bmB, fI, TC, _⟩ := T.ex
    exact TC.kC
  refine PySem.W.callWith_K (h₀ := X.base) I.ok.mod.kin kC ?_ hs (by rfl)
  rw [hs]
  show wpAny _ _ (spliced ((false, eval e X.env) :: backTo pos (starEach [] X.env))) _ _ s
  refine Calls.spliced_cons (thn (he.run pins s σ H _ I h) fun u s1 ⟨v, H1, I1, r1, q1⟩ => ?_)
  exact Calls.spliced_nil ⟨I1.kIn, (call_err T hsup hr I1 r1 q1.use).1⟩
theorem pe_errK {kp : Pos} (T : ErrI X.prog X.K C n f) (hsup : X.mg "super" = none) (hr : Room 1 X.A) (hg : Gl X x) (hm : X.mg x = some (.ref C)) (he : PE X e te)
    (hdb : (x == ("__debug__" : Str)) = false := by decide) (hall : (backToKw pos (keywordEach [⟨some n, e, kp⟩] X.env)).all (·.1.isSome) = true := by rfl) (hks : (backToKw pos (keywordEach [⟨some n, e, kp⟩] X.env)).filterMap (·.1) = [n] := by rfl)
    (hpl : ((backTo pos (starEach [] X.env)).any (·.1) || (backToKw pos (keywordEach [⟨some n, e, kp⟩] X.env)).any (·.1.isNone)) = false := by rfl) : PE X (.Call (.Name x p) [] [⟨some n, e, kp⟩] pos) (tErrK f C te) := by
  refine ⟨fun pins s σ H Q I h => ?_⟩
  refine wpAny_Call_Name_kw (ld_glob I hg hm ?_ hdb)
  have kC : PySem.W.keepIn X.K (.ref C) = true := by
    obtain ⟨B, newId, initId, bmB, fI, TC, _⟩ := T.ex
    exact TC.kC
  refine PySem.W.callWith_KW0 (h₀ := X.base) I.ok.mod.kin kC hall ?_ hpl
  refine thn ((pk_cons (nm := some n) (kpos := kp) he pk_nil).run pos pins s σ H _ I h) fun ws s1 ⟨vs, H1, I1, r1, v, ev, q1⟩ => ?_
  subst ev
  rw [hks]
  cases r1 with
  | cons r rr =>
    cases rr
    exact ⟨I1.kIn, (call_err T hsup hr I1 r q1.use).2⟩
end
end L2.Cal
end

section
set_option maxRecDepth 100000
set_option maxHeartbeats 4000000
namespace L2.Cal
open PySem PySem.Spec PyProof.Rows L2
/-- what isinstance and the reading of an attribute ask of the class -/
structure ErrQ (K : PySem.W.Frag) (C : Addr) : Prop where
  cl : (PySem.W.clsIn K C).isSome = true
  hd : PySem.W.hasDictIn K C = true
  ga : PySem.W.findIn K (.ref C) "__getattribute__" = some (some (.builtin "BaseException.__getattribute__"))
  gg : PySem.W.findIn K (.ref C) "__getattr__" = some none
  exC : PySem.W.subIn K (.ref C) (.type "BaseException") = some true
  dcl : PySem.W.findIn K (.ref C) "__class__" = some (some (.builtin "object.__class__"))
  dget : PySem.W.specialIn K (.builtin "object.__class__") "__get__" = some (some (.builtin "getset_descriptor.__get__"))
  dtk : PySem.W.takesIn K (.builtin "object.__class__") = some true
  mobj : PySem.W.mroIn K C (.type "object") = some true
theorem ErrC.q {K : PySem.W.Frag} {C : Addr} {B newId initId : String} {bmB : List Value} (T : ErrC K C B newId initId bmB) : ErrQ K C := by
  obtain ⟨cd, bm, hcd, hm, hbm, hdct⟩ := T.cd
  exact ⟨by rw [hcd]; rfl, by unfold PySem.W.hasDictIn; rw [hcd]; exact hdct, T.ga, T.gg, T.exC, T.dcl, T.dget, T.dtk, T.mobj⟩
/-- an error of the class C stands at a -/
def ErrV (H : Hp) (a C : Addr) : Prop := H a = some (exo a C none) ∨ ∃ d fs, H a = some (exo a C (some d)) ∧ H d = some (exd d fs)
theorem ErrV.same {H H' : Hp} {a C : Addr} (h : ErrV H a C) (s : Same H H') : ErrV H' a C := by
  rcases h with h | ⟨d, fs, h1, h2⟩
  · exact .inl (s _ _ h)
  · exact .inr ⟨d, fs, s _ _ h1, s _ _ h2⟩
theorem ErrAt.v {H : Hp} {a C : Addr} {f : Str} {v : V} (h : ErrAt H a C f v) : ErrV H a C := by
  obtain ⟨d, h1, h2⟩ := h
  exact .inr ⟨d, _, h1, h2⟩
def rIsErr (K : PySem.W.Frag) : List V → Hp → VK → Prop := fun xs H Q => ∃ (a C : Addr) (c : V) (cv : Value) (b : Bool), xs = [.ref a, c] ∧ (∀ u, RelV c u → u = cv) ∧ ErrV H a C ∧ ErrQ K C ∧ PySem.W.kitOne K (.ref C) cv = some b ∧ Q (.bl b) H
def tErrFld (K : PySem.W.Frag) (f : Str) (te : TE) : TE := fun σ H Q => te σ H fun x H1 => ∃ (a C d : Addr) (fs : List (Str × V)) (v : V), x = .ref a ∧ H1 a = some (exo a C (some d)) ∧ H1 d = some (exd d fs) ∧ fs.lookup f = some v ∧ ErrQ K C ∧ PySem.W.findIn K (.ref C) f = some none ∧ Q v H1
section
variable {X : Cx} {C : Addr} {n f x : Str} {p pos : Pos} {e : Expr} {te : TE}
theorem call_isErr : CallR X (.builtin "isinstance") (rIsErr X.K) := by
  intro pins s σ H xs us Q I r h
  obtain ⟨a, C, c, cv, b, rfl, hcv, hE, T, e, q⟩ := h
  obtain ⟨u1, u2, rfl, r1, r2⟩ := vals2 r
  cases (show u1 = Value.ref a from r1)
  have ec := hcv _ r2
  subst ec
  rcases hE with h1 | ⟨d, fs, h1, h2⟩
  · obtain ⟨t1, ho⟩ := exo_at I.hok h1
    have J : PySem.W.InstAt s.heap a _ C none := ⟨ho, rfl, rfl, trivial⟩
    exact PySem.W.kia_one (PySem.W.kitx_exc T.cl T.ga T.gg T.exC T.dcl T.dget T.dtk T.mobj) I.kIn J e (fun z => nomatch z) fun tk => ⟨.bl b, H, I.kept (t' := tk) fun _ _ z => z, rfl, q⟩
  · obtain ⟨t1, ho⟩ := exo_at I.hok h1
    obtain ⟨mA, hns, _⟩ := exd_at I.hok h2
    obtain ⟨od, hod, _⟩ := lookIn_ns hns
    have J : PySem.W.InstAt s.heap a _ C (some od) := ⟨ho, rfl, rfl, hod⟩
    exact PySem.W.kia_one (PySem.W.kitx_exc T.cl T.ga T.gg T.exC T.dcl T.dget T.dtk T.mobj) I.kIn J e (fun z => nomatch z) fun tk => ⟨.bl b, H, I.kept (t' := tk) fun _ _ z => z, rfl, q⟩
theorem pe_errFld (he : PE X e te) (hb : attributeBase e f X.env (eval e X.env) = eval e X.env := by rfl) : PE X (.Attribute e f pos) (tErrFld X.K f te) := by
  refine ⟨fun pins s σ H Q I h => ?_⟩
  refine attr_of hb (thn (he.run pins s σ H _ I h) fun u s1 hh => ?_)
  obtain ⟨x, H1, I1, rx, a, C, d, fs, v, ex, h1, h2, hl, T, hno, q⟩ := hh
  subst ex
  obtain rfl : u = Value.ref a := rx
  obtain ⟨t1, ho⟩ := exo_at I1.hok h1
  obtain ⟨mA, hns, hr⟩ := exd_at I1.hok h2
  obtain ⟨od, hod, hlk⟩ := lookIn_ns hns
  obtain ⟨u, hu, ru⟩ := RelO.some_of (v := v) (o := mA f) (by rw [← hl]; exact hr f)
  have J : PySem.W.InstAt s1.heap a _ C (some od) := ⟨ho, rfl, rfl, hod⟩
  exact HandSPX.exc_get I1.kIn J T.ga T.gg T.exC (PySem.W.findObj_own T.hd hno rfl (by rw [hlk, hu])) (handed_of ru) ⟨v, H1, I1.tok _, ru, q⟩
/-- C() of an own error class without an __init__ of the program's -/
theorem pe_err0 {bmB : List Value} {B newId initId : String} (F : ExcBaseFacts B newId initId bmB) (q : PySem.W.excIn X.K C bmB newId = true) (kC : PySem.W.keepIn X.K (.ref C) = true) (hg : Gl X x) (hm : X.mg x = some (.ref C))
    (hdb : (x == ("__debug__" : Str)) = false := by decide) : PE X (.Call (.Name x p) [] [] pos) (fun _ H Q => ∀ (a : Addr) (H2 : Hp), Same H H2 → H a = none → H2 a = some (exo a C none) → Q (.ref a) H2) := by
  refine ⟨fun pins s σ H Q I h => ?_⟩
  refine wpAny_Call_Name_kw (ld_glob I hg hm ?_ hdb)
  refine PySem.W.callWith_K0 I.kIn kC ?_
  show wpAny _ _ (call (.ref C) []) _ _ _
  obtain ⟨bm, N, nm, qn, bs, hdct, sn, sub, ab, col, dd, k0, k1, k2, k3, k5, mN, hC, hN, hni, T⟩ := exc_obj I.kIn q
  refine wpAny_call_exc_subT F T hC hN hni (fun h' a hmk => ?_) (by show 0 ≤ sizeLine; exact Nat.zero_le _)
  have hn : H a = none := I.hok.gone hmk.new
  obtain ⟨t, ht, _, _⟩ := hmk.there
  exact ⟨.ref a, upd H a (exo a C none), I.laidN hmk.keeps hmk.new hn (exo_ok ht), rfl, h a _ (same_new hn) hn upd_same⟩
end
end L2.Cal
end

section
set_option maxRecDepth 100000
set_option maxHeartbeats 4000000
/-! raise C(v), C an own error class of two levels -/
namespace L2.Cal
open PySem PySem.Spec PyProof.Rows L2
/-- a new error of the class C with the field f, in the air: its dict at d -/
abbrev Thrown (H : Hp) (C : Addr) (f : Str) (v : V) (Q : XK) : Prop := ∀ d, H d = none → Q (.ref C) (some d) (upd H d (exd d [(f, v)]))
section
variable {X : Cx} {C : Addr} {n f x : Str} {p pos : Pos} {e : Expr} {te : TE}
theorem thr_laid {pins : List (Addr × Obj)} {σ : St} {H : Hp} {hp h' : Heap} {g : Array GenState} {d : Drawn} {t t' : Nat} {os : OsState} {a dx t1 : Addr} {v : V} {u : Value} {Q : XK} (I : Inv X pins σ H ⟨hp, g, d, t, os⟩) (rv : RelV v u)
    (k : ∀ b o, hp.get? b = some o → h'.get? b = some o) (ha : hp.get? a = none) (hd : hp.get? dx = none) (ne : dx ≠ a) (hx : h'.get? a = some (PySem.W.excObj C t1 (some dx) .none)) (hn : h'.Ns1 dx (fun y => if y = f then some u else none))
    (r : Raises X (.ref C)) (q : Thrown H C f v Q) : MkP X pins σ Q (.ref a) ⟨h', g, d, t', os⟩ := by
  have na : H a = none := I.hok.gone ha
  have nd : H dx = none := I.hok.gone hd
  obtain ⟨G, g1, g2⟩ := restrict h' fun b => decide (b ≠ a)
  have gk : ∀ b o, b ≠ a → h'.get? b = some o → G.get? b = some o := fun b o hb e => by
    rw [g1 b (decide_eq_true hb)]
    exact e
  have ga : G.get? a = none := g2 a (by simp)
  have gs : ∀ b o, G.get? b = some o → h'.get? b = some o := fun b o e => by
    by_cases hb : b = a
    · rw [hb, ga] at e
      cases e
    · exact (g1 b (decide_eq_true hb)).symm.trans e
  have ea : ∀ {b o}, hp.get? b = some o → b ≠ a := fun {b o} q z => by rw [z, ha] at q; cases q
  have ed : ∀ {b o}, hp.get? b = some o → b ≠ dx := fun {b o} q z => by rw [z, hd] at q; cases q
  have kG : ∀ b o, hp.get? b = some o → G.get? b = some o := fun b o q => gk b o (ea q) (k b o q)
  have U : Un X.fs [] H (upd H dx (exd dx [(f, v)])) hp G := {
    keep := fun b o q _ _ _ => kG b o q
    slot := fun b o q _ _ _ => ⟨o.slots, kG b o q⟩
    free := fun b o q n' _ => by rw [upd_ne (ed q)]; exact n'
    there := fun b o q _ => ⟨o, kG b o q⟩
    tups := fun b xs q => by rw [upd_ne (ne_of_none q nd)]; exact q
    frzs := fun b o u q => by rw [upd_ne (ne_of_none q nd)]; exact q
    tbls := fun b ps q => ⟨#[], by rw [upd_ne (ne_of_none q nd), q]; simp⟩ }
  have hnG : G.Ns1 dx (fun y => if y = f then some u else none) := by
    obtain ⟨o, es, ep, h1, h2⟩ := hn
    exact ⟨o, es, ep, gk _ _ ne h1, h2⟩
  have J : Inv X pins σ (upd H dx (exd dx [(f, v)])) ⟨G, g, d, t', os⟩ := I.un (t' := t') U fun b o q => by
    by_cases hb2 : b = dx
    · subst hb2
      rw [upd_same] at q
      cases q
      exact exd_ok hnG (relO_put (fs := []) rv fun g => True.intro)
    · rw [upd_ne hb2] at q
      exact (I.hok b o q).stay (fun c v _ z => kG c v z) (fun c hc => by rw [upd_ne (ne_of_none hc nd)]; exact hc) (fun c xs hc => by rw [upd_ne (ne_of_none hc nd)]; exact hc)
  exact ⟨a, _, _, ⟨G, g, d, t', os⟩, _, .ref C, some dx, rfl, J, gs, ga, hx, ⟨rfl, rfl⟩, rfl, rfl, by rw [upd_ne (Ne.symm ne)]; exact na, rfl, I.bare, r, q dx nd⟩
/-- C(v), to be raised -/
theorem call_thr {pins : List (Addr × Obj)} {σ : St} {H : Hp} {s : Shared} {Q : XK} {v : V} {u : Value} (T : ErrI X.prog X.K C n f) (hsup : X.mg "super" = none) (hr : Room 1 X.A) (I : Inv X pins σ H s) (rv : RelV v u)
    (h : Thrown H C f v Q) : wpAny (model X.prog X.w) X.A (call (.ref C) [u]) (MkP X pins σ Q) X.xe s := by
  obtain ⟨B, newId, initId, bmB, fI, TC, iC, tI, run⟩ := T.ex
  obtain ⟨nm, q, N, bs, bm, sn, sub, ab, col, dd, k0, k1, k2, k3, k5, hC, hbm⟩ := TC.cls
  obtain ⟨mb, hmb, hsb⟩ := super_mb I
  have hmg : s.heap.Ns mainGlobals X.mg := I.mod.glob.keeps I.bk
  have KX := I.kIn
  have lim := I.nolimit
  have rs : Raises X (.ref C) := raises_own TC.exC TC.tyC
  rcases s with ⟨hp, g, dr, tk, os⟩
  have hT : ∀ Y : String, bm.contains (.type Y) = bmB.contains (.type Y) := fun Y => PySem.W.excTail_contains Y bm hbm
  have fin : ∀ (us : List Value), ∀ h' tk' dx t1, (∀ b o, b ≠ hp.objs.size + 1 → ((hp.push (PySem.W.kdv_tup us)).push (PySem.HandSPX.excO C hp.objs.size)).get? b = some o → h'.get? b = some o) → ((hp.push (PySem.W.kdv_tup us)).push (PySem.HandSPX.excO C hp.objs.size)).get? dx = none → dx ≠ hp.objs.size + 1 →
      h'.get? (hp.objs.size + 1) = some (PySem.W.excObj C t1 (some dx) .none) → h'.Ns1 dx (fun y => if y = f then some u else none) → MkP X pins σ Q (.ref (hp.objs.size + 1)) ⟨h', g, dr, tk', os⟩ := fun us h' tk' dx t1 k hd ne hx hn => by
    have grown : ∀ b o, hp.get? b = some o → ((hp.push (PySem.W.kdv_tup us)).push (PySem.HandSPX.excO C hp.objs.size)).get? b = some o := fun b o e => Heap.get?_push_of_some _ (Heap.get?_push_of_some _ e)
    have h1 : hp.get? (hp.objs.size + 1) = none := Heap.get?_none_of_le (Nat.le_succ _)
    have h2 : hp.get? dx = none := by
      cases z : hp.get? dx with
      | none => rfl
      | some o => rw [grown _ _ z] at hd; cases hd
    exact thr_laid (C := C) (f := f) (t' := tk') I rv (fun b o z => k b o (Nat.ne_of_lt (Nat.lt_succ_of_lt (Heap.lt_size z))) (grown b o z)) h1 h2 ne hx hn rs h
  have look : PySem.W.Looks (model X.prog X.w) hp (typeLookup (.ref C) "__init__") (some (.ref fI)) := PySem.W.looks_findIn KX iC
  have heK : X.K.lookup (hp.objs.size + 1) = none := by
    cases z : X.K.lookup (hp.objs.size + 1) with
    | none => rfl
    | some o => exact absurd (show hp.objs.size + 1 < hp.objs.size from Heap.lt_size (KX _ _ z)) (by omega)
  have ready : ∀ (us : List Value) (args : Args) (R : Result → Shared → Prop), (args = ⟨[.ref (hp.objs.size + 1), u], []⟩ ∨ args = ⟨[.ref (hp.objs.size + 1)], [(n, u)]⟩) → (∀ s', MkP X pins σ Q (.ref (hp.objs.size + 1)) s' → R (.ok (.ret .none)) s') → ∀ A : Around, A.depth < recursionLimit →
      codeAny (model X.prog X.w) A (.call (.ref fI) args) R ⟨(hp.push (PySem.W.kdv_tup us)).push (PySem.HandSPX.excO C hp.objs.size), g, dr, tk, os⟩ := fun us args R ha hR A hA => by
    have grown : ∀ b o, hp.get? b = some o → ((hp.push (PySem.W.kdv_tup us)).push (PySem.HandSPX.excO C hp.objs.size)).get? b = some o := fun b o e => Heap.get?_push_of_some _ (Heap.get?_push_of_some _ e)
    refine run (KX.keeps grown) (lim.keeps grown) (hmg.keeps grown) hsup (hmb.keeps grown) hsb hA heK (by heap_get) ha fun h' tk' dx t1 k hd ne hx hn => hR _ (fin us h' tk' dx t1 k hd ne hx hn)
  refine wpAny_call (PySem.HandSPX.call_own TC.bf.FB hT (KX _ _ hC) look (fun self => PySem.W.bind_fn KX self tI) (by show 1 ≤ sizeLine; rw [sizeLine_eq]; omega) (ready [u] _ _ (.inl rfl) (fun s' q => ⟨rfl, q⟩) _ (hr.make C [u] []).depth))
/-- C(e), what a raise takes -/
theorem pmk_err (T : ErrI X.prog X.K C n f) (hsup : X.mg "super" = none) (hr : Room 1 X.A) (hg : Gl X x) (hm : X.mg x = some (.ref C)) (he : PE X e te)
    (hdb : (x == ("__debug__" : Str)) = false := by decide) (hs : starEach [e] X.env = (false, eval e X.env) :: starEach [] X.env := by rfl) : PMk X (.Call (.Name x p) [e] [] pos) (fun σ H Q => te σ H fun v H1 => Thrown H1 C f v Q) := by
  have kC : PySem.W.keepIn X.K (.ref C) = true := by
    obtain ⟨_, _, _, _, _, TC, _⟩ := T.ex
    exact TC.kC
  intro pins s σ H Q I asked
  refine wpAny_Call_Name_kw (ld_glob I hg hm (PySem.W.callWith_K (h₀ := X.base) I.ok.mod.kin kC (hs ▸ Calls.spliced_cons (thn (he.run pins s σ H _ I asked) ?_)) hs (by rfl)) hdb)
  rintro u s1 ⟨v, H1, J, rv, q⟩
  exact Calls.spliced_nil ⟨J.kIn, call_thr T hsup hr J rv q⟩
end
end L2.Cal
end

section
set_option maxRecDepth 100000
set_option maxHeartbeats 4000000
/-! try .. except (A, B, C) as e: the error tracked in the suite -/
namespace L2.Cal
open PySem PySem.Spec PyProof.Rows L2
/-- an error that was raised stands at a: its class, its dict -/
def exr (a : Addr) (cls : Value) (d : Option Addr) : HO := .ext fun h => ∃ (oe : Obj) (vs : Array Value), h.get? a = some oe ∧ Zc cls d oe ∧ oe.data = .fields vs
theorem exr_ok {P : Program} {w : World} {H : Hp} {h : Heap} {a : Addr} {cls : Value} {d : Option Addr} {oe : Obj} {vs : Array Value} (e : h.get? a = some oe) (z : Zc cls d oe) (hd : oe.data = .fields vs) : ObjOk P w H h a (exr a cls d) :=
  ⟨⟨oe, vs, e, z, hd⟩, ⟨oe, e⟩, fun _ _ ⟨o, v, q, r⟩ k => ⟨o, v, k o q, r⟩⟩
theorem exr_at {P : Program} {w : World} {H : Hp} {h : Heap} {a : Addr} {cls : Value} {d : Option Addr} (hok : HOk P w H h) (e : H a = some (exr a cls d)) : ∃ (oe : Obj) (vs : Array Value), h.get? a = some oe ∧ Zc cls d oe ∧ oe.data = .fields vs := (hok a _ e).1
theorem FlyingZ.kept {B h h' : Heap} {l : List Env} {a : Addr} {Z : Obj → Prop} (x : HandSPX.FlyingZ B l a Z h) (k : ∀ b o, h.get? b = some o → h'.get? b = some o) : HandSPX.FlyingZ B l a Z h' := by
  obtain ⟨x1, x2, x3, oe, vs, T, oT, ts, e1, e2, e3, e4, e5, e6, e7, e8, e9⟩ := x
  exact ⟨fun b o e => k b o (x1 b o e), x2, x3.of_keeps fun b o e _ => ⟨o, k b o e, rfl⟩, oe, vs, T, oT, ts, k _ _ e1, e2, e3, e4, e5, e6, k _ _ e7, e8, e9⟩
section
variable {X : Cx} {pins : List (Addr × Obj)} {σ : St} {H : Hp} {s₀ s₁ : Shared} {B : Heap} {a : Addr} {o : HO}
/-- the error stands on the ground, tracked from now on -/
theorem inv_found (I : Inv X pins σ H s₀) (ground : ∀ b u, s₀.heap.get? b = some u → b ∉ frs X.stack → B.get? b = some u) (stays : B.StaysIn s₁.heap) (up : s₀.heap.UpToSlots s₁.heap) (os : s₁.os = s₀.os) (bare : AllBare s₁.gens)
    (off : B.get? a = none) (noframe : a ∉ frs X.stack) (new : H a = none) (hO : ObjOk X.prog X.w (upd H a o) s₁.heap a o) : Inv X pins σ (upd H a o) s₁ := by
  have other : ∀ b u, s₀.heap.get? b = some u → b ≠ a := by
    rintro b u e rfl
    exact nomatch (show none = some u from off.symm.trans (ground b u e noframe))
  have hup : ∀ b u, H b = some u → upd H a o b = some u := fun b u e => (upd_ne (ne_of_none e new)).trans e
  have frame : ∀ b u, s₀.heap.get? b = some u → b ∈ frs X.stack → ∃ sl, s₁.heap.get? b = some { u with slots := sl } := fun b u e hb => by
    obtain ⟨_, v, hv, nf⟩ := I.stack.mem hb
    cases e.symm.trans hv
    exact up b u e nf
  refine I.call' (ch := []) os ⟨fun b u e _ hb _ => stays b u (ground b u e hb), fun b u e _ hb _ => frame b u e hb, fun b u e n _ => (upd_ne (other b u e)).trans n, fun b u e _ => ?_, fun b xs e => hup b _ e, fun b v xs e => hup b _ e, fun b ps e => ⟨#[], by simpa using hup b _ e⟩⟩
    (HOk.laidN ((I.inGround ground).kept stays) (fun _ _ e => e) new hO) bare fun _ z => nomatch z
  by_cases hb : b ∈ frs X.stack
  · exact (frame b u e hb).imp' _ fun _ q => q
  · exact ⟨u, stays b u (ground b u e hb)⟩
theorem inv_inSuite (I : Inv X pins σ H s₁) (a : Addr) : Inv (X.suite a (X.pn ++ pins)) [] σ H s₁ where
  ok := I.ok.suite _ _
  os := I.os
  bare := I.bare
  base := I.base
  loc := I.loc
  cell := I.cell
  free := I.free
  freeC := I.freeC
  pin := fun p hp => I.pin p (by simpa using hp)
  hok := I.hok
  len := I.len
theorem inv_offSuite {pn' : List (Addr × Obj)} (ok : X.Ok) (I : Inv (X.suite a (X.pn ++ pins)) pn' σ H s₁) : Inv X pins σ H s₁ where
  ok := ok
  os := I.os
  bare := I.bare
  base := I.base
  loc := I.loc
  cell := I.cell
  free := I.free
  freeC := I.freeC
  pin := fun p hp => I.pin p (List.mem_append.mpr (.inl hp))
  hok := I.hok
  len := I.len
end
/-- behind the suite the error's name is gone -/
abbrev endsLess (D : Ends) (i : Nat) : Ends := { nx := fun σ' H' => D.nx (σ'.set i none) H', rt := D.rt, bk := fun σ' H' => D.bk (σ'.set i none) H', ct := fun σ' H' => D.ct (σ'.set i none) H' }
/-- what is asked of an error that comes to 'except (..) as n': slot i is n's -/
def wAsT (K : PySem.W.Frag) (m : Nat) (cs : List Value) (i : Nat) (ts : TS) (Wout : WX) (D : Ends) : WX := fun cls d σ H =>
  ∃ b, PySem.W.exmAny K cls cs = some b ∧ (b = true → ∀ a, H a = none → σ.length = m → ts (endsLess D i) (σ.set i (some (.ref a))) (upd H a (exr a cls d))) ∧ (b = false → Wout cls d σ H)
section
variable {X : Cx} {x1 x2 x3 n : Str} {C1 C2 C3 : Addr} {i kk : Nat} {body suite : List Stmt} {b₀ : Stmt} {np1 np2 np3 np4 pos pos' : Pos} {tb : WX → TS} {ts : TS} {Wout : WX}
/-- the three classes' tuple -/
theorem three_classes {a : Addr} {pn : List (Addr × Obj)} {σ : St} {H : Hp} {s : Shared} {Q E : Value → Shared → Prop} (I : Inv (X.suite a pn) [] σ H s)
    (hg1 : Gl X x1) (hm1 : X.mg x1 = some (.ref C1)) (hg2 : Gl X x2) (hm2 : X.mg x2 = some (.ref C2)) (hg3 : Gl X x3) (hm3 : X.mg x3 = some (.ref C3)) (d1 : (x1 == ("__debug__" : Str)) = false) (d2 : (x2 == ("__debug__" : Str)) = false) (d3 : (x3 == ("__debug__" : Str)) = false)
    (q : Q (.ref s.heap.objs.size) { s with heap := s.heap.push { cls := .type "tuple", data := .seq [.ref C1, .ref C2, .ref C3].toArray } }) :
    wpAny (model X.prog X.w) (X.A.mark (some (.ref a))) (eval (.Tuple [.Name x1 np1, .Name x2 np2, .Name x3 np3] kk np4) X.env) Q E s :=
  wpAny_Tuple_spliced (Calls.spliced_cons (ld_glob (X := X.suite a pn) I hg1 hm1 (Calls.spliced_cons (ld_glob (X := X.suite a pn) I hg2 hm2 (Calls.spliced_cons (ld_glob (X := X.suite a pn) I hg3 hm3 (Calls.spliced_nil ⟨by show 3 ≤ sizeLine; decide, q⟩) d3)) d2)) d1))
/-- the suite's end -/
theorem suite_end {pins : List (Addr × Obj)} {a : Addr} {D : Ends} {fl : Flow} {s : Shared} (ok : X.Ok) (hN : X.N.Nodup) (hi : X.N[i]? = some n) (hln : X.env.kindOf n = some .local) (h : SP (X.suite a (X.pn ++ pins)) [] (endsLess D i) fl s) :
    wpAny (model X.prog X.w) X.A (do bindName X.env n .none; unbindBehindTheSuite X.env n pos') (fun _ s' => SP X pins D fl s') X.xe s := by
  rcases fl with _ | _ | _ | u
  all_goals first
    | (obtain ⟨v, σ', H', J, rv, q⟩ := h; exact gone_ok (inv_offSuite ok J) hN hi hln fun s' J' => ⟨v, _, H', J', rv, q⟩)
    | (obtain ⟨σ', H', J, q⟩ := h; exact gone_ok (inv_offSuite ok J) hN hi hln fun s' J' => ⟨_, H', J', q⟩)
theorem ps_try_asT3 (hs : X.stack = X.env :: X.outer) (hf : X.env.frame = some X.env.locals) (hN : X.N.Nodup) (hi : X.N[i]? = some n) (hln : X.env.kindOf n = some .local)
    (hg1 : Gl X x1) (hm1 : X.mg x1 = some (.ref C1)) (hg2 : Gl X x2) (hm2 : X.mg x2 = some (.ref C2)) (hg3 : Gl X x3) (hm3 : X.mg x3 = some (.ref C3)) (tk : Takes X Wout)
    (hb : ∀ (W : WX) (pn : List (Addr × Obj)) (xe : Value → Shared → Prop), Takes (X.tr pn xe) W → PassesOwn (model X.prog X.w) X.A X.env xe → PSs (X.tr pn xe) body (tb W)) (hsu : ∀ (a : Addr) (pn : List (Addr × Obj)), PSs (X.suite a pn) (b₀ :: suite) ts)
    (d1 : (x1 == ("__debug__" : Str)) = false := by decide) (d2 : (x2 == ("__debug__" : Str)) = false := by decide) (d3 : (x3 == ("__debug__" : Str)) = false := by decide) :
    PS X (.Try body [.ExceptHandler (some (.Tuple [.Name x1 np1, .Name x2 np2, .Name x3 np3] kk np4)) (some n) (b₀ :: suite) pos'] [] [] pos) (fun D σ H => tb (wAsT X.K X.N.length [.ref C1, .ref C2, .ref C3] i ts Wout D) D σ H) := by
  constructor
  intro pins s σ H D I asked
  have fine := I.ok
  have stk : X.A.frames = some (X.env :: X.outer) := hs ▸ fine.frames
  let hdl : ExceptHandler := .ExceptHandler (some (.Tuple [.Name x1 np1, .Name x2 np2, .Name x3 np3] kk np4)) (some n) (b₀ :: suite) pos'
  let catches : Value → Shared → Prop := fun e t => wpAny (model X.prog X.w) X.A (noteFrame e X.env) (fun _ t₂ => wpAny (model X.prog X.w) X.A (setFlight e none) (fun _ t₃ => wpAny (model X.prog X.w) X.A (handleBy e X.env [hdl]) (SP X pins D) X.xe t₃) X.xe t₂) X.xe t
  have caught : Takes (X.tr (X.pn ++ pins) catches) (wAsT X.K X.N.length [.ref C1, .ref C2, .ref C3] i ts Wout D) := by
    rintro _ t ⟨a, B, t₀, pins', σ', H', cls, d, rfl, I₀, ground, up, sky, new, os, bare, b, kind, yes, no⟩
    have J₀ : Inv X pins σ' H' t₀ := I₀.ofTry fine
    refine Sky.land Zc.steady stk hf (hs ▸ sky) fun h₁ fly₁ up₁ => ?_
    have J₁ : Inv X pins σ' H' { t with heap := h₁ } := J₀.landed ground fly₁.1 (up.trans up₁) os bare
    obtain ⟨ox, vx, there, hz, flds⟩ := fly₁.there
    have noframe : a ∉ frs X.stack := fun hm => by
      rw [hs] at hm
      obtain ⟨_, u, hu, nf⟩ := fly₁.2.2.1.mem hm
      cases there.symm.trans hu
      exact nf _ flds
    -- the tuple of the classes is laid
    have more : ∀ b u, h₁.get? b = some u → (h₁.push { cls := .type "tuple", data := .seq [.ref C1, .ref C2, .ref C3].toArray }).get? b = some u := fun b u e => Heap.get?_push_of_some _ e
    have J₂ := J₁.kept (t' := t.toks) more
    have fly₂ := FlyingZ.kept fly₁ more
    have up₂ := (up.trans up₁).trans (Heap.UpToSlots.of_keeps more)
    refine wpAny_handleBy_cons (codeAny_handlers_test (three_classes (inv_inSuite J₁ a) hg1 hm1 hg2 hm2 hg3 hm3 d1 d2 d3 ?_)) (fun z => nomatch z)
    have cls_of : PySem.W.Looks (model X.prog X.w) _ (typeOf (.ref a)) cls := fun A Q E s k q => wpAny_typeOf_ref (k _ _ (more _ _ there)) (by rw [hz.1]; exact q)
    refine (PySem.W.exm_tup3 (M := model X.prog X.w) (tp := h₁.objs.size) J₂.kIn cls_of (Heap.get?_push_size _ rfl) kind).here ?_
    cases b
    · -- it goes on
      refine wpAny_handleBy_nil ?_
      obtain ⟨_, _, _, oy, vy, T, _, _, hy, _, fy, t1, _⟩ := id fly₂
      have on : wpAny (model X.prog X.w) X.A (setFlight (.ref a) X.env.frame) (fun _ t₄ => wpAny (model X.prog X.w) X.A (throw (.ref a) : Sem Flow) (SP X pins D) X.xe t₄) X.xe { t with heap := h₁.push { cls := .type "tuple", data := .seq [.ref C1, .ref C2, .ref C3].toArray } } := by
        rw [hf]
        exact HandSPX.setFlight_upZ fly₂ fun h₄ held up₄ => wpAny_throw (tk _ _ ⟨a, B, t₀, pins, σ', H', cls, d, rfl, J₀, ground, up₂.trans up₄, .inr (.inr (hs ▸ held)), new, os, bare, no rfl⟩)
      unfold PySem.passOn
      refine wpAny_bind (wpAny_field hy fy t1 ?_)
      rw [if_neg (by simp)]
      first
        | exact wpAny_bind on
        | exact wpAny_bind (wpAny_pure (wpAny_bind on))
    · -- the suite
      refine codeAny_handlers_suite_as (HandSPX.lands_againZ fly₂ fun h₃ fly₃ up₃ => ?_)
      obtain ⟨oz, vz, hz₁, hz₂, hz₃⟩ := fly₃.there
      have J₃ : Inv X pins σ' (upd H' a (exr a cls d)) { t with heap := h₃ } := inv_found (s₁ := { t with heap := h₃ }) J₀ ground fly₃.1 (up₂.trans up₃) os bare fly₃.2.1 noframe new (exr_ok hz₁ hz₂ hz₃)
      refine store_ok (X := X.suite a (X.pn ++ pins)) (v := .ref a) (inv_inSuite J₃ a) hN hi (.inl hln) rfl (fun s₄ J₄ => ?_) (.inr hln)
      exact wpAny_mono ((hsu a (X.pn ++ pins)).run [] s₄ _ _ _ J₄ (yes rfl a new J₀.len)) (fun fl s₅ out => suite_end fine hN hi hln out) fun _ _ z => False.elim z
  refine wpAny_Try_except (wpAny_mono ((hb _ _ catches caught PassesOwn.looking).run [] s σ H D (I.toTry catches) asked) (fun fl t out => ?_) fun _ _ z => z)
  rcases fl with _ | _ | _ | u
  all_goals first
    | (obtain ⟨v, σ', H', J, rv, q⟩ := out; exact ⟨v, σ', H', J.ofTry fine, rv, q⟩)
    | (obtain ⟨σ', H', J, q⟩ := out; exact wpAny_execs_nil ⟨σ', H', J.ofTry fine, q⟩)
    | (obtain ⟨σ', H', J, q⟩ := out; exact ⟨σ', H', J.ofTry fine, q⟩)
end
end L2.Cal
end

section
set_option maxRecDepth 100000
set_option maxHeartbeats 4000000
/-! defs called while an error is handled; what they ask of it -/
namespace L2.Cal
open PySem PySem.Spec PyProof.Rows L2
structure RoomS (k : Nat) (A : Around) : Prop where
  deep : 3 * k + (A.depth + 5) < recursionLimit
  wide : 16 * k + (A.units + 200) < cLine
theorem RoomS.mono {j k : Nat} {A : Around} (r : RoomS k A) (h : j ≤ k) : RoomS j A := ⟨by have := r.deep; omega, by have := r.wide; omega⟩
theorem RoomS.within {k : Nat} {A : Around} (r : RoomS (k + 1) A) (env : Env) : RoomS k (A.deeper env) := by
  obtain ⟨h1, h2⟩ := r
  have d : (A.deeper env).depth = A.depth + 1 := rfl
  have u : (A.deeper env).units = A.units + 3 := rfl
  exact ⟨by omega, by omega⟩
theorem RoomS.calls {k : Nat} {A : Around} (r : RoomS k A) : A.depth < recursionLimit := by have := r.deep; omega
theorem RoomS.units {k : Nat} {A : Around} (r : RoomS k A) : A.units + 64 < cLine := by have := r.wide; omega
theorem roomS_of {k : Nat} {A : Around} (r : Room k A) : RoomS k A := ⟨by have := r.dp; omega, by have := r.un; omega⟩
theorem roomS_mark {k : Nat} {A : Around} {v : Option Value} (r : RoomS k A) : RoomS k (A.mark v) := ⟨r.deep, r.wide⟩
structure FnS (P : Program) (w : World) (K : PySem.W.Frag) (mg : Str → Option Value) (base : Heap) (k : Nat) (f : Addr) (fd : FuncData) (ps : List Str) (sp : Sp) : Prop where
  many : ∀ us H Q E, sp us H Q E → us.length = ps.length
  run : ∀ (A : Around) (outer : List Env) (s : Shared) (H : Hp) (args : Args) (us : List Value) (vs : List V) (Q : VK) (E : XK), A.guards = some [] → RoomS k A → Env0 P w K mg base A outer s H → BindsTo s fd args (ps.zip us) → Vals vs us → sp vs H Q E →
    codeAny (model P w) A (.call (.ref f) args) (CR CX0 outer P w H s Q E) s
/-- the context of such a def's body: the pin is the module's own dict, which stands everywhere -/
abbrev cxS (P : Program) (w : World) (K : PySem.W.Frag) (mg : Str → Option Value) (base : Heap) (N : List Str) (qual : Str) (scope : Scope) (f : Addr) (cd : Value) (A : Around) (outer : List Env) (s : Shared) (H : Hp) (E : XK) (p : Addr × Obj) : Cx :=
  (L2H.cxH CX0 P w K mg base N qual scope f cd A outer s H E p).nox
/-- an object that stands everywhere, tracked nowhere -/
theorem pin_any {P : Program} {w : World} {K : PySem.W.Frag} {mg : Str → Option Value} {base : Heap} {A : Around} {outer : List Env} {s : Shared} {H : Hp} (e0 : Env0 P w K mg base A outer s H) : ∃ p, L2H.PinOk outer H s p := by
  obtain ⟨o, es, ep, ho, hd, _⟩ := e0.mod.glob
  have hb := e0.bs mainGlobals o ho
  refine ⟨(mainGlobals, o), hb.1, hb.2, fun hm => ?_, fun v hv => ?_⟩
  · have z := (e0.funs.mem hm).1
    rw [ho] at z
    cases z
  · have z : o.data = .cell v := hv
    rw [hd] at z
    cases z
section
variable {base : Heap} {P : Program} {w : World} {K : PySem.W.Frag} {mg : Str → Option Value}
theorem Fun_okS {x qual : Str} {st : Stmt} {f : Addr} {fd : FuncData} {N ps : List Str} {k : Nat} {sp : Sp} (F : Fun K x qual st f fd) (S : FnScope N ps (defScope st)) (many : ∀ us H Q E, sp us H Q E → us.length = ps.length)
    (body : ∀ (cdv : Value) (A : Around) (outer : List Env) (s : Shared) (H : Hp) (us : List V) (Q : VK) (E : XK) (p : Addr × Obj), A.guards = some [] → RoomS k (A.deeper (envOfC qual (defScope st) s.heap.objs.size f cdv)) → sp us H Q E →
      ∃ t, PSs (cxS P w K mg base N qual (defScope st) f cdv A outer s H E p) (defBody st) t ∧ t { nx := fun _ H' => Q .non H', rt := Q } (start N us) H) : FnS P w K mg base (k + 1) f fd ps sp := by
  obtain ⟨c1, c2, c3, c4, c5, c6, c7, c8, c9, rfl, look, code⟩ := F.ex
  refine ⟨many, fun A outer s H args us vs Q E guards room e0 ties vals promise => ?_⟩
  have stands : ∀ b o, base.get? b = some o → s.heap.get? b = some o := fun b o e => (e0.bs b o e).1
  have inK := e0.mod.kin.keeps stands
  refine codeAny_call_function room.calls (inK _ _ look) rfl S.co S.gen rfl (PySem.W.codeRec_of inK code) (ties _ _ _ _ (wpAny_newFunctionEnv_cells S.kind ?_ ?_))
  · rintro ⟨n, v⟩ hy
    exact (S.par n (List.of_mem_zip hy).1).imp id fun k => ⟨k, PySem.W.cellsFrom_some _ _ _ (.inl k)⟩
  · rintro env rfl s1 begun
    refine ⟨(e0.mod.nolimit.keeps stands).keeps begun.toInCall.keep, codeAny_func ?_⟩
    obtain ⟨p, pinned⟩ := pin_any e0
    obtain ⟨t, walks, asked⟩ := body c7 A outer s H vs Q E p guards (room.within _) promise
    have I := L2H.inv_startH (CX := CX0) (E := E) S pinned e0 (many _ _ _ _ promise) vals begun
    refine wpAny_mono (PSs.nox (X := L2H.cxH CX0 P w K mg base N qual (defScope st) f c7 A outer s H E p) walks |>.run [] s1 _ H _ I asked) (fun fl s' hs => ?_) fun e s' hs => hs
    rcases fl with _ | _ | _ | u
    all_goals first
      | (obtain ⟨v, σ', H', J, rv, q⟩ := hs; exact ⟨v, H', J.os, J.bare, J.base, J.hok, rv, q⟩)
      | (obtain ⟨σ', H', J, q⟩ := hs; exact ⟨.non, H', J.os, J.bare, J.base, J.hok, rfl, q⟩)
      | (obtain ⟨_, _, _, q⟩ := hs; exact q.elim)
end
section
variable {X : Cx} {k : Nat} {f : Addr} {fd : FuncData} {ps : List Str} {sp : Sp} {E : XK} {x : Str} {p pos : Pos} {e : Expr} {es : List Expr} {t : TA} {te : TE}
theorem pe_callS (F : FnS X.prog X.w X.K X.mg X.base k f fd ps sp) (hA : X.A.guards = some []) (hr : RoomS k X.A) (hg : Gl X x) (hm : X.mg x = some (.ref f)) (hk : PySem.W.keepIn X.K (.ref f) = true) (hb : Binds X.K fd ps [])
    (ha : PA X (e :: es) t) (hdb : (x == ("__debug__" : Str)) = false := by decide)
    (he : starEach (e :: es) X.env = (false, eval e X.env) :: starEach es X.env := by rfl) (hpl : (backTo pos (starEach es X.env)).any (·.1) = false := by rfl) : PE X (.Call (.Name x p) (e :: es) [] pos) (tCall sp [] E0 t) := by
  constructor
  intro pins s σ H Q I asked
  refine wpAny_Call_Name_kw (ld_glob I hg hm (PySem.W.callWith_K (h₀ := X.base) I.ok.mod.kin hk (thn (ha.run pos pins s σ H _ I asked) ?_) he hpl) hdb)
  rintro us s1 ⟨vs, H1, J, vals, promise⟩
  have vals' : Vals (vs ++ []) (us ++ []) := vals.append .nil
  have ties := hb s1 us J.kIn (vals'.length.symm.trans (F.many _ _ _ _ promise))
  refine ⟨J.kIn, wpAny_call (codeAny_mono (F.run X.A X.stack s1 H1 ⟨us, []⟩ _ _ Q E0 hA hr J.env0 ties vals' promise) ?_)⟩
  rintro (_ | (_ | _ | _ | _)) s' out <;> first | exact J.after out | exact False.elim out
/-! ### what is asked of the error -/
def rIsErrR (K : PySem.W.Frag) : List V → Hp → VK → Prop := fun xs H Q => ∃ (a C : Addr) (d : Option Addr) (c : V) (cv : Value) (b : Bool), xs = [.ref a, c] ∧ (∀ u, RelV c u → u = cv) ∧ H a = some (exr a (.ref C) d) ∧ (∀ dd, d = some dd → ∃ fs, H dd = some (exd dd fs)) ∧ ErrQ K C ∧ PySem.W.kitOne K (.ref C) cv = some b ∧ Q (.bl b) H
/-- the error as an instance of its class -/
theorem errAt_inst {P : Program} {w : World} {H : Hp} {h : Heap} {a C : Addr} {d : Option Addr} (hok : HOk P w H h) (hE : H a = some (exr a (.ref C) d)) (hd : ∀ dd, d = some dd → ∃ fs, H dd = some (exd dd fs)) : ∃ ox od, PySem.W.InstAt h a ox C od := by
  obtain ⟨ox, vs, there, hz, flds⟩ := exr_at hok hE
  have nc : PySem.W.notCls ox := by unfold PySem.W.notCls; rw [flds] <;> rfl
  rcases d with _ | dd
  · exact ⟨ox, none, there, hz.1, nc, by rw [hz.2]; exact True.intro⟩
  · obtain ⟨fs, h2⟩ := hd dd rfl
    obtain ⟨mA, hns, _⟩ := exd_at hok h2
    obtain ⟨od, hod, _⟩ := lookIn_ns hns
    exact ⟨ox, some od, there, hz.1, nc, by rw [hz.2]; exact hod⟩
theorem call_isErrR : CallR X (.builtin "isinstance") (rIsErrR X.K) := by
  rintro pins s σ H _ us Q I r ⟨a, C, d, c, cv, b, rfl, hcv, hE, hd, T, e, q⟩
  obtain ⟨u1, u2, rfl, r1, r2⟩ := vals2 r
  obtain rfl : u1 = Value.ref a := r1
  obtain rfl := hcv _ r2
  obtain ⟨ox, od, J⟩ := errAt_inst I.hok hE hd
  exact PySem.W.kia_one (PySem.W.kitx_exc T.cl T.ga T.gg T.exC T.dcl T.dget T.dtk T.mobj) I.kIn J e (fun z => nomatch z) fun tk => ⟨.bl b, H, I.kept (t' := tk) fun _ _ z => z, rfl, q⟩
def tErrFldR (K : PySem.W.Frag) (f : Str) (te : TE) : TE := fun σ H Q => te σ H fun x H1 => ∃ (a C d : Addr) (fs : List (Str × V)) (v : V), x = .ref a ∧ H1 a = some (exr a (.ref C) (some d)) ∧ H1 d = some (exd d fs) ∧ fs.lookup f = some v ∧ ErrQ K C ∧ PySem.W.findIn K (.ref C) f = some none ∧ Q v H1
theorem pe_errFldR {f : Str} (he : PE X e te) (hb : attributeBase e f X.env (eval e X.env) = eval e X.env := by rfl) : PE X (.Attribute e f pos) (tErrFldR X.K f te) := by
  constructor
  intro pins s σ H Q I asked
  refine attr_of hb (thn (he.run pins s σ H _ I asked) ?_)
  rintro u s1 ⟨x, H1, J, rx, a, C, d, fs, v, rfl, h1, h2, hl, T, hno, q⟩
  obtain rfl : u = Value.ref a := rx
  obtain ⟨ox, vs, there, hz, flds⟩ := exr_at J.hok h1
  obtain ⟨mA, hns, hr⟩ := exd_at J.hok h2
  obtain ⟨od, hod, hlk⟩ := lookIn_ns hns
  obtain ⟨y, hy, ry⟩ := RelO.some_of (v := v) (o := mA f) (hl ▸ hr f)
  have inst : PySem.W.InstAt s1.heap a ox C (some od) := ⟨there, hz.1, by unfold PySem.W.notCls; rw [flds] <;> rfl, by rw [hz.2]; exact hod⟩
  exact HandSPX.exc_get J.kIn inst T.ga T.gg T.exC (PySem.W.findObj_own T.hd hno rfl (by rw [hlk, hy])) (handed_of ry) ⟨v, H1, J.tok _, ry, q⟩
/-! ### xs.count(y), flat items -/
theorem count_eqU {y : V} : ∀ {ys : List V} {us : List Value}, Vals ys us → (∀ z ∈ ys, flatV z = true) → (us.countP fun u => eqU y u) = ys.countP fun z => eqV z y
  | _, _, .nil, _ => rfl
  | _, _, .cons r t, f => by
    rw [List.countP_cons, List.countP_cons, count_eqU t fun z hz => f z (List.mem_cons_of_mem _ hz), eqU_of r (f _ List.mem_cons_self)]
def rCntF (K : PySem.W.Frag) : V → List V → Hp → VK → Prop := fun x xs H Q => ∃ (p : Addr) (ys : List V) (y : V), x = .ref p ∧ xs = [y] ∧ SqL K H p ys ∧ flatV y = true ∧ ys.all flatV = true ∧ Q (.int ((ys.countP fun z => eqV z y : Nat) : Int)) H
theorem mt_lcountF : MtR X "list.count" (rCntF X.K) := by
  rintro pins s σ H _ _ v us Q I rx rxs ⟨p, ys, y, rfl, rfl, hs, fy, fys, q⟩
  cases rx
  obtain ⟨u, rfl, ru⟩ := rxs.one
  obtain ⟨its, rv, ⟨⟨cls, dd, data, sl⟩, n, ho, hc, _, hd⟩, _⟩ := I.list hs
  obtain rfl : cls = _ := hc
  obtain rfl : data = _ := hd
  have same := count_eqU (y := y) rv (List.all_eq_true.mp fys)
  have meets := SeqAt.list_countAt p its.toArray n dd sl u (eqU y)
  rw [show its.toArray.toList = its from rfl, same] at meets
  exact call_meets PySem.F.slot_list_count ⟨_, ho, rfl⟩ PySem.F.entry_list_count (PySem.F.args_list_count_2 _ _) meets ⟨ho, fun w hw => mem_eqAt ru fy rv fys w (by simpa using hw), ⟨.int ((ys.countP fun z => eqV z y : Nat) : Int), H, I.tok _, ⟨_, rfl⟩, q⟩⟩
end
end L2.Cal
end

section
set_option maxRecDepth 100000
set_option maxHeartbeats 4000000
namespace L2.Cal
open PySem PySem.Spec PyProof.Rows L2
/-! ### values that are asked whether they are orders -/
def isOrd : V → Bool
  | .str y => ordB y
  | _ => false
def Ask (K : PySem.W.Frag) (H : Hp) (x : V) : Prop := (∃ y, x = .str y ∧ y.cps.size ≤ 1000) ∨ ((∀ y, x ≠ .str y) ∧ ∃ T, TyX K H x T ∧ PySem.W.kitOne K T (.type "str") = some false)
theorem isOrd_not {x : V} (h : ∀ y, x ≠ .str y) : isOrd x = false := by
  cases x <;> first | rfl | exact absurd rfl (h _)
def ordOf (z : Str) : V → Bool
  | .str y => ordB y && decide (tidy y = z)
  | _ => false
theorem ordOf_not {z : Str} {x : V} (h : ∀ y, x ≠ .str y) : ordOf z x = false := by
  cases x <;> first | rfl | exact absurd rfl (h _)
theorem ordOf_str (z y : Str) : ordOf z (.str y) = (ordB y && decide (tidy y = z)) := rfl
theorem ordB_size {y : Str} (h : ordB y = true) : y.cps.size ≤ 6 := by
  unfold ordB at h
  rw [Bool.and_eq_true] at h
  exact (of_decide_eq_true h.1).2
theorem fn_either {P : Program} {w : World} {K : PySem.W.Frag} {mg : Str → Option Value} {base : Heap} {CX : CXT} {k : Nat} {f : Addr} {fd : FuncData} {ps : List Str} {sp sp' : Sp} (F : FnOk P w K mg base CX k f fd ps sp) (F' : FnOk P w K mg base CX k f fd ps sp') :
    FnOk P w K mg base CX k f fd ps (fun vs H Q E => sp vs H Q E ∨ sp' vs H Q E) :=
  ⟨fun vs H Q E h => h.elim (F.len vs H Q E) (F'.len vs H Q E), fun A o s H args us vs Q E hr e0 hb r h => h.elim (F.run A o s H args us vs Q E hr e0 hb r) (F'.run A o s H args us vs Q E hr e0 hb r)⟩
theorem fn_from {P : Program} {w : World} {K : PySem.W.Frag} {mg : Str → Option Value} {base : Heap} {CX : CXT} {k : Nat} {f : Addr} {fd : FuncData} {ps : List Str} {sp sp' : Sp} (F : FnOk P w K mg base CX k f fd ps sp) (i : ∀ vs H Q E, sp' vs H Q E → sp vs H Q E) :
    FnOk P w K mg base CX k f fd ps sp' :=
  ⟨fun vs H Q E h => F.len vs H Q E (i _ _ _ _ h), fun A o s H args us vs Q E hr e0 hb r h => F.run A o s H args us vs Q E hr e0 hb r (i _ _ _ _ h)⟩
def spIsN (K : PySem.W.Frag) : Sp := fun vs H Q _ => ∃ x T, vs = [x] ∧ TyX K H x T ∧ PySem.W.kitOne K T (.type "str") = some false ∧ Q (.bl false) H
def spIsA (K : PySem.W.Frag) : Sp := fun vs H Q _ => ∃ x, vs = [x] ∧ Ask K H x ∧ ∀ H', Same H H' → Q (.bl (isOrd x)) H'
abbrev sIoo : Stmt := topS 20
theorem scIoo : FnScope ["things", "value"] ["things", "value"] (defScope sIoo) := ⟨rfl, rfl, rfl, by decide +kernel, rfl, by decide +kernel, by decide +kernel⟩
abbrev sCki : Stmt := topS 24
theorem scCki : FnScope ["roll", "order"] ["roll", "order"] (defScope sCki) := ⟨rfl, rfl, rfl, by decide +kernel, rfl, by decide +kernel, by decide +kernel⟩
def spIoo (K : PySem.W.Frag) : Sp := fun vs H Q _ => ∃ z x, vs = [.str z, x] ∧ Ask K H x ∧ ∀ H', Same H H' → Q (.bl (ordOf z x)) H'
section
variable {P : Program} {w : World} {K : PySem.W.Frag} {mg : Str → Option Value} {base : Heap}
theorem ok_isn {f : Addr} {fd : FuncData} (D : DefAt K mg "is_order" sIsO ["value"] f fd) (T : Txt mg) (Lm : Lims mg) : FnOk P w K mg base CX0 1 f fd ["value"] (spIsN K) := by
  obtain ⟨_, c1⟩ := Lm.c1
  obtain ⟨_, c2⟩ := Lm.c2
  refine D.F.ok scIsO (fun vs H Q E h => ?_) (fun cdv A outer sh H vs Q E hr h => ?_)
  · obtain ⟨x, Ty, rfl, _⟩ := h
    rfl
  · obtain ⟨x, Ty, rfl, ty, kit, q⟩ := h
    refine ⟨_, (pss_cons (ps_if (PW.pt (pw_or (pt_not (pt_val (pe_callB call_isi (by rfl) T.b_isinstance (by decide +kernel) (pa_cons (pv 0) (pa_cons (pe_bty (n := "str") (by rfl) T.b_str (by decide +kernel)) pa_nil))))) (pw_or1 (pt_not (pt_chain op_le op_le (pe_glob (v := .int 3) (by rfl) c1 ⟨_, rfl⟩) (pe_callB call_len_str (by rfl) T.b_len (by decide +kernel) (pa_cons (pv 0) pa_nil)) (pe_glob (v := .int 6) (by rfl) c2 ⟨_, rfl⟩))))))
   (pss_one (ps_ret pe_bl))
   pss_nil)
  (pss_one ps_never)), ?_⟩
    exact ⟨_, rfl, x, .ty "str", Ty, .type "str", false, rfl, .ty _, ty, kit, false, rfl, iteT q⟩
theorem ok_isa {f : Addr} {fd : FuncData} (D : DefAt K mg "is_order" sIsO ["value"] f fd) (T : Txt mg) (Lm : Lims mg) : FnOk P w K mg base CX0 1 f fd ["value"] (spIsA K) :=
  fn_from (fn_either (ok_iso D T Lm) (ok_isn D T Lm)) fun vs H Q E ⟨x, ev, ask, q⟩ => by
    rcases ask with ⟨y, rfl, hy⟩ | ⟨ny, Ty, ty, kit⟩
    · exact .inl ⟨y, ev, hy, q⟩
    · exact .inr ⟨x, Ty, ev, ty, kit, by rw [← isOrd_not ny]; exact q H fun _ _ z => z⟩
theorem ok_ioo {f fI fT : Addr} {fd fdI fdT : FuncData} (D : DefAt K mg "is_order_of" sIoo ["things", "value"] f fd) (DI : DefAt K mg "is_order" sIsO ["value"] fI fdI) (DT : DefAt K mg "things_of" sThO ["order"] fT fdT) (T : Txt mg) (Lm : Lims mg) :
    FnOk P w K mg base CX0 2 f fd ["things", "value"] (spIoo K) := by
  have GI : FnOk P w K mg base CX0 1 fI fdI ["value"] (spIsA K) := ok_isa DI T Lm
  have GT : FnOk P w K mg base CX0 1 fT fdT ["order"] spThO := ok_tho DT T
  refine D.F.ok scIoo (fun vs H Q E h => ?_) (fun cdv A outer sh H vs Q E hr h => ?_)
  · obtain ⟨z, x, rfl, _⟩ := h
    rfl
  · obtain ⟨z, x, rfl, ask, q⟩ := h
    refine ⟨_, (pss_one (ps_ret (pe_and (pe_call GI (hr.mono (by decide)) (by rfl) DI.g DI.F.kp DI.b .nil pass0 (pa_cons (pv 1) pa_nil)) (pe_one (pe_cmpR op_eq (pe_call GT (hr.mono (by decide)) (by rfl) DT.g DT.F.kp DT.b .nil pass0 (pa_cons (pv 1) pa_nil)) (pv 0) (nomark _)))))), ?_⟩
    refine ⟨_, rfl, x, rfl, ask, fun H1 s1 => ⟨_, rfl, ?_⟩⟩
    rcases ask with ⟨y, rfl, hy⟩ | ⟨ny, _⟩
    · cases e : ordB y with
      | false =>
        have q1 := q H1 s1
        rw [ordOf_str, e, Bool.false_and] at q1
        rw [show isOrd (.str y) = false from e]
        exact iteF q1
      | true =>
        refine (ite2 (fun _ => ?_) (fun z => absurd e z))
        refine ⟨_, rfl, y, rfl, by have := ordB_size e; omega, fun H2 s2 => ⟨_, rfl, rfl, ?_⟩⟩
        have q2 := q H2 (s1.trans s2)
        rw [ordOf_str, e, Bool.true_and] at q2
        have e2 : decide (V.str (tidy y) = V.str z) = decide (tidy y = z) := by simp
        rw [e2]
        exact q2
    · have q1 := q H1 s1
      rw [ordOf_not ny] at q1
      rw [isOrd_not ny]
      exact iteF q1
end
end L2.Cal
end

section
set_option maxRecDepth 100000
set_option maxHeartbeats 4000000
namespace L2.Cal
open PySem PySem.Spec PyProof.Rows L2
/-- a class of errors that is raised by its name -/
structure Thr (P : Program) (K : PySem.W.Frag) (mg : Str → Option Value) (x f : Str) (C : Addr) : Prop where
  g : mg x = some (.ref C)
  e : ErrI P K C f f
abbrev giv : Str := "given"
/-- what is raised, whatever new stands by then -/
abbrev Throws (H : Hp) (C : Addr) (f : Str) (v : V) (E : XK) : Prop := ∀ H1, Same H H1 → Thrown H1 C f v E
def spCki (K : PySem.W.Frag) (C CI CU : Addr) : Sp := fun vs H Q E => ∃ (a t : Addr) (z : Str) (ys : List Str) (x : V), vs = [.ref a, x] ∧ RollAt C H a t z ∧ SqT K H t (ys.map V.str) ∧ Ask K H x ∧
  (ordOf z x = false → Throws H CI giv x E) ∧ (∀ y, x = .str y → ordOf z x = true → y ∉ ys → Throws H CU giv x E) ∧ (∀ y, x = .str y → ordOf z x = true → y ∈ ys → ∀ H', Same H H' → Q .non H')
/-- a new roll -/
abbrev NewRoll (K : PySem.W.Frag) (C : Addr) (H : Hp) (zs : List Str) (y : Str) (Q : VK) : Prop := ∀ (a t : Addr) (H' : Hp), Same H H' → H a = none → H' t = some (.tup (zs.map V.str)) → RollAt C H' a t (tidy y) → Q (.ref a) H'
theorem in_text {z : Str} {ys : List Str} : inV (.str z) (ys.map V.str) = decide (z ∈ ys) := by
  unfold inV
  rw [Bool.eq_iff_iff, decide_eq_true_eq, List.any_eq_true]
  constructor
  · rintro ⟨v, hv, e⟩
    obtain ⟨y', hy, rfl⟩ := List.mem_map.mp hv
    have : y' = z := by simpa [eqV] using e
    exact this ▸ hy
  · intro hy
    exact ⟨.str z, List.mem_map.mpr ⟨z, hy, rfl⟩, by simp [eqV]⟩
theorem ordOf_shape {z : Str} {x : V} (h : ordOf z x = true) : ∃ y, x = .str y ∧ ordB y = true ∧ tidy y = z := by
  cases x with
  | str y =>
    rw [ordOf_str, Bool.and_eq_true] at h
    exact ⟨y, rfl, h.1, of_decide_eq_true h.2⟩
  | _ => exact absurd h Bool.false_ne_true
theorem tidy_back {x y : Str} (h : tidy x = tidy y) : x.cps.toList.Perm y.cps.toList := (tidy_perm x).symm.trans (h ▸ tidy_perm y)
section
variable {P : Program} {w : World} {K : PySem.W.Frag} {mg : Str → Option Value} {base : Heap} {C CI CU CM CF pT fT fC : Addr} {fdT fdC : FuncData}
theorem ok_cki {f fO fI fH : Addr} {fd fdO fdI fdH : FuncData} (D : DefAt K mg "check_order_in" sCki ["roll", "order"] f fd) (DO : DefAt K mg "is_order_of" sIoo ["things", "value"] fO fdO) (DI : DefAt K mg "is_order" sIsO ["value"] fI fdI) (DH : DefAt K mg "things_of" sThO ["order"] fH fdH)
    (PT : PropOf K C "things" pT fT) (FT : Fun K "things" "Roll.things" sThi fT fdT) (bT : Binds K fdT ["self"] []) (OC : Own K C "__contains__" fC) (FC : Fun K "__contains__" "Roll.__contains__" sCon fC fdC) (bC : Binds K fdC ["self", "x"] [])
    (XI : Thr P K mg "InvalidOrder" giv CI) (XU : Thr P K mg "UnknownOrder" giv CU) (T : Txt mg) (Lm : Lims mg) (R : RollC K mg C) : FnOk P w K mg base (L2.CX P w) 3 f fd ["roll", "order"] (spCki K C CI CU) := by
  have GO : FnOk P w K mg base CX0 2 fO fdO ["things", "value"] (spIoo K) := ok_ioo DO DI DH T Lm
  have GT : FnOk P w K mg base CX0 1 fT fdT ["self"] (spThi C) := ok_thi FT R
  have GC : FnOk P w K mg base CX0 1 fC fdC ["self", "x"] (spCon K C) := ok_con FC T R
  refine D.F.okX scCki (fun vs H Q E h => ?_) (fun cdv A outer sh H vs Q E hr h => ?_)
  · obtain ⟨a, t, z, ys, x, rfl, _⟩ := h
    rfl
  · obtain ⟨a, t, z, ys, x, rfl, hR, hT, ask, q1, q2, q3⟩ := h
    refine ⟨_, (pss_cons (ps_if (pt_not (pt_val (pe_call GO (hr.mono (by decide)) (by rfl) DO.g DO.F.kp DO.b .nil pass0 (pa_cons (pe_prop (pv 0) R.cls PT GT (hr.mono (by decide)) bT .nil pass0 rfl) (pa_cons (pv 1) pa_nil)))))
   (pss_one (ps_raise rfl (takes_of rfl rfl rfl rfl) (pmk_err XI.e T.b_super (hr.mono (by decide)) (by rfl) XI.g (pv 1))))
   pss_nil)
  (pss_one (ps_if (pt_cmpR (op_notInO OC GC (hr.mono (by decide)) bC pass0) (pv 1) (pv 0) (by rfl))
   (pss_one (ps_raise rfl (takes_of rfl rfl rfl rfl) (pmk_err XU.e T.b_super (hr.mono (by decide)) (by rfl) XU.g (pv 1))))
   pss_nil))), ?_⟩
    obtain ⟨dx, fs, ha, l1, l2⟩ := id hR
    refine ⟨_, rfl, a, dx, fs, rfl, ha, a, t, z, rfl, hR, _, rfl, z, x, rfl, ask, fun H1 s1 => ⟨_, rfl, ?_⟩⟩
    cases e : ordOf z x with
    | false => exact iteT ⟨_, rfl, q1 e H1 s1⟩
    | true =>
      obtain ⟨y, rfl, oy, _⟩ := ordOf_shape e
      refine iteF ⟨_, rfl, _, rfl, a, dx, fs, rfl, s1 _ _ ha, a, t, z, ys, .str y, .type "str", true, rfl, hR.same s1, same_seqT hT s1, .base (.str y), by simp [PySem.W.kitOne], fun _ => ⟨y, rfl⟩, _, rfl, ?_⟩
      rw [Bool.true_and]
      show ∃ k, V.bl (!(decide (y ∈ ys))) = V.bl k ∧ _
      by_cases hy : y ∈ ys
      · rw [decide_eq_true hy]
        exact ⟨_, rfl, iteF (q3 y rfl e hy H1 s1)⟩
      · rw [decide_eq_false hy]
        exact ⟨_, rfl, iteT ⟨_, rfl, q2 y rfl e hy H1 s1⟩⟩
end
end L2.Cal
end

section
set_option maxRecDepth 100000
set_option maxHeartbeats 4000000
set_option synthInstance.maxHeartbeats 400000
namespace L2.Cal
open PySem PySem.Spec PyProof.Rows L2
/-- what the types of the language are of -/
structure KitN (K : PySem.W.Frag) : Prop where
  i : ∀ T ∈ tyNames, PySem.W.kitOne K (.type T) (.type "int") = some (decide (T = "int" ∨ T = "bool"))
  b : ∀ T ∈ tyNames, PySem.W.kitOne K (.type T) (.type "bool") = some (decide (T = "bool"))
/-- a value of a type of the language -/
def Itm (H : Hp) (x : V) : Prop := ∃ d T, TyV H x d T
theorem Itm.same {H H' : Hp} {x : V} (h : Itm H x) (s : Same H H') : Itm H' x := h.imp fun _ ⟨T, t⟩ => ⟨T, t.same s⟩
theorem Itm.int {H : Hp} (i : Int) : Itm H (.int i) := ⟨_, _, .int i⟩
def isNum : V → Bool
  | .int _ => true
  | _ => false
theorem TyV.num {H : Hp} {x : V} {d : PyData} {T : String} (t : TyV H x d T) : (∃ i, x = .int i ∧ T = "int") ∨ (isNum x = false ∧ T ≠ "int") := by
  cases t
  case int i => exact .inl ⟨i, rfl, rfl⟩
  all_goals exact .inr ⟨rfl, by decide⟩
def spNumG : Sp := fun vs H Q _ => ∃ x : V, vs = [x] ∧ Itm H x ∧ Q (.bl (isNum x)) H
theorem sl_j {K : PySem.W.Frag} {H : Hp} {a : Addr} {xs : List V} {lo hi : Option Int} {Q : VK} (e : H a = some (.tup xs)) (q : ∀ b H', Same H H' → H' b = some (.tup (cutV xs lo hi)) → Q (.ref b) H') : rSlA K (.ref a) lo hi H Q := by
  refine ⟨a, xs, rfl, SqT.of e, fun h => q a H (fun _ _ z => z) ?_, fun _ p np => q p _ (same_new np) upd_same⟩
  rw [e]
  unfold cutV
  rw [h.1, h.2, List.drop_zero, Nat.sub_zero, List.take_length]
/-- the numbers, one of them otherwise -/
theorem cut_set {ns : List Int} {i : Nat} (h : i < ns.length) (k : Int) : cutV (ns.map V.int) none (some (i : Int)) ++ (V.int k :: cutV (ns.map V.int) (some ((i : Int) + 1)) none) = (ns.set i k).map V.int := by
  have e1 : cutV (ns.map V.int) none (some (i : Int)) = (ns.map V.int).take i := by
    unfold cutV
    rw [HT.sIx_none, show HT.sIx (ns.map V.int).length (ns.map V.int).length (some (i : Int)) = min i (ns.map V.int).length from HT.sIx_nat _ _ i, List.drop_zero, List.length_map, Nat.sub_zero, Nat.min_eq_left (Nat.le_of_lt h)]
  have e2 : cutV (ns.map V.int) (some ((i : Int) + 1)) none = (ns.map V.int).drop (i + 1) := by
    unfold cutV
    rw [HT.sIx_none, show HT.sIx (ns.map V.int).length 0 (some ((i : Int) + 1)) = min (i + 1) (ns.map V.int).length from HT.sIx_nat _ _ (i + 1), List.length_map, Nat.min_eq_left (show i + 1 ≤ ns.length from h)]
    refine List.take_of_length_le ?_
    rw [List.length_drop, List.length_map]
    exact Nat.le_refl _
  rw [e1, e2, List.map_set, List.set_eq_take_append_cons_drop, if_pos (by rw [List.length_map]; exact h)]
abbrev sJnd : Stmt := crS 12
theorem scJnd : FnScope ["self", "order", "many", "at", "number"] ["self", "order", "many"] (defScope sJnd) := ⟨rfl, rfl, rfl, by decide +kernel, rfl, by decide +kernel, by decide +kernel⟩
def newOk (ns : List Int) (i : Nat) (k : Int) : Bool := decide (0 ≤ ns.getD i 0 + k) && decide (ns.sum + k ≠ 0)
def newNs (ns : List Int) (i : Nat) (k : Int) : List Int := ns.set i (ns.getD i 0 + k)
theorem sum_set : ∀ (ns : List Int) (i : Nat) (k : Int), i < ns.length → (newNs ns i k).sum = ns.sum + k
  | [], _, _, h => absurd h (Nat.not_lt_zero _)
  | n :: ns, 0, k, _ => by
    unfold newNs
    rw [List.set_cons_zero, List.sum_cons, List.sum_cons, List.getD_cons_zero]
    omega
  | n :: ns, i + 1, k, h => by
    have ih := sum_set ns i k (Nat.lt_of_succ_lt_succ h)
    unfold newNs at ih ⊢
    rw [List.set_cons_succ, List.sum_cons, List.sum_cons, List.getD_cons_succ, ih]
    omega
/-- joined of anything -/
def spJnd (K : PySem.W.Frag) (C Cr CI CU CN : Addr) : Sp := fun vs H Q E => ∃ (c r p n : Addr) (y : Str) (ys : List Str) (ns : List Int) (x m : V), vs = [.ref c, x, m] ∧ CwAt C Cr H c r p n (tidy y) ys ns ∧ Good ys y ∧ ns.length = ys.length ∧ (∀ i, i ∈ ns → 0 ≤ i) ∧ Ask K H x ∧ Itm H m ∧
  (ordOf (tidy y) x = false → Throws H CI giv x E) ∧ ∀ z, x = .str z → ordOf (tidy y) x = true → (z ∉ ys → Throws H CU giv x E) ∧
    ∀ i : Nat, ys[i]? = some z → (isNum m = false → Throws H CN giv m E) ∧ ∀ k : Int, m = .int k → (newOk ns i k = false → Throws H CN giv m E) ∧
      (newOk ns i k = true → ∀ c' n' H', Same H H' → CwAt C Cr H' c' r p n' (tidy y) ys (newNs ns i k) → Q (.ref c') H')
section
variable {P : Program} {w : World} {K : PySem.W.Frag} {mg : Str → Option Value} {base : Heap} {C Cr CI CU CN : Addr}
theorem ok_numG {f : Addr} {fd : FuncData} (D : DefAt K mg "is_number" sNum ["value"] f fd) (KT : KitN K) (T : Txt mg) : FnOk P w K mg base CX0 1 f fd ["value"] spNumG := by
  refine D.F.ok scNum (fun vs H Q E h => ?_) (fun cdv A outer sh H vs Q E hr h => ?_)
  · obtain ⟨x, rfl, _⟩ := h
    rfl
  · obtain ⟨x, rfl, ⟨d, Ty, t⟩, q⟩ := h
    refine ⟨_, pss_one (ps_ret (pe_and (pe_callB call_isi (by rfl) T.b_isinstance (by decide +kernel) (pa_cons (pv 0) (pa_cons (pe_bty (n := "int") (by rfl) T.b_int (by decide +kernel)) pa_nil))) (pe_one (pe_not (pe_callB call_isi (by rfl) T.b_isinstance (by decide +kernel) (pa_cons (pv 0) (pa_cons (pe_bty (n := "bool") (by rfl) T.b_bool (by decide +kernel)) pa_nil))))))), ?_⟩
    have k1 := KT.i Ty t.name
    have k2 := KT.b Ty t.name
    rcases t.num with ⟨i, rfl, rfl⟩ | ⟨n1, n2⟩
    · exact ⟨_, rfl, .int i, .ty "int", .type "int", .type "int", true, rfl, .ty _, t.ty, k1, true, rfl, iteT ⟨_, rfl, .int i, .ty "bool", .type "int", .type "bool", false, rfl, .ty _, t.ty, k2, false, rfl, q⟩⟩
    · rw [n1] at q
      by_cases hb : Ty = "bool"
      · subst hb
        exact ⟨_, rfl, x, .ty "int", .type "bool", .type "int", true, rfl, .ty _, t.ty, k1, true, rfl, iteT ⟨_, rfl, x, .ty "bool", .type "bool", .type "bool", true, rfl, .ty _, t.ty, k2, true, rfl, q⟩⟩
      · rw [decide_eq_false (fun h => h.elim n2 hb)] at k1
        exact ⟨_, rfl, x, .ty "int", .type Ty, .type "int", false, rfl, .ty _, t.ty, k1, false, rfl, iteF q⟩
theorem ok_jnd {f fK fO fI fH fT fC fPO fNn fCI fRc fM fL : Addr} {fd fdK fdO fdI fdH fdT fdC fdPO fdNn fdCI fdRc fdM fdL : FuncData} {pO pT : Addr} (F : Fun K "joined" "Crowd.joined" sJnd f fd) (DK : DefAt K mg "check_order_in" sCki ["roll", "order"] fK fdK) (DO : DefAt K mg "is_order_of" sIoo ["things", "value"] fO fdO) (DI : DefAt K mg "is_order" sIsO ["value"] fI fdI) (DH : DefAt K mg "things_of" sThO ["order"] fH fdH)
    (PT : PropOf K C "things" pT fT) (FT : Fun K "things" "Roll.things" sThi fT fdT) (bT : Binds K fdT ["self"] []) (OC : Own K C "__contains__" fC) (FC : Fun K "__contains__" "Roll.__contains__" sCon fC fdC) (bC : Binds K fdC ["self", "x"] []) (PO : PropOf K C "orders" pO fPO) (FO : Fun K "orders" "Roll.orders" sOrd fPO fdPO) (bO : Binds K fdPO ["self"] [])
    (DN : DefAt K mg "is_number" sNum ["value"] fNn fdNn) (FCI : Fun K "__init__" "Crowd.__init__" sCIn fCI fdCI) (bCI : Binds K fdCI ["self", "roll", "numbers"] []) (MKc : Mk K Cr fCI) (DRc : DefAt K mg "check_roll" sChk ["roll"] fRc fdRc) (DM : DefAt K mg "right_numbers" sRnu ["numbers", "many"] fM fdM) (FL : Fun K "__len__" "Roll.__len__" sLen fL fdL) (bL : Binds K fdL ["self"] []) (OL : Own K C "__len__" fL) (bsum : mg "sum" = none)
    (XI : Thr P K mg "InvalidOrder" giv CI) (XU : Thr P K mg "UnknownOrder" giv CU) (XN : Thr P K mg "InvalidNumber" giv CN) (KT : KitN K) (T : Txt mg) (Lm : Lims mg) (R : RollC K mg C) (RC : CrC K mg Cr) :
    FnOk P w K mg base (L2.CX P w) 5 f fd ["self", "order", "many"] (spJnd K C Cr CI CU CN) := by
  have GK : FnOk P w K mg base (L2.CX P w) 3 fK fdK ["roll", "order"] (spCki K C CI CU) := ok_cki DK DO DI DH PT FT bT OC FC bC XI XU T Lm R
  have GN : FnOk P w K mg base CX0 1 fNn fdNn ["value"] spNumG := ok_numG DN KT T
  have GO : FnOk P w K mg base CX0 1 fPO fdPO ["self"] (spOrd C) := ok_ord FO R
  have GCI : FnOk P w K mg base CX0 3 fCI fdCI ["self", "roll", "numbers"] (spCIn K C Cr) := ok_cin FCI DRc DM DN FL bL OL bsum T R RC
  refine F.okX scJnd (fun vs H Q E h => ?_) (fun cdv A outer sh H vs Q E hr h => ?_)
  · obtain ⟨c, r, p, n, y, ys, ns, x, m, rfl, _⟩ := h
    rfl
  · obtain ⟨c, r, p, n, y, ys, ns, x, m, rfl, W, G, len, pos, ask, im, q1, q2⟩ := h
    refine ⟨_, pss_cons (ps_expr (pe_call GK (hr.mono (by decide)) (by rfl) DK.g DK.F.kp DK.b .nil (passes_call (takes_of rfl rfl rfl rfl) (fun _ _ _ _ h => h)) (pa_cons (pe_fld (pv 0) rfl) (pa_cons (pv 1) pa_nil))))
      (pss_cons (ps_if (pt_not (pt_val (pe_call GN (hr.mono (by decide)) (by rfl) DN.g DN.F.kp DN.b .nil pass0 (pa_cons (pv 2) pa_nil)))) (pss_one (ps_raise rfl (takes_of rfl rfl rfl rfl) (pmk_err XN.e T.b_super (hr.mono (by decide)) (by rfl) XN.g (pv 2)))) pss_nil)
      (pss_cons (ps_set (i := 3) scJnd.nd rfl (.inl rfl) (TupF.pe_bmF PySem.F.slot_tuple_index PySem.F.type_tuple_index mt_tup_index (pe_prop (pe_fld (pv 0) rfl) R.cls PO GO (hr.mono (by decide)) bO .nil pass0 rfl) (pa_cons (pv 1) pa_nil)))
      (pss_cons (ps_set (i := 4) scJnd.nd rfl (.inl rfl) (pe_op op_add (pe_ix ix_tup (pe_fld (pv 0) rfl) (pv 3) (fun _ _ => rfl)) (pv 2)))
      (pss_cons (ps_if (PW.pt (pw_or (pt_cmpR op_lt (pv 4) pe_int (nomark _)) (pw_or1 (pt_cmpR op_eq (pe_op op_add (pe_fld (pv 0) rfl) (pv 2)) pe_int (nomark _))))) (pss_one (ps_raise rfl (takes_of rfl rfl rfl rfl) (pmk_err XN.e T.b_super (hr.mono (by decide)) (by rfl) XN.g (pv 2)))) pss_nil)
      (pss_one (ps_ret (pe_make MKc GCI (hr.mono (by decide)) (by rfl) RC.g bCI .nil pass0 (pa_cons (pe_fld (pv 0) rfl) (pa_cons (pe_tupS (StX.pa_star (pe_slice sl_tupA (pe_fld (pv 0) rfl) po_none (po_some (pv 3))) (pa_cons (pv 4) (StX.pa_star (pe_slice sl_tupA (pe_fld (pv 0) rfl) (po_some (pe_op op_add (pv 3) pe_int)) po_none) pa_nil)))) pa_nil))))))))), ?_⟩
    obtain ⟨dx, fs, hx, lr, ln, lp⟩ := id W.cr
    obtain ⟨dr, fr, hr1, lo1, lo2⟩ := id W.rl
    refine ⟨_, rfl, c, Cr, dx, fs, _, rfl, hx, RC.cls, RC.no1, lr, _, rfl, r, p, tidy y, ys, x, rfl, W.rl, W.lot.sq, ask, q1, fun z ez ho nin => (q2 z ez ho).1 nin, fun z ez ho hin H1 s1 => ?_⟩
    have q3 := (q2 z ez ho).2
    clear q1 q2
    obtain ⟨i, hi, ei⟩ := List.getElem_of_mem hin
    have ei : ys[i]? = some z := by rw [List.getElem?_eq_getElem hi, ei]
    obtain ⟨q4, q5⟩ := q3 i ei
    refine ⟨_, rfl, m, rfl, im.same s1, ?_⟩
    by_cases hm : isNum m = true
    · rw [hm]
      refine ⟨_, rfl, iteF ?_⟩
      obtain ⟨k, rfl⟩ : ∃ k, m = .int k := by
        cases m with
        | int k => exact ⟨k, rfl⟩
        | _ => exact absurd hm Bool.false_ne_true
      obtain ⟨q6, q7⟩ := q5 k rfl
      subst ez
      have ahead : ∀ m, m < i → ys[m]? ≠ some z := fun m hm e => by
        have one := G.lot.one
        have hm' : m < ys.length := by omega
        rw [List.getElem?_eq_getElem hm'] at e
        rw [List.getElem?_eq_getElem hi] at ei
        have := List.pairwise_iff_getElem.mp one m i hm' hi hm
        exact this ((Option.some.inj e).trans (Option.some.inj ei).symm)
      have ni : i < ns.length := by omega
      have atN : atI (ns.map V.int) (i : Int) = some (.int (ns.getD i 0)) := atI_nat (by simp [List.getElem?_map, List.getElem?_eq_getElem ni, List.getD])
      have W1 := W.same s1
      obtain ⟨dx, fs, hx, lr, ln, lp⟩ := id W1.cr
      obtain ⟨dr, fr, hr1, lo1, lo2⟩ := id W1.rl
      refine ⟨_, rfl, c, Cr, dx, fs, _, rfl, hx, RC.cls, RC.no1, lr, r, dr, fr.1, rfl, hr1, r, p, _, rfl, W1.rl, ?_⟩
      refine ⟨⟨p, _, rfl, W1.lot⟩, _, rfl, p, ys, z, i, rfl, rfl, W1.lot.sq, ei, ahead, ?_⟩
      refine ⟨_, rfl, c, Cr, dx, fs, _, rfl, hx, RC.cls, RC.no2, ln, _, rfl, n, _, (i : Int), _, rfl, rfl, SqT.of W1.num, atN, _, rfl, _, _, rfl, rfl, ?_⟩
      refine ⟨_, rfl, _, _, rfl, rfl, _, rfl, ite2 (fun e => ?low) (fun e => ?_)⟩
      case low =>
        have b : newOk ns i k = false := by
          unfold newOk
          rw [decide_eq_false (by have := of_decide_eq_true e; omega), Bool.false_and]
        exact ⟨_, rfl, q6 b _ s1⟩
      have ge : 0 ≤ ns.getD i 0 + k := by
        rcases Int.lt_or_le (ns.getD i 0 + k) 0 with h | h
        · exact absurd (decide_eq_true h) e
        · exact h
      refine ⟨_, rfl, c, Cr, dx, fs, _, rfl, hx, RC.cls, RC.no3, lp, _, rfl, _, _, rfl, rfl, rfl, _, rfl, ite2 (fun e => ?nobody) (fun e => ?_)⟩
      case nobody =>
        have z : ns.sum + k = 0 := V.int.inj (of_decide_eq_true e)
        have b : newOk ns i k = false := by
          unfold newOk
          rw [show decide (ns.sum + k ≠ 0) = false from decide_eq_false (fun h => h z), Bool.and_false]
        exact ⟨_, rfl, q6 b _ s1⟩
      have nz : ns.sum + k ≠ 0 := fun z => e (decide_eq_true (congrArg V.int z))
      have b : newOk ns i k = true := by
        unfold newOk
        rw [decide_eq_true ge, decide_eq_true nz] <;> rfl
      have q8 := q7 b
      have len2 : (newNs ns i k).length = ys.length := by
        unfold newNs
        rw [List.length_set, len]
      have sm := sum_set ns i k ni
      have pos2 : ∀ v, v ∈ newNs ns i k → 0 ≤ v := fun v hv => by
        rcases List.mem_or_eq_of_mem_set hv with h | h
        · exact pos v h
        · rw [h]; exact ge
      have psum : ∀ l : List Int, (∀ v, v ∈ l → 0 ≤ v) → 0 ≤ l.sum := fun l => by
        induction l with
        | nil => intro _; simp
        | cons a l ih =>
          intro h
          have h1 := h a List.mem_cons_self
          have h2 := ih fun v hv => h v (List.mem_cons_of_mem _ hv)
          rw [List.sum_cons]
          omega
      have s0 := psum _ pos2
      refine ⟨_, rfl, c, Cr, dx, fs, _, rfl, hx, RC.cls, RC.no1, lr, _, rfl, c, Cr, dx, fs, _, rfl, hx, RC.cls, RC.no2, ln, _, rfl, _, rfl, ?_⟩
      refine sl_j W1.num fun b2 H2 s2 e2 => ⟨b2, _, rfl, .inl (SqT.of e2), _, rfl, ?_⟩
      refine ⟨_, rfl, c, Cr, dx, fs, _, rfl, s2 _ _ hx, RC.cls, RC.no2, ln, _, rfl, _, _, rfl, rfl, _, rfl, ?_⟩
      dsimp only [tNoPart]
      refine sl_j (s2 _ _ W1.num) fun b3 H3 s3 e3 => ⟨b3, _, rfl, .inl (SqT.of e3), ?_⟩
      have cs := cut_set ni (ns.getD i 0 + k)
      dsimp only [tNil]
      rw [List.append_nil, cs]
      have few : ys.length ≤ 48 := G.few
      refine ⟨by rw [List.length_map, List.length_set, sizeLine_eq]; omega, fun n4 H4 s4 nn4 e4 => fun a da na nda _ => mk_crowd (ns := newNs ns i k) ((W1.rl.same s2).same (s3.trans s4)) ((W1.lot.same s2).same (s3.trans s4)) e4 len2 (by omega) pos2 (by omega) na nda fun H5 s5 cr nf => ⟨rfl, ?_⟩⟩
      have S := s2.trans (s3.trans (s4.trans s5))
      exact q8 a n4 H5 (s1.trans S) ⟨cr, nf, W1.rl.same S, W1.lot.same S, s5 _ _ e4, W1.ok⟩
    · rw [Bool.eq_false_iff.mpr hm]
      exact ⟨_, rfl, iteT ⟨_, rfl, q4 (Bool.eq_false_iff.mpr hm) _ s1⟩⟩
end
end L2.Cal
end

section
set_option maxRecDepth 100000
set_option maxHeartbeats 4000000
/-! texts of few plain signs: put together, cut, upper; a tuple of one of them -/
namespace L2.Cal
open PySem PySem.Spec PyProof.Rows L2
abbrev PlainT (u : Str) : Prop := ∀ c ∈ u.cps.toList, c < 128
theorem cps_app (a b : Str) : (a ++ b).cps.toList = a.cps.toList ++ b.cps.toList := by
  show (a.cps ++ b.cps).toList = _
  rw [Array.toList_append]
theorem lenA (a b : Str) : (a ++ b).length = a.length + b.length := by
  show (a.cps ++ b.cps).size = _
  rw [Array.size_append] <;> rfl
theorem plain_app {a b : Str} (ha : PlainT a) (hb : PlainT b) : PlainT (a ++ b) := fun c hc => by
  rw [cps_app] at hc
  exact (List.mem_append.mp hc).elim (ha c) (hb c)
theorem plain_cut {a : Str} (ha : PlainT a) (lo hi : Option Int) : PlainT (cutS a lo hi) := fun c hc => ha c (List.mem_of_mem_drop (List.mem_of_mem_take (by unfold cutS at hc; simpa using hc)))
def upT : Bool := (List.range 128).all fun c => decide ((Unicode.upperOf c).length = 1) && (Unicode.upperOf c).all fun d => decide (d < 128)
theorem upT_ok : upT = true := by decide +kernel
theorem flat_len {f : Nat → List Nat} : ∀ l : List Nat, (∀ c ∈ l, (f c).length = 1) → (l.map f).flatten.length = l.length
  | [], _ => rfl
  | a :: r, h => by
    rw [List.map_cons, List.flatten_cons, List.length_append, h a List.mem_cons_self, flat_len r fun c hc => h c (List.mem_cons_of_mem _ hc), List.length_cons]
    omega
theorem upper_list (u : Str) : (Txt.upper u).cps.toList = (u.cps.toList.map Unicode.upperOf).flatten := by
  show (placed u fun _ c => Unicode.upperOf c).toList = _
  unfold placed
  rw [Array.toList_flatten]
  congr 1
  rw [Array.toList_mapIdx]
  apply List.ext_getElem?
  intro i
  rw [List.getElem?_map, List.getElem?_mapIdx, List.getElem?_map, Option.map_map]
  rfl
theorem upper_plain {u : Str} (h : ∀ c ∈ u.cps.toList, c < 128) : (Txt.upper u).cps.size = u.cps.size ∧ ∀ c ∈ (Txt.upper u).cps.toList, c < 128 := by
  have at_ : ∀ c, c < 128 → (Unicode.upperOf c).length = 1 ∧ ∀ d ∈ Unicode.upperOf c, d < 128 := fun c hc => by
    have z := List.all_eq_true.mp upT_ok c (List.mem_range.mpr hc)
    rw [Bool.and_eq_true] at z
    exact ⟨of_decide_eq_true z.1, fun d hd => of_decide_eq_true (List.all_eq_true.mp z.2 d hd)⟩
  constructor
  · rw [← Array.length_toList, upper_list, flat_len _ fun c hc => (at_ c (h c hc)).1, Array.length_toList]
  · intro c hc
    rw [upper_list] at hc
    obtain ⟨l, hl, hc⟩ := List.mem_flatten.mp hc
    obtain ⟨a, ha, rfl⟩ := List.mem_map.mp hl
    exact (at_ a (h a ha)).2 c hc
/-- the text of a tuple of one text -/
theorem shown_tup1 (u : Str) : (PyData.tuple [.str u]).shown = ("(" : Str) ++ reprText u ++ (",)" : Str) := by
  rw [PyData.shown_tuple, PyData.shownAll_cons, PyData.shownAll_nil, PyData.shown_str]
  rfl
theorem any_tup1 {K : PySem.W.Frag} {H : Hp} {l : Addr} {u : Str} (e : H l = some (.tup [.str u])) (hl : u.cps.size ≤ 20) (hp : PlainT u) : AnyV K H (.ref l) (.tuple [.str u]) := by
  refine ⟨.base (.tup (SqT.of e) (.cons (.str _) .nil)), ?_, "tuple", .tup e⟩
  have r := StrLaws.reprText_len u fun c hc => by have := hp c hc; omega
  have z : u.length = u.cps.size := rfl
  have pl : PlainT (PyData.tuple [.str u]).shown := by
    rw [shown_tup1]
    exact plain_app (plain_app (by decide) (repr_plain hp)) (by decide)
  have ln : (PyData.tuple [.str u]).shown.length ≤ 1000 := by
    rw [shown_tup1, lenA, lenA]
    have a1 : ("(" : Str).length = 1 := rfl
    have a2 : (",)" : Str).length = 2 := rfl
    omega
  unfold goodE smallT
  simp only [Bool.and_eq_true, decide_eq_true_eq]
  exact ⟨by simp [PyData.showable, PyData.showableAll], ln, by simp [PyData.depth, PyData.depthAll], strOk_plain pl, trivial⟩
/-! ### what is new in a heap -/
def news (H H' : Hp) : Hp := fun b => if H b = none then H' b else none
theorem news_at {H H' : Hp} {b : Addr} {o : HO} (n : H b = none) (e : H' b = some o) : news H H' b = some o := by
  unfold news
  rw [if_pos n]
  exact e
theorem news_same {H H' X : Hp} (k : ∀ b o, H b = none → H' b = some o → X b = some o) : Same (news H H') X := fun b o e => by
  unfold news at e
  by_cases n : H b = none
  · rw [if_pos n] at e
    exact k b o n e
  · rw [if_neg n] at e
    cases e
/-- a value of new objects alone -/
def AnyN (K : PySem.W.Frag) (H H' : Hp) (v : V) : Prop := ∃ d, AnyV K (news H H') v d
theorem AnyN.to {K : PySem.W.Frag} {H H' X : Hp} {v : V} (h : AnyN K H H' v) (k : ∀ b o, H b = none → H' b = some o → X b = some o) : ∃ d, AnyV K X v d := h.imp fun _ a => a.same (news_same k)
theorem AnyN.now {K : PySem.W.Frag} {H H' : Hp} {v : V} (h : AnyN K H H' v) : ∃ d, AnyV K H' v d := h.to fun _ _ _ e => e
end L2.Cal
end

section
set_option maxRecDepth 100000
set_option maxHeartbeats 4000000
namespace L2.Cal
open PySem PySem.Spec PyProof.Rows L2
abbrev sOdd : Stmt := topS 42
theorem scOdd : FnScope ["_law_jar_here", "_law_menu"] ["_law_jar_here"] (defScope sOdd) := ⟨rfl, rfl, rfl, by decide +kernel, rfl, by decide +kernel, by decide +kernel⟩
def spOdd (K : PySem.W.Frag) : Sp := fun vs H Q _ => ∃ j : Addr, vs = [.ref j] ∧ Jar H j ∧ ∀ v H', Kp j H H' → Jar H' j → AnyN K H H' v → Q v H'
theorem all_cons {α : Type} {P : α → Prop} {x : α} {l : List α} (h : P x) (t : ∀ v ∈ l, P v) : ∀ v ∈ x :: l, P v := fun v m => by
  rcases List.mem_cons.mp m with e | m
  · rw [e]; exact h
  · exact t v m
theorem all_app {α : Type} {P : α → Prop} {k l : List α} (h : ∀ v ∈ k, P v) (t : ∀ v ∈ l, P v) : ∀ v ∈ k ++ l, P v := fun v m => (List.mem_append.mp m).elim (h v) (t v)
theorem all_nil {α : Type} {P : α → Prop} : ∀ v ∈ ([] : List α), P v := fun v m => by cases m
section
variable {P : Program} {w : World} {K : PySem.W.Frag} {mg : Str → Option Value} {base : Heap}
theorem ok_odd {f fP fD : Addr} {fd fdP fdD : FuncData} (D : DefAt K mg "_law_odd" sOdd ["_law_jar_here"] f fd) (DP : DefAt K mg "_law_pick" sPick ["_law_jar_here", "_law_menu"] fP fdP) (DD' : DefAt K mg "_law_dip" sDip ["_law_jar_here", "_law_wide"] fD fdD) (T : Txt mg) :
    FnOk P w K mg base CX0 3 f fd ["_law_jar_here"] (spOdd K) := by
  have GP : FnOk P w K mg base CX0 2 fP fdP ["_law_jar_here", "_law_menu"] (spPick K) := ok_pick DP DD' T
  refine D.F.ok scOdd (fun vs H Q E h => ?_) (fun cdv A outer sh H vs Q E hr h => ?_)
  · obtain ⟨j, rfl, _⟩ := h
    rfl
  · obtain ⟨j, rfl, hJ, q⟩ := h
    refine ⟨_, (pss_cons (ps_set (i := 1) scOdd.nd rfl (.inl rfl) (pe_lstS (pa_cons pe_non (pa_cons pe_bl (pa_cons pe_bl (pa_cons pe_int (pa_cons pe_int (pa_cons (pe_un un_neg pe_int) (pa_cons pe_int (pa_cons (pe_op op_pow pe_int pe_int) (pa_cons pe_str pa_nil)))))))))))
  (pss_cons (ps_set (i := 1) scOdd.nd rfl (.inl rfl) (pe_op op_catS (pv 1) (pe_lstS (pa_cons pe_str (pa_cons pe_str (pa_cons pe_str (pa_cons pe_str (pa_cons (pe_tupS pa_nil) (pa_cons (pe_tupS (pa_cons pe_str pa_nil)) (pa_cons (pe_tupS (pa_cons pe_int (pa_cons pe_int pa_nil))) (pa_cons (pe_lstS (pa_cons pe_str pa_nil)) (pa_cons (pe_lstS pa_nil) pa_nil))))))))))))
  (pss_one (ps_ret (pe_call GP (hr.mono (by decide)) (by rfl) DP.g DP.F.kp DP.b .nil pass0 (pa_cons (pv 0) (pa_cons (pe_op op_catS (pv 1) (pe_lstS (pa_cons pe_dnewS (pa_cons (pe_disp (pps_cons pe_str pe_int pps_nil) (by rfl) (by rfl) (fun z => by cases z) (by decide)) (pa_cons (pe_tupS (pa_cons pe_non (pa_cons pe_int pa_nil))) (pa_cons pe_str (pa_cons (pe_tupS (pa_cons (pe_tupS (pa_cons pe_str pa_nil)) pa_nil)) (pa_cons (pe_tupS (pa_cons pe_str (pa_cons pe_str pa_nil))) (pa_cons (pe_lstS (pa_cons (pe_lstS pa_nil) pa_nil)) (pa_cons (pe_tupS (pa_cons (pe_tupS pa_nil) pa_nil)) (pa_cons pe_str pa_nil))))))))))) pa_nil))))))), ?_⟩
    have z9 : 9 ≤ sizeLine := by decide
    refine ⟨_, rfl, _, _, rfl, rfl, ⟨by decide, by decide, by decide⟩, z9, fun p1 H1 s1 n1 e1 => ?_⟩
    have J1 := hJ.same s1
    refine ⟨_, rfl, by decide, fun t1 H2 s2 n2 e2 => ⟨by decide, fun t2 H3 s3 n3 e3 => ⟨by decide, fun t3 H4 s4 n4 e4 => ⟨by decide, fun t4 H5 s5 n5 e5 => ⟨by decide, fun t5 H6 s6 n6 e6 => ⟨z9, fun p2 H7 s7 n7 e7 => ?_⟩⟩⟩⟩⟩⟩
    have s17 : Same H1 H7 := s2.trans (s3.trans (s4.trans (s5.trans (s6.trans s7))))
    refine ⟨p1, p2, _, _, rfl, rfl, s17 _ _ e1, e7, (show 18 ≤ sizeLine by decide), fun p3 H8 s8 n8 e8 => ?_⟩
    refine ⟨_, rfl, _, rfl, fun t6 H9 s9 n9 e9 => fun t7 n10 => ⟨upd_same, [(Sum.inr "abc", .int 1)], rfl, by decide, ?_⟩⟩
    have s10 : Same H9 (upd (upd H9 t7 (HO.dK [])) t7 (HO.dK (mergeK [] [(Sum.inr ("abc" : Str), V.int 1)]))) := by
      rw [upd_upd]
      exact same_new n10
    have e10 : (upd (upd H9 t7 (HO.dK [])) t7 (HO.dK (mergeK [] [(Sum.inr ("abc" : Str), V.int 1)]))) t7 = some (HO.dK [(Sum.inr ("abc" : Str), V.int 1)]) := upd_same
    generalize (upd (upd H9 t7 (HO.dK [])) t7 (HO.dK (mergeK [] [(Sum.inr ("abc" : Str), V.int 1)]))) = H10 at s10 e10 ⊢
    refine ⟨(show 2 ≤ sizeLine by decide), fun t8 H11 s11 n11 e11 => ⟨(show 1 ≤ sizeLine by decide), fun t9 H12 s12 n12 e12 => ⟨(show 1 ≤ sizeLine by decide), fun t10 H13 s13 n13 e13 => ⟨(show 2 ≤ sizeLine by decide), fun t11 H14 s14 n14 e14 => ⟨(show 0 ≤ sizeLine by decide), fun t12 H15 s15 n15 e15 => ⟨(show 1 ≤ sizeLine by decide), fun t13 H16 s16 n16 e16 => ?_⟩⟩⟩⟩⟩⟩
    refine ⟨(show 0 ≤ sizeLine by decide), fun t14 H17 s17b n17 e17 => ⟨(show 1 ≤ sizeLine by decide), fun t15 H18 s18 n18 e18 => ⟨z9, fun p4 H19 s19 n19 e19 => ?_⟩⟩⟩
    have u18 := s18.trans s19
    have u17 := s17b.trans u18
    have u16 := s16.trans u17
    have u15 := s15.trans u16
    have u14 := s14.trans u15
    have u13 := s13.trans u14
    have u12 := s12.trans u13
    have u11 := s11.trans u12
    have u10 := s10.trans u11
    have u9 := s9.trans u10
    have u8 := s8.trans u9
    have u7 := s7.trans u8
    have u6 := s6.trans u7
    have u5 := s5.trans u6
    have u4 := s4.trans u5
    have u3 := s3.trans u4
    have u2 := s2.trans u3
    have u1 := s1.trans u2
    refine ⟨p3, p4, _, _, rfl, rfl, u9 _ _ e8, e19, (show 27 ≤ sizeLine by decide), fun p5 Hf sf nf ef => ?_⟩
    obtain ⟨d, s, c, hj, h1, h2, h3, h4⟩ := hJ.same (u1.trans sf)
    have hJ0 := hJ
    have ne : ∀ {t : Addr} {G : Hp}, Same H G → G t = none → H t = none := fun {t G} sg n => by
      cases e : H t with
      | none => rfl
      | some o => rw [sg _ _ e] at n; cases n
    have nj' : ∀ {t : Addr}, H t = none → t ≠ j := fun {t} n z => by
      obtain ⟨_, _, _, w, _⟩ := hJ0
      rw [z, w] at n
      cases n
    have nj : p5 ≠ j := nj' (ne u1 nf)
    refine ⟨j, p5, _, d, s, c, rfl, hj, h1, h2, h3, h4, nj, .inl (SqL.of ef), (show 0 < 27 by decide), (show 27 ≤ 1000 by decide), fun i v d' s' c' hv g1 g2 g3 g4 => ?_⟩
    have kpf : Kp j H (upd Hf j (.lst [.int d', .int s', .int c'])) := (Kp.of (u1.trans sf)).trans Kp.jar
    refine q v _ kpf (Jar.up g1 g2 g3 g4) ?_
    suffices hall : ∀ v ∈ ([V.non, .bl true, .bl false, .int 0, .int 1, .int (-1), .int 2, .int (10 ^ (30 : Int).toNat), .str ""] ++ [V.str "a", .str "ab", .str "abc", .str "acb", .ref t1, .ref t2, .ref t3, .ref t4, .ref t5]) ++ [V.ref t6, .ref t7, .ref t8, .str "abc
cba", .ref t10, .ref t11, .ref t13, .ref t15, .str "CAB"], ∃ d, AnyV K (news H (upd Hf j (.lst [.int d', .int s', .int c']))) v d from hall v (List.mem_of_getElem? hv)
    have at' : ∀ {t : Addr} {o : HO}, Hf t = some o → H t = none → (news H (upd Hf j (.lst [.int d', .int s', .int c']))) t = some o := fun {t o} e n => news_at n (by rw [upd_ne (nj' n)]; exact e)
    generalize (news H (upd Hf j (.lst [.int d', .int s', .int c']))) = G at at' ⊢
    have flat : ∀ v d T, DD K G v d → TyV G v d T → goodE d = true → ∃ d, AnyV K G v d := fun v d T h t g => ⟨d, any_by h t g⟩
    have T1 := at' (sf _ _ (u3 _ _ e2)) (ne s1 n2)
    have T2 := at' (sf _ _ (u4 _ _ e3)) (ne (s1.trans s2) n3)
    have T3 := at' (sf _ _ (u5 _ _ e4)) (ne (s1.trans (s2.trans s3)) n4)
    have T4 := at' (sf _ _ (u6 _ _ e5)) (ne (s1.trans (s2.trans (s3.trans s4))) n5)
    have T5 := at' (sf _ _ (u7 _ _ e6)) (ne (s1.trans (s2.trans (s3.trans (s4.trans s5)))) n6)
    have b8 : Same H H8 := s1.trans (s17.trans s8)
    have T6 := at' (sf _ _ (u10 _ _ e9)) (ne b8 n9)
    have b9 := b8.trans s9
    have T7 := at' (sf _ _ (u11 _ _ e10)) (ne b9 n10)
    have b10 := b9.trans s10
    have T8 := at' (sf _ _ (u12 _ _ e11)) (ne b10 n11)
    have b11 := b10.trans s11
    have T9 := at' (sf _ _ (u13 _ _ e12)) (ne b11 n12)
    have b12 := b11.trans s12
    have T10 := at' (sf _ _ (u14 _ _ e13)) (ne b12 n13)
    have b13 := b12.trans s13
    have T11 := at' (sf _ _ (u15 _ _ e14)) (ne b13 n14)
    have b14 := b13.trans s14
    have T12 := at' (sf _ _ (u16 _ _ e15)) (ne b14 n15)
    have b15 := b14.trans s15
    have T13 := at' (sf _ _ (u17 _ _ e16)) (ne b15 n16)
    have b16 := b15.trans s16
    have T14 := at' (sf _ _ (u18 _ _ e17)) (ne b16 n17)
    have b17 := b16.trans s17b
    have T15 := at' (sf _ _ (s19 _ _ e18)) (ne b17 n18)
    refine all_app (all_app ?_ ?_) ?_
    · exact all_cons (flat _ _ _ (.base .non) .non (by decide +kernel)) (all_cons (flat _ _ _ (.base (.bl _)) (.bl _) (by decide +kernel)) (all_cons (flat _ _ _ (.base (.bl _)) (.bl _) (by decide +kernel)) (all_cons (flat _ _ _ (.base (.int _)) (.int _) (by decide +kernel)) (all_cons (flat _ _ _ (.base (.int _)) (.int _) (by decide +kernel)) (all_cons (flat _ _ _ (.base (.int _)) (.int _) (by decide +kernel)) (all_cons (flat _ _ _ (.base (.int _)) (.int _) (by decide +kernel)) (all_cons (flat _ _ _ (.base (.int _)) (.int _) (by decide +kernel)) (all_cons (flat _ _ _ (.base (.str _)) (.str _) (by decide +kernel)) all_nil))))))))
    · exact all_cons (flat _ _ _ (.base (.str _)) (.str _) (by decide +kernel)) (all_cons (flat _ _ _ (.base (.str _)) (.str _) (by decide +kernel)) (all_cons (flat _ _ _ (.base (.str _)) (.str _) (by decide +kernel)) (all_cons (flat _ _ _ (.base (.str _)) (.str _) (by decide +kernel))
        (all_cons (flat _ _ _ (.base (.tup (SqT.of T1) .nil)) (.tup T1) (by decide +kernel)) (all_cons (flat _ _ _ (.base (.tup (SqT.of T2) (.cons (.str _) .nil))) (.tup T2) (by decide +kernel)) (all_cons (flat _ _ _ (.base (.tup (SqT.of T3) (.cons (.int _) (.cons (.int _) .nil)))) (.tup T3) (by decide +kernel))
        (all_cons (flat _ _ _ (.base (.lst (SqL.of T4) (.cons (.str _) .nil))) (.lst T4) (by decide +kernel)) (all_cons (flat _ _ _ (.base (.lst (SqL.of T5) .nil)) (.lst T5) (by decide +kernel)) all_nil))))))))
    · exact all_cons (flat _ _ _ (.dict0 T6) (.dct T6) (by decide +kernel)) (all_cons (flat _ _ _ (.dict1 T7) (.dct T7) (by decide +kernel)) (all_cons (flat _ _ _ (.base (.tup (SqT.of T8) (.cons .non (.cons (.int _) .nil)))) (.tup T8) (by decide +kernel)) (all_cons (flat _ _ _ (.base (.str _)) (.str _) (by decide +kernel))
        (all_cons (flat _ _ _ (.base (.tup (SqT.of T10) (.cons (.tup (SqT.of T9) (.cons (.str _) .nil)) .nil))) (.tup T10) (by decide +kernel)) (all_cons (flat _ _ _ (.base (.tup (SqT.of T11) (.cons (.str _) (.cons (.str _) .nil)))) (.tup T11) (by decide +kernel))
        (all_cons (flat _ _ _ (.base (.lst (SqL.of T13) (.cons (.lst (SqL.of T12) .nil) .nil))) (.lst T13) (by decide +kernel)) (all_cons (flat _ _ _ (.base (.tup (SqT.of T15) (.cons (.tup (SqT.of T14) .nil) .nil))) (.tup T15) (by decide +kernel)) (all_cons (flat _ _ _ (.base (.str _)) (.str _) (by decide +kernel)) all_nil))))))))
end
end L2.Cal
end

section
set_option maxRecDepth 100000
set_option maxHeartbeats 4000000
namespace L2.Cal
open PySem PySem.Spec PyProof.Rows L2
/-- of the classes cs the error's class C is (below) the i-th one alone -/
def kinB (K : PySem.W.Frag) (C : Addr) (cs : List Addr) (i : Nat) : Bool := (List.range cs.length).all fun j => decide (PySem.W.kitOne K (.ref C) (.ref (cs.getD j 0)) = some (decide (j = i)))
theorem kinB_at {K : PySem.W.Frag} {C : Addr} {cs : List Addr} {i : Nat} (h : kinB K C cs i = true) (j : Nat) (hj : j < cs.length) : PySem.W.kitOne K (.ref C) (.ref (cs.getD j 0)) = some (decide (j = i)) :=
  of_decide_eq_true (List.all_eq_true.mp h j (List.mem_range.mpr hj))
def baseN : Nat → String
  | 0 => "ValueError"
  | 1 => "LookupError"
  | _ => "ArithmeticError"
/-- the three base classes of the package -/
structure Bases (K : PySem.W.Frag) (mg : Str → Option Value) (CV CN CP : Addr) : Prop where
  gV : mg "WrongValue" = some (.ref CV)
  gN : mg "WrongName" = some (.ref CN)
  gP : mg "NotPossible" = some (.ref CP)
  bV : mg "ValueError" = none
  bN : mg "LookupError" = none
  bP : mg "ArithmeticError" = none
/-- an error class under the b-th base class -/
structure Under (K : PySem.W.Frag) (CV CN CP C : Addr) (b : Nat) : Prop where
  q : ErrQ K C
  few : b < 3
  kin : kinB K C [CV, CN, CP] b = true
  ty : PySem.W.kitOne K (.ref C) (.type (baseN b)) = some true
/-- an error that was raised, with its one field -/
def Raised (H : Hp) (a C : Addr) (f : Str) (v : V) : Prop := ∃ d, H a = some (exr a (.ref C) (some d)) ∧ H d = some (exd d [(f, v)])
theorem Raised.same {H H' : Hp} {a C : Addr} {f : Str} {v : V} (r : Raised H a C f v) (s : Same H H') : Raised H' a C f v := by
  obtain ⟨d, h1, h2⟩ := r
  exact ⟨d, s _ _ h1, s _ _ h2⟩
/-- the error's dict stands -/
theorem has_dict {H : Hp} {d : Addr} {fs : List (Str × V)} (h : H d = some (exd d fs)) : ∀ dd, some d = some dd → ∃ fs, H dd = some (exd dd fs) := fun dd e => by
  cases e
  exact ⟨fs, h⟩
abbrev sBas : Stmt := topS 43
theorem scBas : FnScope ["_law_e", "_law_found"] ["_law_e"] (defScope sBas) := ⟨rfl, rfl, rfl, by decide +kernel, rfl, by decide +kernel, by decide +kernel⟩
def spBas (K : PySem.W.Frag) (CV CN CP : Addr) : Sp := fun vs H Q _ => ∃ (a C : Addr) (b : Nat) (f : Str) (v : V), vs = [.ref a] ∧ Raised H a C f v ∧ Under K CV CN CP C b ∧ New H (.lst [.bl (decide (0 = b)), .bl (decide (1 = b)), .bl (decide (2 = b))]) Q
section
variable {P : Program} {w : World} {K : PySem.W.Frag} {mg : Str → Option Value} {base : Heap} {CV CN CP : Addr}
theorem ok_bas {f : Addr} {fd : FuncData} (D : DefAt K mg "_law_bases" sBas ["_law_e"] f fd) (B : Bases K mg CV CN CP) (T : Txt mg) : FnS P w K mg base 1 f fd ["_law_e"] (spBas K CV CN CP) := by
  refine Fun_okS D.F scBas (fun vs H Q E h => ?_) (fun cdv A outer sh H vs Q E p hA hr h => ?_)
  · obtain ⟨a, C, b, f, v, rfl, _⟩ := h
    rfl
  · obtain ⟨a, C, b, f, v, rfl, hR, U, q⟩ := h
    refine ⟨_, (pss_cons (ps_set (i := 1) scBas.nd rfl (.inl rfl) (pe_lstS (pa_cons (pe_and (pe_callB call_isErrR (by rfl) T.b_isinstance (by decide +kernel) (pa_cons (pv 0) (pa_cons (pe_cls (by rfl) B.gV) pa_nil))) (pe_one (pe_callB call_isErrR (by rfl) T.b_isinstance (by decide +kernel) (pa_cons (pv 0) (pa_cons (pe_bty (by rfl) B.bV PyProof.Rows.Boot.«ValueError») pa_nil))))) pa_nil)))
  (pss_cons (ps_expr (pe_bm PySem.F.plainAttrs_list PySem.F.slot_list_append PySem.F.type_list_append mt_append (pv 1) (pa_cons (pe_and (pe_callB call_isErrR (by rfl) T.b_isinstance (by decide +kernel) (pa_cons (pv 0) (pa_cons (pe_cls (by rfl) B.gN) pa_nil))) (pe_one (pe_callB call_isErrR (by rfl) T.b_isinstance (by decide +kernel) (pa_cons (pv 0) (pa_cons (pe_bty (by rfl) B.bN PyProof.Rows.Boot.«LookupError») pa_nil))))) pa_nil)))
  (pss_one (ps_ret (pe_op op_catS (pv 1) (pe_lstS (pa_cons (pe_and (pe_callB call_isErrR (by rfl) T.b_isinstance (by decide +kernel) (pa_cons (pv 0) (pa_cons (pe_cls (by rfl) B.gP) pa_nil))) (pe_one (pe_callB call_isErrR (by rfl) T.b_isinstance (by decide +kernel) (pa_cons (pv 0) (pa_cons (pe_bty (by rfl) B.bP PyProof.Rows.Boot.«ArithmeticError») pa_nil))))) pa_nil))))))), ?_⟩
    have k0 : PySem.W.kitOne K (.ref C) (.ref CV) = some (decide (0 = b)) := kinB_at U.kin 0 (Nat.succ_pos 2)
    have k1 : PySem.W.kitOne K (.ref C) (.ref CN) = some (decide (1 = b)) := kinB_at U.kin 1 (Nat.succ_lt_succ (Nat.succ_pos 1))
    have k2 : PySem.W.kitOne K (.ref C) (.ref CP) = some (decide (2 = b)) := kinB_at U.kin 2 (Nat.lt_succ_self 2)
    obtain ⟨d, h1, h2⟩ := hR
    have fin : ∀ H1 H2 H3 l xs p3 o, Same H H1 → H l = none → Same (upd H1 l (.lst xs)) H2 → Same H2 H3 → H2 p3 = none → H3 p3 = some o → o = .lst [.bl (decide (0 = b)), .bl (decide (1 = b)), .bl (decide (2 = b))] → Q (.ref p3) H3 := fun H1 H2 H3 l xs p3 o s1 nl s2 s3 np3 ep3 eo => by
      have s0 : Same H H2 := fun b o e => by
        refine s2 _ _ ?_
        rw [upd_ne (ne_of_none e nl)]
        exact s1 _ _ e
      refine q p3 H3 (s0.trans s3) ?_ (ep3.trans (congrArg some eo))
      cases e : H p3 with
      | none => rfl
      | some o => rw [s0 _ _ e] at np3; cases np3
    have hb : b = 0 ∨ b = 1 ∨ b = 2 := by have := U.few; omega
    have ty := U.ty
    have T3 := U.q
    clear U
    have fin : ∀ H1 H2 H3 l xs p3 o, Same H H1 → H l = none → Same (upd H1 l (.lst xs)) H2 → Same H2 H3 → H2 p3 = none → H3 p3 = some o → o = .lst [.bl (decide (0 = b)), .bl (decide (1 = b)), .bl (decide (2 = b))] → Q (.ref p3) H3 := fun H1 H2 H3 l xs p3 o s1 nl s2 s3 np3 ep3 eo => by
      have s0 : Same H H2 := fun b o e => by
        refine s2 _ _ ?_
        rw [upd_ne (ne_of_none e nl)]
        exact s1 _ _ e
      refine q p3 H3 (s0.trans s3) ?_ (ep3.trans (congrArg some eo))
      cases e : H p3 with
      | none => rfl
      | some o => rw [s0 _ _ e] at np3; cases np3
    rcases hb with rfl | rfl | rfl
    all_goals
      refine ⟨_, rfl, a, C, some d, .ref CV, .ref CV, _, rfl, fun u h => h, h1, has_dict h2, T3, k0, _, rfl, ?_⟩
      first
        | refine iteF ⟨by show 1 ≤ sizeLine; decide, fun l H1 s1 nl el => ?_⟩
        | refine iteT ⟨_, rfl, a, C, some d, .ty (baseN 0), .type (baseN 0), true, rfl, fun u h => h, h1, has_dict h2, T3, ty, by show 1 ≤ sizeLine; decide, fun l H1 s1 nl el => ?_⟩
      have g1 : H1 a = some (exr a (.ref C) (some d)) := s1 _ _ h1
      have g2 : H1 d = some (exd d [(f, v)]) := s1 _ _ h2
      refine ⟨_, rfl, .inl ⟨rfl, _, SqL.of el⟩, _, rfl, a, C, some d, .ref CN, .ref CN, _, rfl, fun u h => h, g1, has_dict g2, T3, k1, _, rfl, ?_⟩
      first
        | refine iteF ⟨l, _, _, rfl, rfl, el, by show 1 < sizeLine; decide, ?_⟩
        | refine iteT ⟨_, rfl, a, C, some d, .ty (baseN 1), .type (baseN 1), true, rfl, fun u h => h, g1, has_dict g2, T3, ty, l, _, _, rfl, rfl, el, by show 1 < sizeLine; decide, ?_⟩
      have k1' : ∀ o, upd H1 l o a = some (exr a (.ref C) (some d)) := fun o => by rw [upd_ne (ne_of_none h1 nl)]; exact g1
      have k2' : ∀ o, upd H1 l o d = some (exd d [(f, v)]) := fun o => by rw [upd_ne (ne_of_none h2 nl)]; exact g2
      refine ⟨_, rfl, _, rfl, a, C, some d, .ref CP, .ref CP, _, rfl, fun u h => h, k1' _, has_dict (k2' _), T3, k2, _, rfl, ?_⟩
      first
        | refine iteF ⟨by show 1 ≤ sizeLine; decide, fun l2 H2 s2 nl2 el2 => ?_⟩
        | refine iteT ⟨_, rfl, a, C, some d, .ty (baseN 2), .type (baseN 2), true, rfl, fun u h => h, k1' _, has_dict (k2' _), T3, ty, by show 1 ≤ sizeLine; decide, fun l2 H2 s2 nl2 el2 => ?_⟩
      exact ⟨l, l2, _, _, rfl, rfl, s2 _ _ upd_same, el2, by show 2 + 1 ≤ sizeLine; decide, fun p3 H3 s3 np3 ep3 => fin H1 H2 H3 l _ p3 _ s1 nl s2 s3 np3 ep3 rfl⟩
end
end L2.Cal
end

section
set_option maxRecDepth 100000
set_option maxHeartbeats 4000000
namespace L2.Cal
open PySem PySem.Spec PyProof.Rows L2
abbrev sShn : Stmt := topS 46
theorem scShn : FnScope ["_law_e", "_law_sorts"] ["_law_e"] (defScope sShn) := ⟨rfl, rfl, rfl, by decide +kernel, rfl, by decide +kernel, by decide +kernel⟩
def wordK : Nat → Str
  | 0 => PySem.Str.ofString "order"
  | 1 => PySem.Str.ofString "unknown"
  | _ => PySem.Str.ofString "number"
/-- the base class of the i-th -/
def baseK : Nat → Nat
  | 1 => 1
  | _ => 0
/-- the error classes that a law tells apart: the i-th of cs, under the b-th base class -/
structure Told (K : PySem.W.Frag) (CV CN CP : Addr) (cs : List Addr) (C : Addr) (i b : Nat) : Prop where
  u : Under K CV CN CP C b
  few : i < cs.length
  kin : kinB K C cs i = true
  no : PySem.W.findIn K (.ref C) giv = some none
/-- a value that can be shown -/
def Shows (K : PySem.W.Frag) (H : Hp) (v : V) (pd : PyData) : Prop := DD K H v pd ∧ pd.showable = true ∧ pd.shown.length ≤ sizeLine ∧ pd.depth ≤ 40
theorem Shows.same {K : PySem.W.Frag} {H H' : Hp} {v : V} {pd : PyData} (h : Shows K H v pd) (s : Same H H') : Shows K H' v pd := ⟨h.1.same s, h.2⟩
def spShn (K : PySem.W.Frag) (CV CN CP CI CU CF : Addr) : Sp := fun vs H Q _ => ∃ (a C : Addr) (i : Nat) (v : V) (pd : PyData), vs = [.ref a] ∧ Raised H a C giv v ∧ Told K CV CN CP [CI, CU, CF] C i (baseK i) ∧ Shows K H v pd ∧ New H (.lst [.str (wordK i), .str pd.shown]) Q
section
variable {P : Program} {w : World} {K : PySem.W.Frag} {mg : Str → Option Value} {base : Heap} {CV CN CP CI CU CF : Addr}
theorem ok_shn {f fB : Addr} {fd fdB : FuncData} (D : DefAt K mg "_law_shown" sShn ["_law_e"] f fd) (DB : DefAt K mg "_law_bases" sBas ["_law_e"] fB fdB) (B : Bases K mg CV CN CP) (gI : mg "InvalidOrder" = some (.ref CI)) (gU : mg "UnknownOrder" = some (.ref CU)) (gF : mg "InvalidNumber" = some (.ref CF)) (T : Txt mg) :
    FnS P w K mg base 2 f fd ["_law_e"] (spShn K CV CN CP CI CU CF) := by
  have GB : FnS P w K mg base 1 fB fdB ["_law_e"] (spBas K CV CN CP) := ok_bas DB B T
  refine Fun_okS D.F scShn (fun vs H Q E h => ?_) (fun cdv A outer sh H vs Q E p hA hr h => ?_)
  · obtain ⟨a, C, i, v, pd, rfl, _⟩ := h
    rfl
  · obtain ⟨a, C, i, v, pd, rfl, hR, hT, hS, q⟩ := h
    have hu := hr.units
    refine ⟨_, (pss_cons (ps_set (i := 1) scShn.nd rfl (.inl rfl) (pe_lstS (pa_cons (pe_callB call_isErrR (by rfl) T.b_isinstance (by decide +kernel) (pa_cons (pv 0) (pa_cons (pe_cls (by rfl) gI) pa_nil))) (pa_cons (pe_callB call_isErrR (by rfl) T.b_isinstance (by decide +kernel) (pa_cons (pv 0) (pa_cons (pe_cls (by rfl) gU) pa_nil))) (pa_cons (pe_callB call_isErrR (by rfl) T.b_isinstance (by decide +kernel) (pa_cons (pv 0) (pa_cons (pe_cls (by rfl) gF) pa_nil))) pa_nil)))))
  (pss_cons (ps_if (PW.pt (pw_or (pt_cmpR op_ne (pe_bm PySem.F.plainAttrs_list PySem.F.slot_list_count PySem.F.type_list_count mt_lcountF (pv 1) (pa_cons pe_bl pa_nil)) pe_int (nomark _)) (pw_or1 (pt_cmpR (op_neD hu) (pe_callS GB hA (hr.mono (by decide)) (by rfl) DB.g DB.F.kp DB.b (pa_cons (pv 0) pa_nil)) (pe_lstS (pa_cons (pe_not (pe_ix ix_list (pv 1) pe_int (fun _ _ => rfl))) (pa_cons (pe_ix ix_list (pv 1) pe_int (fun _ _ => rfl)) (pa_cons pe_bl pa_nil)))) (nomark _)))))
   (pss_one (ps_ret (pe_lstS (pa_cons pe_str (pa_cons pe_str pa_nil)))))
   pss_nil)
  (pss_one (ps_ret (pe_lstS (pa_cons (pe_ix ix_list (pe_lstS (pa_cons pe_str (pa_cons pe_str (pa_cons pe_str pa_nil)))) (pe_bm PySem.F.plainAttrs_list PySem.F.slot_list_index PySem.F.type_list_index mt_index (pv 1) (pa_cons pe_bl pa_nil)) (fun _ _ => rfl)) (pa_cons (pe_callB (call_reprD hA hu) (by rfl) T.b_repr (by decide +kernel) (pa_cons (pe_errFldR (pv 0)) pa_nil)) pa_nil))))))), ?_⟩
    have k0 : PySem.W.kitOne K (.ref C) (.ref CI) = some (decide (0 = i)) := kinB_at hT.kin 0 (Nat.succ_pos 2)
    have k1 : PySem.W.kitOne K (.ref C) (.ref CU) = some (decide (1 = i)) := kinB_at hT.kin 1 (Nat.succ_lt_succ (Nat.succ_pos 1))
    have k2 : PySem.W.kitOne K (.ref C) (.ref CF) = some (decide (2 = i)) := kinB_at hT.kin 2 (Nat.lt_succ_self 2)
    have U := hT.u
    have T3 := U.q
    obtain ⟨d, h1, h2⟩ := hR
    refine ⟨_, rfl, a, C, some d, .ref CI, .ref CI, _, rfl, fun u h => h, h1, has_dict h2, T3, k0, _, rfl, a, C, some d, .ref CU, .ref CU, _, rfl, fun u h => h, h1, has_dict h2, T3, k1, _, rfl, a, C, some d, .ref CF, .ref CF, _, rfl, fun u h => h, h1, has_dict h2, T3, k2, by show 3 ≤ sizeLine; decide, fun l H1 s1 nl el => ?_⟩
    have hi : i = 0 ∨ i = 1 ∨ i = 2 := by have h : i < 3 := hT.few; omega
    have one : ([V.bl (decide (0 = i)), V.bl (decide (1 = i)), V.bl (decide (2 = i))].countP fun z => eqV z (.bl true)) = 1 := by rcases hi with rfl | rfl | rfl <;> decide
    have flat : [V.bl (decide (0 = i)), V.bl (decide (1 = i)), V.bl (decide (2 = i))].all flatV = true := rfl
    refine ⟨_, rfl, .inl ⟨rfl, _, SqL.of el⟩, l, _, .bl true, rfl, rfl, SqL.of el, rfl, flat, ?_⟩
    rw [one]
    refine ⟨rfl, _, rfl, iteNS rfl ?_⟩
    refine ⟨_, rfl, a, C, baseK i, giv, v, rfl, ⟨d, s1 _ _ h1, s1 _ _ h2⟩, U, fun l2 H2' s2' nl2 el2' => ?_⟩
    have el1 := s2' _ _ el
    have at_ : ∀ k : Nat, k < 3 → ∀ v, [V.bl (decide (0 = i)), V.bl (decide (1 = i)), V.bl (decide (2 = i))][k]? = some v → atI [V.bl (decide (0 = i)), V.bl (decide (1 = i)), V.bl (decide (2 = i))] (k : Int) = some v := fun k _ v h => atI_nat h
    refine ⟨_, rfl, l, _, 1, _, rfl, rfl, SqL.of el1, at_ 1 (by decide) _ rfl, _, rfl, _, rfl, l, _, 1, _, rfl, rfl, SqL.of el1, at_ 1 (by decide) _ rfl, by show 3 ≤ sizeLine; decide, fun l5 H2 s5 nl5 el5 => ?_⟩
    have s2 : Same H1 H2 := s2'.trans s5
    have el2 := s5 _ _ el2'
    have eB : [V.bl (decide (0 = baseK i)), V.bl (decide (1 = baseK i)), V.bl (decide (2 = baseK i))] = [V.bl (!decide (1 = i)), V.bl (decide (1 = i)), V.bl false] := by rcases hi with rfl | rfl | rfl <;> rfl
    rw [eB] at el2
    refine ⟨.list [.bool (!decide (1 = i)), .bool (decide (1 = i)), .bool false], .list [.bool (!decide (1 = i)), .bool (decide (1 = i)), .bool false], .lst (SqL.of el2) (.cons (.bl _) (.cons (.bl _) (.cons (.bl _) .nil))), .lst (SqL.of el5) (.cons (.bl _) (.cons (.bl _) (.cons (.bl _) .nil))), by rcases hi with rfl | rfl | rfl <;> decide +kernel, by rcases hi with rfl | rfl | rfl <;> decide +kernel, ?_⟩
    rw [show PyData.eqv (.list [.bool (!decide (1 = i)), .bool (decide (1 = i)), .bool false]) (.list [.bool (!decide (1 = i)), .bool (decide (1 = i)), .bool false]) = true by rcases hi with rfl | rfl | rfl <;> decide +kernel]
    refine ⟨_, rfl, iteF ?_⟩
    refine ⟨by show 3 ≤ sizeLine; decide, fun l3 H3 s3 nl3 el3 => ?_⟩
    have s13 : Same H1 H3 := s2.trans s3
    refine ⟨_, rfl, .inl ⟨rfl, _, SqL.of (s13 _ _ el)⟩, l, _, .bl true, i, .bl true, rfl, rfl, SqL.of (s13 _ _ el), rfl, flat, ?_, rfl, ?_, ?_⟩
    · rcases hi with rfl | rfl | rfl <;> rfl
    · intro m z' hm hz
      rcases hi with rfl | rfl | rfl
      · omega
      · have e : m = 0 := by omega
        subst e; cases hz; rfl
      · rcases (by omega : m = 0 ∨ m = 1) with rfl | rfl <;> cases hz <;> rfl
    refine ⟨l3, _, _, .str (wordK i), rfl, rfl, SqL.of el3, atI_nat (by rcases hi with rfl | rfl | rfl <;> rfl), ?_⟩
    have s03 : Same H H3 := s1.trans s13
    obtain ⟨dd, x1, x2, x3⟩ := hS.same s03
    refine ⟨_, rfl, a, C, d, [(giv, v)], v, rfl, s03 _ _ h1, s03 _ _ h2, rfl, T3, hT.no, v, pd, rfl, dd, x1, x2, x3, by show 2 ≤ sizeLine; decide, fun p4 H4 s4 np4 ep4 => ?_⟩
    refine q p4 H4 (s03.trans s4) ?_ ep4
    cases e : H p4 with
    | none => rfl
    | some o => rw [s03 _ _ e] at np4; cases np4
end
end L2.Cal
end

section
set_option maxRecDepth 100000
set_option maxHeartbeats 4000000
namespace L2.Cal
open PySem PySem.Spec PyProof.Rows L2 LamX
/-! ### a def that makes lambdas: its code object is known -/
theorem Fun_okGT {P : Program} {w : World} {K : PySem.W.Frag} {mg : Str → Option Value} {base : Heap} {x qual : Str} {st : Stmt} {f c : Addr} {fd : FuncData} {N ps : List Str} {k : Nat} {sp : Sp} (F : Fun K x qual st f fd) (hc : fd.code = .ref c) (S : FnScope N ps (defScope st)) (many : ∀ us H Q E, sp us H Q E → us.length = ps.length)
    (body : ∀ (A : Around) (outer : List Env) (s : Shared) (H : Hp) (us : List V) (Q : VK) (E : XK), A.guards = some [] → Room k (A.deeper (envOfC qual (defScope st) s.heap.objs.size f (.ref c))) → sp us H Q E →
      ∃ t, PSs (cxOf CX0 P w K mg base N qual (defScope st) f (.ref c) A outer s H E).nox (defBody st) t ∧ t { nx := fun _ H' => Q .non H', rt := Q } (start N us) H) : FnOkG P w K mg base CX0 (k + 1) f fd ps sp := by
  obtain ⟨c1, c2, c3, c4, c5, c6, c7, c8, c9, rfl, look, code⟩ := F.ex
  obtain rfl : c7 = .ref c := hc
  refine ⟨many, fun A outer s H args us vs Q E guards room e0 ties vals promise => ?_⟩
  have stands : ∀ b o, base.get? b = some o → s.heap.get? b = some o := fun b o e => (e0.bs b o e).1
  have inK := e0.mod.kin.keeps stands
  refine codeAny_call_function room.depth (inK _ _ look) rfl S.co S.gen rfl (PySem.W.codeRec_of inK code) (ties _ _ _ _ (wpAny_newFunctionEnv_cells S.kind ?_ ?_))
  · rintro ⟨n, v⟩ hy
    exact (S.par n (List.of_mem_zip hy).1).imp id fun k => ⟨k, PySem.W.cellsFrom_some _ _ _ (.inl k)⟩
  · rintro env rfl s1 begun
    refine ⟨(e0.mod.nolimit.keeps stands).keeps begun.toInCall.keep, codeAny_func ?_⟩
    obtain ⟨t, walks, asked⟩ := body A outer s H vs Q E guards (room.deeper _) promise
    have I := inv_start (CX := CX0) (P := P) (w := w) (mg := mg) (E := E) S room.hd e0 (many _ _ _ _ promise) vals begun
    refine wpAny_mono (walks.nox.run [] s1 _ H _ I asked) (fun fl s' hs => ?_) fun e s' hs => hs
    rcases fl with _ | _ | _ | u
    all_goals first
      | (obtain ⟨v, σ', H', J, rv, q⟩ := hs; exact ⟨v, H', J.os, J.bare, J.base, J.hok, rv, q⟩)
      | (obtain ⟨σ', H', J, q⟩ := hs; exact ⟨.non, H', J.os, J.bare, J.base, J.hok, rfl, q⟩)
      | (obtain ⟨_, _, _, q⟩ := hs; exact q.elim)
/-! ### what stays: all but the jar and the tables -/
def KpN (j : Addr) (H H' : Hp) : Prop := ∀ b o, b ≠ j → (∀ ps, o ≠ .tbl ps) → H b = some o → H' b = some o
theorem KpN.refl {j : Addr} {H : Hp} : KpN j H H := fun _ _ _ _ h => h
theorem KpN.trans {j : Addr} {H H1 H2 : Hp} (a : KpN j H H1) (b : KpN j H1 H2) : KpN j H H2 := fun c o n t h => b c o n t (a c o n t h)
theorem KpN.kp {j : Addr} {H H' : Hp} (h : Kp j H H') : KpN j H H' := fun b o n _ e => h b o n e
theorem KpN.ext {j : Addr} {H H' : Hp} (h : ExtN H H') : KpN j H H' := fun b o _ t e => h b o e t
theorem ExtN.same {H H' : Hp} (h : Same H H') : ExtN H H' := fun b o e _ => h b o e
theorem Jar.ext {j : Addr} {H H' : Hp} (J : Jar H j) (h : ExtN H H') : Jar H' j := by
  obtain ⟨d, s, c, e, r⟩ := J
  exact ⟨d, s, c, h _ _ e (fun ps z => by cases z), r⟩
theorem tabs_same {T : List (Addr × Str)} {H H' : Hp} (t : Tabs T H) (h : Same H H') : Tabs T H' := t.ext h
theorem tabs_kp {T : List (Addr × Str)} {j : Addr} {H H' : Hp} (t : Tabs T H) (J : Jar H j) (h : Kp j H H') : Tabs T H' := by
  obtain ⟨_, _, _, ej, _⟩ := J
  intro p hp
  obtain ⟨ps, h1, h2, h3⟩ := t p hp
  refine ⟨ps, h _ _ (ne_of h1 ej (by intro z; cases z)) h1, h2, fun pos cv hc => ?_⟩
  obtain ⟨c, e1, e2⟩ := h3 pos cv hc
  exact ⟨c, e1, h _ _ (ne_of e2 ej (by unfold CodeO; intro z; cases z)) e2⟩
/-! ### _law_caught -/
abbrev sCau : Stmt := topS 44
theorem scCau : FnScope ["_law_act", "_law_told", "_law_e"] ["_law_act"] (defScope sCau) := ⟨rfl, rfl, rfl, by decide +kernel, rfl, by decide +kernel, by decide +kernel⟩
/-- what comes of an error that is caught -/
def Caught (K : PySem.W.Frag) (CV CN CP : Addr) (spS : Sp) (Q : VK) : XK := fun cls d H' => PySem.W.exmAny K cls [.ref CV, .ref CN, .ref CP] = some true ∧ ∀ a, H' a = none → spS [.ref a] (upd H' a (exr a cls d)) Q E0
def TCau (K : PySem.W.Frag) (CV CN CP : Addr) (spS : Sp) : (XK → Hp → VK → Prop) → Hp → VK → Prop := fun tl H Q => tl (Caught K CV CN CP spS Q) H fun v H' => New H' (.lst [.str (PySem.Str.ofString "told"), v]) Q
theorem pe_weak {X : Cx} {e : Expr} {t : TE} (h : PE X e t) : PE X e (fun σ H Q => ∃ Qv : VK, (∀ v H', Qv v H' → Q v H') ∧ t σ H Qv) :=
  ⟨fun pins s σ H Q I ⟨Qv, m, hq⟩ => wpAny_mono (h.run pins s σ H Qv I hq) (fun u s' ⟨v, H1, I1, r, q⟩ => ⟨v, H1, I1, r, m _ _ q⟩) fun _ _ z => z⟩
theorem caught_gives {X : Cx} {g fS CV CN CP : Addr} {fdS : FuncData} {st : Stmt} {cdg : Value} {q : Str} {k : Nat} {spS : Sp} (hA : X.A.guards = some []) (hr : Room (k + 2) X.A) (hk : 2 ≤ k) (DS : DefAt X.K X.mg "_law_shown" st ["_law_e"] fS fdS) (GS : FnS X.prog X.w X.K X.mg X.base 2 fS fdS ["_law_e"] spS) (B : Bases X.K X.mg CV CN CP) :
    GivesTo X ["_law_act", "_law_told", "_law_e"] "_law_caught" (defScope sCau) g cdg (defBody sCau) "_law_act" q (TCau X.K CV CN CP spS) := by
  intro f c' s H Q tl act hc h
  let Z := (cxOf C8.CX0 X.prog X.w X.K X.mg X.base ["_law_act", "_law_told", "_law_e"] "_law_caught" (defScope sCau) g cdg X.A X.stack s H C8.E0).nox
  have room : RoomS 2 Z.A := (roomS_of (hr.deeper _)).mono (by omega)
  refine ⟨_, pss_cons (ps_try_asT3 (X := Z) (i := 2) (ts := tRet (tCall spS [] E0 (tCons (tVar 2) tNil))) (Wout := fun _ _ _ _ => False)
      (tb := fun W D σ H => ∃ (Ech : XK) (Qv : VK), (∀ cls d σ' H', Ech cls d H' → W cls d σ' H') ∧ σ[0]? = some (some (.ref f)) ∧ H c' = some (CodeO c' q) ∧ (∀ v H', Qv v H' → D.nx (σ.set 1 (some v)) H') ∧ tl Ech H Qv)
      rfl rfl scCau.nd rfl rfl rfl B.gV rfl B.gN rfl B.gP L2.takes0 (fun W pn xe tk _ => ?_) (fun a pn => pss_one (ps_ret (pe_callS GS hA (roomS_mark room) (by rfl) DS.g DS.F.kp DS.b (pa_cons (pv 2) pa_nil)))))
    (pss_one (ps_ret (pe_lstS (pa_cons pe_str (pa_cons (pv 1) pa_nil))))), ?_⟩
  · constructor
    rintro pins s' σ H' D I ⟨Ech, Qv, hW, h1, h2, hm, h3⟩
    exact (pss_one (ps_set (i := 1) scCau.nd rfl (.inl rfl) (pe_weak (act W pn xe Ech _ _ tk hW)))).run pins s' σ H' D I ⟨Qv, hm, h1, h2, h3⟩
  · refine ⟨Caught X.K CV CN CP spS Q, _, fun cls d σ' H' hq => ⟨true, hq.1, fun _ a na len => ?_, fun z => Bool.noConfusion z⟩, rfl, hc, fun v H' hv => ?_, h⟩
    · have l3 : σ'.length = 3 := len
      refine ⟨.ref a, ?_, hq.2 a na⟩
      rw [List.getElem?_set_self (by omega)]
    · exact ⟨v, rfl, by show 2 ≤ sizeLine; decide, hv⟩
end L2.Cal
end

section
set_option maxRecDepth 100000
set_option maxHeartbeats 4000000
namespace L2.Cal
open PySem PySem.Spec PyProof.Rows L2 LamX
theorem eqv_same {d : PyData} (h : SeqAt.shaped d = true) : PyData.eqv d d = true := SeqAt.eqv_refl d (by
  unfold SeqAt.shaped at h
  rw [Bool.and_eq_true] at h
  exact h.1)
/-! ### what is due: rows of two texts -/
inductive RowsAt (H : Hp) : List V → List (Str × Str) → Prop where
  | nil : RowsAt H [] []
  | cons {a : Addr} {x y : Str} {vs : List V} {rs : List (Str × Str)} (e : H a = some (.lst [.str x, .str y])) (r : RowsAt H vs rs) : RowsAt H (.ref a :: vs) ((x, y) :: rs)
theorem RowsAt.same {H H' : Hp} (s : Same H H') : ∀ {vs : List V} {rs : List (Str × Str)}, RowsAt H vs rs → RowsAt H' vs rs
  | _, _, .nil => .nil
  | _, _, .cons e r => .cons (s _ _ e) (r.same s)
theorem RowsAt.ext {H H' : Hp} (s : ExtN H H') : ∀ {vs : List V} {rs : List (Str × Str)}, RowsAt H vs rs → RowsAt H' vs rs
  | _, _, .nil => .nil
  | _, _, .cons e r => .cons (s _ _ e fun ps z => by cases z) (r.ext s)
theorem RowsAt.app {H : Hp} : ∀ {vs ws : List V} {rs qs : List (Str × Str)}, RowsAt H vs rs → RowsAt H ws qs → RowsAt H (vs ++ ws) (rs ++ qs)
  | _, _, _, _, .nil, h => h
  | _, _, _, _, .cons e r, h => .cons e (r.app h)
theorem RowsAt.len {H : Hp} : ∀ {vs : List V} {rs : List (Str × Str)}, RowsAt H vs rs → vs.length = rs.length
  | _, _, .nil => rfl
  | _, _, .cons _ r => congrArg (· + 1) r.len
def rowD (r : Str × Str) : PyData := .list [.str r.1, .str r.2]
def rowsD (rs : List (Str × Str)) : PyData := .list (rs.map rowD)
theorem RowsAt.dp {K : PySem.W.Frag} {H : Hp} : ∀ {vs : List V} {rs : List (Str × Str)}, RowsAt H vs rs → DpAll K H vs (rs.map rowD)
  | _, _, .nil => .nil
  | _, _, .cons e r => .cons (.lst (SqL.of e) (.cons (.str _) (.cons (.str _) .nil))) r.dp
def OkRows (rs : List (Str × Str)) : Prop := ∀ r ∈ rs, PyData.strOk r.1 = true ∧ PyData.strOk r.2 = true
theorem shaped_row {a b : Str} (ha : PyData.strOk a = true) (hb : PyData.strOk b = true) : SeqAt.shaped (.list [.str a, .str b]) = true := by
  simp [SeqAt.shaped, PyData.canLay0, PyData.canLayAll0, PyData.depth, PyData.depthAll, ha, hb]
theorem shaped_rows {rs : List (Str × Str)} (h : OkRows rs) : SeqAt.shaped (rowsD rs) = true := by
  have lay : ∀ rs : List (Str × Str), OkRows rs → PyData.canLayAll0 (rs.map rowD) = true := fun rs => by
    induction rs with
    | nil => intro _; simp [PyData.canLayAll0]
    | cons r rs ih =>
      intro h
      have h1 := h r List.mem_cons_self
      simp [PyData.canLayAll0, PyData.canLay0, rowD, h1.1, h1.2, ih fun q hq => h q (List.mem_cons_of_mem _ hq)]
  have deep : ∀ rs : List (Str × Str), PyData.depthAll (rs.map rowD) ≤ 1 := fun rs => by
    induction rs with
    | nil => simp [PyData.depthAll]
    | cons r rs ih => simp [PyData.depthAll, PyData.depth, rowD]; omega
  have := deep rs
  unfold SeqAt.shaped
  rw [Bool.and_eq_true]
  refine ⟨by simp [rowsD, PyData.canLay0, lay rs h], ?_⟩
  simp [rowsD, PyData.depth]
  omega
theorem eqv_rows_nil (rs : List (Str × Str)) : PyData.eqv (rowsD rs) (.list []) = decide (rs = []) := by
  cases rs <;> simp [rowsD, PyData.eqv, PyData.eqvAll]
/-- the rows stand at ds -/
def DuesAt (H : Hp) (ds : Addr) (rs : List (Str × Str)) : Prop := ∃ vs, H ds = some (.lst vs) ∧ RowsAt H vs rs
theorem DuesAt.same {H H' : Hp} {ds : Addr} {rs : List (Str × Str)} (h : DuesAt H ds rs) (s : Same H H') : DuesAt H' ds rs := by
  obtain ⟨vs, e, r⟩ := h
  exact ⟨vs, s _ _ e, r.same s⟩
theorem DuesAt.ext {H H' : Hp} {ds : Addr} {rs : List (Str × Str)} (h : DuesAt H ds rs) (s : ExtN H H') : DuesAt H' ds rs := by
  obtain ⟨vs, e, r⟩ := h
  exact ⟨vs, s _ _ e fun ps z => (by cases z), r.ext s⟩
theorem DuesAt.dp {K : PySem.W.Frag} {H : Hp} {ds : Addr} {rs : List (Str × Str)} (h : DuesAt H ds rs) : Dp K H (.ref ds) (rowsD rs) := by
  obtain ⟨vs, e, r⟩ := h
  exact .lst (SqL.of e) r.dp
/-! ### _law_fits -/
abbrev sFit : Stmt := topS 45
theorem scFit : FnScope ["_law_told", "_law_dues"] ["_law_told", "_law_dues"] (defScope sFit) := ⟨rfl, rfl, rfl, by decide +kernel, rfl, by decide +kernel, by decide +kernel⟩
abbrev toldW : Str := PySem.Str.ofString "told"
/-- a call ended as is due -/
def Fits (H : Hp) (t : Addr) (rs : List (Str × Str)) : Prop := match rs with
  | [] => ∃ v, H t = some (.lst [.str toldW, v])
  | r :: _ => H t = some (.lst [.str r.1, .str r.2])
def spFit : Sp := fun vs H Q _ => ∃ (t ds : Addr) (rs : List (Str × Str)), vs = [.ref t, .ref ds] ∧ DuesAt H ds rs ∧ OkRows rs ∧ Fits H t rs ∧ ∀ H', Same H H' → Q (.bl true) H'
section
variable {P : Program} {w : World} {K : PySem.W.Frag} {mg : Str → Option Value} {base : Heap}
theorem ok_fit {f : Addr} {fd : FuncData} (D : DefAt K mg "_law_fits" sFit ["_law_told", "_law_dues"] f fd) : FnOk P w K mg base CX0 1 f fd ["_law_told", "_law_dues"] spFit := by
  refine D.F.ok scFit (fun vs H Q E h => ?_) (fun cdv A outer sh H vs Q E hr h => ?_)
  · obtain ⟨t, ds, rs, rfl, _⟩ := h
    rfl
  · obtain ⟨t, ds, rs, rfl, hD, ok, hF, q⟩ := h
    have hu := hr.units
    refine ⟨_, (pss_one (ps_ret (pe_ifExp (pt_cmpR (op_neD hu) (pv 1) (pe_lstS pa_nil) (nomark _)) (pe_cmpR (op_eqD hu) (pv 0) (pe_ix ix_list (pv 1) pe_int (fun _ _ => rfl)) (nomark _)) (pe_cmpR op_eq (pe_ix ix_list (pv 0) pe_int (fun _ _ => rfl)) pe_str (nomark _))))), ?_⟩
    refine ⟨_, rfl, by show 0 ≤ sizeLine; decide, fun l H1 s1 nl el => ?_⟩
    have hD1 := hD.same s1
    refine ⟨rowsD rs, .list [], hD1.dp, .lst (SqL.of el) .nil, shaped_rows ok, by decide +kernel, ?_⟩
    rw [eqv_rows_nil]
    cases rs with
    | nil =>
      obtain ⟨v, e⟩ := hF
      exact ⟨_, rfl, iteF ⟨_, rfl, t, _, 0, _, rfl, rfl, SqL.of (s1 _ _ e), atI_nat (j := 0) rfl, rfl, q _ s1⟩⟩
    | cons r rs =>
      obtain ⟨x, y⟩ := r
      obtain ⟨vs, e, hr⟩ := hD1
      cases hr with
      | cons ea hr =>
        rename_i a vs
        have ok0 := ok _ List.mem_cons_self
        have sh := shaped_row ok0.1 ok0.2
        refine ⟨_, rfl, iteT ⟨_, rfl, _, rfl, ds, _, 0, _, rfl, rfl, SqL.of e, atI_nat (j := 0) rfl, .list [.str x, .str y], .list [.str x, .str y], .lst (SqL.of (s1 _ _ hF)) (.cons (.str _) (.cons (.str _) .nil)), .lst (SqL.of ea) (.cons (.str _) (.cons (.str _) .nil)), sh, sh, ?_⟩⟩
        rw [eqv_same sh]
        exact q _ s1
end
end L2.Cal
end

section
set_option maxRecDepth 100000
set_option maxHeartbeats 4000000
/-! f(k = v, ..): a def called by names alone -/
namespace L2.KwF
open PySem PySem.Spec PyProof.Rows L2
structure KB0 (fd : FuncData) (ps ks : List Str) (g : List Value → List Value) (gV : List V → List V) : Prop where
  to : ∀ (s : Shared) (ws : List Value), ws.length = ks.length → BindsTo s fd ⟨[], ks.zip ws⟩ (ps.zip (g ws))
  rel : ∀ {zs : List V} {ws : List Value}, zs.length = ks.length → Vals zs ws → Vals (gV zs) (g ws)
def tKw0 (n : Nat) (sp : Sp) (gV : List V → List V) (E : XK) (tk : TA) : TE := fun σ H Q => tk σ H fun zs H2 => zs.length = n ∧ sp (gV zs) H2 Q E
section
variable {X : Cx} {CX : CXT} {k : Nat} {f : Addr} {fd : FuncData} {ps ks : List Str} {sp : Sp} {E : XK} {x : Str} {p pos : Pos} {kws : List Keyword} {tk : TA} {g : List Value → List Value} {gV : List V → List V}
theorem pe_callK0 (F : FnOk X.prog X.w X.K X.mg X.base CX k f fd ps sp) (hr : Room k X.A) (hg : Gl X x) (hm : X.mg x = some (.ref f)) (hk : PySem.W.keepIn X.K (.ref f) = true) (hb : KB0 fd ps ks g gV) (hx : Passes CX X E) (hkw : PK X kws tk)
    (hall : (backToKw pos (keywordEach kws X.env)).all (·.1.isSome) = true := by rfl) (hks : (backToKw pos (keywordEach kws X.env)).filterMap (·.1) = ks := by rfl) (hdb : (x == ("__debug__" : Str)) = false := by decide)
    (hpl : ((backTo pos (starEach [] X.env)).any (·.1) || (backToKw pos (keywordEach kws X.env)).any (·.1.isNone)) = false := by rfl) :
    PE X (.Call (.Name x p) [] kws pos) (tKw0 ks.length sp gV E tk) := by
  refine ⟨fun pins s σ H Q I h => wpAny_Call_Name_kw (ld_glob I hg hm ?_ hdb)⟩
  refine PySem.W.callWith_KW0 (h₀ := X.base) I.ok.mod.kin hk hall (thn (hkw.run pos pins s σ H _ I h) fun ws s2 ⟨zs, H2, I2, rz, hl, q⟩ => ⟨I2.kIn, ?_⟩) hpl
  rw [hks]
  refine wpAny_call (codeAny_mono (F.run X.A X.stack s2 H2 ⟨[], ks.zip ws⟩ (g ws) (gV zs) Q E hr I2.env0 (hb.to s2 ws (rz.length.symm.trans hl)) (hb.rel hl rz) q) fun r s' hq => ?_)
  cases r with
  | error e => exact hx pins σ H2 s2 e s' I2 hq
  | ok fl => cases fl <;> first | exact I2.after hq | exact False.elim hq
end
end L2.KwF
end

section
set_option maxRecDepth 100000
set_option maxHeartbeats 4000000
/-! o.m(k = v, ..): a method called by names alone -/
namespace L2.KwF
open PySem PySem.Spec PyProof.Rows L2
structure KB1 (fd : FuncData) (ps ks : List Str) (g : List Value → List Value) (gV : List V → List V) : Prop where
  to : ∀ (s : Shared) (u : Value) (ws : List Value), ws.length = ks.length → BindsTo s fd ⟨[u], ks.zip ws⟩ (ps.zip (u :: g ws))
  rel : ∀ {zs : List V} {ws : List Value}, zs.length = ks.length → Vals zs ws → Vals (gV zs) (g ws)
def tMethK (C : Addr) (m : Str) (n : Nat) (sp : Sp) (gV : List V → List V) (E : XK) (ta : TE) (tk : TA) : TE := fun σ H Q => ta σ H fun x H1 => ∃ a dx fs, x = V.ref a ∧ H1 a = some (.ins C dx fs) ∧ fs.lookup m = none ∧ tk σ H1 fun zs H2 => zs.length = n ∧ sp (x :: gV zs) H2 Q E
section
variable {X : Cx} {CX : CXT} {k : Nat} {f C : Addr} {fd : FuncData} {ps ks : List Str} {sp : Sp} {E : XK} {m : Str} {apos pos : Pos} {o : Expr} {kws : List Keyword} {ta : TE} {tk : TA} {g : List Value → List Value} {gV : List V → List V} {pl : Sem Bool}
theorem pe_methK0 (he : PE X o ta) (c : Cls X.K C) (hm : Meth X.K C m f) (F : FnOk X.prog X.w X.K X.mg X.base CX k f fd ps sp) (hr : Room k X.A) (hb : KB1 fd ps ks g gV) (hx : Passes CX X E) (hkw : PK X kws tk)
    (hev : eval (.Call (.Attribute o m apos) [] kws pos) X.env = (do let ov ← eval o X.env; standAt apos.atName; let (f, first) ← holding [ov] (getMethod ov m pl); callWith pos f first (backTo pos (starEach [] X.env)) (backToKw pos (keywordEach kws X.env))) := by rfl)
    (hall : (backToKw pos (keywordEach kws X.env)).all (·.1.isSome) = true := by rfl) (hks : (backToKw pos (keywordEach kws X.env)).filterMap (·.1) = ks := by rfl)
    (hpl : ((backTo pos (starEach [] X.env)).any (·.1) || (backToKw pos (keywordEach kws X.env)).any (·.1.isNone)) = false := by rfl) :
    PE X (.Call (.Attribute o m apos) [] kws pos) (tMethK C m ks.length sp gV E ta tk) := by
  refine ⟨fun pins s σ H Q I h => PySem.W.methodCall_KW (pl := pl) (thn (he.run pins s σ H _ I h) fun u s1 ⟨x, H1, I1, rx, a, dx, fs, ex, ea, l, q⟩ => ?_) hev⟩
  subst ex
  obtain rfl : u = .ref a := rx
  refine getmeth_ok I1 ea c hm l ?_
  refine PySem.W.callWith_KW0 (h₀ := X.base) I.ok.mod.kin hm.kp hall (thn (hkw.run pos pins s1 σ H1 _ I1 q) fun ws s2 ⟨zs, H2, I2, rz, hl, q⟩ => ⟨I2.kIn, ?_⟩) hpl
  rw [hks]
  refine wpAny_call (codeAny_mono (F.run X.A X.stack s2 H2 ⟨[.ref a], ks.zip ws⟩ (.ref a :: g ws) (.ref a :: gV zs) Q E hr I2.env0 (hb.to s2 _ ws (rz.length.symm.trans hl)) (.cons rfl (hb.rel hl rz)) q) fun r s' hq => ?_)
  cases r with
  | error e => exact hx pins σ H2 s2 e s' I2 hq
  | ok fl => cases fl <;> first | exact I2.after hq | exact False.elim hq
end
end L2.KwF
end

section
set_option maxRecDepth 100000
set_option maxHeartbeats 4000000
/-! a drawn integer that is not too great -/
namespace L2.Cal
open PySem PySem.Spec PyProof.Rows L2
theorem int_plain (i : Int) : ∀ c ∈ (PyData.int i).shown.cps.toList, c < 128 := fun c hc => by
  rcases Nat.lt_or_ge c 128 with h | h
  · exact h
  · exact absurd hc (shown_int_free' ⟨by omega, by omega⟩ i)
theorem int_len {i : Int} (h : i.natAbs < 10 ^ 33) : (PyData.int i).shown.length ≤ 41 := by
  have dg : ∀ n : Nat, n < 10 ^ 33 → (Nat.toDigits 10 n).length ≤ 33 := fun n hn => (Nat.length_toDigits_le_iff (b := 10) (k := 33) (by decide) (by decide) (n := n)).mpr hn
  show (Str.ofString (toString i)).length ≤ 41
  cases i with
  | ofNat n =>
    rw [show toString (Int.ofNat n) = toString n from rfl, Nat.toString_eq_ofList_toDigits, ofString_ofList_length]
    exact Nat.le_trans (dg n h) (by decide)
  | negSucc n =>
    rw [show toString (Int.negSucc n) = "-" ++ toString (n + 1) from rfl, Nat.toString_eq_ofList_toDigits, show "-" ++ String.ofList (Nat.toDigits 10 (n + 1)) = String.ofList ('-' :: Nat.toDigits 10 (n + 1)) from by simp [String.ofList_cons], ofString_ofList_length, List.length_cons]
    have := dg (n + 1) h
    omega
theorem any_int {K : PySem.W.Frag} {H : Hp} {i : Int} (h : i.natAbs < 10 ^ 33) : AnyV K H (.int i) (.int i) := by
  refine any_by (.base (.int i)) (.int i) ?_
  have l := int_len h
  have lg : i.natAbs.log2 < 110 := by
    by_cases e : i.natAbs = 0
    · rw [e]; decide
    · rw [Nat.log2_lt e]
      exact Nat.lt_of_lt_of_le h (by decide)
  unfold goodE smallT
  simp only [Bool.and_eq_true, decide_eq_true_eq]
  refine ⟨?_, by omega, by simp [PyData.depth], strOk_plain (int_plain i), trivial⟩
  simp only [PyData.showable]
  exact decide_eq_true (by omega)
end L2.Cal
end

section
set_option maxRecDepth 100000
set_option maxHeartbeats 4000000
set_option synthInstance.maxHeartbeats 400000
namespace L2.Cal
open PySem PySem.Spec PyProof.Rows L2 LamX
abbrev sRgt : Stmt := topS 47
abbrev lamQ : Str := (envOfC "_law_right" (defScope sRgt) 0 0 .none).qual ++ "<lambda>"
theorem pe_imp {X : Cx} {e : Expr} {t t' : TE} (h : PE X e t) (m : ∀ σ H Q, t' σ H Q → t σ H Q) : PE X e t' := ⟨fun pins s σ H Q I hq => h.run pins s σ H Q I (m σ H Q hq)⟩
/-- _law_caught(lambda: ..) -/
theorem pe_caught {X : Cx} {g c Pt fS CV CN CP : Addr} {fd fdS : FuncData} {stS : Stmt} {spS : Sp} {k : Nat} {params : Arguments} {body : Expr} {scope : Scope} {t : XK → TE} {q : Str} {p lpos pos : Pos} (D : DefAt X.K X.mg "_law_caught" sCau ["_law_act"] g fd)
    (hg : Gl X "_law_caught") (hA : X.A.guards = some []) (hr : Room (k + 2) X.A) (hk : 2 ≤ k) (DS : DefAt X.K X.mg "_law_shown" stS ["_law_e"] fS fdS) (GS : FnS X.prog X.w X.K X.mg X.base 2 fS fdS ["_law_e"] spS) (B : Bases X.K X.mg CV CN CP)
    (TB : TabB X.base X.mg c Pt) (hcode : X.env.code = .ref c) (hq : X.env.qual ++ "<lambda>" = q) (L : LamS X.env.scope scope) (hdef : defaultsOf params X.env = ([], []))
    (hbind : ∀ (q : Str) (cl : List (Str × Addr)) (pm cv ctv : Value), bindArgs (PySem.W.kla_fn "<lambda>" q params body scope cl pm cv ctv) ⟨[], []⟩ = pure [])
    (hbody : ∀ (A : Around) (outer : List Env) (s : Shared) (H : Hp) (E : XK) (f c' : Addr), Room k (A.deeper (lamEnv X scope s.heap.objs.size f c')) → PE (lamCx X A outer s H E scope f c') body (t E)) :
    PE X (.Call (.Name "_law_caught" p) [.Lambda params body scope lpos] [] pos) (tLam [(Pt, q)] (TCau X.K CV CN CP spS) t) := by
  obtain ⟨c1, c2, c3, c4, c5, c6, c7, c8, c9, rfl, look, code⟩ := D.F.ex
  subst hq
  exact pe_lamcall hg D.g D.F.kp look code D.b scCau rfl (.inl rfl) (caught_gives hA hr hk DS GS B) TB hcode List.mem_cons_self (fun p hp _ => by rw [List.mem_singleton.mp hp]) hr L hdef hbind hbody
theorem signs_inj {a b : Str} (h : signs a = signs b) : a = b := by
  have := congrArg (fun l => l.map (fun s => s.cps.getD 0 0)) h
  simp only [signs_cps] at this
  exact str_ext this
theorem eqv_lstrs (ys zs : List Str) : PyData.eqv (.list (ys.map PyData.str)) (.list (zs.map PyData.str)) = decide (ys = zs) := by
  have h := eqv_strs ys zs
  simp only [PyData.eqv] at h ⊢
  exact h
theorem shaped_lstrs (ys : List Str) (ok : ∀ y, y ∈ ys → PyData.strOk y = true) : SeqAt.shaped (.list (ys.map PyData.str)) = true := by
  have h := shaped_strs ys ok
  simp only [SeqAt.shaped, PyData.canLay0, PyData.depth] at h ⊢
  exact h
theorem signs_ok {u : Str} (h : ∀ c ∈ u.cps.toList, c < 128) : ∀ s ∈ signs u, PyData.strOk s = true := fun s hs => by
  obtain ⟨c, hc, rfl⟩ := List.mem_map.mp hs
  exact strOk_plain fun d hd => by rw [List.mem_singleton.mp (show d ∈ [c] from hd)]; exact h c hc
/-- whether a value has just the letters -/
def fineB (y : Str) : V → Bool
  | .str u => decide (tidy u = tidy y)
  | _ => false
theorem fine_not {y : Str} {v : V} (h : ∀ u, v ≠ .str u) : fineB y v = false := by
  cases v <;> first | rfl | exact absurd rfl (h _)
theorem fine_ord {y : Str} (ly : Lett y) (h3 : 3 ≤ y.cps.size) (h6 : y.cps.size ≤ 6) (v : V) : ordOf (tidy y) v = fineB y v := by
  cases v with
  | str u =>
    show (ordB u && decide (tidy u = tidy y)) = decide (tidy u = tidy y)
    by_cases c : tidy u = tidy y
    · have p := tidy_back c
      have e : u.cps.size = y.cps.size := by rw [← Array.length_toList, p.length_eq, Array.length_toList]
      have lz := ly.perm p
      have o : ordB u = true := by
        unfold ordB
        rw [decide_eq_true (show 3 ≤ u.cps.size ∧ u.cps.size ≤ 6 by omega), decide_eq_true lz.1, Bool.true_and, Bool.true_and, List.all_eq_true]
        intro c hc
        have := lz.2 c hc
        rw [decide_eq_true this.1, decide_eq_true this.2] <;> rfl
      rw [o, Bool.true_and]
    · rw [decide_eq_false c, Bool.and_false]
  | _ => rfl
theorem fine_str {y : Str} {v : V} (h : fineB y v = true) : ∃ u, v = .str u := by
  cases v with
  | str u => exact ⟨u, rfl⟩
  | _ => exact absurd h Bool.false_ne_true
theorem letters_plain {y z : Str} (ly : Lett y) (p : z.cps.toList.Perm y.cps.toList) : ∀ c ∈ z.cps.toList, c < 128 := fun c hc => by
  have := (ly.perm p).2 c hc
  omega
theorem AnyV.shows {K : PySem.W.Frag} {H : Hp} {v : V} {d : PyData} (h : AnyV K H v d) : Shows K H v d := by
  obtain ⟨a, b, c, _⟩ := h.shown
  exact ⟨h.dd, a, by rw [sizeLine_eq]; omega, c⟩
theorem AnyV.ask {K : PySem.W.Frag} {H : Hp} {v : V} {d : PyData} (h : AnyV K H v d) (ks : ∀ T ∈ tyNames, T ≠ "str" → PySem.W.kitOne K (.type T) (.type "str") = some false) : Ask K H v := by
  obtain ⟨T, t⟩ := h.ty
  rcases t.isStr with ⟨y, rfl, rfl, _⟩ | ⟨n, ns⟩
  · exact .inl ⟨y, rfl, by have := h.small.1; omega⟩
  · exact .inr ⟨n, .type T, t.ty, ks T t.name ns⟩
theorem sort_same {u y0 y : Str} {us zs : List Str} (ly : Lett y) (p0 : y0.cps.toList.Perm y.cps.toList) (pm : us.Perm (signs u)) (so : sortedS us = true) (pm2 : zs.Perm (signs y0)) (so2 : sortedS zs = true) : decide (us = zs) = decide (tidy u = tidy y) := by
  have back : us = zs → tidy u = tidy y := fun e => by
    have p := (pm.symm.trans (e ▸ pm2)).map fun s => s.cps.getD 0 0
    rw [signs_cps, signs_cps] at p
    exact tidy_same (p.trans p0)
  have ahead : tidy u = tidy y → us = zs := fun e => by
    have pu := tidy_back e
    have one : ∀ z : Str, z.cps.toList.Perm y.cps.toList → (signs z).Nodup := fun z h => by
      show (z.cps.toList.map fun c => (⟨#[c]⟩ : Str)).Nodup
      exact List.pairwise_map.mpr ((ly.perm h).1.imp fun n e => n (by cases e; rfl))
    refine climbs_only (climbs_sorted so (pm.nodup_iff.mpr (one u pu))) (climbs_sorted so2 (pm2.nodup_iff.mpr (one y0 p0))) fun s => ?_
    rw [pm.mem_iff, pm2.mem_iff]
    exact ((pu.trans p0.symm).map _).mem_iff
  rw [Bool.eq_iff_iff, decide_eq_true_eq, decide_eq_true_eq]
  exact ⟨back, ahead⟩
theorem throws_word {K : PySem.W.Frag} {CV CN CP CI CU CQ C : Addr} {H : Hp} {Q : VK} {i : Nat} {v : V} {pd : PyData} (r : Told K CV CN CP [CI, CU, CQ] C i (baseK i)) (hx : PySem.W.exmAny K (.ref C) [.ref CV, .ref CN, .ref CP] = some true) (hS : Shows K H v pd) (hq : New H (.lst [.str (wordK i), .str pd.shown]) Q) :
    Throws H C giv v (Caught K CV CN CP (spShn K CV CN CP CI CU CQ) Q) := by
  intro H1 s1 d nd
  refine ⟨hx, fun a na => ⟨a, C, i, v, pd, rfl, ⟨d, upd_same, ?_⟩, r, ?_, fun p H2 s2 np ep => ?_⟩⟩
  · rw [upd_ne (ne_of_none upd_same na), upd_same]
  · exact hS.same (s1.trans ((same_new nd).trans (same_new na)))
  · have s : Same H H2 := s1.trans ((same_new nd).trans ((same_new na).trans s2))
    refine hq p H2 s ?_ ep
    cases e : H p with
    | none => rfl
    | some o =>
      have sA : Same H (upd (upd H1 d (exd d [(giv, v)])) a (exr a (.ref C) (some d))) := s1.trans ((same_new nd).trans (same_new na))
      rw [sA _ _ e] at np
      cases np
theorem dues_new {H H' H'' : Hp} {l l2 : Addr} {a b : Str} (s : Same H' H'') (e : H' l = some (.lst [.str a, .str b])) (e2 : H'' l2 = some (.lst [.ref l])) : DuesAt H'' l2 [(a, b)] := ⟨_, e2, .cons (s _ _ e) .nil⟩
theorem dues_app {K : PySem.W.Frag} {H : Hp} {l1 l2 : Addr} {rs qs : List (Str × Str)} {Q : VK} (h1 : DuesAt H l1 rs) (h2 : DuesAt H l2 qs) (few : rs.length + qs.length ≤ 100) (q : ∀ l H', Same H H' → DuesAt H' l (rs ++ qs) → Q (.ref l) H') : rCatS (.ref l1) (.ref l2) H Q := by
  obtain ⟨vs, e1, r1⟩ := h1
  obtain ⟨ws, e2, r2⟩ := h2
  refine ⟨l1, l2, vs, ws, rfl, rfl, e1, e2, by rw [r1.len, r2.len, sizeLine_eq]; omega, fun p H2 s np ep => ?_⟩
  exact q p H2 s ⟨_, ep, (r1.same s).app (r2.same s)⟩
theorem Fits.ext {H H' : Hp} {t : Addr} {rs : List (Str × Str)} (h : Fits H t rs) (e : ExtN H H') : Fits H' t rs := by
  cases rs with
  | nil =>
    obtain ⟨v, h⟩ := h
    exact ⟨v, e _ _ h fun ps z => by cases z⟩
  | cons r rs => exact e _ _ h fun ps z => by cases z
/-- where a value stands -/
def ixOf (ys : List Str) : V → Nat
  | .str z => ys.idxOf z
  | _ => 0
def numB (ns : List Int) (i : Nat) : V → Bool
  | .int k => newOk ns i k
  | _ => false
theorem ix_of {ys : List Str} {z : Str} {i : Nat} (nd : ys.Nodup) (ei : ys[i]? = some z) : ys.idxOf z = i := by
  obtain ⟨hi, e⟩ := List.getElem?_eq_some_iff.mp ei
  have hz : z ∈ ys := e ▸ List.getElem_mem hi
  have h2 : ys.idxOf z < ys.length := List.idxOf_lt_length_iff.mpr hz
  have e2 : ys[ys.idxOf z] = z := List.getElem_idxOf h2
  have pw := List.pairwise_iff_getElem.mp nd
  rcases Nat.lt_trichotomy (ys.idxOf z) i with h | h | h
  · exact absurd (e2.trans e.symm) (pw _ _ h2 hi h)
  · exact h
  · exact absurd (e.trans e2.symm) (pw _ _ hi h2 h)
/-- the words that are due for a call of joined -/
def dueJ (y : Str) (ys : List Str) (ns : List Int) (x : V) (dx : PyData) (m : V) (dm : PyData) : List (Str × Str) :=
  if fineB y x = true then (if inB x ys = true then (if numB ns (ixOf ys x) m = true then [] else [(wordK 2, dm.shown)]) else [(wordK 1, dx.shown)]) else [(wordK 0, dx.shown)]
def tJoin (K : PySem.W.Frag) (C Cr Pt : Addr) : TE := fun σ H Q => ∃ (c r p n : Addr) (y : Str) (ys : List Str) (ns : List Int) (x m : V) (dx dm : PyData), σ[4]? = some (some (.ref c)) ∧ σ[7]? = some (some x) ∧ σ[8]? = some (some m) ∧ CwAt C Cr H c r p n (tidy y) ys ns ∧ Good ys y ∧ ns.length = ys.length ∧ (∀ i, i ∈ ns → 0 ≤ i) ∧ AnyV K H x dx ∧ AnyV K H m dm ∧ Tabs [(Pt, lamQ)] H ∧
  ∀ l H', ExtN H H' → Tabs [(Pt, lamQ)] H' → Fits H' l (dueJ y ys ns x dx m dm) → (dueJ y ys ns x dx m dm = [] → ∃ (c' n' : Addr) (z : Str) (k : Int), x = .str z ∧ m = .int k ∧ H' l = some (.lst [.str toldW, .ref c']) ∧ CwAt C Cr H' c' r p n' (tidy y) ys (newNs ns (ixOf ys x) k)) → Q (.ref l) H'
theorem told_joined {K : PySem.W.Frag} {C Cr CV CN CP CI CU CQ Pt : Addr} {tc : XK → TE} {σ : St} {H : Hp} {Q : VK} (ks : ∀ T ∈ tyNames, T ≠ "str" → PySem.W.kitOne K (.type T) (.type "str") = some false)
    (TI : Told K CV CN CP [CI, CU, CQ] CI 0 (baseK 0)) (TU : Told K CV CN CP [CI, CU, CQ] CU 1 (baseK 1)) (TN : Told K CV CN CP [CI, CU, CQ] CQ 2 (baseK 2)) (mI : PySem.W.exmAny K (.ref CI) [.ref CV, .ref CN, .ref CP] = some true) (mU : PySem.W.exmAny K (.ref CU) [.ref CV, .ref CN, .ref CP] = some true) (mN : PySem.W.exmAny K (.ref CQ) [.ref CV, .ref CN, .ref CP] = some true)
    (htc : ∀ (E : XK) (σ : St) (H : Hp) (Q : VK) (c : Addr) (x m : V) (dx : Addr) (fs : List (Str × V)), σ[4]? = some (some (.ref c)) → σ[7]? = some (some x) → σ[8]? = some (some m) → H c = some (.ins Cr dx fs) → (∀ m : Str, m ≠ "_roll" → m ≠ "_numbers" → m ≠ "_people" → fs.lookup m = none) → spJnd K C Cr CI CU CQ [.ref c, x, m] H Q E → tc E σ H Q)
    (h : tJoin K C Cr Pt σ H Q) : tLam [(Pt, lamQ)] (TCau K CV CN CP (spShn K CV CN CP CI CU CQ)) tc σ H Q := by
  obtain ⟨c, r, p, n, y, ys, ns, x, m, dx, dm, h4, h7, h8, W, G, len, pos, hx, hm, hT, q⟩ := h
  refine ⟨hT, fun H5 x5 T5 => ?_⟩
  have W5 := W.ext x5
  have hx5 := hx.ext x5
  have hm5 := hm.ext x5
  obtain ⟨ax, fs, e, no⟩ := id W5.nf
  refine htc _ _ _ _ c x m ax fs h4 h7 h8 e no ?_
  have fo := fine_ord G.let_ G.h3 G.h6 x
  have one : ∀ (i : Nat) (pd : PyData), dueJ y ys ns x dx m dm = [(wordK i, pd.shown)] → ∀ l H', Same H5 H' → H' l = some (.lst [.str (wordK i), .str pd.shown]) → Q (.ref l) H' := fun i pd ed l H' s el => by
    refine q l H' (x5.trans (ExtN.same s)) (tabs_same T5 s) ?_ (fun z => by rw [ed] at z; cases z)
    rw [ed]
    exact el
  refine ⟨c, r, p, n, y, ys, ns, x, m, rfl, W5, G, len, pos, hx5.ask ks, ⟨dm, hm5.ty⟩, fun o0 => ?_, fun z ez o1 => ⟨fun nin => ?_, fun i ei => ⟨fun nn => ?_, fun k ek => ⟨fun bad => ?_, fun ok c' n' H6 s6 W6 => ?_⟩⟩⟩⟩
  · refine throws_word TI mI hx5.shows fun l H6 s6 _ e6 => one 0 dx ?_ l H6 s6 e6
    unfold dueJ
    rw [← fo, o0]
    rfl
  · refine throws_word TU mU hx5.shows fun l H6 s6 _ e6 => one 1 dx ?_ l H6 s6 e6
    subst ez
    unfold dueJ
    rw [← fo, o1, if_pos rfl, show inB (.str z) ys = false from decide_eq_false nin]
    rfl
  all_goals
    subst ez
    have hin : inB (.str z) ys = true := decide_eq_true (List.mem_of_getElem? ei)
    have hix : ixOf ys (.str z) = i := ix_of G.lot.one ei
  · refine throws_word TN mN hm5.shows fun l H6 s6 _ e6 => one 2 dm ?_ l H6 s6 e6
    unfold dueJ
    rw [← fo, o1, if_pos rfl, hin, if_pos rfl, show numB ns (ixOf ys (.str z)) m = false from by cases m <;> first | rfl | cases nn]
    rfl
  · refine throws_word TN mN hm5.shows fun l H6 s6 _ e6 => one 2 dm ?_ l H6 s6 e6
    subst ek
    unfold dueJ
    rw [← fo, o1, if_pos rfl, hin, if_pos rfl, hix, show numB ns i (.int k) = false from bad]
    rfl
  · subst ek
    have ed : dueJ y ys ns (.str z) dx (.int k) dm = [] := by
      unfold dueJ
      rw [← fo, o1, if_pos rfl, hin, if_pos rfl, hix, show numB ns i (.int k) = true from ok]
      rfl
    intro l H7 s7 nl el
    refine q l H7 (x5.trans (ExtN.same (s6.trans s7))) (tabs_same T5 (s6.trans s7)) ?_ (fun _ => ⟨c', n', z, k, rfl, rfl, el, ?_⟩)
    · rw [ed]
      exact ⟨_, el⟩
    · rw [hix]
      exact W6.same s7
end L2.Cal
end

section
set_option maxRecDepth 100000
set_option maxHeartbeats 4000000
set_option synthInstance.maxHeartbeats 400000
namespace L2.Cal
open PySem PySem.Spec PyProof.Rows L2 LamX
abbrev NR : List Str := ["_law_jar_here", "_law_turn", "_law_lot", "_law_counts_here", "_law_mine", "_law_again", "_law_own", "_law_word", "_law_many", "_law_fine", "_law_dues", "_law_at", "_law_whole_one", "_law_told", "_law_due"]
theorem scRgt : FnScope NR ["_law_jar_here"] (defScope sRgt) := ⟨rfl, rfl, rfl, by decide +kernel, rfl, by decide +kernel, by decide +kernel⟩
def spRgt (P : Addr) : Sp := fun vs H Q _ => ∃ j : Addr, vs = [.ref j] ∧ Jar H j ∧ Tabs [(P, lamQ)] H ∧ ∀ H', KpN j H H' → Jar H' j → Tabs [(P, lamQ)] H' → Q (.bl true) H'
theorem seq_key {t u : TS} {D : Ends} {σ : St} {H : Hp} (Pz : St → Hp → Prop) (key : ∀ σ H', Pz σ H' → u D σ H') (go : (∀ σ H', Pz σ H' → u D σ H') → t { D with nx := u D } σ H) : tSeq t u D σ H := go key
/-- the lot of slot 2, the word of slot 7 -/
structure At27 (K : PySem.W.Frag) (σ : St) (H : Hp) (p : Addr) (ys : List Str) (y : Str) (v : V) (d : PyData) : Prop where
  lot : σ[2]? = some (some (.ref p))
  at_ : TupF.Frt H p (ys.map V.str)
  good : Good ys y
  val : σ[7]? = some (some v)
  any : AnyV K H v d
def tFine (K : PySem.W.Frag) : TE := fun σ H Q => ∃ p ys y v d, At27 K σ H p ys y v d ∧ ∀ H', Same H H' → Q (.bl (fineB y v)) H'
/-- the words for what is no order of the things -/
def ord1 (b : Bool) (d : PyData) : List (Str × Str) := if b = true then [] else [(wordK 0, d.shown)]
def ord2 (b i : Bool) (d : PyData) : List (Str × Str) := if b = true then (if i = true then [] else [(wordK 1, d.shown)]) else [(wordK 0, d.shown)]
def tOrd (K : PySem.W.Frag) : TE := fun σ H Q => ∃ p ys y v d, At27 K σ H p ys y v d ∧ σ[9]? = some (some (.bl (fineB y v))) ∧ ∀ l H', Same H H' → DuesAt H' l (ord1 (fineB y v) d) → Q (.ref l) H'
def tAdd (K : PySem.W.Frag) : TE := fun σ H Q => ∃ p ys y v d l, At27 K σ H p ys y v d ∧ σ[10]? = some (some (.ref l)) ∧ DuesAt H l (ord1 (fineB y v) d) ∧ ∀ l' H', Same H H' → DuesAt H' l' (ord2 (fineB y v) (inB v ys) d) → Q (.ref l') H'
theorem psum : ∀ {ns : List Int}, (∀ v, v ∈ ns → 0 ≤ v) → 0 ≤ ns.sum
  | [], _ => by simp
  | a :: l, h => by
    have h1 := h a List.mem_cons_self
    have h2 := psum (ns := l) fun v hv => h v (List.mem_cons_of_mem _ hv)
    rw [List.sum_cons]
    omega
theorem set_back {ns : List Int} {i : Nat} (h : i < ns.length) (k : Int) : newNs (newNs ns i k) i (0 - k) = ns := by
  have e : (newNs ns i k).getD i 0 = ns.getD i 0 + k := by
    unfold newNs
    simp [List.getD, h]
  unfold newNs at e ⊢
  rw [e, List.set_set, show ns.getD i 0 + k + (0 - k) = ns[i] from by rw [show ns.getD i 0 = ns[i] from by simp [List.getD, h]]; omega]
  exact List.set_getElem_self h
theorem cat_j {K : PySem.W.Frag} {H : Hp} {a b : Addr} {xs ys : List V} {Q : VK} (ea : H a = some (.tup xs)) (eb : H b = some (.tup ys)) (few : xs.length + ys.length ≤ 1000) (q : ∀ c H', Same H H' → H' c = some (.tup (xs ++ ys)) → Q (.ref c) H') : rCatA K (.ref a) (.ref b) H Q := by
  refine ⟨a, b, xs, ys, rfl, rfl, SqT.of ea, SqT.of eb, by rw [sizeLine_eq]; omega, fun h => q b H (fun _ _ z => z) ?_, fun _ h => q a H (fun _ _ z => z) ?_, fun _ _ p np => q p _ (same_new np) upd_same⟩
  · rw [h, List.nil_append]; exact eb
  · rw [h, List.append_nil]; exact ea
theorem cut_len {xs : List V} {lo hi : Option Int} : (cutV xs lo hi).length ≤ xs.length := by
  unfold cutV
  rw [List.length_take, List.length_drop]
  omega
theorem pt_imp {X : Cx} {e : Expr} {t t' : TT} (h : PT X e t) (m : ∀ σ H Q, t' σ H Q → t σ H Q) : PT X e t' := ⟨fun pins s σ H Q I hq => h.run pins s σ H Q I (m σ H Q hq)⟩
/-- are there no words due -/
def tEmp : TT := fun σ H Q => ∃ l rs, σ[10]? = some (some (.ref l)) ∧ DuesAt H l rs ∧ OkRows rs ∧ ∀ H', Same H H' → Q (decide (rs = [])) H'
def tNumB : TE := fun σ H Q => ∃ v, σ[8]? = some (some v) ∧ Itm H v ∧ Q (.bl (isNum v)) H
def tBad : TT := fun σ H Q => ∃ (n : Addr) (ns : List Int) (i : Nat) (m : V), σ[3]? = some (some (.ref n)) ∧ H n = some (.tup (ns.map V.int)) ∧ σ[8]? = some (some m) ∧ σ[11]? = some (some (.int (i : Nat))) ∧ σ[12]? = some (some (.bl (isNum m))) ∧ i < ns.length ∧ (∀ v, v ∈ ns → 0 ≤ v) ∧ Q (!numB ns i m) H
section
variable {P : Program} {w : World} {K : PySem.W.Frag} {mg : Str → Option Value} {base : Heap} {C Cr CV CN CP CI CU CQ pT fTh pO fO pNu fNu pRl fRl : Addr} {fdTh fdO fdNu fdRl : FuncData}
theorem ok_rgt {f c Pt fG fSn fBs fRo fCt fFi fOd fPk fL2 fA fD fSf fH fI fT2 fR fK fKo fIo fM fNn fN fL fE fC fCI fCE fJn : Addr} {fd fdG fdSn fdBs fdRo fdCt fdFi fdOd fdPk fdL2 fdA fdD fdSf fdH fdI fdT2 fdR fdK fdKo fdIo fdM fdNn fdN fdL fdE fdC fdCI fdCE fdJn : FuncData}
    (D : DefAt K mg "_law_right" sRgt ["_law_jar_here"] f fd) (hc : fd.code = .ref c) (TB : TabB base mg c Pt)
    (DG : DefAt K mg "_law_caught" sCau ["_law_act"] fG fdG) (DSn : DefAt K mg "_law_shown" sShn ["_law_e"] fSn fdSn) (DBs : DefAt K mg "_law_bases" sBas ["_law_e"] fBs fdBs) (DRo : DefAt K mg "_law_roster" sRos ["_law_jar_here", "_law_size", "_law_many"] fRo fdRo) (DCt : DefAt K mg "_law_counts" sCnt ["_law_jar_here", "_law_lot"] fCt fdCt) (DFi : DefAt K mg "_law_fits" sFit ["_law_told", "_law_dues"] fFi fdFi)
    (DOd : DefAt K mg "_law_odd" sOdd ["_law_jar_here"] fOd fdOd) (DPk : DefAt K mg "_law_pick" sPick ["_law_jar_here", "_law_menu"] fPk fdPk) (DL : DefAt K mg "_law_lot_of" sLot ["_law_jar_here", "_law_things_here", "_law_many"] fL2 fdL2) (DA : DefAt K mg "_law_letters" sLett ["_law_jar_here", "_law_many"] fA fdA) (DD : DefAt K mg "_law_dip" sDip ["_law_jar_here", "_law_wide"] fD fdD)
    (DS : DefAt K mg "_law_shuffled" sShuf ["_law_jar_here", "_law_things_here"] fSf fdSf) (DH : DefAt K mg "_law_hill" sHill ["_law_jar_here", "_law_line_here"] fH fdH)
    (DI : DefAt K mg "is_order" sIsO ["value"] fI fdI) (DTh : DefAt K mg "things_of" sThO ["order"] fT2 fdT2) (DR : DefAt K mg "right_ahead" sRah ["orders"] fR fdR) (DK : DefAt K mg "check_roll" sChk ["roll"] fK fdK) (DKo : DefAt K mg "check_order_in" sCki ["roll", "order"] fKo fdKo) (DIo : DefAt K mg "is_order_of" sIoo ["things", "value"] fIo fdIo) (DM : DefAt K mg "right_numbers" sRnu ["numbers", "many"] fM fdM) (DN : DefAt K mg "is_number" sNum ["value"] fNn fdNn)
    (FN : Fun K "__init__" "Roll.__init__" sIni fN fdN) (bI : Binds K fdN ["self", "orders"] []) (MK : Mk K C fN) (FL : Fun K "__len__" "Roll.__len__" sLen fL fdL) (bL : Binds K fdL ["self"] []) (OL : Own K C "__len__" fL)
    (FE : Fun K "__eq__" "Roll.__eq__" sEqu fE fdE) (OE : Own K C "__eq__" fE) (bE : Binds K fdE ["self", "other"] []) (OC : Own K C "__contains__" fC) (FC : Fun K "__contains__" "Roll.__contains__" sCon fC fdC) (bC : Binds K fdC ["self", "x"] [])
    (PT : PropOf K C "things" pT fTh) (FT : Fun K "things" "Roll.things" sThi fTh fdTh) (bT : Binds K fdTh ["self"] []) (PO : PropOf K C "orders" pO fO) (FO : Fun K "orders" "Roll.orders" sOrd fO fdO) (bO : Binds K fdO ["self"] [])
    (FCI : Fun K "__init__" "Crowd.__init__" sCIn fCI fdCI) (bCI : Binds K fdCI ["self", "roll", "numbers"] []) (MKc : Mk K Cr fCI) (FCE : Fun K "__eq__" "Crowd.__eq__" sCEq fCE fdCE) (bCE : Binds K fdCE ["self", "other"] []) (OCE : Own K Cr "__eq__" fCE)
    (FJn : Fun K "joined" "Crowd.joined" sJnd fJn fdJn) (mJn : Meth K Cr "joined" fJn) (bJn : Binds K fdJn ["self", "order", "many"] []) (kJn : KwF.KB1 fdJn ["self", "order", "many"] ["many", "order"] List.reverse List.reverse)
    (PNu : PropOf K Cr "numbers" pNu fNu) (FNu : Fun K "numbers" "Crowd.numbers" sCNu fNu fdNu) (bNu : Binds K fdNu ["self"] []) (PRl : PropOf K Cr "roll" pRl fRl) (FRl : Fun K "roll" "Crowd.roll" sCRo fRl fdRl) (bRl : Binds K fdRl ["self"] [])
    (XI : Thr P K mg "InvalidOrder" giv CI) (XU : Thr P K mg "UnknownOrder" giv CU) (XN : Thr P K mg "InvalidNumber" giv CQ) (B : Bases K mg CV CN CP)
    (TI : Told K CV CN CP [CI, CU, CQ] CI 0 (baseK 0)) (TU : Told K CV CN CP [CI, CU, CQ] CU 1 (baseK 1)) (TN : Told K CV CN CP [CI, CU, CQ] CQ 2 (baseK 2)) (mI : PySem.W.exmAny K (.ref CI) [.ref CV, .ref CN, .ref CP] = some true) (mU : PySem.W.exmAny K (.ref CU) [.ref CV, .ref CN, .ref CP] = some true) (mN : PySem.W.exmAny K (.ref CQ) [.ref CV, .ref CN, .ref CP] = some true)
    (ks : ∀ T ∈ tyNames, T ≠ "str" → PySem.W.kitOne K (.type T) (.type "str") = some false) (kst : PySem.W.kitOne K (.type "str") (.type "str") = some true) (KT : KitN K)
    (hneR : PySem.W.findIn K (.ref C) "__ne__" = some (some (.builtin "object.__ne__"))) (hne : PySem.W.findIn K (.ref Cr) "__ne__" = some (some (.builtin "object.__ne__")))
    (bsum : mg "sum" = none) (T : Txt mg) (Lm : Lims mg) (R : RollC K mg C) (RC : CrC K mg Cr) : FnOkG P w K mg base CX0 8 f fd ["_law_jar_here"] (spRgt Pt) := by
  have nfC : PySem.W.notFirst K C (.ref C) = true := by simp [PySem.W.notFirst]
  have nfCr : PySem.W.notFirst K Cr (.ref Cr) = true := by simp [PySem.W.notFirst]
  have hob := R.mobj
  have hobC := RC.mobj
  have GN : FnOk P w K mg base CX0 3 fN fdN ["self", "orders"] (spIni K C) := ok_ini FN DR DI DTh T Lm R
  have GD : FnOk P w K mg base CX0 1 fD fdD ["_law_jar_here", "_law_wide"] spDip := ok_dip DD T
  have GS : FnOk P w K mg base CX0 2 fSf fdSf ["_law_jar_here", "_law_things_here"] spShuf := ok_shuf DS DD T
  have GRo : FnOk P w K mg base CX0 4 fRo fdRo ["_law_jar_here", "_law_size", "_law_many"] spRos := ok_ros DRo DL DA DD DS DH T
  have GCt : FnOk P w K mg base CX0 3 fCt fdCt ["_law_jar_here", "_law_lot"] (spCnt K) := ok_cnt DCt DPk DD T
  have GFi : FnOk P w K mg base CX0 1 fFi fdFi ["_law_told", "_law_dues"] spFit := ok_fit DFi
  have GOd : FnOk P w K mg base CX0 3 fOd fdOd ["_law_jar_here"] (spOdd K) := ok_odd DOd DPk DD T
  have GPk : FnOk P w K mg base CX0 2 fPk fdPk ["_law_jar_here", "_law_menu"] (spPick K) := ok_pick DPk DD T
  have GCI : FnOk P w K mg base CX0 3 fCI fdCI ["self", "roll", "numbers"] (spCIn K C Cr) := ok_cin FCI DK DM DN FL bL OL bsum T R RC
  have GJn : FnOk P w K mg base (L2.CX P w) 5 fJn fdJn ["self", "order", "many"] (spJnd K C Cr CI CU CQ) := ok_jnd FJn DKo DIo DI DTh PT FT bT OC FC bC PO FO bO DN FCI bCI MKc DK DM FL bL OL bsum XI XU XN KT T Lm R RC
  have GE : FnOk P w K mg base CX0 1 fE fdE ["self", "other"] (spEqu K C) := ok_equ FE T R
  have GCE : FnOk P w K mg base CX0 2 fCE fdCE ["self", "other"] (spCEq K C Cr) := ok_ceq FCE FE bE OE nfC T R RC
  have GNu : FnOk P w K mg base CX0 1 fNu fdNu ["self"] (spCNu Cr) := ok_cnu FNu RC
  have GRl : FnOk P w K mg base CX0 1 fRl fdRl ["self"] (spCRo Cr) := ok_cro FRl RC
  have GSn : FnS P w K mg base 2 fSn fdSn ["_law_e"] (spShn K CV CN CP CI CU CQ) := ok_shn DSn DBs B XI.g XU.g XN.g T
  refine Fun_okGT D.F hc scRgt (fun vs H Q E h => ?_) (fun A outer sh H vs Q E hA hr h => ?_)
  · obtain ⟨j, rfl, _⟩ := h
    rfl
  · obtain ⟨j, rfl, hj, hT, q⟩ := h
    have hu := hr.units
    have hu64 : (A.deeper (envOfC (Str.ofString "_law_right") (defScope sRgt) sh.heap.objs.size f (.ref c))).units + 64 < cLine := by omega
    have okT : ∀ {n : Nat}, n ≤ 100 → n ≤ sizeLine := fun h => by rw [sizeLine_eq]; omega
    refine ⟨_, (pss_cons (ps_for PassesOwn.never rfl (pi_range1 (by rfl) T.b_range (pa_cons pe_int pa_nil)) (pg_name (i := 1) scRgt.nd rfl (.inl rfl))
      (pss_cons (ps_set (i := 2) scRgt.nd rfl (.inl rfl) (pe_call GRo (hr.mono (by decide)) (by rfl) DRo.g DRo.F.kp DRo.b .nil pass0 (pa_cons (pv 0) (pa_cons pe_int (pa_cons pe_int pa_nil)))))
      (pss_cons (ps_set (i := 3) scRgt.nd rfl (.inl rfl) (pe_call GCt (hr.mono (by decide)) (by rfl) DCt.g DCt.F.kp DCt.b .nil pass0 (pa_cons (pv 0) (pa_cons (pv 2) pa_nil))))
      (pss_cons (ps_set (i := 4) scRgt.nd rfl (.inr rfl) (pe_make MKc GCI (hr.mono (by decide)) (by rfl) RC.g bCI .nil pass0 (pa_cons (pe_make MK GN (hr.mono (by decide)) (by rfl) R.g bI .nil pass0 (pa_cons (pv 2) pa_nil)) (pa_cons (pv 3) pa_nil))))
      (pss_cons (ps_for PassesOwn.never rfl (pi_range1 (by rfl) T.b_range (pa_cons pe_int pa_nil)) (pg_name (i := 5) scRgt.nd rfl (.inl rfl))
        (pss_cons (ps_set (i := 6) scRgt.nd rfl (.inl rfl) (pe_call GPk (hr.mono (by decide)) (by rfl) DPk.g DPk.F.kp DPk.b .nil pass0 (pa_cons (pv 0) (pa_cons (pv 2) pa_nil))))
        (pss_cons (ps_set (i := 7) scRgt.nd rfl (.inr rfl) (pe_call GPk (hr.mono (by decide)) (by rfl) DPk.g DPk.F.kp DPk.b .nil pass0 (pa_cons (pv 0) (pa_cons (pe_lstS (pa_cons (pv 6) (pa_cons (pv 6) (pa_cons (pv 6) (pa_cons (pv 6) (pa_cons (pe_call GS (hr.mono (by decide)) (by rfl) DS.g DS.F.kp DS.b .nil pass0 (pa_cons (pv 0) (pa_cons (pe_ix ix_tup (pv 2) pe_int (fun _ _ => rfl)) pa_nil))) (pa_cons (pe_op op_add_str (pv 6) pe_str) (pa_cons pe_non (pa_cons (pe_call GOd (hr.mono (by decide)) (by rfl) DOd.g DOd.F.kp DOd.b .nil pass0 (pa_cons (pv 0) pa_nil)) pa_nil))))))))) pa_nil))))
        (pss_cons (ps_set (i := 8) scRgt.nd rfl (.inr rfl) (pe_call GPk (hr.mono (by decide)) (by rfl) DPk.g DPk.F.kp DPk.b .nil pass0 (pa_cons (pv 0) (pa_cons (pe_lstS (pa_cons pe_int (pa_cons pe_int (pa_cons pe_int (pa_cons (pe_un un_neg pe_int) (pa_cons (pe_op op_pow pe_int pe_int) (pa_cons (pe_op op_sub pe_int (pe_callB (call_sumI rfl) (by rfl) bsum (by decide +kernel) (pa_cons (pv 3) pa_nil))) (pa_cons (pe_op op_sub pe_int (pe_ix ix_tup (pv 3) (TupF.pe_bmF PySem.F.slot_tuple_index PySem.F.type_tuple_index mt_tup_index (pv 2) (pa_cons (pv 6) pa_nil)) (fun _ _ => rfl))) (pa_cons pe_bl (pa_cons pe_non (pa_cons pe_str pa_nil))))))))))) pa_nil))))
        (pss_cons (ps_set (i := 9) scRgt.nd rfl (.inl rfl) (pe_imp (t' := tFine K) (pe_and (pe_callB call_isi (by rfl) T.b_isinstance (by decide +kernel) (pa_cons (pv 7) (pa_cons (pe_bty (n := "str") (by rfl) T.b_str (by decide +kernel)) pa_nil))) (pe_one (pe_cmpR (op_eqD hu64) (pe_callB (cr_sortText (by rfl)) (by rfl) T.b_sorted (by decide +kernel) (pa_cons (pv 7) pa_nil)) (pe_callB (cr_sortText (by rfl)) (by rfl) T.b_sorted (by decide +kernel) (pa_cons (pe_ix ix_tup (pv 2) pe_int (fun _ _ => rfl)) pa_nil)) (nomark _)))) ?fine))
        (pss_cons (ps_set (i := 10) scRgt.nd rfl (.inl rfl) (pe_imp (t' := tOrd K) (pe_ifExp (pt_val (pv 9)) (pe_lstS pa_nil) (pe_lstS (pa_cons (pe_lstS (pa_cons pe_str (pa_cons (pe_callB (call_reprD hA hu64) (by rfl) T.b_repr (by decide +kernel) (pa_cons (pv 7) pa_nil)) pa_nil))) pa_nil))) ?ord))
        (pss_cons (ps_set (i := 10) scRgt.nd rfl (.inl rfl) (pe_imp (t' := tAdd K) (pe_op op_catS (pv 10) (pe_ifExp (PW.pt (pw_and (pt_cmpR (op_eqD hu64) (pv 10) (pe_lstS pa_nil) (nomark _)) (pw_and1 (pt_cmpR op_notIn_seq (pv 7) (pv 2) (by rfl))))) (pe_lstS (pa_cons (pe_lstS (pa_cons pe_str (pa_cons (pe_callB (call_reprD hA hu64) (by rfl) T.b_repr (by decide +kernel) (pa_cons (pv 7) pa_nil)) pa_nil))) pa_nil)) (pe_lstS pa_nil))) ?add))
        (pss_cons (ps_if (pt_imp (t' := tEmp) (pt_cmpR (op_eqD hu64) (pv 10) (pe_lstS pa_nil) (nomark _)) ?emp)
          (pss_cons (ps_set (i := 11) scRgt.nd rfl (.inl rfl) (TupF.pe_bmF PySem.F.slot_tuple_index PySem.F.type_tuple_index mt_tup_index (pv 2) (pa_cons (pv 7) pa_nil)))
          (pss_cons (ps_set (i := 12) scRgt.nd rfl (.inl rfl) (pe_imp (t' := tNumB) (pe_and (pe_callB call_isi (by rfl) T.b_isinstance (by decide +kernel) (pa_cons (pv 8) (pa_cons (pe_bty (n := "int") (by rfl) T.b_int (by decide +kernel)) pa_nil))) (pe_one (pe_not (pe_callB call_isi (by rfl) T.b_isinstance (by decide +kernel) (pa_cons (pv 8) (pa_cons (pe_bty (n := "bool") (by rfl) T.b_bool (by decide +kernel)) pa_nil)))))) ?numb))
          (pss_one (ps_if (pt_imp (t' := tBad) (PW.pt (pw_or (pt_not (pt_val (pv 12))) (pw_or (pt_cmpR op_lt (pe_op op_add (pe_ix ix_tup (pv 3) (pv 11) (fun _ _ => rfl)) (pv 8)) pe_int (nomark _)) (pw_or1 (pt_cmpR op_lt (pe_op op_add (pe_callB (call_sumI rfl) (by rfl) bsum (by decide +kernel) (pa_cons (pv 3) pa_nil)) (pv 8)) pe_int (nomark _)))))) ?bad)
            (pss_one (ps_set (i := 10) scRgt.nd rfl (.inl rfl) (pe_lstS (pa_cons (pe_lstS (pa_cons pe_str (pa_cons (pe_callB (call_reprD hA hu64) (by rfl) T.b_repr (by decide +kernel) (pa_cons (pv 8) pa_nil)) pa_nil))) pa_nil)))) pss_nil)))) pss_nil)
        (pss_cons (ps_set (i := 13) scRgt.nd rfl (.inl rfl) (pe_imp (t' := tJoin K C Cr Pt) (pe_caught DG (by rfl) hA hr (by decide) DSn GSn B TB rfl rfl (lamS_by (sc := defScope sRgt) (by decide +kernel)) rfl (fun _ _ _ _ _ => rfl) (fun A outer s H E f c' hl => KwF.pe_methK0 (pv 4) RC.cls mJn GJn (hl.mono (by decide)) kJn (passes_call (takes_of rfl rfl rfl rfl) (fun _ _ _ _ h => h)) (pk_cons (pv 8) (pk_cons (pv 7) pk_nil))))
            (fun σ H Q h => told_joined ks TI TU TN mI mU mN (fun E σ H Q c x m dx fs h4 h7 h8 e no h => ⟨_, h4, c, dx, fs, rfl, e, no _ (by decide) (by decide) (by decide), _, h8, _, h7, rfl, h⟩) h)))
        (pss_cons (ps_if (pt_not (pt_val (pe_call GFi (hr.mono (by decide)) (by rfl) DFi.g DFi.F.kp DFi.b .nil pass0 (pa_cons (pv 13) (pa_cons (pv 10) pa_nil))))) (pss_one (ps_ret pe_bl)) pss_nil)
        (pss_one (ps_if (pt_imp (t' := tEmp) (pt_cmpR (op_eqD hu64) (pv 10) (pe_lstS pa_nil) (nomark _)) ?emp2)
          (pss_cons (ps_set (i := 14) scRgt.nd rfl (.inl rfl) (pe_op op_catA (pe_op op_catA (pe_slice sl_tupA (pv 3) po_none (po_some (pv 11))) (pe_tupS (pa_cons (pe_op op_add (pe_ix ix_tup (pv 3) (pv 11) (fun _ _ => rfl)) (pv 8)) pa_nil))) (pe_slice sl_tupA (pv 3) (po_some (pe_op op_add (pv 11) pe_int)) po_none)))
          (pss_one (ps_if (PW.pt (pw_or (pt_cmpR (op_neO OCE hne hobC GCE (hr.mono (by decide)) bCE pass0) (pe_ix ix_list (pv 13) pe_int (fun _ _ => rfl)) (pe_make MKc GCI (hr.mono (by decide)) (by rfl) RC.g bCI .nil pass0 (pa_cons (pe_make MK GN (hr.mono (by decide)) (by rfl) R.g bI .nil pass0 (pa_cons (pv 2) pa_nil)) (pa_cons (pv 14) pa_nil))) (nomark _))
            (pw_or1 (pt_cmpR (op_neO OCE hne hobC GCE (hr.mono (by decide)) bCE pass0) (pe_meth (pe_ix ix_list (pv 13) pe_int (fun _ _ => rfl)) RC.cls mJn GJn (hr.mono (by decide)) bJn .nil passL (pa_cons (pv 7) (pa_cons (pe_op op_sub pe_int (pv 8)) pa_nil))) (pv 4) (nomark _))))) (pss_one (ps_ret pe_bl)) pss_nil))) pss_nil))))))))))))
      (pss_one (ps_if (PW.pt (pw_or (pt_cmpR (op_neD hu64) (pe_prop (pv 4) RC.cls PNu GNu (hr.mono (by decide)) bNu .nil pass0 rfl) (pv 3) (nomark _)) (pw_or1 (pt_cmpR (op_neO OE hneR hob GE (hr.mono (by decide)) bE pass0) (pe_prop (pv 4) RC.cls PRl GRl (hr.mono (by decide)) bRl .nil pass0 rfl) (pe_make MK GN (hr.mono (by decide)) (by rfl) R.g bI .nil pass0 (pa_cons (pv 2) pa_nil)) (nomark _))))) (pss_one (ps_ret pe_bl)) pss_nil)))))))
      (pss_one (ps_ret pe_bl))), ?_⟩
    case fine =>
      intro σ H Q ⟨p, ys, y, v, d, a, q⟩
      obtain ⟨Tn, t⟩ := id a.any.ty
      rcases t.isStr with ⟨u, rfl, rfl, rfl⟩ | ⟨n, ns⟩
      · obtain ⟨y0, yr, eys⟩ : ∃ y0 yr, ys = y0 :: yr := by
          cases ys with
          | nil => exact absurd a.good.lot.some (by decide)
          | cons y0 yr => exact ⟨y0, yr, rfl⟩
        have at0 : atI (ys.map V.str) 0 = some (.str y0) := by rw [eys]; exact atI_nat (j := 0) rfl
        have p0 : y0.cps.toList.Perm y.cps.toList := a.good.lot.of y0 (by rw [eys]; exact List.mem_cons_self ..)
        have l0 : y0.cps.size = y.cps.size := by rw [← Array.length_toList, p0.length_eq, Array.length_toList]
        have h6 := a.good.h6
        have sm := a.any.small
        refine ⟨_, a.val, .str u, .ty "str", .type "str", .type "str", true, rfl, .ty _, t.ty, kst, true, rfl, iteT ?_⟩
        refine ⟨_, a.val, u, rfl, by omega, fun us p1 pm so n1 => ?_⟩
        have s1 : Same H (upd H p1 (.lst (us.map V.str))) := same_new n1
        refine ⟨_, a.lot, p, _, 0, _, rfl, rfl, (a.at_.same s1).sq, at0, y0, rfl, by omega, fun zs p2 pm2 so2 n2 => ?_⟩
        have s2 : Same (upd H p1 (.lst (us.map V.str))) (upd (upd H p1 (.lst (us.map V.str))) p2 (.lst (zs.map V.str))) := same_new n2
        refine ⟨.list (us.map PyData.str), .list (zs.map PyData.str), .lst (SqL.of (s2 _ _ upd_same)) (dp_strs us), .lst (SqL.of upd_same) (dp_strs zs), shaped_lstrs us fun z hz => signs_ok sm.2 z (pm.mem_iff.mp hz), shaped_lstrs zs fun z hz => signs_ok (letters_plain a.good.let_ p0) z (pm2.mem_iff.mp hz), ?_⟩
        rw [eqv_lstrs, sort_same a.good.let_ p0 pm so pm2 so2]
        exact q _ (s1.trans s2)
      · refine ⟨_, a.val, v, .ty "str", .type Tn, .type "str", false, rfl, .ty _, t.ty, ks Tn t.name ns, false, rfl, iteF ?_⟩
        have f := fine_not (y := y) n
        have := q H fun _ _ z => z
        rw [f] at this
        exact this
    case ord =>
      intro σ H Q ⟨p, ys, y, v, d, a, e9, q⟩
      obtain ⟨dd, w1, w2, w3⟩ := a.any.shows
      refine ⟨_, e9, _, rfl, ?_⟩
      cases f : fineB y v with
      | true =>
        rw [f] at q
        exact iteT ⟨okT (show 0 ≤ 100 by decide), fun l1 H1 s1 n1 e1 => q l1 H1 s1 ⟨[], e1, .nil⟩⟩
      | false =>
        rw [f] at q
        exact iteF ⟨_, a.val, _, d, rfl, dd, w1, w2, w3, okT (show 2 ≤ 100 by decide), fun l1 H1 s1 n1 e1 => ⟨okT (show 1 ≤ 100 by decide), fun l2 H2 s2 n2 e2 => q l2 H2 (s1.trans s2) (dues_new (H := H) s2 e1 e2)⟩⟩
    case add =>
      intro σ H Q ⟨p, ys, y, v, d, l, a, e10, hD, q⟩
      obtain ⟨dd, w1, w2, w3⟩ := a.any.shows
      have oks : PyData.strOk d.shown = true := a.any.shown.2.2.2
      have okw : PyData.strOk (wordK 0) = true := by decide +kernel
      have okr : OkRows (ord1 (fineB y v) d) := fun r hr => by
        unfold ord1 at hr
        split at hr
        · cases hr
        · rw [List.mem_singleton.mp hr]; exact ⟨okw, oks⟩
      refine ⟨_, e10, _, e10, okT (show 0 ≤ 100 by decide), fun l0 H0 s0 n0 e0 => ⟨rowsD (ord1 (fineB y v) d), .list [], (hD.same s0).dp, .lst (SqL.of e0) .nil, shaped_rows okr, by decide +kernel, ?_⟩⟩
      rw [eqv_rows_nil]
      have a0 := a.at_.same s0
      cases f : fineB y v with
      | true =>
        rw [f] at q hD
        obtain ⟨u, rfl⟩ := fine_str f
        rw [decide_eq_true (show ord1 true d = [] from rfl)]
        refine ⟨_, rfl, iteT ⟨_, a.val, _, a.lot, p, _, rfl, .inr a0.sq, rfl, by simp [List.all_eq_true, flatV], ?_⟩⟩
        rw [in_text]
        by_cases hz : u ∈ ys
        · rw [show inB (.str u) ys = true from decide_eq_true hz] at q
          rw [decide_eq_true hz]
          exact ⟨_, rfl, iteF ⟨okT (show 0 ≤ 100 by decide), fun l1 H1 s1 n1 e1 => dues_app (K := K) (qs := []) (hD.same (s0.trans s1)) ⟨[], e1, .nil⟩ (by show 0 + 0 ≤ 100; decide) fun l' H' s' D' => q l' H' (s0.trans (s1.trans s')) D'⟩⟩
        · rw [show inB (.str u) ys = false from decide_eq_false hz] at q
          rw [decide_eq_false hz]
          exact ⟨_, rfl, iteT ⟨_, a.val, _, d, rfl, dd.same s0, w1, w2, w3, okT (show 2 ≤ 100 by decide), fun l1 H1 s1 n1 e1 => ⟨okT (show 1 ≤ 100 by decide), fun l2 H2 s2 n2 e2 => dues_app (K := K) (hD.same (s0.trans (s1.trans s2))) (dues_new (H := H) s2 e1 e2) (by show 0 + 1 ≤ 100; decide) fun l' H' s' D' => q l' H' (s0.trans (s1.trans (s2.trans s'))) D'⟩⟩⟩
      | false =>
        rw [f] at q hD
        rw [decide_eq_false (show ¬ ord1 false d = [] from fun z => by cases z)]
        exact ⟨_, rfl, iteF (iteF ⟨okT (show 0 ≤ 100 by decide), fun l1 H1 s1 n1 e1 => dues_app (K := K) (qs := []) (hD.same (s0.trans s1)) ⟨[], e1, .nil⟩ (by show 1 + 0 ≤ 100; decide) fun l' H' s' D' => q l' H' (s0.trans (s1.trans s')) D'⟩)⟩
    case emp | emp2 =>
      intro σ H Q ⟨l, rs, e10, hD, ok, q⟩
      refine ⟨_, e10, okT (show 0 ≤ 100 by decide), fun l0 H0 s0 n0 e0 => ⟨rowsD rs, .list [], (hD.same s0).dp, .lst (SqL.of e0) .nil, shaped_rows ok, by decide +kernel, ?_⟩⟩
      rw [eqv_rows_nil]
      exact ⟨_, rfl, q _ s0⟩
    case numb =>
      intro σ H Q ⟨v, e8, ⟨d, Ty, t⟩, q⟩
      have k1 := KT.i Ty t.name
      have k2 := KT.b Ty t.name
      rcases t.num with ⟨i, rfl, rfl⟩ | ⟨n1, n2⟩
      · exact ⟨_, e8, .int i, .ty "int", .type "int", .type "int", true, rfl, .ty _, t.ty, k1, true, rfl, iteT ⟨_, e8, .int i, .ty "bool", .type "int", .type "bool", false, rfl, .ty _, t.ty, k2, false, rfl, q⟩⟩
      · rw [n1] at q
        by_cases hb : Ty = "bool"
        · subst hb
          exact ⟨_, e8, v, .ty "int", .type "bool", .type "int", true, rfl, .ty _, t.ty, k1, true, rfl, iteT ⟨_, e8, v, .ty "bool", .type "bool", .type "bool", true, rfl, .ty _, t.ty, k2, true, rfl, q⟩⟩
        · rw [decide_eq_false (fun h => h.elim n2 hb)] at k1
          exact ⟨_, e8, v, .ty "int", .type Ty, .type "int", false, rfl, .ty _, t.ty, k1, false, rfl, iteF q⟩
    case bad =>
      intro σ H Q ⟨n, ns, i, m, e3, en, e8, e11, e12, hi, pos, q⟩
      cases hm : isNum m with
      | false =>
        rw [hm] at e12
        rw [show numB ns i m = false from by cases m <;> first | rfl | cases hm] at q
        exact ⟨_, e12, _, rfl, iteT q⟩
      | true =>
        obtain ⟨k, rfl⟩ : ∃ k, m = .int k := by
          cases m with
          | int k => exact ⟨k, rfl⟩
          | _ => cases hm
        rw [hm] at e12
        have atN : atI (ns.map V.int) (i : Int) = some (.int (ns.getD i 0)) := atI_nat (by simp [List.getElem?_map, List.getElem?_eq_getElem hi, List.getD])
        have q : Q (!newOk ns i k) H := q
        refine ⟨_, e12, _, rfl, iteF ⟨_, e3, _, e11, n, _, (i : Int), _, rfl, rfl, SqT.of en, atN, _, e8, _, _, rfl, rfl, _, _, rfl, rfl, _, rfl, ite2 (fun e => ?_) (fun e => ?_)⟩⟩
        · have e := of_decide_eq_true e
          unfold newOk at q
          rw [decide_eq_false (by omega), Bool.false_and] at q
          exact q
        · have ge : 0 ≤ ns.getD i 0 + k := by
            rcases Int.lt_or_le (ns.getD i 0 + k) 0 with h | h
            · exact absurd (decide_eq_true h) e
            · exact h
          have sm := sum_set ns i k hi
          have s0 := psum (ns := newNs ns i k) fun v hv => by
            rcases List.mem_or_eq_of_mem_set hv with h | h
            · exact pos v h
            · rw [h]; exact ge
          refine ⟨_, e3, n, ns, rfl, .inr (SqT.of en), _, e8, _, _, rfl, rfl, _, _, rfl, rfl, _, rfl, ?_⟩
          unfold newOk at q
          rw [decide_eq_true ge, Bool.true_and] at q
          by_cases z : ns.sum + k = 0
          · rw [show decide (ns.sum + k ≠ 0) = false from decide_eq_false fun h => h z] at q
            rw [show decide (ns.sum + k < 1) = true from decide_eq_true (by omega)]
            exact q
          · rw [show decide (ns.sum + k ≠ 0) = true from decide_eq_true z] at q
            rw [show decide (ns.sum + k < 1) = false from decide_eq_false (by omega)]
            exact q
    refine ⟨2, rfl, by decide, by decide, for_range (lo := 0) (n := 2) (fun i σ H' => ∃ v1 v2 v3 v4 v5 v6 v7 v8 v9 v10 v11 v12 v13 v14, σ = [some (.ref j), v1, v2, v3, v4, v5, v6, v7, v8, v9, v10, v11, v12, v13, v14] ∧ Jar H' j ∧ KpN j H H' ∧ Tabs [(Pt, lamQ)] H')
      ⟨_, _, _, _, _, _, _, _, _, _, _, _, _, _, rfl, hj, KpN.refl, hT⟩ (fun i σ H0 hi hP => ?_) (fun σ H' hP => ?_)⟩
    rotate_left
    · obtain ⟨v1, v2, v3, v4, v5, v6, v7, v8, v9, v10, v11, v12, v13, v14, rfl, J5, K5, T5⟩ := hP
      exact q _ K5 J5 T5
    obtain ⟨v1, v2, v3, v4, v5, v6, v7, v8, v9, v10, v11, v12, v13, v14, rfl, J0, K0, T0⟩ := hP
    refine ⟨_, rfl, j, 6, 6, rfl, J0, by decide, by decide, by decide, by decide, fun ys y p H1 k1 J1 np ep lo ly h3 hs hm => ?_⟩
    have G : Good ys y := ⟨lo, ly, h3, by omega, by omega⟩
    have few6 : ys.length ≤ 6 := by omega
    have pj : p ≠ j := jar_ne J0 np
    refine ⟨_, rfl, _, rfl, j, p, ys, rfl, J1, ep, G.lot.some, G.few, fun n ns H2 k2 J2 en nn nl nb npos => ?_⟩
    have nj := jar_ne J1 nn
    have ep2 : TupF.Frt H2 p (ys.map V.str) := ep.to fun b o l _ e => k2 b o (off_jar J1 e l) e
    refine ⟨_, rfl, fun r dr nr nd _ => mk_roll ep2 G nr nd fun H3 s3 a1 => ⟨rfl, _, rfl, fun x dx nx nd2 _ => mk_crowd a1 (ep2.same s3) (s3 _ _ en) nl (by omega) (fun i hi => (nb i hi).1) npos nx nd2 fun H4 s4 b1 nf => ⟨rfl, ?_⟩⟩⟩
    have W4 : CwAt C Cr H4 x r p n (tidy y) ys ns := ⟨b1, nf, a1.same s4, (ep2.same s3).same s4, s4 _ _ (s3 _ _ en), G.strOk⟩
    have J4 := J2.same (s3.trans s4)
    have k4 : Kp j H0 H4 := k1.trans (k2.trans (.of (s3.trans s4)))
    have K4 : KpN j H H4 := K0.trans (.kp k4)
    have T4 := tabs_kp T0 J0 k4
    clear k1 k2 s3 s4 b1 nf a1 ep2 ep np nn nx nd2 nr nd J2 J1 k4 T0 K0 J0
    obtain ⟨y0, yr, eys⟩ : ∃ y0 yr, ys = y0 :: yr := by
      cases ys with
      | nil => exact absurd G.lot.some (by decide)
      | cons y0 yr => exact ⟨y0, yr, rfl⟩
    have at0 : atI (ys.map V.str) 0 = some (.str y0) := by rw [eys]; exact atI_nat (j := 0) rfl
    have p0 : y0.cps.toList.Perm y.cps.toList := G.lot.of y0 (by rw [eys]; exact List.mem_cons_self ..)
    have l0 : y0.cps.size = y.cps.size := by rw [← Array.length_toList, p0.length_eq, Array.length_toList]
    have y6 := G.h6
    have y3 := G.h3
    have some1 := G.lot.some
    have pos0 : ∀ i, i ∈ ns → 0 ≤ i := fun i hi => (nb i hi).1
    refine ⟨6, rfl, by decide, by decide, for_range (lo := 0) (n := 6) (fun _ σ H' => ∃ v5 v6 v7 v8 v9 v10 v11 v12 v13 v14, σ = [some (.ref j), some (.int (0 + (i : Int))), some (.ref p), some (.ref n), some (.ref x), v5, v6, v7, v8, v9, v10, v11, v12, v13, v14] ∧ Jar H' j ∧ KpN j H H' ∧ Tabs [(Pt, lamQ)] H' ∧ CwAt C Cr H' x r p n (tidy y) ys ns)
      ⟨_, _, _, _, _, _, _, _, _, _, rfl, J4, K4, T4, W4⟩ (fun i2 σ H' hi2 hP => ?_) (fun σ H' hP => ?_)⟩
    rotate_left
    · obtain ⟨v5, v6, v7, v8, v9, v10, v11, v12, v13, v14, rfl, J5, K5, T5, W5⟩ := hP
      obtain ⟨dx, fs, hx, l1, l2, l3⟩ := id W5.cr
      have sh := shaped_ints ns
      refine ⟨_, rfl, x, dx, fs, rfl, hx, x, r, n, _, rfl, W5.cr, _, rfl, .tuple (ns.map PyData.int), .tuple (ns.map PyData.int), .tup (SqT.of W5.num) (dp_ints ns), .tup (SqT.of W5.num) (dp_ints ns), sh, sh, ?_⟩
      rw [eqv_same sh]
      refine ⟨_, rfl, iteF ?_⟩
      refine ⟨_, rfl, x, dx, fs, rfl, hx, x, r, n, _, rfl, W5.cr, _, rfl, fun r2 dr nr nd _ => mk_roll W5.lot G nr nd fun H6 s6 a2 => ⟨rfl, ?_⟩⟩
      have W6 := W5.same s6
      obtain ⟨dr1, fr, hr1, lr1, lr2⟩ := id W6.rl
      refine ⟨r, dr1, fr.1, .ref C, rfl, hr1, roll_ty R a2, nfC, r, p, _, .ref r2, rfl, W6.rl, .inl ⟨r2, p, _, ys, ys, rfl, a2, W6.lot.sq, W6.lot.sq, W6.ok, W6.ok, _, rfl, ?_⟩⟩
      rw [decide_eq_true rfl]
      exact ⟨_, rfl, iteF ⟨_, _, _, _, _, _, _, _, _, _, _, _, _, _, rfl, J5.same s6, K5.trans (.ext (ExtN.same s6)), tabs_same T5 s6⟩⟩
    obtain ⟨v5, v6, v7, v8, v9, v10, v11, v12, v13, v14, rfl, J5, K5, T5, W5⟩ := hP
    clear J4 K4 T4 W4
    obtain ⟨d, s, c', ej, g1, g2, g3, g4⟩ := id J5
    -- own
    refine ⟨_, rfl, _, rfl, j, p, _, d, s, c', rfl, ej, g1, g2, g3, g4, pj, .inr W5.lot.sq, by rw [List.length_map]; exact some1, by rw [List.length_map]; omega, fun i6 v d' s' c'' hv f1 f2 f3 f4 => ?_⟩
    rw [List.getElem?_map] at hv
    obtain ⟨o, ho, rfl⟩ := Option.map_eq_some_iff.mp hv
    have k6 : Kp j H' (upd H' j (.lst [.int d', .int s', .int c''])) := Kp.jar
    have J6 : Jar (upd H' j (.lst [.int d', .int s', .int c''])) j := Jar.up f1 f2 f3 f4
    have W6 := W5.kp J5 k6
    have K6 := K5.trans (.kp k6)
    have T6 := tabs_kp T5 J5 k6
    generalize upd H' j (.lst [.int d', .int s', .int c'']) = H6 at k6 J6 W6 K6 T6 ⊢
    clear hv k6 f1 f2 f3 f4 ej g1 g2 g3 g4 W5 K5 T5 J5 d s c' d' s' c''
    have oin : o ∈ ys := List.mem_of_getElem? ho
    have po := G.lot.of o oin
    have osz : o.cps.size = y.cps.size := by rw [← Array.length_toList, po.length_eq, Array.length_toList]
    have olen : o.length = o.cps.size := rfl
    have opl : PlainT o := letters_plain G.let_ po
    have q1 : (PySem.Str.ofString "q").length = 1 := by decide +kernel
    -- the word
    refine ⟨_, rfl, _, rfl, _, rfl, _, rfl, _, rfl, _, rfl, _, rfl, p, _, 0, _, rfl, rfl, W6.lot.sq, at0, j, y0, rfl, J6, by omega, fun z H7 k7 J7 pz' => ⟨_, rfl, o, _, rfl, rfl, okT (by omega), _, rfl, j, rfl, J7, fun wv H8 k8 J8 hw => ⟨okT (show 8 ≤ 100 by decide), fun m8 H9 s9 n9 e9 => ?_⟩⟩⟩
    have J9 := J8.same s9
    have m8j : m8 ≠ j := jar_ne J8 n9
    obtain ⟨d, s, c', ej, g1, g2, g3, g4⟩ := id J9
    refine ⟨j, m8, _, d, s, c', rfl, ej, g1, g2, g3, g4, m8j, .inl (SqL.of e9), (show 0 < 8 by decide), (show 8 ≤ 1000 by decide), fun i10 wo d' s' c'' hv f1 f2 f3 f4 => ?_⟩
    have k810 : Kp j H8 (upd H9 j (.lst [.int d', .int s', .int c''])) := (Kp.of s9).trans Kp.jar
    have k10 : Kp j H6 (upd H9 j (.lst [.int d', .int s', .int c''])) := k7.trans (k8.trans k810)
    have J10 : Jar (upd H9 j (.lst [.int d', .int s', .int c''])) j := Jar.up f1 f2 f3 f4
    generalize upd H9 j (.lst [.int d', .int s', .int c'']) = H10 at k810 k10 J10 ⊢
    have any : ∃ dw, AnyV K (del H10 j) wo dw := by
      have pz : z.cps.toList.Perm y.cps.toList := pz'.trans p0
      have zsz : z.cps.size = y.cps.size := by rw [← Array.length_toList, pz.length_eq, Array.length_toList]
      have oq : PlainT (o ++ (PySem.Str.ofString "q")) := plain_app opl (by decide)
      have lq : (o ++ PySem.Str.ofString "q").cps.size ≤ 20 := by
        have h := lenA o (PySem.Str.ofString "q")
        have e2 : (o ++ PySem.Str.ofString "q").length = (o ++ PySem.Str.ofString "q").cps.size := rfl
        omega
      suffices hall : ∀ v' ∈ [V.str o, .str o, .str o, .str o, .str z, .str (o ++ PySem.Str.ofString "q"), .non, wv], ∃ d, AnyV K (del H10 j) v' d from hall wo (List.mem_of_getElem? hv)
      have ot : ∃ d, AnyV K (del H10 j) (.str o) d := ⟨_, .text (by omega) opl⟩
      exact all_cons ot (all_cons ot (all_cons ot (all_cons ot (all_cons ⟨_, .text (by omega) (letters_plain G.let_ pz)⟩ (all_cons ⟨_, .text lq oq⟩ (all_cons ⟨_, any_by (.base .non) .non (by decide +kernel)⟩ (all_cons (hw.to fun b o' nb e => by
        have bj : b ≠ j := fun zz => by
          obtain ⟨_, _, _, e7, _⟩ := J7
          rw [zz, e7] at nb
          cases nb
        rw [del_ne bj]
        exact k810 b o' bj e) all_nil)))))))
    have W10 := W6.kp J6 k10
    have K10 := K6.trans (.kp k10)
    have T10 := tabs_kp T6 J6 k10
    clear hv hw e9 n9 s9 J9 ej g1 g2 g3 g4 f1 f2 f3 f4 k810 k10 k7 k8 J7 J8 W6 K6 T6 J6 pz' d s c' d' s' c''
    obtain ⟨dw, hw⟩ := any
    -- the number
    have hi6 : ∃ io : Nat, ys[io]? = some o ∧ (∀ m, m < io → ys[m]? ≠ some o) := by
      refine ⟨ys.idxOf o, ?_, fun m hm e => ?_⟩
      · rw [List.getElem?_eq_getElem (List.idxOf_lt_length_iff.mpr oin), List.getElem_idxOf]
      · have := ix_of G.lot.one e
        omega
    obtain ⟨io, eio, ahead⟩ := hi6
    have ilt : io < ns.length := by
      have := (List.getElem?_eq_some_iff.mp eio).1
      omega
    have atN : atI (ns.map V.int) (io : Int) = some (.int (ns.getD io 0)) := atI_nat (by simp [List.getElem?_map, List.getElem?_eq_getElem ilt, List.getD])
    refine ⟨_, rfl, _, rfl, _, _, rfl, rfl, ⟨by decide, by decide, by decide⟩, _, rfl, n, ns, rfl, .inr (SqT.of W10.num), _, _, rfl, rfl, ?_⟩
    refine ⟨_, rfl, _, rfl, ⟨p, _, rfl, W10.lot⟩, _, rfl, p, ys, o, io, rfl, rfl, W10.lot.sq, eio, ahead, n, _, (io : Int), _, rfl, rfl, SqT.of W10.num, atN, _, _, rfl, rfl, okT (show 10 ≤ 100 by decide), fun m11 H11 s11 n11 e11 => ?_⟩
    have J11 := J10.same s11
    have m11j : m11 ≠ j := jar_ne J10 n11
    obtain ⟨d, s, c', ej, g1, g2, g3, g4⟩ := id J11
    refine ⟨j, m11, _, d, s, c', rfl, ej, g1, g2, g3, g4, m11j, .inl (SqL.of e11), (show 0 < 10 by decide), (show 10 ≤ 1000 by decide), fun i12 mo d' s' c'' hv f1 f2 f3 f4 => ?_⟩
    have k12 : Kp j H10 (upd H11 j (.lst [.int d', .int s', .int c''])) := (Kp.of s11).trans Kp.jar
    have J12 : Jar (upd H11 j (.lst [.int d', .int s', .int c''])) j := Jar.up f1 f2 f3 f4
    have hw12 := (hw.same (del_kp k12)).same del_in
    generalize upd H11 j (.lst [.int d', .int s', .int c'']) = H12 at k12 J12 hw12 ⊢
    have sb := sum_bound nb
    have anym : ∃ dm, AnyV K H12 mo dm := by
      have e30 : (10 : Int) ^ 30 = 1000000000000000000000000000000 := by decide
      have e33 : (10 : Nat) ^ 33 = 1000000000000000000000000000000000 := by decide
      have gb := nb (ns.getD io 0) (by rw [show ns.getD io 0 = ns[io] from by simp [List.getD, List.getElem?_eq_getElem ilt]]; exact List.getElem_mem ilt)
      rw [e30] at sb gb
      have lens : (ns.length : Int) ≤ 6 := by omega
      have sle : ns.sum ≤ 6 * 1000000000000000000000000000000 := Int.le_trans sb.2 (Int.mul_le_mul_of_nonneg_right lens (by decide))
      suffices hall : ∀ v' ∈ [V.int 1, .int 0, .int 7, .int (-1), .int (10 ^ (20 : Int).toNat), .int (0 - ns.sum), .int (0 - ns.getD io 0), .bl true, .non, .str "1"], ∃ d, AnyV K H12 v' d from hall mo (List.mem_of_getElem? hv)
      have ii : ∀ i : Int, i.natAbs < 10 ^ 33 → ∃ d, AnyV K H12 (.int i) d := fun i h => ⟨_, any_int h⟩
      exact all_cons (ii _ (by decide)) (all_cons (ii _ (by decide)) (all_cons (ii _ (by decide)) (all_cons (ii _ (by decide)) (all_cons (ii _ (by decide)) (all_cons (ii _ (by rw [e33]; omega)) (all_cons (ii _ (by rw [e33]; omega)) (all_cons ⟨_, any_by (.base (.bl true)) (.bl true) (by decide +kernel)⟩ (all_cons ⟨_, any_by (.base .non) .non (by decide +kernel)⟩ (all_cons ⟨_, .text (by decide) (by decide)⟩ all_nil)))))))))
    obtain ⟨dm, hm12⟩ := anym
    have W12 := W10.kp J10 k12
    have K12 := K10.trans (.kp k12)
    have T12 := tabs_kp T10 J10 k12
    clear hv e11 n11 s11 J11 ej g1 g2 g3 g4 f1 f2 f3 f4 k12 W10 K10 T10 J10 hw d s c' d' s' c''
    refine ⟨p, ys, y, wo, dw, ⟨rfl, W12.lot, G, rfl, hw12⟩, fun H13 s13 => ?_⟩
    refine ⟨p, ys, y, wo, dw, ⟨rfl, W12.lot.same s13, G, rfl, hw12.same s13⟩, rfl, fun l14 H14 s14 D14 => ?_⟩
    have s014 := s13.trans s14
    refine ⟨p, ys, y, wo, dw, l14, ⟨rfl, W12.lot.same s014, G, rfl, hw12.same s014⟩, rfl, D14, fun l15 H15 s15 D15 => ?_⟩
    have s015 := s014.trans s15
    have W15 := W12.same s015
    have J15 := J12.same s015
    have K15 := K12.trans (.ext (ExtN.same s015))
    have T15 := tabs_same T12 s015
    have hw15 := hw12.same s015
    have hm15 := hm12.same s015
    clear s13 D14 s14 s014 s15 s015 W12 J12 K12 T12 hw12 hm12
    have okw : ∀ k : Nat, k < 3 → PyData.strOk (wordK k) = true := fun k hk => by
      rcases (by omega : k = 0 ∨ k = 1 ∨ k = 2) with rfl | rfl | rfl <;> decide +kernel
    have oko : ∀ b i, OkRows (ord2 b i dw) := fun b i r hr => by
      unfold ord2 at hr
      split at hr
      · split at hr
        · cases hr
        · rw [List.mem_singleton.mp hr]; exact ⟨okw 1 (by decide), hw15.shown.2.2.2⟩
      · rw [List.mem_singleton.mp hr]; exact ⟨okw 0 (by decide), hw15.shown.2.2.2⟩
    have okj : OkRows (dueJ y ys ns wo dw mo dm) := fun r hr => by
      unfold dueJ at hr
      split at hr
      · split at hr
        · split at hr
          · cases hr
          · rw [List.mem_singleton.mp hr]; exact ⟨okw 2 (by decide), hm15.shown.2.2.2⟩
        · rw [List.mem_singleton.mp hr]; exact ⟨okw 1 (by decide), hw15.shown.2.2.2⟩
      · rw [List.mem_singleton.mp hr]; exact ⟨okw 0 (by decide), hw15.shown.2.2.2⟩
    dsimp only [gName]
    refine seq_key (t := tIfS _ _ _) (fun σ H' => ∃ v11 v12 l, σ = [some (.ref j), some (.int (0 + (i : Int))), some (.ref p), some (.ref n), some (.ref x), some (.int (0 + (i2 : Int))), some (.str o), some wo, some mo, some (.bl (fineB y wo)), some (.ref l), v11, v12, v13, v14] ∧ Same H15 H' ∧ DuesAt H' l (dueJ y ys ns wo dw mo dm) ∧ (dueJ y ys ns wo dw mo dm = [] → v11 = some (.int (ixOf ys wo : Nat)))) (fun σ H16 hP => ?told) (fun key => ?_)
    case told =>
      obtain ⟨v11, v12, l, rfl, s16, D16, c16⟩ := hP
      have W16 := W15.same s16
      have hw16 := hw15.same s16
      have hm16 := hm15.same s16
      have J16 := J15.same s16
      have K16 := K15.trans (.ext (ExtN.same s16))
      have T16 := tabs_same T15 s16
      clear W15 hw15 hm15 J15 K15 T15 D15 s16
      refine ⟨x, r, p, n, y, ys, ns, wo, mo, dw, dm, rfl, rfl, rfl, W16, G, nl, pos0, hw16, hm16, T16, fun l17 H17 x17 T17 f17 c17 => ?_⟩
      refine ⟨_, rfl, _, rfl, l17, l, _, rfl, D16.ext x17, okj, f17, fun H18 s18 => ⟨_, rfl, iteF ?_⟩⟩
      refine ⟨l, _, rfl, (D16.ext x17).same s18, okj, fun H19 s19 => ?_⟩
      have X19 : ExtN H16 H19 := x17.trans (ExtN.same (s18.trans s19))
      have W19 := W16.ext X19
      have hw19 := hw16.ext X19
      have J19 := Jar.ext J16 X19
      have K19 := K16.trans (.ext X19)
      have T19 := tabs_same T17 (s18.trans s19)
      by_cases e0 : dueJ y ys ns wo dw mo dm = []
      · obtain ⟨c', n', z, k, rfl, rfl, el, Wc⟩ := c17 e0
        have el19 := (s18.trans s19) _ _ el
        have Wc := Wc.same (s18.trans s19)
        have e11 := c16 e0
        subst e11
        rw [decide_eq_true e0]
        have fb : fineB y (.str z) = true := by
          cases f : fineB y (.str z) with
          | true => rfl
          | false =>
            unfold dueJ at e0
            rw [f] at e0
            cases e0
        have ib : inB (.str z) ys = true := by
          cases f : inB (.str z) ys with
          | true => rfl
          | false =>
            unfold dueJ at e0
            rw [fb, if_pos rfl, f] at e0
            cases e0
        have zin : z ∈ ys := of_decide_eq_true ib
        obtain ⟨iz, hiz⟩ : ∃ iz : Nat, iz = ixOf ys (.str z) := ⟨_, rfl⟩
        have eiz : ys[iz]? = some z := by
          rw [hiz]
          show ys[ys.idxOf z]? = some z
          rw [List.getElem?_eq_getElem (List.idxOf_lt_length_iff.mpr zin), List.getElem_idxOf]
        have izl : iz < ns.length := by
          have := (List.getElem?_eq_some_iff.mp eiz).1
          omega
        rw [← hiz] at Wc ⊢
        have nbk : newOk ns iz k = true := by
          cases f : newOk ns iz k with
          | true => rfl
          | false =>
            unfold dueJ at e0
            rw [fb, if_pos rfl, ib, if_pos rfl, ← hiz, show numB ns iz (.int k) = false from f] at e0
            cases e0
        have nbk' := nbk
        unfold newOk at nbk'
        rw [Bool.and_eq_true, decide_eq_true_eq, decide_eq_true_eq] at nbk'
        obtain ⟨ge, nz⟩ := nbk'
        have sm := sum_set ns iz k izl
        have len2 : (newNs ns iz k).length = ys.length := by
          unfold newNs
          rw [List.length_set, nl]
        have pos2 : ∀ v, v ∈ newNs ns iz k → 0 ≤ v := fun v hv => by
          rcases List.mem_or_eq_of_mem_set hv with h | h
          · exact pos0 v h
          · rw [h]; exact ge
        have s0 := psum pos2
        have atN : atI (ns.map V.int) (iz : Int) = some (.int (ns.getD iz 0)) := atI_nat (by simp [List.getElem?_map, List.getElem?_eq_getElem izl, List.getD])
        have nln : (ns.map V.int).length ≤ 6 := by rw [List.length_map]; omega
        have c1l := cut_len (xs := ns.map V.int) (lo := none) (hi := some (iz : Int))
        have c2l := cut_len (xs := ns.map V.int) (lo := some ((iz : Int) + 1)) (hi := none)
        refine ⟨_, rfl, _, rfl, _, rfl, sl_j W19.num fun b1 H20 s20 e20 => ⟨_, rfl, _, rfl, n, _, (iz : Int), _, rfl, rfl, SqT.of (s20 _ _ W19.num), atN, _, rfl, _, _, rfl, rfl, okT (show 1 ≤ 100 by decide), fun t2 H21 s21 n21 e21 => cat_j (s21 _ _ e20) e21 (by rw [List.length_singleton]; omega) fun c1 H22 s22 e22 => ⟨_, rfl, _, rfl, _, _, rfl, rfl, _, rfl, ?_⟩⟩⟩
        dsimp only [tNoPart]
        refine sl_j (s22 _ _ (s21 _ _ (s20 _ _ W19.num))) fun b2 H23 s23 e23 => cat_j (s23 _ _ e22) e23 (by rw [List.length_append, List.length_singleton]; omega) fun c2 H24 s24 e24 => ?_
        rw [List.append_assoc, List.singleton_append, cut_set izl] at e24
        have S24 : Same H19 H24 := s20.trans (s21.trans (s22.trans (s23.trans s24)))
        have W24 := W19.same S24
        have Wc24 := Wc.same S24
        have el24 := S24 _ _ el19
        clear e20 e21 e22 e23 n21 s20 s21 s22 s23 s24
        refine ⟨_, rfl, l17, _, 1, _, rfl, rfl, SqL.of el24, atI_nat (j := 1) rfl, _, rfl, fun r2 dr nr nd _ => mk_roll W24.lot G nr nd fun H25 s25 a2 => ⟨rfl, _, rfl, fun c3 dc nc ndc _ => mk_crowd (ns := newNs ns iz k) a2 (W24.lot.same s25) (s25 _ _ e24) len2 (by omega) pos2 (by omega) nc ndc fun H26 s26 cr2 nf2 => ⟨rfl, ?_⟩⟩⟩
        have S26 := s25.trans s26
        have W26 := W24.same S26
        have Wc26 := Wc24.same S26
        have W2 : CwAt C Cr H26 c3 r2 p c2 (tidy y) ys (newNs ns iz k) := ⟨cr2, nf2, a2.same s26, W26.lot, S26 _ _ e24, W26.ok⟩
        have el26 := S26 _ _ el24
        obtain ⟨dxc, fsc, ec, _⟩ := id Wc26.cr
        obtain ⟨dxn, fsn, en, non⟩ := id Wc26.nf
        have hw26 := (hw19.same S24).same S26
        refine ⟨c', dxc, fsc, .ref Cr, rfl, ec, crowd_ty RC cr2, nfCr, ceq_w Wc26 W2 ⟨true, rfl, _, rfl, iteF ?_⟩⟩
        have fo := fine_ord G.let_ G.h3 G.h6 (.str z)
        have ix1 : ∀ i', ys[i']? = some z → i' = iz := fun i' e => by
          rw [← ix_of G.lot.one e, ← ix_of G.lot.one eiz]
        have gd : (newNs ns iz k).getD iz 0 = ns.getD iz 0 + k := by
          unfold newNs
          simp [List.getD, izl]
        have gp : 0 ≤ ns.getD iz 0 := pos0 _ (by rw [show ns.getD iz 0 = ns[iz] from by simp [List.getD, List.getElem?_eq_getElem izl]]; exact List.getElem_mem izl)
        refine ⟨_, rfl, l17, _, 1, _, rfl, rfl, SqL.of el26, atI_nat (j := 1) rfl, c', dxn, fsn, rfl, en, non _ (by decide) (by decide) (by decide), _, rfl, _, rfl, _, _, rfl, rfl, c', r, p, n', y, ys, newNs ns iz k, .str z, .int (0 - k), rfl, Wc26, G, len2, pos2, hw26.ask ks, ⟨_, _, .int _⟩, fun o0 => ?_, fun z' ez o1 => ⟨fun nin => ?_, fun i' ei => ⟨(fun nn => by cases nn), fun k' ek => ⟨fun bad => ?_, fun ok c4 n4 H27 s27 W27 => ?_⟩⟩⟩⟩
        · rw [fo, fb] at o0
          cases o0
        · cases ez
          exact absurd zin nin
        all_goals
          cases ez
          cases ek
          have e1 := ix1 i' ei
          subst e1
        · exfalso
          unfold newOk at bad
          rw [gd, sm, decide_eq_true (by omega), Bool.true_and] at bad
          have := of_decide_eq_false bad
          omega
        · rw [set_back izl] at W27
          obtain ⟨dx4, fs4, e4, _⟩ := id W27.cr
          have Wm := W26.same s27
          have S27 : Same H19 H27 := S24.trans (S26.trans s27)
          exact ⟨_, rfl, c4, dx4, fs4, .ref Cr, rfl, e4, crowd_ty RC Wm.cr, nfCr, ceq_w W27 Wm ⟨true, rfl, _, rfl, iteF ⟨_, _, _, _, _, _, _, _, _, _, rfl, J19.same S27, K19.trans (.ext (ExtN.same S27)), tabs_same T19 S27, Wm⟩⟩⟩
      · rw [decide_eq_false e0]
        exact ⟨_, _, _, _, _, _, _, _, _, _, rfl, J19, K19, T19, W19⟩
    refine ⟨l15, _, rfl, D15, oko _ _, fun H16 s16 => ?_⟩
    cases f : fineB y wo with
    | false =>
      rw [f] at D15 key
      exact key _ _ ⟨_, _, l15, rfl, s16, by unfold dueJ; rw [f]; exact D15.same s16, fun z => by unfold dueJ at z; rw [f] at z; cases z⟩
    | true =>
      cases inb : inB wo ys with
      | false =>
        rw [f, inb] at D15
        rw [f] at key
        exact key _ _ ⟨_, _, l15, rfl, s16, by unfold dueJ; rw [f, inb]; exact D15.same s16, fun z => by unfold dueJ at z; rw [f, inb] at z; cases z⟩
      | true =>
        obtain ⟨u, rfl⟩ := fine_str f
        rw [f] at key
        have uin : u ∈ ys := of_decide_eq_true inb
        have eiu : ys[ys.idxOf u]? = some u := by rw [List.getElem?_eq_getElem (List.idxOf_lt_length_iff.mpr uin), List.getElem_idxOf]
        have ilt : ys.idxOf u < ns.length := by
          have := (List.getElem?_eq_some_iff.mp eiu).1
          omega
        have W16 := W15.same s16
        have hm16 := hm15.same s16
        obtain ⟨dd, w1, w2, w3⟩ := hm16.shows
        rw [f, inb] at D15
        refine ⟨_, rfl, ⟨p, _, rfl, W16.lot⟩, _, rfl, p, ys, u, ys.idxOf u, rfl, rfl, W16.lot.sq, eiu, fun m hm e => ?_, mo, rfl, ⟨dm, hm16.ty⟩, n, ns, ys.idxOf u, mo, rfl, W16.num, rfl, rfl, rfl, ilt, pos0, ?_⟩
        · have := ix_of G.lot.one e
          omega
        have ej : dueJ y ys ns (.str u) dw mo dm = if numB ns (ys.idxOf u) mo = true then [] else [(wordK 2, dm.shown)] := by
          unfold dueJ
          rw [f, if_pos rfl, inb, if_pos rfl]
          rfl
        cases nb : numB ns (ys.idxOf u) mo with
        | true =>
          rw [nb, if_pos rfl] at ej
          exact key _ _ ⟨_, _, l15, rfl, s16, by rw [ej]; exact D15.same s16, fun _ => rfl⟩
        | false =>
          rw [nb] at ej
          have ej : dueJ y ys ns (.str u) dw mo dm = [(wordK 2, dm.shown)] := ej
          exact ⟨_, rfl, _, dm, rfl, dd, w1, w2, w3, okT (show 2 ≤ 100 by decide), fun l1 H1 s1 n1 e1 => ⟨okT (show 1 ≤ 100 by decide), fun l2 H2 s2 n2 e2 => key _ _ ⟨_, _, l2, rfl, s16.trans (s1.trans s2), by rw [ej]; exact dues_new (H := H1) s2 e1 e2, fun z => by rw [ej] at z; cases z⟩⟩⟩
end
end L2.Cal
end

section
set_option maxRecDepth 100000
set_option maxHeartbeats 4000000
/-! the law's call, from a promise that asks that nothing is being shown -/
namespace L2.Cal
open PySem PySem.Spec PyProof.Rows L2
/-- the script's object, as it is tracked: unless the module itself holds it -/
def scriptH (K : PySem.W.Frag) (a : Addr) (ob : Obj) (ns : List Int) : Hp := fun b => if b = a ∧ (K.lookup a).isNone = true then some (.frz ob (.lst (ns.map V.int))) else none
theorem scriptH_some {K : PySem.W.Frag} {a b : Addr} {ob : Obj} {ns : List Int} {u : HO} (e : scriptH K a ob ns b = some u) : b = a ∧ K.lookup a = none ∧ u = .frz ob (.lst (ns.map V.int)) := by
  unfold scriptH at e
  split at e
  · rename_i h
    exact ⟨h.1, Option.isNone_iff_eq_none.mp h.2, (Option.some.inj e).symm⟩
  · cases e
theorem law_callG {P : Program} {w : World} {K : PySem.W.Frag} {mg mb : Str → Option Value} {CX : CXT} {k : Nat} {fa a : Addr} {fd : FuncData} {x : Str} {sp : Sp} {s : Shared} {vs : List Value} {ns : List Int}
    (KX : K.In s.heap) (hmg : s.heap.Ns mainGlobals mg) (hmb : s.heap.Ns builtinsNs mb) (hbb : ∀ x : Str, x ≠ "__name__" → mb x = bootBuiltins x) (hlim : s.heap.NoLimit) (hg : s.gens = #[])
    (ha : s.heap.get? a = some { cls := .type "list", data := .seq vs.toArray }) (hi : IntsAre vs ns) (hl : ns.length ≤ sizeLine) (hr : Room k callerA)
    (F : ∀ base : Heap, K.In base → base.Ns mainGlobals mg → FnOkG P w K mg base CX k fa fd [x] sp) (hbind : ∀ (s : Shared) (u : Value), BindsTo s fd ⟨[u], []⟩ [(x, u)])
    (hsp : ∀ H : Hp, SqL K H a (ns.map V.int) → sp [.ref a] H (fun v _ => v = .bl true) fun _ _ _ => False)
    (hCX : ∀ H e s', CX [] H s (fun _ _ _ => False) e s' → False) :
    codeAny (model P w) callerA (.call (.ref fa) ⟨[.ref a], []⟩) (fun r s' => r = .ok (.ret (.bool true)) ∧ OldK s.heap s'.heap ∧ s'.os = s.os ∧ AllBare s'.gens) s := by
  have rv := vals_ints hi
  let ob : Obj := { cls := .type "list", data := .seq vs.toArray }
  let H := scriptH K a ob ns
  have stay : ∀ {b : Addr} {o : Obj}, s.heap.get? b = some o → (b ≠ a ∨ (K.lookup a).isSome = true) → (hidT s.heap H).get? b = some o := fun {b o} e h => hidT_get e (by
    cases q : H b with
    | none => rfl
    | some u =>
      obtain ⟨e1, e2, _⟩ := scriptH_some q
      rcases h with h | h
      · exact absurd e1 h
      · rw [e2] at h; cases h)
  have ndict : ∀ {b : Addr} {m : Str → Option Value}, s.heap.Ns b m → (hidT s.heap H).Ns b m := fun {b m} h => by
    obtain ⟨o, es, ep, e, d, r⟩ := h
    refine ⟨o, es, ep, stay e (.inl fun z => ?_), d, r⟩
    rw [z, ha] at e
    cases e
    cases d
  have KB : K.In (hidT s.heap H) := fun b o e => stay (KX b o e) (by
    by_cases h : b = a
    · exact .inr (by rw [← h, e]; rfl)
    · exact .inl h)
  have M : Mod K mg (hidT s.heap H) := ⟨KB, ndict hmg, ⟨mb, ndict hmb, hbb⟩, by obtain ⟨mc, h1, h2⟩ := hlim; exact ⟨mc, ndict h1, h2⟩⟩
  have hok : HOk P w H s.heap := fun b u e => by
    obtain ⟨rfl, _, rfl⟩ := scriptH_some e
    exact ⟨ha, by rw [List.length_map]; exact hl, vs, _, rv, ha⟩
  have hS : SqL K H a (ns.map V.int) := by
    cases q : K.lookup a with
    | none => exact .inl (.inr ⟨ob, if_pos ⟨rfl, by rw [q]; rfl⟩⟩)
    | some o =>
      have e := KX a o q
      rw [ha] at e
      cases e
      exact .inr ⟨_, vs.toArray, _, q, rfl, rfl, rfl, by rw [List.size_toArray, hi.length]; exact hl, by simpa using rv⟩
  have e0 : Env0 P w K mg (hidT s.heap H) callerA [] s H := ⟨rfl, M, fun b o e => of_hidT e, Nat.le_of_eq (hidT_size _ _), trivial, fun b hb => (List.not_mem_nil (show b ∈ ([] : List Addr) from hb)).elim, hok, .of_eq hg⟩
  refine codeAny_mono ((F _ KB (ndict hmg)).run callerA [] s H ⟨[.ref a], []⟩ [.ref a] [.ref a] _ _ rfl hr e0 (hbind s (.ref a)) (.cons rfl .nil) (hsp H hS)) fun r s' h => ?_
  cases r with
  | error e => exact (hCX H e s' h).elim
  | ok fl =>
    cases fl with
    | ret u =>
      obtain ⟨v, H', os, bare, un, hok', r', q⟩ := h
      obtain rfl : v = .bl true := q
      obtain rfl : u = Value.bool true := r'
      refine ⟨rfl, OldK.of_keep fun b o e => ?_, os, bare⟩
      cases q : H b with
      | none => exact un.keep b o e q List.not_mem_nil List.not_mem_nil
      | some u =>
        obtain ⟨rfl, _, rfl⟩ := scriptH_some q
        obtain ⟨e2, _⟩ := hok' b _ (un.frzs b _ _ q)
        rw [ha] at e
        cases e
        exact e2
    | next => exact False.elim h
    | brk => exact False.elim h
    | cont => exact False.elim h
theorem walkG {l : PySem.W.OpenLaw} {n k : Nat} {q : Program} {loose : List Str} {XP : (Str → Option Value) → Heap → Prop} {YP : World → Heap → Prop} {d : DefRec} {K : Params → PySem.W.Frag} {CX : World → CXT} {sp : World → Sp} {x : Str}
    (hn : l.most = some n) (hn2 : n ≤ sizeLine) (hdf : d.params.defaults = []) (hr : Room k callerA) (hY : ∀ (w : World) (h : Heap), YP w h → (K w.params).In h)
    (F : ∀ (w : World) (mg : Str → Option Value) (fa : Addr) (h : Heap), (K w.params).In h → h.Ns mainGlobals mg → mg d.name = some (.ref fa) → ∃ fd : FuncData, (∀ (s : Shared) (u : Value), BindsTo s fd ⟨[u], []⟩ [(x, u)]) ∧
        ∀ base : Heap, (K w.params).In base → base.Ns mainGlobals mg → FnOkG l.prog w (K w.params) mg base (CX w) k fa fd [x] (sp w))
    (hsp : ∀ (w : World) (H : Hp) (a : Addr) (ns : List Int), ns.length ≤ n → SqL (K w.params) H a (ns.map V.int) → sp w [.ref a] H (fun v _ => v = .bl true) fun _ _ _ => False)
    (hCX : ∀ (w : World) (H : Hp) (s : Shared) (e : Value) (s' : Shared), CX w [] H s (fun _ _ _ => False) e s' → False) :
    PySem.W.WalkO q loose XP YP l.row.toRowW d [] (fun f vs => PySem.call f vs) := by
  refine Att.attach_call hn hdf fun w s₀ s₁ mg mb fa o pm cd doc a vs ns G Y ho hd hcd hmg hobj hints hlen hg => ?_
  obtain ⟨fd, hb, hF⟩ := F w mg fa _ (hY w _ Y) G.T.g hmg
  exact law_callG (hY w _ Y) G.T.g G.T.b G.T.builtins G.T.nolimit hg hobj hints (Nat.le_trans hlen hn2) hr hF hb (fun H hS => hsp w H a ns hlen hS) fun H e s' => hCX w H s₁ e s'
end L2.Cal
end

section
set_option maxRecDepth 100000
set_option maxHeartbeats 4000000
/-! the law's call where lambdas are made: the tables of code objects are tracked -/
namespace L2.Cal
open PySem PySem.Spec PyProof.Rows L2 LamX
abbrev tabsOf (cs : List (Addr × Addr)) : List Addr := cs.map (·.2)
def scriptT (K : PySem.W.Frag) (cs : List (Addr × Addr)) (a : Addr) (ob : Obj) (ns : List Int) : Hp := fun b => if b ∈ tabsOf cs then some (.tbl #[]) else scriptH K a ob ns b
theorem scriptT_cases {K : PySem.W.Frag} {cs : List (Addr × Addr)} {a b : Addr} {ob : Obj} {ns : List Int} {u : HO} (e : scriptT K cs a ob ns b = some u) : (b ∈ tabsOf cs ∧ u = .tbl #[]) ∨ (b ∉ tabsOf cs ∧ b = a ∧ K.lookup a = none ∧ u = .frz ob (.lst (ns.map V.int))) := by
  unfold scriptT at e
  by_cases h : b ∈ tabsOf cs
  · rw [if_pos h] at e
    exact .inl ⟨h, (Option.some.inj e).symm⟩
  · rw [if_neg h] at e
    exact .inr ⟨h, scriptH_some e⟩
section
variable {P : Program} {w : World} {K : PySem.W.Frag} {mg mb : Str → Option Value} {CX : CXT} {k : Nat} {fa a : Addr} {cs : List (Addr × Addr)} {fd : FuncData} {x : Str} {sp : Sp} {s : Shared} {vs : List Value} {ns : List Int}
theorem law_callGT (KX : K.In s.heap) (hmg : s.heap.Ns mainGlobals mg) (hmb : s.heap.Ns builtinsNs mb) (hbb : ∀ x : Str, x ≠ "__name__" → mb x = bootBuiltins x) (hlim : s.heap.NoLimit) (hg : s.gens = #[])
    (empty : ∀ p ∈ cs, s.heap.get? p.2 = some { cls := .none, data := .fields #[] }) (apart : ∀ p ∈ cs, K.lookup p.2 = none) (heads : ∀ p ∈ cs, PySem.W.CodeHd s.heap p.1 p.2)
    (main : ∃ (bm : Addr) (om : Obj), mg "__builtins__" = some (.ref bm) ∧ bm ≠ builtinsNs ∧ s.heap.get? bm = some om ∧ om.cls = .type "module" ∧ om.dict = some builtinsNs ∧ om.data = .plain)
    (ha : s.heap.get? a = some { cls := .type "list", data := .seq vs.toArray }) (hi : IntsAre vs ns) (hl : ns.length ≤ sizeLine) (hr : Room k callerA)
    (F : ∀ base : Heap, K.In base → base.Ns mainGlobals mg → (∀ p ∈ cs, TabB base mg p.1 p.2) → FnOkG P w K mg base CX k fa fd [x] sp) (hbind : ∀ (s : Shared) (u : Value), BindsTo s fd ⟨[u], []⟩ [(x, u)])
    (hsp : ∀ H : Hp, (∀ p ∈ cs, H p.2 = some (.tbl #[])) → SqL K H a (ns.map V.int) → sp [.ref a] H (fun v _ => v = .bl true) fun _ _ _ => False)
    (hCX : ∀ H e s', CX [] H s (fun _ _ _ => False) e s' → False) :
    codeAny (model P w) callerA (.call (.ref fa) ⟨[.ref a], []⟩) (fun r s' => r = .ok (.ret (.bool true)) ∧ OldK s.heap s'.heap ∧ s'.os = s.os ∧ AllBare s'.gens) s := by
  have rv := vals_ints hi
  let ob : Obj := { cls := .type "list", data := .seq vs.toArray }
  let H := scriptT K cs a ob ns
  have tabAt : ∀ b, b ∈ tabsOf cs → s.heap.get? b = some { cls := .none, data := .fields #[] } := fun b hb => by
    obtain ⟨p, hp, rfl⟩ := List.mem_map.mp hb
    exact empty p hp
  have aOff : a ∉ tabsOf cs := fun hm => nomatch (show ob.data = Data.fields #[] from congrArg Obj.data (Option.some.inj (ha.symm.trans (tabAt a hm))))
  -- what is not tracked stands in the base
  have stay : ∀ {b : Addr} {o : Obj}, s.heap.get? b = some o → b ∉ tabsOf cs → (b ≠ a ∨ (K.lookup a).isSome = true) → (hidT s.heap H).get? b = some o := fun {b o} e nt h => hidT_get e (by
    cases q : H b with
    | none => rfl
    | some u =>
      rcases scriptT_cases q with ⟨z, _⟩ | ⟨_, e1, e2, _⟩
      · exact absurd z nt
      · rcases h with h | h
        · exact absurd e1 h
        · rw [e2] at h; cases h)
  have stayD : ∀ {b : Addr} {o : Obj}, s.heap.get? b = some o → o.data ≠ .fields #[] → (∀ m, o.data ≠ .seq vs.toArray m) → (hidT s.heap H).get? b = some o := fun {b o} e n1 n2 => stay e (fun hm => by
      have z := tabAt b hm
      rw [e] at z
      cases z
      exact n1 rfl) (.inl fun z => by
      rw [z, ha] at e
      cases e
      exact n2 _ rfl)
  have names : ∀ {b : Addr} {m : Str → Option Value}, s.heap.Ns b m → (hidT s.heap H).Ns b m := fun {b m} h => by
    obtain ⟨o, es, ep, e, d, r⟩ := h
    exact ⟨o, es, ep, stayD e (by rw [d]; exact fun z => nomatch z) (by rw [d]; exact fun _ z => nomatch z), d, r⟩
  have KB : K.In (hidT s.heap H) := fun b o e => stay (KX b o e) (fun hm => by
      obtain ⟨p, hp, rfl⟩ := List.mem_map.mp hm
      rw [apart p hp] at e
      cases e) (by
    by_cases h : b = a
    · exact .inr (by rw [← h, e]; rfl)
    · exact .inl h)
  have M : Mod K mg (hidT s.heap H) := ⟨KB, names hmg, ⟨mb, names hmb, hbb⟩, by obtain ⟨mc, h1, h2⟩ := hlim; exact ⟨mc, names h1, h2⟩⟩
  have tables : ∀ p ∈ cs, TabB (hidT s.heap H) mg p.1 p.2 := fun p hp => by
    obtain ⟨om, us, y1, y2, y3, y4, y5, y6, y7, there, c1, c2, c3, rest⟩ := heads p hp
    obtain ⟨bm, ox, b1, b2, b3, b4, b5, b6⟩ := main
    have inBase := stayD b3 (by rw [b6]; exact fun z => nomatch z) (by rw [b6]; exact fun _ z => nomatch z)
    refine ⟨⟨om, us, y1, y2, y3, y4, y5, y6, y7, stayD there (fun z => ?_) (by rw [c2]; exact fun _ z => nomatch z), c1, c2, c3, rest⟩, ⟨bm, ox, b1, b2, fun z => ?_, fun z => ?_, inBase, b4, b5, b6⟩, fun z => ?_⟩
    · obtain rfl : us = #[] := Data.fields.inj (c2.symm.trans z)
      exact nomatch (show (none : Option Value) = some _ from c3)
    · obtain ⟨og, es, ep, hgm, hdm, _⟩ := hmg
      rw [z, hgm] at b3
      cases b3
      exact nomatch (show Data.dict es ep = Data.plain from hdm.symm.trans b6)
    · rw [z, empty p hp] at b3
      cases b3
      exact nomatch (show Data.fields #[] = Data.plain from b6)
    · obtain ⟨og, es, ep, hgm, hdm, _⟩ := hmg
      rw [z, empty p hp] at hgm
      cases hgm
      exact nomatch (show Data.fields #[] = Data.dict es ep from hdm)
  have hok : HOk P w H s.heap := fun b u e => by
    rcases scriptT_cases e with ⟨hm, rfl⟩ | ⟨_, rfl, _, rfl⟩
    · exact tabAt b hm
    · exact ⟨ha, by rw [List.length_map]; exact hl, vs, _, rv, ha⟩
  have hT : ∀ p ∈ cs, H p.2 = some (.tbl #[]) := fun p hp => if_pos (List.mem_map.mpr ⟨p, hp, rfl⟩)
  have hS : SqL K H a (ns.map V.int) := by
    cases q : K.lookup a with
    | none => exact .inl (.inr ⟨ob, (if_neg aOff).trans (if_pos ⟨rfl, by rw [q]; rfl⟩)⟩)
    | some o =>
      have e := KX a o q
      rw [ha] at e
      cases e
      exact .inr ⟨_, vs.toArray, _, q, rfl, rfl, rfl, by rw [List.size_toArray, hi.length]; exact hl, by simpa using rv⟩
  have e0 : Env0 P w K mg (hidT s.heap H) callerA [] s H := ⟨rfl, M, fun b o e => of_hidT e, Nat.le_of_eq (hidT_size _ _), trivial, fun b hb => (List.not_mem_nil (show b ∈ ([] : List Addr) from hb)).elim, hok, .of_eq hg⟩
  refine codeAny_mono ((F _ KB (names hmg) tables).run callerA [] s H ⟨[.ref a], []⟩ [.ref a] [.ref a] _ _ rfl hr e0 (hbind s (.ref a)) (.cons rfl .nil) (hsp H hT hS)) fun r s' out => ?_
  rcases r with er | (_ | _ | _ | u)
  · exact (hCX H er s' out).elim
  all_goals first
    | exact False.elim out
    | skip
  obtain ⟨v, H', os, bare, un, hok', r', rfl⟩ := out
  obtain rfl : u = Value.bool true := r'
  have grown : ∀ b, b ∈ tabsOf cs → ∃ more : Array Value, s'.heap.get? b = some { cls := .none, data := .fields more } := fun b hb => by
    obtain ⟨more, z⟩ := un.tbls b #[] (if_pos hb)
    exact ⟨_, hok' b _ z⟩
  have kept : ∀ b o, b ∉ tabsOf cs → s.heap.get? b = some o → s'.heap.get? b = some o := fun b o nt e => by
    cases q : H b with
    | none => exact un.keep b o e q List.not_mem_nil List.not_mem_nil
    | some u =>
      rcases scriptT_cases q with ⟨z, _⟩ | ⟨_, rfl, _, rfl⟩
      · exact absurd z nt
      · obtain ⟨e2, _⟩ := hok' b _ (un.frzs b _ _ q)
        rw [ha] at e
        cases e
        exact e2
  refine ⟨rfl, ⟨fun b o e => ?_, fun b o e => ?_⟩, os, bare⟩
  · by_cases hb : b ∈ tabsOf cs
    · obtain ⟨more, hm⟩ := grown b hb
      obtain ⟨p, hp, rfl⟩ := List.mem_map.mp hb
      cases (empty p hp).symm.trans e
      exact .inr (.inl ⟨((heads p hp).tab (empty p hp)).isCodeTable, rfl, #[], more, rfl, by simpa using hm⟩)
    · exact .inl (kept b o hb e)
  · by_cases hb : b ∈ tabsOf cs
    · exact (grown b hb).imp' _ fun _ h => h
    · exact ⟨o, kept b o hb e⟩
end
/-- the walk to a law that makes lambdas -/
theorem walkGT {l : PySem.W.OpenLaw} {n k : Nat} {q : Program} {loose : List Str} {XP : (Str → Option Value) → Heap → Prop} {YP : World → Heap → Prop} {d : DefRec} {K : Params → PySem.W.Frag} {CX : World → CXT} {sp : World → Sp} {x : Str} {ts : List Addr} (cs : List (Addr × Addr))
    (hn : l.most = some n) (hn2 : n ≤ sizeLine) (hdf : d.params.defaults = []) (hr : Room k callerA) (hY : ∀ (w : World) (h : Heap), YP w h → (K w.params).In h ∧ ∀ P ∈ ts, h.get? P = some { cls := .none, data := .fields #[] }) (hcs : ∀ p ∈ cs, p.2 ∈ ts)
    (apart : ∀ w : World, ∀ p ∈ cs, (K w.params).lookup p.2 = none) (heads : ∀ w : World, ∀ p ∈ cs, PySem.W.codeHdIn (K w.params) p.1 p.2 = true)
    (F : ∀ (w : World) (mg : Str → Option Value) (fa : Addr) (h : Heap), (K w.params).In h → h.Ns mainGlobals mg → mg d.name = some (.ref fa) → ∃ fd : FuncData, (∀ (s : Shared) (u : Value), BindsTo s fd ⟨[u], []⟩ [(x, u)]) ∧
        ∀ base : Heap, (K w.params).In base → base.Ns mainGlobals mg → (∀ p ∈ cs, TabB base mg p.1 p.2) → FnOkG l.prog w (K w.params) mg base (CX w) k fa fd [x] (sp w))
    (hsp : ∀ (w : World) (H : Hp) (a : Addr) (ns : List Int), ns.length ≤ n → (∀ p ∈ cs, H p.2 = some (.tbl #[])) → SqL (K w.params) H a (ns.map V.int) → sp w [.ref a] H (fun v _ => v = .bl true) fun _ _ _ => False)
    (hCX : ∀ (w : World) (H : Hp) (s : Shared) (e : Value) (s' : Shared), CX w [] H s (fun _ _ _ => False) e s' → False) :
    PySem.W.WalkO q loose XP YP l.row.toRowW d [] (fun f vs => PySem.call f vs) := by
  refine Att.attach_call hn hdf fun w s₀ s₁ mg mb fa o pm cd doc a vs ns G Y ho hd hcd hmg hobj hints hlen hg => ?_
  obtain ⟨KX, hts⟩ := hY w _ Y
  obtain ⟨fd, hb, hF⟩ := F w mg fa _ KX G.T.g hmg
  exact law_callGT KX G.T.g G.T.b G.T.builtins G.T.nolimit hg (fun p hp => hts _ (hcs p hp)) (apart w) (fun p hp => PySem.W.codeHd_of_K KX (heads w p hp)) G.T.bmain hobj hints (Nat.le_trans hlen hn2) hr hF hb (fun H hT hS => hsp w H a ns hlen hT hS) fun H e s' => hCX w H s₁ e s'
end L2.Cal
end

section
set_option maxRecDepth 100000
set_option maxHeartbeats 4000000
set_option synthInstance.maxHeartbeats 400000
namespace L2.Cal
open PySem PySem.Spec PyProof.Rows L2 LamX
abbrev sLaw : Stmt := topS 48
theorem scLaw : FnScope ["_law_script", "_law_k"] ["_law_script"] (defScope sLaw) := ⟨rfl, rfl, rfl, by decide +kernel, rfl, by decide +kernel, by decide +kernel⟩
def spLaw (K : PySem.W.Frag) (Pt : Addr) : Sp := fun vs H Q _ => ∃ (a : Addr) (ns : List Int), vs = [.ref a] ∧ SqL K H a (ns.map V.int) ∧ ns.length ≤ 63 ∧ LamX.Tabs [(Pt, lamQ)] H ∧ ∀ H', Q (.bl true) H'
theorem seqL_newN {K : PySem.W.Frag} {H H1 H2 : Hp} {a p : Addr} {xs : List V} (h : SqL K H a xs) (n : H p = none) (s : Same H H1) (k : KpN p H1 H2) : SqL K H2 a xs := by
  rcases h with (h | ⟨o, h⟩) | h
  · exact .inl (.inl (k _ _ (ne_of_none h n) (fun ps z => by cases z) (s _ _ h)))
  · exact .inl (.inr ⟨o, k _ _ (ne_of_none h n) (fun ps z => by cases z) (s _ _ h)⟩)
  · exact .inr h
section
variable {P : Program} {w : World} {K : PySem.W.Frag} {mg : Str → Option Value} {base : Heap} {C Cr CV CN CP CI CU CQ pT fTh pO fO pNu fNu pRl fRl : Addr} {fdTh fdO fdNu fdRl : FuncData}
theorem ok_law {f c Pt fG fSn fBs fRo fCt fFi fOd fPk fL2 fA fD fSf fH fI fT2 fR fK fKo fIo fM fNn fN fL fE fC fCI fCE fJn : Addr} {fd fdG fdSn fdBs fdRo fdCt fdFi fdOd fdPk fdL2 fdA fdD fdSf fdH fdI fdT2 fdR fdK fdKo fdIo fdM fdNn fdN fdL fdE fdC fdCI fdCE fdJn : FuncData} {fJ fW : Addr} {fdJ fdW : FuncData}
    (DW : DefAt K mg "law" sLaw ["_law_script"] fW fdW) (DJ : DefAt K mg "_law_jar" sJar ["_law_script", "_law_k"] fJ fdJ)
    (DR0 : DefAt K mg "_law_right" sRgt ["_law_jar_here"] f fd)
    (hc : fd.code = .ref c)
    (TB : TabB base mg c Pt)
    (DG : DefAt K mg "_law_caught" sCau ["_law_act"] fG fdG)
    (DSn : DefAt K mg "_law_shown" sShn ["_law_e"] fSn fdSn)
    (DBs : DefAt K mg "_law_bases" sBas ["_law_e"] fBs fdBs)
    (DRo : DefAt K mg "_law_roster" sRos ["_law_jar_here", "_law_size", "_law_many"] fRo fdRo)
    (DCt : DefAt K mg "_law_counts" sCnt ["_law_jar_here", "_law_lot"] fCt fdCt)
    (DFi : DefAt K mg "_law_fits" sFit ["_law_told", "_law_dues"] fFi fdFi)
    (DOd : DefAt K mg "_law_odd" sOdd ["_law_jar_here"] fOd fdOd)
    (DPk : DefAt K mg "_law_pick" sPick ["_law_jar_here", "_law_menu"] fPk fdPk)
    (DL : DefAt K mg "_law_lot_of" sLot ["_law_jar_here", "_law_things_here", "_law_many"] fL2 fdL2)
    (DA : DefAt K mg "_law_letters" sLett ["_law_jar_here", "_law_many"] fA fdA)
    (DD : DefAt K mg "_law_dip" sDip ["_law_jar_here", "_law_wide"] fD fdD)
    (DS : DefAt K mg "_law_shuffled" sShuf ["_law_jar_here", "_law_things_here"] fSf fdSf)
    (DH : DefAt K mg "_law_hill" sHill ["_law_jar_here", "_law_line_here"] fH fdH)
    (DI : DefAt K mg "is_order" sIsO ["value"] fI fdI)
    (DTh : DefAt K mg "things_of" sThO ["order"] fT2 fdT2)
    (DR : DefAt K mg "right_ahead" sRah ["orders"] fR fdR)
    (DK : DefAt K mg "check_roll" sChk ["roll"] fK fdK)
    (DKo : DefAt K mg "check_order_in" sCki ["roll", "order"] fKo fdKo)
    (DIo : DefAt K mg "is_order_of" sIoo ["things", "value"] fIo fdIo)
    (DM : DefAt K mg "right_numbers" sRnu ["numbers", "many"] fM fdM)
    (DN : DefAt K mg "is_number" sNum ["value"] fNn fdNn)
    (FN : Fun K "__init__" "Roll.__init__" sIni fN fdN)
    (bI : Binds K fdN ["self", "orders"] [])
    (MK : Mk K C fN)
    (FL : Fun K "__len__" "Roll.__len__" sLen fL fdL)
    (bL : Binds K fdL ["self"] [])
    (OL : Own K C "__len__" fL)
    (FE : Fun K "__eq__" "Roll.__eq__" sEqu fE fdE)
    (OE : Own K C "__eq__" fE)
    (bE : Binds K fdE ["self", "other"] [])
    (OC : Own K C "__contains__" fC)
    (FC : Fun K "__contains__" "Roll.__contains__" sCon fC fdC)
    (bC : Binds K fdC ["self", "x"] [])
    (PT : PropOf K C "things" pT fTh)
    (FT : Fun K "things" "Roll.things" sThi fTh fdTh)
    (bT : Binds K fdTh ["self"] [])
    (PO : PropOf K C "orders" pO fO)
    (FO : Fun K "orders" "Roll.orders" sOrd fO fdO)
    (bO : Binds K fdO ["self"] [])
    (FCI : Fun K "__init__" "Crowd.__init__" sCIn fCI fdCI)
    (bCI : Binds K fdCI ["self", "roll", "numbers"] [])
    (MKc : Mk K Cr fCI)
    (FCE : Fun K "__eq__" "Crowd.__eq__" sCEq fCE fdCE)
    (bCE : Binds K fdCE ["self", "other"] [])
    (OCE : Own K Cr "__eq__" fCE)
    (FJn : Fun K "joined" "Crowd.joined" sJnd fJn fdJn)
    (mJn : Meth K Cr "joined" fJn)
    (bJn : Binds K fdJn ["self", "order", "many"] [])
    (kJn : KwF.KB1 fdJn ["self", "order", "many"] ["many", "order"] List.reverse List.reverse)
    (PNu : PropOf K Cr "numbers" pNu fNu)
    (FNu : Fun K "numbers" "Crowd.numbers" sCNu fNu fdNu)
    (bNu : Binds K fdNu ["self"] [])
    (PRl : PropOf K Cr "roll" pRl fRl)
    (FRl : Fun K "roll" "Crowd.roll" sCRo fRl fdRl)
    (bRl : Binds K fdRl ["self"] [])
    (XI : Thr P K mg "InvalidOrder" giv CI)
    (XU : Thr P K mg "UnknownOrder" giv CU)
    (XN : Thr P K mg "InvalidNumber" giv CQ)
    (B : Bases K mg CV CN CP)
    (TI : Told K CV CN CP [CI, CU, CQ] CI 0 (baseK 0))
    (TU : Told K CV CN CP [CI, CU, CQ] CU 1 (baseK 1))
    (TN : Told K CV CN CP [CI, CU, CQ] CQ 2 (baseK 2))
    (mI : PySem.W.exmAny K (.ref CI) [.ref CV, .ref CN, .ref CP] = some true)
    (mU : PySem.W.exmAny K (.ref CU) [.ref CV, .ref CN, .ref CP] = some true)
    (mN : PySem.W.exmAny K (.ref CQ) [.ref CV, .ref CN, .ref CP] = some true)
    (ks : ∀ T ∈ tyNames, T ≠ "str" → PySem.W.kitOne K (.type T) (.type "str") = some false)
    (kst : PySem.W.kitOne K (.type "str") (.type "str") = some true)
    (KT : KitN K)
    (hneR : PySem.W.findIn K (.ref C) "__ne__" = some (some (.builtin "object.__ne__")))
    (hne : PySem.W.findIn K (.ref Cr) "__ne__" = some (some (.builtin "object.__ne__")))
    (bsum : mg "sum" = none)
    (T : Txt mg)
    (Lm : Lims mg)
    (R : RollC K mg C)
    (RC : CrC K mg Cr) : FnOkG P w K mg base CX0 9 fW fdW ["_law_script"] (spLaw K Pt) := by
  have GR : FnOkG P w K mg base CX0 8 f fd ["_law_jar_here"] (spRgt Pt) := ok_rgt DR0 hc TB DG DSn DBs DRo DCt DFi DOd DPk DL DA DD DS DH DI DTh DR DK DKo DIo DM DN FN bI MK FL bL OL FE OE bE OC FC bC PT FT bT PO FO bO FCI bCI MKc FCE bCE OCE FJn mJn bJn kJn PNu FNu bNu PRl FRl bRl XI XU XN B TI TU TN mI mU mN ks kst KT hneR hne bsum T Lm R RC
  have GJ : FnOk P w K mg base CX0 1 fJ fdJ ["_law_script", "_law_k"] (spJar K) := ok_jar DJ T
  refine Fun.okG DW.F scLaw (fun vs H Q E h => ?_) (fun cdv A outer sh H vs Q E hA hr h => ?_)
  · obtain ⟨a, ns, rfl, _⟩ := h
    rfl
  · obtain ⟨a, ns, rfl, hS, hn, hT, q⟩ := h
    have hu := hr.units
    refine ⟨_, (pss_cons (ps_for PassesOwn.never rfl (pi_range1 (by rfl) T.b_range (pa_cons (pe_callB (call_max2 rfl) (by rfl) T.b_max (by decide +kernel) (pa_cons pe_int (pa_cons (pe_callB (call_min2 rfl) (by rfl) T.b_min (by decide +kernel) (pa_cons (pe_callB call_len_seq (by rfl) T.b_len (by decide +kernel) (pa_cons (pv 0) pa_nil)) (pa_cons pe_int pa_nil))) pa_nil))) pa_nil)) (pg_name (i := 1) scLaw.nd rfl (.inl rfl))
   (pss_one (ps_if (pt_not (pt_val (pe_callG GR hA (hr.mono (by decide)) (by rfl) DR0.g DR0.F.kp DR0.b .nil pass0 (pa_cons (pe_call GJ (hr.mono (by decide)) (by rfl) DJ.g DJ.F.kp DJ.b .nil pass0 (pa_cons (pv 0) (pa_cons (pv 1) pa_nil))) pa_nil))))
   (pss_one (ps_ret pe_bl))
   pss_nil)))
  (pss_one (ps_ret pe_bl))), ?_⟩
    refine ⟨_, rfl, a, _, rfl, .inl hS, _, _, rfl, _, _, rfl, ?_⟩
    obtain ⟨j, ej, j0, j4⟩ : ∃ j : Int, j = (if (if (5:Int) < ((ns.map V.int).length : Int) then (5:Int) else ((ns.map V.int).length : Int)) > 2 then (if (5:Int) < ((ns.map V.int).length : Int) then (5:Int) else ((ns.map V.int).length : Int)) else 2) ∧ 0 ≤ j ∧ j ≤ 5 := by
      refine ⟨_, rfl, ?_⟩
      split <;> split <;> omega
    rw [← ej]
    refine ⟨j, rfl, by omega, by omega, for_range (n := j.toNat) (fun k σ H' => ∃ v1, σ = [some (.ref a), v1] ∧ SqL K H' a (ns.map V.int) ∧ LamX.Tabs [(Pt, lamQ)] H') ⟨_, rfl, hS, hT⟩ (fun k σ H' hk hP => ?_) (fun σ HB hP => ?_)⟩
    · obtain ⟨v1, rfl, hS', hT'⟩ := hP
      refine ⟨_, rfl, _, rfl, a, ns, (0 + (k : Int)), rfl, hS', hn, by omega, by omega, fun H1 p t1 np J => ⟨p, rfl, J, tabs_same hT' t1, fun H2 kp jp t2 => ?_⟩⟩
      exact ⟨true, rfl, iteF ⟨_, rfl, seqL_newN hS' np t1 kp, t2⟩⟩
    · obtain ⟨v1, rfl, hS', hT'⟩ := hP
      exact q _
end
end L2.Cal
end

section
set_option maxRecDepth 100000
set_option maxHeartbeats 4000000
namespace L2.Cal
open PySem PySem.Spec PyProof.Rows L2
/-- the parameters and the scope of an own error's `__init__` -/
abbrev iP (n : Str) (a b : Pos) : Arguments := { posonlyargs := [], args := [⟨"self", none, a⟩, ⟨n, none, b⟩], vararg := none, kwonlyargs := [], kw_defaults := [], kwarg := none, defaults := [] }
abbrev iS (n : Str) : Scope := { kind := .function, names := [("self", .local), (n, .local), ("__class__", .free), ("super", .globalImplicit)], isGenerator := false, isCoroutine := false }
abbrev iF (txt n : Str) (j : Nat) (p0 p1 p2 p3 p4 p5 p6 p7 p8 p9 pa pb : Pos) (qual : Str) (kV doc pm ct : Value) (an : Option Addr) (cda cc : Addr) : FuncData :=
  PySem.W.ksFn "__init__" qual (iP n pa pb) (initBody txt n n j p0 p1 p2 p3 p4 p5 p6 p7 p8 p9) (iS n) .none kV doc pm an (.ref cda) ct cc
theorem err_mk {P : Program} {K : PySem.W.Frag} {C fI cc cda : Addr} {B newId initId : String} {bmB : List Value} {txt n : Str} {j : Nat} {p0 p1 p2 p3 p4 p5 p6 p7 p8 p9 pa pb : Pos} {qual : Str} {kV doc pm ct oc ccl cl : Value} {an od cdd cld : Option Addr}
    {osl ccs csl : Array (Option Value)} {vs : Array Value} {file : Str} {tf : Tok} (T : ErrC K C B newId initId bmB) (hn : n = "given" ∨ n = "index") (iC : PySem.W.findIn K (.ref C) "__init__" = some (some (.ref fI))) (tI : PySem.W.typeIn K (.ref fI) = some (.type "function"))
    (hf : K.lookup fI = some ⟨oc, od, .func (iF txt n j p0 p1 p2 p3 p4 p5 p6 p7 p8 p9 pa pb qual kV doc pm ct an cda cc), osl⟩) (hcd : PySem.W.codeIn K (.ref cda) qual = true) (hcode : K.lookup cda = some ⟨ccl, cdd, .fields vs, ccs⟩) (hcell : K.lookup cc = some ⟨cl, cld, .cell (some (.ref C)), csl⟩)
    (hsup : PySem.W.ks_superIn K C C "__init__" = some (some (.builtin initId))) (hfo : PySem.W.findIn K (.ref C) n = some none) (hvs : vs[2]? = some (.str file tf)) {pl : Env → Sem Bool}
    (hev : ∀ env : Env, eval (.Call (.Attribute (.Call (.Name "super" p0) [] [] p1) "__init__" p2) [.Constant (.str txt) j p3] [] p4) env = (do
      let ov ← attributeBase (.Call (.Name "super" p0) [] [] p1) "__init__" env (eval (.Call (.Name "super" p0) [] [] p1) env)
      standAt p2.atName
      let (f, first) ← holding [ov] (getMethod ov "__init__" (pl env))
      callWith p4 f first (backTo p4 (starEach [.Constant (.str txt) j p3] env)) [])) (hfile : ((P.main.file : Str) == file) = true) (htop : (P.main.scope.names.lookup ("super" : Str)).isSome = false) : ErrI P K C n n := by
  refine ⟨B, newId, initId, bmB, fI, T, iC, tI, fun X hlim hmg hsg hmb hsb hroom heK he ha hq => ?_⟩
  have nz : ∀ x ∈ (iS n).names, x.2 ≠ .cell := fun x hx => by
    rcases List.mem_cons.mp hx with rfl | hx
    · exact fun z => by cases z
    · rcases List.mem_cons.mp hx with rfl | hx
      · exact fun z => by cases z
      · rcases List.mem_cons.mp hx with rfl | hx
        · exact fun z => by cases z
        · rcases List.mem_cons.mp hx with rfl | hx
          · exact fun z => by cases z
          · cases hx
  rcases hn with rfl | rfl
  · refine init_run T X hlim hmg hmb hsb hsg hf hcd hcode hvs hfile hcell htop rfl rfl (by decide +kernel) (by decide +kernel) (by decide +kernel) (by decide +kernel) (by decide) (by decide) rfl nz rfl rfl hfo hroom heK he ?_ hev hsup hq
    rcases ha with rfl | rfl <;> exact .of_eq rfl
  · refine init_run T X hlim hmg hmb hsb hsg hf hcd hcode hvs hfile hcell htop rfl rfl (by decide +kernel) (by decide +kernel) (by decide +kernel) (by decide +kernel) (by decide) (by decide) rfl nz rfl rfl hfo hroom heK he ?_ hev hsup hq
    rcases ha with rfl | rfl <;> exact .of_eq rfl
theorem err_all {P : Program} {K : PySem.W.Frag} {C fI cc cda N : Addr} {nm q : Str} {bs bm : List Value} {sn : List Str} {sub : List Value} {ab : Bool} {col : Option Bool} {dd : Option Addr} {k0 k1 k2 k3 k5 : Option Value} {B newId initId : String} {bmB : List Value} {txt n : Str} {j : Nat} {p0 p1 p2 p3 p4 p5 p6 p7 p8 p9 pa pb : Pos} {qual : Str} {kV doc pm ct oc ccl cl : Value} {an od cdd cld : Option Addr}
    {osl ccs csl : Array (Option Value)} {vs : Array Value} {file : Str} {tf : Tok} (bf : BaseF B newId initId bmB) (hn : n = "given" ∨ n = "index")
    (xL : K.lookup C = some (excClassObj nm q C N bs bm true sn sub ab col dd k0 k1 k2 k3 k5 newId)) (a1 : PySem.W.findIn K (.ref C) "__init__" = some (some (.ref fI)))
    (hf : K.lookup fI = some ⟨oc, od, .func (iF txt n j p0 p1 p2 p3 p4 p5 p6 p7 p8 p9 pa pb qual kV doc pm ct an cda cc), osl⟩) (hcode : K.lookup cda = some ⟨ccl, cdd, .fields vs, ccs⟩) (hcell : K.lookup cc = some ⟨cl, cld, .cell (some (.ref C)), csl⟩)
    (sa : PySem.W.findIn K (.ref C) "__setattr__" = some (some (.builtin "object.__setattr__"))) (kC : PySem.W.keepIn K (.ref C) = true) (ga : PySem.W.findIn K (.ref C) "__getattribute__" = some (some (.builtin "BaseException.__getattribute__"))) (gg : PySem.W.findIn K (.ref C) "__getattr__" = some none)
    (exC : PySem.W.subIn K (.ref C) (.type "BaseException") = some true) (tyC : PySem.W.typeIn K (.ref C) = some (.type "type")) (dcl : PySem.W.findIn K (.ref C) "__class__" = some (some (.builtin "object.__class__"))) (dget : PySem.W.specialIn K (.builtin "object.__class__") "__get__" = some (some (.builtin "getset_descriptor.__get__")))
    (dtk : PySem.W.takesIn K (.builtin "object.__class__") = some true) (mobj : PySem.W.mroIn K C (.type "object") = some true) (opq : PySem.W.nsIn K cStatics "thirdparty.any" = some none) (tI : PySem.W.typeIn K (.ref fI) = some (.type "function")) (hcd : PySem.W.codeIn K (.ref cda) qual = true) (hfo : PySem.W.findIn K (.ref C) n = some none)
    (hbm : PySem.W.excTail bmB bm = true) (hsup : PySem.W.ks_superIn K C C "__init__" = some (some (.builtin initId))) (hvs : vs[2]? = some (.str file tf)) (hfile : ((P.main.file : Str) == file) = true) (htop : (P.main.scope.names.lookup ("super" : Str)).isSome = false) {pl : Env → Sem Bool}
    (hev : ∀ env : Env, eval (.Call (.Attribute (.Call (.Name "super" p0) [] [] p1) "__init__" p2) [.Constant (.str txt) j p3] [] p4) env = (do
      let ov ← attributeBase (.Call (.Name "super" p0) [] [] p1) "__init__" env (eval (.Call (.Name "super" p0) [] [] p1) env)
      standAt p2.atName
      let (f, first) ← holding [ov] (getMethod ov "__init__" (pl env))
      callWith p4 f first (backTo p4 (starEach [.Constant (.str txt) j p3] env)) [])) : ErrI P K C n n ∧ ErrQ K C ∧ PySem.W.findIn K (.ref C) n = some none := by
  have T : ErrC K C B newId initId bmB := ⟨bf, ⟨_, _, _, _, _, _, _, _, _, _, _, _, _, _, _, xL, hbm⟩, sa, kC, ga, gg, exC, tyC, dcl, dget, dtk, mobj, opq⟩
  exact ⟨err_mk T hn a1 tI hf hcd hcode hcell hsup hfo hvs hev hfile htop, T.q, hfo⟩
end L2.Cal
end

section
set_option maxRecDepth 100000
set_option maxHeartbeats 4000000
namespace L2.Cal
open PySem PySem.Spec PyProof.Rows L2
theorem def_at {K : PySem.W.Frag} {h : Heap} {mg : Str → Option Value} {x : Str} {st : Stmt} {ps : List Str} {f : Addr} {od an : Option Addr} {sl : Array (Option Value)} {oc kV dc pm cd ct : Value} (X : K.In h) (G : h.Ns mainGlobals mg)
    (a : PySem.W.nsIn K mainGlobals x = some (some (.ref f))) (l : K.lookup f = some ⟨oc, od, .func (PySem.W.fnOf x x (defArgs st) (defBody st) (defScope st) .none kV dc pm an cd ct), sl⟩) (c : PySem.W.codeIn K cd x = true) (k : PySem.W.keepIn K (.ref f) = true)
    (b : ∀ (kV doc pm : Value) (an : Option Addr) (cdv ct : Value) (us : List Value), us.length = ps.length → bindArgs (PySem.W.fnOf x x (defArgs st) (defBody st) (defScope st) .none kV doc pm an cdv ct) ⟨us, []⟩ = pure (ps.zip us)) :
    DefAt K mg x st ps f (PySem.W.fnOf x x (defArgs st) (defBody st) (defScope st) .none kV dc pm an cd ct) :=
  ⟨fun_mk l c k, PySem.W.mg_of X G a, (fun_mk l c k).binds b⟩
theorem meth_at {K : PySem.W.Frag} {x q : Str} {st : Stmt} {ps : List Str} {f : Addr} {od an : Option Addr} {sl : Array (Option Value)} {oc kV dc pm cd ct : Value}
    (l : K.lookup f = some ⟨oc, od, .func (PySem.W.fnOf x q (defArgs st) (defBody st) (defScope st) .none kV dc pm an cd ct), sl⟩) (c : PySem.W.codeIn K cd q = true) (k : PySem.W.keepIn K (.ref f) = true)
    (b : ∀ (kV doc pm : Value) (an : Option Addr) (cdv ct : Value) (us : List Value), us.length = ps.length → bindArgs (PySem.W.fnOf x q (defArgs st) (defBody st) (defScope st) .none kV doc pm an cdv ct) ⟨us, []⟩ = pure (ps.zip us)) :
    Fun K x q st f (PySem.W.fnOf x q (defArgs st) (defBody st) (defScope st) .none kV dc pm an cd ct) ∧ Binds K (PySem.W.fnOf x q (defArgs st) (defBody st) (defScope st) .none kV dc pm an cd ct) ps [] :=
  ⟨fun_mk l c k, (fun_mk l c k).binds b⟩
theorem vals_app : ∀ {vs : List V} {us : List Value} {zs : List V} {ws : List Value}, Vals vs us → Vals zs ws → Vals (vs ++ zs) (us ++ ws)
  | _, _, _, _, .nil, h => h
  | _, _, _, _, .cons a r, h => .cons a (vals_app r h)
theorem vals_rev : ∀ {zs : List V} {ws : List Value}, Vals zs ws → Vals zs.reverse ws.reverse
  | _, _, .nil => .nil
  | _, _, .cons a r => by
    rw [List.reverse_cons, List.reverse_cons]
    exact vals_app (vals_rev r) (.cons a .nil)
def tyTab (K : PySem.W.Frag) : Bool := ["NoneType", "bool", "int", "list", "tuple", "dict"].all fun T => PySem.W.kitOne K (.type T) (.type "str") == some false
theorem ty_tab {K : PySem.W.Frag} (h : tyTab K = true) : ∀ T ∈ tyNames, T ≠ "str" → PySem.W.kitOne K (.type T) (.type "str") = some false := fun T hT n => by
  refine eq_of_beq (List.all_eq_true.mp h T ?_)
  simp only [tyNames, List.mem_cons, List.not_mem_nil, or_false] at hT ⊢
  rcases hT with h | h | h | h | h | h | h <;> simp_all
def kitTab (K : PySem.W.Frag) : Bool := tyNames.all fun T => decide (PySem.W.kitOne K (.type T) (.type "int") = some (decide (T = "int" ∨ T = "bool"))) && decide (PySem.W.kitOne K (.type T) (.type "bool") = some (decide (T = "bool")))
theorem kit_tab {K : PySem.W.Frag} (h : kitTab K = true) : KitN K := by
  have all := fun T hT => List.all_eq_true.mp h T hT
  simp only [Bool.and_eq_true, decide_eq_true_eq] at all
  exact ⟨fun T hT => (all T hT).1, fun T hT => (all T hT).2⟩
theorem all_mk {P : Program} {w : World} {K : PySem.W.Frag} {h : Heap} {mg : Str → Option Value} {fa : Addr} {t_LEAST_THINGS t_MOST_THINGS t_MOST_ORDERS : Tok} {fJ : Addr} {odJ anJ : Option Addr} {slJ : Array (Option Value)} {ocJ kVJ dcJ pmJ cdJ ctJ : Value} {fW : Addr} {odW anW : Option Addr} {slW : Array (Option Value)} {ocW kVW dcW pmW cdW ctW : Value} {fR0 : Addr} {odR0 anR0 : Option Addr} {slR0 : Array (Option Value)} {ocR0 kVR0 dcR0 pmR0 cdR0 ctR0 : Value} {fG : Addr} {odG anG : Option Addr} {slG : Array (Option Value)} {ocG kVG dcG pmG cdG ctG : Value} {fSn : Addr} {odSn anSn : Option Addr} {slSn : Array (Option Value)} {ocSn kVSn dcSn pmSn cdSn ctSn : Value} {fBs : Addr} {odBs anBs : Option Addr} {slBs : Array (Option Value)} {ocBs kVBs dcBs pmBs cdBs ctBs : Value} {fRo : Addr} {odRo anRo : Option Addr} {slRo : Array (Option Value)} {ocRo kVRo dcRo pmRo cdRo ctRo : Value} {fCt : Addr} {odCt anCt : Option Addr} {slCt : Array (Option Value)} {ocCt kVCt dcCt pmCt cdCt ctCt : Value} {fFi : Addr} {odFi anFi : Option Addr} {slFi : Array (Option Value)} {ocFi kVFi dcFi pmFi cdFi ctFi : Value} {fOd : Addr} {odOd anOd : Option Addr} {slOd : Array (Option Value)} {ocOd kVOd dcOd pmOd cdOd ctOd : Value} {fPk : Addr} {odPk anPk : Option Addr} {slPk : Array (Option Value)} {ocPk kVPk dcPk pmPk cdPk ctPk : Value} {fL : Addr} {odL anL : Option Addr} {slL : Array (Option Value)} {ocL kVL dcL pmL cdL ctL : Value} {fA : Addr} {odA anA : Option Addr} {slA : Array (Option Value)} {ocA kVA dcA pmA cdA ctA : Value} {fD : Addr} {odD anD : Option Addr} {slD : Array (Option Value)} {ocD kVD dcD pmD cdD ctD : Value} {fS : Addr} {odS anS : Option Addr} {slS : Array (Option Value)} {ocS kVS dcS pmS cdS ctS : Value} {fH : Addr} {odH anH : Option Addr} {slH : Array (Option Value)} {ocH kVH dcH pmH cdH ctH : Value} {fI : Addr} {odI anI : Option Addr} {slI : Array (Option Value)} {ocI kVI dcI pmI cdI ctI : Value} {fTh : Addr} {odTh anTh : Option Addr} {slTh : Array (Option Value)} {ocTh kVTh dcTh pmTh cdTh ctTh : Value} {fR : Addr} {odR anR : Option Addr} {slR : Array (Option Value)} {ocR kVR dcR pmR cdR ctR : Value} {fK : Addr} {odK anK : Option Addr} {slK : Array (Option Value)} {ocK kVK dcK pmK cdK ctK : Value} {fKo : Addr} {odKo anKo : Option Addr} {slKo : Array (Option Value)} {ocKo kVKo dcKo pmKo cdKo ctKo : Value} {fIo : Addr} {odIo anIo : Option Addr} {slIo : Array (Option Value)} {ocIo kVIo dcIo pmIo cdIo ctIo : Value} {fM : Addr} {odM anM : Option Addr} {slM : Array (Option Value)} {ocM kVM dcM pmM cdM ctM : Value} {fN : Addr} {odN anN : Option Addr} {slN : Array (Option Value)} {ocN kVN dcN pmN cdN ctN : Value} {C : Addr} {Cr : Addr} {eV : Addr} {eN : Addr} {eP : Addr} {fmN : Addr} {odmN anmN : Option Addr} {slmN : Array (Option Value)} {ocmN kVmN dcmN pmmN cdmN ctmN : Value} {fmT : Addr} {odmT anmT : Option Addr} {slmT : Array (Option Value)} {ocmT kVmT dcmT pmmT cdmT ctmT : Value} {pr_mT : Addr} {remT : List Value} {fmO : Addr} {odmO anmO : Option Addr} {slmO : Array (Option Value)} {ocmO kVmO dcmO pmmO cdmO ctmO : Value} {pr_mO : Addr} {remO : List Value} {fmL : Addr} {odmL anmL : Option Addr} {slmL : Array (Option Value)} {ocmL kVmL dcmL pmmL cdmL ctmL : Value} {fmC : Addr} {odmC anmC : Option Addr} {slmC : Array (Option Value)} {ocmC kVmC dcmC pmmC cdmC ctmC : Value} {fmE : Addr} {odmE anmE : Option Addr} {slmE : Array (Option Value)} {ocmE kVmE dcmE pmmE cdmE ctmE : Value} {fcI : Addr} {odcI ancI : Option Addr} {slcI : Array (Option Value)} {occI kVcI dccI pmcI cdcI ctcI : Value} {fcE : Addr} {odcE ancE : Option Addr} {slcE : Array (Option Value)} {occE kVcE dccE pmcE cdcE ctcE : Value} {fcJ : Addr} {odcJ ancJ : Option Addr} {slcJ : Array (Option Value)} {occJ kVcJ dccJ pmcJ cdcJ ctcJ : Value} {fcN : Addr} {odcN ancN : Option Addr} {slcN : Array (Option Value)} {occN kVcN dccN pmcN cdcN ctcN : Value} {pr_cN : Addr} {recN : List Value} {fcR : Addr} {odcR ancR : Option Addr} {slcR : Array (Option Value)} {occR kVcR dccR pmcR cdcR ctcR : Value} {pr_cR : Addr} {recR : List Value} {eI : Addr} {eU : Addr} {eQ : Addr} {cR PR : Addr} (X : K.In h) (G : h.Ns mainGlobals mg) (hfa : mg "law" = some (.ref fa))
    (n_int : PySem.W.nsIn K mainGlobals "int" = some none)
    (n_len : PySem.W.nsIn K mainGlobals "len" = some none)
    (n_abs : PySem.W.nsIn K mainGlobals "abs" = some none)
    (n_range : PySem.W.nsIn K mainGlobals "range" = some none)
    (n_repr : PySem.W.nsIn K mainGlobals "repr" = some none)
    (n_max : PySem.W.nsIn K mainGlobals "max" = some none)
    (n_min : PySem.W.nsIn K mainGlobals "min" = some none)
    (n_all : PySem.W.nsIn K mainGlobals "all" = some none)
    (n_list : PySem.W.nsIn K mainGlobals "list" = some none)
    (n_sorted : PySem.W.nsIn K mainGlobals "sorted" = some none)
    (n_set : PySem.W.nsIn K mainGlobals "set" = some none)
    (n_tuple : PySem.W.nsIn K mainGlobals "tuple" = some none)
    (n_str : PySem.W.nsIn K mainGlobals "str" = some none)
    (n_bool : PySem.W.nsIn K mainGlobals "bool" = some none)
    (n_isinstance : PySem.W.nsIn K mainGlobals "isinstance" = some none)
    (n_enumerate : PySem.W.nsIn K mainGlobals "enumerate" = some none)
    (n_super : PySem.W.nsIn K mainGlobals "super" = some none)
    (n_sum : PySem.W.nsIn K mainGlobals "sum" = some none)
    (n_ValueError : PySem.W.nsIn K mainGlobals "ValueError" = some none)
    (n_LookupError : PySem.W.nsIn K mainGlobals "LookupError" = some none)
    (n_ArithmeticError : PySem.W.nsIn K mainGlobals "ArithmeticError" = some none)
    (c_LEAST_THINGS : PySem.W.nsIn K mainGlobals "LEAST_THINGS" = some (some (.int 3 t_LEAST_THINGS)))
    (c_MOST_THINGS : PySem.W.nsIn K mainGlobals "MOST_THINGS" = some (some (.int 6 t_MOST_THINGS)))
    (c_MOST_ORDERS : PySem.W.nsIn K mainGlobals "MOST_ORDERS" = some (some (.int 48 t_MOST_ORDERS)))
    (aJ : PySem.W.nsIn K mainGlobals "_law_jar" = some (some (.ref fJ)))
    (lJ : K.lookup fJ = some ⟨ocJ, odJ, .func (PySem.W.fnOf "_law_jar" "_law_jar" (defArgs sJar) (defBody sJar) (defScope sJar) .none kVJ dcJ pmJ anJ cdJ ctJ), slJ⟩)
    (ccJ : PySem.W.codeIn K cdJ "_law_jar" = true)
    (kkJ : PySem.W.keepIn K (.ref fJ) = true)
    (aW : PySem.W.nsIn K mainGlobals "law" = some (some (.ref fW)))
    (lW : K.lookup fW = some ⟨ocW, odW, .func (PySem.W.fnOf "law" "law" (defArgs sLaw) (defBody sLaw) (defScope sLaw) .none kVW dcW pmW anW cdW ctW), slW⟩)
    (ccW : PySem.W.codeIn K cdW "law" = true)
    (kkW : PySem.W.keepIn K (.ref fW) = true)
    (aR0 : PySem.W.nsIn K mainGlobals "_law_right" = some (some (.ref fR0)))
    (lR0 : K.lookup fR0 = some ⟨ocR0, odR0, .func (PySem.W.fnOf "_law_right" "_law_right" (defArgs sRgt) (defBody sRgt) (defScope sRgt) .none kVR0 dcR0 pmR0 anR0 cdR0 ctR0), slR0⟩)
    (ccR0 : PySem.W.codeIn K cdR0 "_law_right" = true)
    (kkR0 : PySem.W.keepIn K (.ref fR0) = true)
    (aG : PySem.W.nsIn K mainGlobals "_law_caught" = some (some (.ref fG)))
    (lG : K.lookup fG = some ⟨ocG, odG, .func (PySem.W.fnOf "_law_caught" "_law_caught" (defArgs sCau) (defBody sCau) (defScope sCau) .none kVG dcG pmG anG cdG ctG), slG⟩)
    (ccG : PySem.W.codeIn K cdG "_law_caught" = true)
    (kkG : PySem.W.keepIn K (.ref fG) = true)
    (aSn : PySem.W.nsIn K mainGlobals "_law_shown" = some (some (.ref fSn)))
    (lSn : K.lookup fSn = some ⟨ocSn, odSn, .func (PySem.W.fnOf "_law_shown" "_law_shown" (defArgs sShn) (defBody sShn) (defScope sShn) .none kVSn dcSn pmSn anSn cdSn ctSn), slSn⟩)
    (ccSn : PySem.W.codeIn K cdSn "_law_shown" = true)
    (kkSn : PySem.W.keepIn K (.ref fSn) = true)
    (aBs : PySem.W.nsIn K mainGlobals "_law_bases" = some (some (.ref fBs)))
    (lBs : K.lookup fBs = some ⟨ocBs, odBs, .func (PySem.W.fnOf "_law_bases" "_law_bases" (defArgs sBas) (defBody sBas) (defScope sBas) .none kVBs dcBs pmBs anBs cdBs ctBs), slBs⟩)
    (ccBs : PySem.W.codeIn K cdBs "_law_bases" = true)
    (kkBs : PySem.W.keepIn K (.ref fBs) = true)
    (aRo : PySem.W.nsIn K mainGlobals "_law_roster" = some (some (.ref fRo)))
    (lRo : K.lookup fRo = some ⟨ocRo, odRo, .func (PySem.W.fnOf "_law_roster" "_law_roster" (defArgs sRos) (defBody sRos) (defScope sRos) .none kVRo dcRo pmRo anRo cdRo ctRo), slRo⟩)
    (ccRo : PySem.W.codeIn K cdRo "_law_roster" = true)
    (kkRo : PySem.W.keepIn K (.ref fRo) = true)
    (aCt : PySem.W.nsIn K mainGlobals "_law_counts" = some (some (.ref fCt)))
    (lCt : K.lookup fCt = some ⟨ocCt, odCt, .func (PySem.W.fnOf "_law_counts" "_law_counts" (defArgs sCnt) (defBody sCnt) (defScope sCnt) .none kVCt dcCt pmCt anCt cdCt ctCt), slCt⟩)
    (ccCt : PySem.W.codeIn K cdCt "_law_counts" = true)
    (kkCt : PySem.W.keepIn K (.ref fCt) = true)
    (aFi : PySem.W.nsIn K mainGlobals "_law_fits" = some (some (.ref fFi)))
    (lFi : K.lookup fFi = some ⟨ocFi, odFi, .func (PySem.W.fnOf "_law_fits" "_law_fits" (defArgs sFit) (defBody sFit) (defScope sFit) .none kVFi dcFi pmFi anFi cdFi ctFi), slFi⟩)
    (ccFi : PySem.W.codeIn K cdFi "_law_fits" = true)
    (kkFi : PySem.W.keepIn K (.ref fFi) = true)
    (aOd : PySem.W.nsIn K mainGlobals "_law_odd" = some (some (.ref fOd)))
    (lOd : K.lookup fOd = some ⟨ocOd, odOd, .func (PySem.W.fnOf "_law_odd" "_law_odd" (defArgs sOdd) (defBody sOdd) (defScope sOdd) .none kVOd dcOd pmOd anOd cdOd ctOd), slOd⟩)
    (ccOd : PySem.W.codeIn K cdOd "_law_odd" = true)
    (kkOd : PySem.W.keepIn K (.ref fOd) = true)
    (aPk : PySem.W.nsIn K mainGlobals "_law_pick" = some (some (.ref fPk)))
    (lPk : K.lookup fPk = some ⟨ocPk, odPk, .func (PySem.W.fnOf "_law_pick" "_law_pick" (defArgs sPick) (defBody sPick) (defScope sPick) .none kVPk dcPk pmPk anPk cdPk ctPk), slPk⟩)
    (ccPk : PySem.W.codeIn K cdPk "_law_pick" = true)
    (kkPk : PySem.W.keepIn K (.ref fPk) = true)
    (aL : PySem.W.nsIn K mainGlobals "_law_lot_of" = some (some (.ref fL)))
    (lL : K.lookup fL = some ⟨ocL, odL, .func (PySem.W.fnOf "_law_lot_of" "_law_lot_of" (defArgs sLot) (defBody sLot) (defScope sLot) .none kVL dcL pmL anL cdL ctL), slL⟩)
    (ccL : PySem.W.codeIn K cdL "_law_lot_of" = true)
    (kkL : PySem.W.keepIn K (.ref fL) = true)
    (aA : PySem.W.nsIn K mainGlobals "_law_letters" = some (some (.ref fA)))
    (lA : K.lookup fA = some ⟨ocA, odA, .func (PySem.W.fnOf "_law_letters" "_law_letters" (defArgs sLett) (defBody sLett) (defScope sLett) .none kVA dcA pmA anA cdA ctA), slA⟩)
    (ccA : PySem.W.codeIn K cdA "_law_letters" = true)
    (kkA : PySem.W.keepIn K (.ref fA) = true)
    (aD : PySem.W.nsIn K mainGlobals "_law_dip" = some (some (.ref fD)))
    (lD : K.lookup fD = some ⟨ocD, odD, .func (PySem.W.fnOf "_law_dip" "_law_dip" (defArgs sDip) (defBody sDip) (defScope sDip) .none kVD dcD pmD anD cdD ctD), slD⟩)
    (ccD : PySem.W.codeIn K cdD "_law_dip" = true)
    (kkD : PySem.W.keepIn K (.ref fD) = true)
    (aS : PySem.W.nsIn K mainGlobals "_law_shuffled" = some (some (.ref fS)))
    (lS : K.lookup fS = some ⟨ocS, odS, .func (PySem.W.fnOf "_law_shuffled" "_law_shuffled" (defArgs sShuf) (defBody sShuf) (defScope sShuf) .none kVS dcS pmS anS cdS ctS), slS⟩)
    (ccS : PySem.W.codeIn K cdS "_law_shuffled" = true)
    (kkS : PySem.W.keepIn K (.ref fS) = true)
    (aH : PySem.W.nsIn K mainGlobals "_law_hill" = some (some (.ref fH)))
    (lH : K.lookup fH = some ⟨ocH, odH, .func (PySem.W.fnOf "_law_hill" "_law_hill" (defArgs sHill) (defBody sHill) (defScope sHill) .none kVH dcH pmH anH cdH ctH), slH⟩)
    (ccH : PySem.W.codeIn K cdH "_law_hill" = true)
    (kkH : PySem.W.keepIn K (.ref fH) = true)
    (aI : PySem.W.nsIn K mainGlobals "is_order" = some (some (.ref fI)))
    (lI : K.lookup fI = some ⟨ocI, odI, .func (PySem.W.fnOf "is_order" "is_order" (defArgs sIsO) (defBody sIsO) (defScope sIsO) .none kVI dcI pmI anI cdI ctI), slI⟩)
    (ccI : PySem.W.codeIn K cdI "is_order" = true)
    (kkI : PySem.W.keepIn K (.ref fI) = true)
    (aTh : PySem.W.nsIn K mainGlobals "things_of" = some (some (.ref fTh)))
    (lTh : K.lookup fTh = some ⟨ocTh, odTh, .func (PySem.W.fnOf "things_of" "things_of" (defArgs sThO) (defBody sThO) (defScope sThO) .none kVTh dcTh pmTh anTh cdTh ctTh), slTh⟩)
    (ccTh : PySem.W.codeIn K cdTh "things_of" = true)
    (kkTh : PySem.W.keepIn K (.ref fTh) = true)
    (aR : PySem.W.nsIn K mainGlobals "right_ahead" = some (some (.ref fR)))
    (lR : K.lookup fR = some ⟨ocR, odR, .func (PySem.W.fnOf "right_ahead" "right_ahead" (defArgs sRah) (defBody sRah) (defScope sRah) .none kVR dcR pmR anR cdR ctR), slR⟩)
    (ccR : PySem.W.codeIn K cdR "right_ahead" = true)
    (kkR : PySem.W.keepIn K (.ref fR) = true)
    (aK : PySem.W.nsIn K mainGlobals "check_roll" = some (some (.ref fK)))
    (lK : K.lookup fK = some ⟨ocK, odK, .func (PySem.W.fnOf "check_roll" "check_roll" (defArgs sChk) (defBody sChk) (defScope sChk) .none kVK dcK pmK anK cdK ctK), slK⟩)
    (ccK : PySem.W.codeIn K cdK "check_roll" = true)
    (kkK : PySem.W.keepIn K (.ref fK) = true)
    (aKo : PySem.W.nsIn K mainGlobals "check_order_in" = some (some (.ref fKo)))
    (lKo : K.lookup fKo = some ⟨ocKo, odKo, .func (PySem.W.fnOf "check_order_in" "check_order_in" (defArgs sCki) (defBody sCki) (defScope sCki) .none kVKo dcKo pmKo anKo cdKo ctKo), slKo⟩)
    (ccKo : PySem.W.codeIn K cdKo "check_order_in" = true)
    (kkKo : PySem.W.keepIn K (.ref fKo) = true)
    (aIo : PySem.W.nsIn K mainGlobals "is_order_of" = some (some (.ref fIo)))
    (lIo : K.lookup fIo = some ⟨ocIo, odIo, .func (PySem.W.fnOf "is_order_of" "is_order_of" (defArgs sIoo) (defBody sIoo) (defScope sIoo) .none kVIo dcIo pmIo anIo cdIo ctIo), slIo⟩)
    (ccIo : PySem.W.codeIn K cdIo "is_order_of" = true)
    (kkIo : PySem.W.keepIn K (.ref fIo) = true)
    (aM : PySem.W.nsIn K mainGlobals "right_numbers" = some (some (.ref fM)))
    (lM : K.lookup fM = some ⟨ocM, odM, .func (PySem.W.fnOf "right_numbers" "right_numbers" (defArgs sRnu) (defBody sRnu) (defScope sRnu) .none kVM dcM pmM anM cdM ctM), slM⟩)
    (ccM : PySem.W.codeIn K cdM "right_numbers" = true)
    (kkM : PySem.W.keepIn K (.ref fM) = true)
    (aN : PySem.W.nsIn K mainGlobals "is_number" = some (some (.ref fN)))
    (lN : K.lookup fN = some ⟨ocN, odN, .func (PySem.W.fnOf "is_number" "is_number" (defArgs sNum) (defBody sNum) (defScope sNum) .none kVN dcN pmN anN cdN ctN), slN⟩)
    (ccN : PySem.W.codeIn K cdN "is_number" = true)
    (kkN : PySem.W.keepIn K (.ref fN) = true)
    (gC : PySem.W.nsIn K mainGlobals "Roll" = some (some (.ref C)))
    (gCr : PySem.W.nsIn K mainGlobals "Crowd" = some (some (.ref Cr)))
    (geV : PySem.W.nsIn K mainGlobals "WrongValue" = some (some (.ref eV)))
    (geN : PySem.W.nsIn K mainGlobals "WrongName" = some (some (.ref eN)))
    (geP : PySem.W.nsIn K mainGlobals "NotPossible" = some (some (.ref eP)))
    (omN : PySem.W.findIn K (.ref C) "__init__" = some (some (.ref fmN)))
    (ymN : PySem.W.typeIn K (.ref fmN) = some (.type "function"))
    (lmN : K.lookup fmN = some ⟨ocmN, odmN, .func (PySem.W.fnOf "__init__" "Roll.__init__" (defArgs sIni) (defBody sIni) (defScope sIni) .none kVmN dcmN pmmN anmN cdmN ctmN), slmN⟩)
    (ccmN : PySem.W.codeIn K cdmN "Roll.__init__" = true)
    (kkmN : PySem.W.keepIn K (.ref fmN) = true)
    (omT : PySem.W.findIn K (.ref C) "things" = some (some (.ref pr_mT)))
    (gmT : PySem.W.specialIn K (.ref pr_mT) "__get__" = some (some (.builtin "property.__get__")))
    (tmT : PySem.W.takesIn K (.ref pr_mT) = some true)
    (rmT : PySem.W.recIn K pr_mT "property" = some (.ref fmT :: remT))
    (lmT : K.lookup fmT = some ⟨ocmT, odmT, .func (PySem.W.fnOf "things" "Roll.things" (defArgs sThi) (defBody sThi) (defScope sThi) .none kVmT dcmT pmmT anmT cdmT ctmT), slmT⟩)
    (ccmT : PySem.W.codeIn K cdmT "Roll.things" = true)
    (kkmT : PySem.W.keepIn K (.ref fmT) = true)
    (omO : PySem.W.findIn K (.ref C) "orders" = some (some (.ref pr_mO)))
    (gmO : PySem.W.specialIn K (.ref pr_mO) "__get__" = some (some (.builtin "property.__get__")))
    (tmO : PySem.W.takesIn K (.ref pr_mO) = some true)
    (rmO : PySem.W.recIn K pr_mO "property" = some (.ref fmO :: remO))
    (lmO : K.lookup fmO = some ⟨ocmO, odmO, .func (PySem.W.fnOf "orders" "Roll.orders" (defArgs sOrd) (defBody sOrd) (defScope sOrd) .none kVmO dcmO pmmO anmO cdmO ctmO), slmO⟩)
    (ccmO : PySem.W.codeIn K cdmO "Roll.orders" = true)
    (kkmO : PySem.W.keepIn K (.ref fmO) = true)
    (omL : PySem.W.findIn K (.ref C) "__len__" = some (some (.ref fmL)))
    (ymL : PySem.W.typeIn K (.ref fmL) = some (.type "function"))
    (lmL : K.lookup fmL = some ⟨ocmL, odmL, .func (PySem.W.fnOf "__len__" "Roll.__len__" (defArgs sLen) (defBody sLen) (defScope sLen) .none kVmL dcmL pmmL anmL cdmL ctmL), slmL⟩)
    (ccmL : PySem.W.codeIn K cdmL "Roll.__len__" = true)
    (kkmL : PySem.W.keepIn K (.ref fmL) = true)
    (omC : PySem.W.findIn K (.ref C) "__contains__" = some (some (.ref fmC)))
    (ymC : PySem.W.typeIn K (.ref fmC) = some (.type "function"))
    (lmC : K.lookup fmC = some ⟨ocmC, odmC, .func (PySem.W.fnOf "__contains__" "Roll.__contains__" (defArgs sCon) (defBody sCon) (defScope sCon) .none kVmC dcmC pmmC anmC cdmC ctmC), slmC⟩)
    (ccmC : PySem.W.codeIn K cdmC "Roll.__contains__" = true)
    (kkmC : PySem.W.keepIn K (.ref fmC) = true)
    (omE : PySem.W.findIn K (.ref C) "__eq__" = some (some (.ref fmE)))
    (ymE : PySem.W.typeIn K (.ref fmE) = some (.type "function"))
    (lmE : K.lookup fmE = some ⟨ocmE, odmE, .func (PySem.W.fnOf "__eq__" "Roll.__eq__" (defArgs sEqu) (defBody sEqu) (defScope sEqu) .none kVmE dcmE pmmE anmE cdmE ctmE), slmE⟩)
    (ccmE : PySem.W.codeIn K cdmE "Roll.__eq__" = true)
    (kkmE : PySem.W.keepIn K (.ref fmE) = true)
    (ocI : PySem.W.findIn K (.ref Cr) "__init__" = some (some (.ref fcI)))
    (ycI : PySem.W.typeIn K (.ref fcI) = some (.type "function"))
    (lcI : K.lookup fcI = some ⟨occI, odcI, .func (PySem.W.fnOf "__init__" "Crowd.__init__" (defArgs sCIn) (defBody sCIn) (defScope sCIn) .none kVcI dccI pmcI ancI cdcI ctcI), slcI⟩)
    (cccI : PySem.W.codeIn K cdcI "Crowd.__init__" = true)
    (kkcI : PySem.W.keepIn K (.ref fcI) = true)
    (ocE : PySem.W.findIn K (.ref Cr) "__eq__" = some (some (.ref fcE)))
    (ycE : PySem.W.typeIn K (.ref fcE) = some (.type "function"))
    (lcE : K.lookup fcE = some ⟨occE, odcE, .func (PySem.W.fnOf "__eq__" "Crowd.__eq__" (defArgs sCEq) (defBody sCEq) (defScope sCEq) .none kVcE dccE pmcE ancE cdcE ctcE), slcE⟩)
    (cccE : PySem.W.codeIn K cdcE "Crowd.__eq__" = true)
    (kkcE : PySem.W.keepIn K (.ref fcE) = true)
    (ocJ : PySem.W.findIn K (.ref Cr) "joined" = some (some (.ref fcJ)))
    (ycJ : PySem.W.typeIn K (.ref fcJ) = some (.type "function"))
    (lcJ : K.lookup fcJ = some ⟨occJ, odcJ, .func (PySem.W.fnOf "joined" "Crowd.joined" (defArgs sJnd) (defBody sJnd) (defScope sJnd) .none kVcJ dccJ pmcJ ancJ cdcJ ctcJ), slcJ⟩)
    (cccJ : PySem.W.codeIn K cdcJ "Crowd.joined" = true)
    (kkcJ : PySem.W.keepIn K (.ref fcJ) = true)
    (ocN : PySem.W.findIn K (.ref Cr) "numbers" = some (some (.ref pr_cN)))
    (gcN : PySem.W.specialIn K (.ref pr_cN) "__get__" = some (some (.builtin "property.__get__")))
    (tcN : PySem.W.takesIn K (.ref pr_cN) = some true)
    (rcN : PySem.W.recIn K pr_cN "property" = some (.ref fcN :: recN))
    (lcN : K.lookup fcN = some ⟨occN, odcN, .func (PySem.W.fnOf "numbers" "Crowd.numbers" (defArgs sCNu) (defBody sCNu) (defScope sCNu) .none kVcN dccN pmcN ancN cdcN ctcN), slcN⟩)
    (cccN : PySem.W.codeIn K cdcN "Crowd.numbers" = true)
    (kkcN : PySem.W.keepIn K (.ref fcN) = true)
    (ocR : PySem.W.findIn K (.ref Cr) "roll" = some (some (.ref pr_cR)))
    (gcR : PySem.W.specialIn K (.ref pr_cR) "__get__" = some (some (.builtin "property.__get__")))
    (tcR : PySem.W.takesIn K (.ref pr_cR) = some true)
    (rcR : PySem.W.recIn K pr_cR "property" = some (.ref fcR :: recR))
    (lcR : K.lookup fcR = some ⟨occR, odcR, .func (PySem.W.fnOf "roll" "Crowd.roll" (defArgs sCRo) (defBody sCRo) (defScope sCRo) .none kVcR dccR pmcR ancR cdcR ctcR), slcR⟩)
    (cccR : PySem.W.codeIn K cdcR "Crowd.roll" = true)
    (kkcR : PySem.W.keepIn K (.ref fcR) = true)
    (gI : PySem.W.nsIn K mainGlobals "InvalidOrder" = some (some (.ref eI)))
    (zI : ErrI P K eI "given" "given" ∧ ErrQ K eI ∧ PySem.W.findIn K (.ref eI) "given" = some none)
    (gU : PySem.W.nsIn K mainGlobals "UnknownOrder" = some (some (.ref eU)))
    (zU : ErrI P K eU "given" "given" ∧ ErrQ K eU ∧ PySem.W.findIn K (.ref eU) "given" = some none)
    (gQ : PySem.W.nsIn K mainGlobals "InvalidNumber" = some (some (.ref eQ)))
    (zQ : ErrI P K eQ "given" "given" ∧ ErrQ K eQ ∧ PySem.W.findIn K (.ref eQ) "given" = some none)
    (mkm : PySem.W.makesIn K C = true)
    (mkk : PySem.W.keepIn K (.ref C) = true)
    (cpg : PySem.W.plainGet K C Str.empty = true)
    (chd : PySem.W.hasDictIn K C = true)
    (cpo : PySem.W.plainOver K C = true)
    (csa : PySem.W.findIn K (.ref C) "__setattr__" = some (some (.builtin "object.__setattr__")))
    (no1 : PySem.W.findIn K (.ref C) "_orders" = some none)
    (no2 : PySem.W.findIn K (.ref C) "_things" = some none)
    (dcl : PySem.W.findIn K (.ref C) "__class__" = some (some (.builtin "object.__class__")))
    (dget : PySem.W.specialIn K (.builtin "object.__class__") "__get__" = some (some (.builtin "getset_descriptor.__get__")))
    (dtk : PySem.W.takesIn K (.builtin "object.__class__") = some true)
    (mobj : PySem.W.mroIn K C (.type "object") = some true)
    (dkm : PySem.W.makesIn K Cr = true)
    (dkk : PySem.W.keepIn K (.ref Cr) = true)
    (dpg : PySem.W.plainGet K Cr Str.empty = true)
    (dhd : PySem.W.hasDictIn K Cr = true)
    (dpo : PySem.W.plainOver K Cr = true)
    (dsa : PySem.W.findIn K (.ref Cr) "__setattr__" = some (some (.builtin "object.__setattr__")))
    (dn1 : PySem.W.findIn K (.ref Cr) "_roll" = some none)
    (dn2 : PySem.W.findIn K (.ref Cr) "_numbers" = some none)
    (dn3 : PySem.W.findIn K (.ref Cr) "_people" = some none)
    (ddcl : PySem.W.findIn K (.ref Cr) "__class__" = some (some (.builtin "object.__class__")))
    (dmobj : PySem.W.mroIn K Cr (.type "object") = some true)
    (hneRf : PySem.W.findIn K (.ref C) "__ne__" = some (some (.builtin "object.__ne__")))
    (hneC : PySem.W.findIn K (.ref Cr) "__ne__" = some (some (.builtin "object.__ne__")))
    (fncJ : PySem.W.isFn K (.ref fcJ) = true)
    (kbI : kinB K eI [eV, eN, eP] 0 = true)
    (ksI : kinB K eI [eI, eU, eQ] 0 = true)
    (ktI : PySem.W.kitOne K (.ref eI) (.type "ValueError") = some true)
    (kxI : PySem.W.exmAny K (.ref eI) [.ref eV, .ref eN, .ref eP] = some true)
    (kbU : kinB K eU [eV, eN, eP] 1 = true)
    (ksU : kinB K eU [eI, eU, eQ] 1 = true)
    (ktU : PySem.W.kitOne K (.ref eU) (.type "LookupError") = some true)
    (kxU : PySem.W.exmAny K (.ref eU) [.ref eV, .ref eN, .ref eP] = some true)
    (kbQ : kinB K eQ [eV, eN, eP] 0 = true)
    (ksQ : kinB K eQ [eI, eU, eQ] 2 = true)
    (ktQ : PySem.W.kitOne K (.ref eQ) (.type "ValueError") = some true)
    (kxQ : PySem.W.exmAny K (.ref eQ) [.ref eV, .ref eN, .ref eP] = some true)
    (ktab : tyTab K = true)
    (kitb : kitTab K = true)
    (kst : PySem.W.kitOne K (.type "str") (.type "str") = some true)
    (hcR : cdR0 = .ref cR) :
    ∃ fd : FuncData, (∀ (s : Shared) (u : Value), BindsTo s fd ⟨[u], []⟩ [("_law_script", u)]) ∧ ∀ base : Heap, K.In base → base.Ns mainGlobals mg → (∀ p ∈ [(cR, PR)], LamX.TabB base mg p.1 p.2) → FnOkG P w K mg base CX0 9 fa fd ["_law_script"] (spLaw K PR) := by
  have e := hfa.symm.trans (PySem.W.mg_of X G aW)
  cases e
  have DJ := def_at (st := sJar) (ps := ["_law_script", "_law_k"]) X G aJ lJ ccJ kkJ fun _ _ _ _ _ _ us hl => match us, hl with | [_, _], _ => rfl
  have DW := def_at (st := sLaw) (ps := ["_law_script"]) X G aW lW ccW kkW fun _ _ _ _ _ _ us hl => match us, hl with | [_], _ => rfl
  have DR0 := def_at (st := sRgt) (ps := ["_law_jar_here"]) X G aR0 lR0 ccR0 kkR0 fun _ _ _ _ _ _ us hl => match us, hl with | [_], _ => rfl
  have DG := def_at (st := sCau) (ps := ["_law_act"]) X G aG lG ccG kkG fun _ _ _ _ _ _ us hl => match us, hl with | [_], _ => rfl
  have DSn := def_at (st := sShn) (ps := ["_law_e"]) X G aSn lSn ccSn kkSn fun _ _ _ _ _ _ us hl => match us, hl with | [_], _ => rfl
  have DBs := def_at (st := sBas) (ps := ["_law_e"]) X G aBs lBs ccBs kkBs fun _ _ _ _ _ _ us hl => match us, hl with | [_], _ => rfl
  have DRo := def_at (st := sRos) (ps := ["_law_jar_here", "_law_size", "_law_many"]) X G aRo lRo ccRo kkRo fun _ _ _ _ _ _ us hl => match us, hl with | [_, _, _], _ => rfl
  have DCt := def_at (st := sCnt) (ps := ["_law_jar_here", "_law_lot"]) X G aCt lCt ccCt kkCt fun _ _ _ _ _ _ us hl => match us, hl with | [_, _], _ => rfl
  have DFi := def_at (st := sFit) (ps := ["_law_told", "_law_dues"]) X G aFi lFi ccFi kkFi fun _ _ _ _ _ _ us hl => match us, hl with | [_, _], _ => rfl
  have DOd := def_at (st := sOdd) (ps := ["_law_jar_here"]) X G aOd lOd ccOd kkOd fun _ _ _ _ _ _ us hl => match us, hl with | [_], _ => rfl
  have DPk := def_at (st := sPick) (ps := ["_law_jar_here", "_law_menu"]) X G aPk lPk ccPk kkPk fun _ _ _ _ _ _ us hl => match us, hl with | [_, _], _ => rfl
  have DL := def_at (st := sLot) (ps := ["_law_jar_here", "_law_things_here", "_law_many"]) X G aL lL ccL kkL fun _ _ _ _ _ _ us hl => match us, hl with | [_, _, _], _ => rfl
  have DA := def_at (st := sLett) (ps := ["_law_jar_here", "_law_many"]) X G aA lA ccA kkA fun _ _ _ _ _ _ us hl => match us, hl with | [_, _], _ => rfl
  have DD := def_at (st := sDip) (ps := ["_law_jar_here", "_law_wide"]) X G aD lD ccD kkD fun _ _ _ _ _ _ us hl => match us, hl with | [_, _], _ => rfl
  have DS := def_at (st := sShuf) (ps := ["_law_jar_here", "_law_things_here"]) X G aS lS ccS kkS fun _ _ _ _ _ _ us hl => match us, hl with | [_, _], _ => rfl
  have DH := def_at (st := sHill) (ps := ["_law_jar_here", "_law_line_here"]) X G aH lH ccH kkH fun _ _ _ _ _ _ us hl => match us, hl with | [_, _], _ => rfl
  have DI := def_at (st := sIsO) (ps := ["value"]) X G aI lI ccI kkI fun _ _ _ _ _ _ us hl => match us, hl with | [_], _ => rfl
  have DTh := def_at (st := sThO) (ps := ["order"]) X G aTh lTh ccTh kkTh fun _ _ _ _ _ _ us hl => match us, hl with | [_], _ => rfl
  have DR := def_at (st := sRah) (ps := ["orders"]) X G aR lR ccR kkR fun _ _ _ _ _ _ us hl => match us, hl with | [_], _ => rfl
  have DK := def_at (st := sChk) (ps := ["roll"]) X G aK lK ccK kkK fun _ _ _ _ _ _ us hl => match us, hl with | [_], _ => rfl
  have DKo := def_at (st := sCki) (ps := ["roll", "order"]) X G aKo lKo ccKo kkKo fun _ _ _ _ _ _ us hl => match us, hl with | [_, _], _ => rfl
  have DIo := def_at (st := sIoo) (ps := ["things", "value"]) X G aIo lIo ccIo kkIo fun _ _ _ _ _ _ us hl => match us, hl with | [_, _], _ => rfl
  have DM := def_at (st := sRnu) (ps := ["numbers", "many"]) X G aM lM ccM kkM fun _ _ _ _ _ _ us hl => match us, hl with | [_, _], _ => rfl
  have DN := def_at (st := sNum) (ps := ["value"]) X G aN lN ccN kkN fun _ _ _ _ _ _ us hl => match us, hl with | [_], _ => rfl
  have MmN := meth_at (st := sIni) (ps := ["self", "orders"]) lmN ccmN kkmN fun _ _ _ _ _ _ us hl => match us, hl with | [_, _], _ => rfl
  have MmT := meth_at (st := sThi) (ps := ["self"]) lmT ccmT kkmT fun _ _ _ _ _ _ us hl => match us, hl with | [_], _ => rfl
  have MmO := meth_at (st := sOrd) (ps := ["self"]) lmO ccmO kkmO fun _ _ _ _ _ _ us hl => match us, hl with | [_], _ => rfl
  have MmL := meth_at (st := sLen) (ps := ["self"]) lmL ccmL kkmL fun _ _ _ _ _ _ us hl => match us, hl with | [_], _ => rfl
  have MmC := meth_at (st := sCon) (ps := ["self", "x"]) lmC ccmC kkmC fun _ _ _ _ _ _ us hl => match us, hl with | [_, _], _ => rfl
  have MmE := meth_at (st := sEqu) (ps := ["self", "other"]) lmE ccmE kkmE fun _ _ _ _ _ _ us hl => match us, hl with | [_, _], _ => rfl
  have McI := meth_at (st := sCIn) (ps := ["self", "roll", "numbers"]) lcI cccI kkcI fun _ _ _ _ _ _ us hl => match us, hl with | [_, _, _], _ => rfl
  have McE := meth_at (st := sCEq) (ps := ["self", "other"]) lcE cccE kkcE fun _ _ _ _ _ _ us hl => match us, hl with | [_, _], _ => rfl
  have McJ := meth_at (st := sJnd) (ps := ["self", "order", "many"]) lcJ cccJ kkcJ fun _ _ _ _ _ _ us hl => match us, hl with | [_, _, _], _ => rfl
  have McN := meth_at (st := sCNu) (ps := ["self"]) lcN cccN kkcN fun _ _ _ _ _ _ us hl => match us, hl with | [_], _ => rfl
  have McR := meth_at (st := sCRo) (ps := ["self"]) lcR cccR kkcR fun _ _ _ _ _ _ us hl => match us, hl with | [_], _ => rfl
  have T : Txt mg := ⟨PySem.W.mg_none_of X G n_int, PySem.W.mg_none_of X G n_len, PySem.W.mg_none_of X G n_abs, PySem.W.mg_none_of X G n_range, PySem.W.mg_none_of X G n_repr, PySem.W.mg_none_of X G n_max, PySem.W.mg_none_of X G n_min, PySem.W.mg_none_of X G n_all, PySem.W.mg_none_of X G n_list, PySem.W.mg_none_of X G n_sorted, PySem.W.mg_none_of X G n_set, PySem.W.mg_none_of X G n_tuple, PySem.W.mg_none_of X G n_str, PySem.W.mg_none_of X G n_bool, PySem.W.mg_none_of X G n_isinstance, PySem.W.mg_none_of X G n_enumerate, PySem.W.mg_none_of X G n_super⟩
  have Lm : Lims mg := ⟨⟨_, PySem.W.mg_of X G c_LEAST_THINGS⟩, ⟨_, PySem.W.mg_of X G c_MOST_THINGS⟩, ⟨_, PySem.W.mg_of X G c_MOST_ORDERS⟩⟩
  have R : RollC K mg C := ⟨PySem.W.mg_of X G gC, ⟨cpg, chd, cpo, csa⟩, no1, no2, dcl, dget, dtk, mobj⟩
  have MK : Mk K C fmN := ⟨mkm, omN, beq_iff_eq.mpr ymN, mkk⟩
  have RCr : CrC K mg Cr := ⟨PySem.W.mg_of X G gCr, ⟨dpg, dhd, dpo, dsa⟩, dn1, dn2, dn3, ddcl, dget, dtk, dmobj⟩
  have MKc : Mk K Cr fcI := ⟨dkm, ocI, beq_iff_eq.mpr ycI, dkk⟩
  exact ⟨_, fun s u => .of_eq rfl, fun base _ _ tb => ok_law DW DJ DR0 (hcR) (tb (cR, PR) List.mem_cons_self) DG DSn DBs DRo DCt DFi DOd DPk DL DA DD DS DH DI DTh DR DK DKo DIo DM DN (MmN.1) (MmN.2) MK (MmL.1) (MmL.2) (⟨omL, ymL⟩) (MmE.1) (⟨omE, ymE⟩) (MmE.2) (⟨omC, ymC⟩) (MmC.1) (MmC.2) (⟨omT, gmT, tmT, ⟨_, rmT⟩⟩) (MmT.1) (MmT.2) (⟨omO, gmO, tmO, ⟨_, rmO⟩⟩) (MmO.1) (MmO.2) (McI.1) (McI.2) MKc (McE.1) (McE.2) (⟨ocE, ycE⟩) (McJ.1) (⟨ocJ, fncJ, kkcJ⟩) (McJ.2) (⟨fun s u ws h => match ws, h with | [_, _], _ => .of_eq rfl, fun _ h => vals_rev h⟩) (⟨ocN, gcN, tcN, ⟨_, rcN⟩⟩) (McN.1) (McN.2) (⟨ocR, gcR, tcR, ⟨_, rcR⟩⟩) (McR.1) (McR.2) (⟨PySem.W.mg_of X G gI, zI.1⟩) (⟨PySem.W.mg_of X G gU, zU.1⟩) (⟨PySem.W.mg_of X G gQ, zQ.1⟩) (⟨PySem.W.mg_of X G geV, PySem.W.mg_of X G geN, PySem.W.mg_of X G geP, PySem.W.mg_none_of X G n_ValueError, PySem.W.mg_none_of X G n_LookupError, PySem.W.mg_none_of X G n_ArithmeticError⟩) (⟨⟨zI.2.1, by decide, kbI, ktI⟩, by show 0 < 3; decide, ksI, zI.2.2⟩) (⟨⟨zU.2.1, by decide, kbU, ktU⟩, by show 1 < 3; decide, ksU, zU.2.2⟩) (⟨⟨zQ.2.1, by decide, kbQ, ktQ⟩, by show 2 < 3; decide, ksQ, zQ.2.2⟩) (kxI) (kxU) (kxQ) (ty_tab ktab) (kst) (kit_tab kitb) (hneRf) (hneC) (PySem.W.mg_none_of X G n_sum) T Lm R (RCr)⟩
end L2.Cal
end

open PySem PySem.W PyProof.Rows
theorem L2.Cal.kIn_ofM {K : Params → Frag} {as : List Addr} {e : ∀ (P : Params), as = List.map (fun x => x.fst) (K P)} {ts : List Addr} {w : World} {h : Heap} (Y : (kmHook K as e ts).says w h) : (K w.params).In h := kIn_of (as := as) (e := e) Y.1
set_option maxRecDepth 100000 in
set_option maxHeartbeats 0 in
theorem PySem.Challenge.cw_calmlists_k19_whole_people_that_come_and_holds : PySem.Challenge.rw_calmlists_k19_whole_people_that_come_and.Holds := by
  w_on; o_law; k_head; (case hw => w_witness2)
  k_fill
  refine L2.Cal.walkGT (l := PySem.Challenge.rw_calmlists_k19_whole_people_that_come_and) (n := 63) (k := 9) (x := "_law_script") (CX := fun _ => L2.CX0) (sp := fun w => L2.Cal.spLaw _ 625) [(629, 625)] rfl (by decide) rfl ⟨rfl, by decide, by decide⟩ (fun w h Y => ⟨PySem.W.km_in_of Y, PySem.W.km_tabs_of Y⟩) (fun p hp => by rw [List.mem_singleton.mp hp]; first | exact List.mem_cons_self | exact List.mem_cons_of_mem _ List.mem_cons_self) (fun w p hp => by rw [List.mem_singleton.mp hp]; kernel_rfl) (fun w p hp => by rw [List.mem_singleton.mp hp]; kernel_rfl) ?F (fun _ _ a ns hl hT hS => ⟨a, ns, rfl, hS, hl, fun p hp => by rw [List.mem_singleton.mp hp]; exact LamX.TabS.nil (hT _ List.mem_cons_self), fun _ => rfl⟩) (fun _ _ _ _ _ h => h)
  case F =>
    intro w mg fa h KX G hmg
    refine' L2.Cal.all_mk KX G hmg ?cm_n_int ?cm_n_len ?cm_n_abs ?cm_n_range ?cm_n_repr ?cm_n_max ?cm_n_min ?cm_n_all ?cm_n_list ?cm_n_sorted ?cm_n_set ?cm_n_tuple ?cm_n_str ?cm_n_bool ?cm_n_isinstance ?cm_n_enumerate ?cm_n_super ?cm_n_sum ?cm_n_ValueError ?cm_n_LookupError ?cm_n_ArithmeticError ?cm_c_LEAST_THINGS ?cm_c_MOST_THINGS ?cm_c_MOST_ORDERS ?cm_aJ ?cm_lJ ?cm_ccJ ?cm_kkJ ?cm_aW ?cm_lW ?cm_ccW ?cm_kkW ?cm_aR0 ?cm_lR0 ?cm_ccR0 ?cm_kkR0 ?cm_aG ?cm_lG ?cm_ccG ?cm_kkG ?cm_aSn ?cm_lSn ?cm_ccSn ?cm_kkSn ?cm_aBs ?cm_lBs ?cm_ccBs ?cm_kkBs ?cm_aRo ?cm_lRo ?cm_ccRo ?cm_kkRo ?cm_aCt ?cm_lCt ?cm_ccCt ?cm_kkCt ?cm_aFi ?cm_lFi ?cm_ccFi ?cm_kkFi ?cm_aOd ?cm_lOd ?cm_ccOd ?cm_kkOd ?cm_aPk ?cm_lPk ?cm_ccPk ?cm_kkPk ?cm_aL ?cm_lL ?cm_ccL ?cm_kkL ?cm_aA ?cm_lA ?cm_ccA ?cm_kkA ?cm_aD ?cm_lD ?cm_ccD ?cm_kkD ?cm_aS ?cm_lS ?cm_ccS ?cm_kkS ?cm_aH ?cm_lH ?cm_ccH ?cm_kkH ?cm_aI ?cm_lI ?cm_ccI ?cm_kkI ?cm_aTh ?cm_lTh ?cm_ccTh ?cm_kkTh ?cm_aR ?cm_lR ?cm_ccR ?cm_kkR ?cm_aK ?cm_lK ?cm_ccK ?cm_kkK ?cm_aKo ?cm_lKo ?cm_ccKo ?cm_kkKo ?cm_aIo ?cm_lIo ?cm_ccIo ?cm_kkIo ?cm_aM ?cm_lM ?cm_ccM ?cm_kkM ?cm_aN ?cm_lN ?cm_ccN ?cm_kkN ?cm_gC ?cm_gCr ?cm_geV ?cm_geN ?cm_geP ?cm_omN ?cm_ymN ?cm_lmN ?cm_ccmN ?cm_kkmN ?cm_omT ?cm_gmT ?cm_tmT ?cm_rmT ?cm_lmT ?cm_ccmT ?cm_kkmT ?cm_omO ?cm_gmO ?cm_tmO ?cm_rmO ?cm_lmO ?cm_ccmO ?cm_kkmO ?cm_omL ?cm_ymL ?cm_lmL ?cm_ccmL ?cm_kkmL ?cm_omC ?cm_ymC ?cm_lmC ?cm_ccmC ?cm_kkmC ?cm_omE ?cm_ymE ?cm_lmE ?cm_ccmE ?cm_kkmE ?cm_ocI ?cm_ycI ?cm_lcI ?cm_cccI ?cm_kkcI ?cm_ocE ?cm_ycE ?cm_lcE ?cm_cccE ?cm_kkcE ?cm_ocJ ?cm_ycJ ?cm_lcJ ?cm_cccJ ?cm_kkcJ ?cm_ocN ?cm_gcN ?cm_tcN ?cm_rcN ?cm_lcN ?cm_cccN ?cm_kkcN ?cm_ocR ?cm_gcR ?cm_tcR ?cm_rcR ?cm_lcR ?cm_cccR ?cm_kkcR ?cm_gI ?cm_zI ?cm_gU ?cm_zU ?cm_gQ ?cm_zQ ?cm_mkm ?cm_mkk ?cm_cpg ?cm_chd ?cm_cpo ?cm_csa ?cm_no1 ?cm_no2 ?cm_dcl ?cm_dget ?cm_dtk ?cm_mobj ?cm_dkm ?cm_dkk ?cm_dpg ?cm_dhd ?cm_dpo ?cm_dsa ?cm_dn1 ?cm_dn2 ?cm_dn3 ?cm_ddcl ?cm_dmobj ?cm_hneRf ?cm_hneC ?cm_fncJ ?cm_kbI ?cm_ksI ?cm_ktI ?cm_kxI ?cm_kbU ?cm_ksU ?cm_ktU ?cm_kxU ?cm_kbQ ?cm_ksQ ?cm_ktQ ?cm_kxQ ?cm_ktab ?cm_kitb ?cm_kst ?cm_hcR
    (case cm_n_int => k_is)
    (case cm_n_len => k_is)
    (case cm_n_abs => k_is)
    (case cm_n_range => k_is)
    (case cm_n_repr => k_is)
    (case cm_n_max => k_is)
    (case cm_n_min => k_is)
    (case cm_n_all => k_is)
    (case cm_n_list => k_is)
    (case cm_n_sorted => k_is)
    (case cm_n_set => k_is)
    (case cm_n_tuple => k_is)
    (case cm_n_str => k_is)
    (case cm_n_bool => k_is)
    (case cm_n_isinstance => k_is)
    (case cm_n_enumerate => k_is)
    (case cm_n_super => k_is)
    (case cm_n_sum => k_is)
    (case cm_n_ValueError => k_is)
    (case cm_n_LookupError => k_is)
    (case cm_n_ArithmeticError => k_is)
    (case cm_c_LEAST_THINGS => k_is)
    (case cm_c_MOST_THINGS => k_is)
    (case cm_c_MOST_ORDERS => k_is)
    (case cm_aJ => k_is)
    (case cm_lJ => k_is)
    (case cm_ccJ => k_is)
    (case cm_kkJ => k_is)
    (case cm_aW => k_is)
    (case cm_lW => k_is)
    (case cm_ccW => k_is)
    (case cm_kkW => k_is)
    (case cm_aR0 => k_is)
    (case cm_lR0 => k_is)
    (case cm_ccR0 => k_is)
    (case cm_kkR0 => k_is)
    (case cm_aG => k_is)
    (case cm_lG => k_is)
    (case cm_ccG => k_is)
    (case cm_kkG => k_is)
    (case cm_aSn => k_is)
    (case cm_lSn => k_is)
    (case cm_ccSn => k_is)
    (case cm_kkSn => k_is)
    (case cm_aBs => k_is)
    (case cm_lBs => k_is)
    (case cm_ccBs => k_is)
    (case cm_kkBs => k_is)
    (case cm_aRo => k_is)
    (case cm_lRo => k_is)
    (case cm_ccRo => k_is)
    (case cm_kkRo => k_is)
    (case cm_aCt => k_is)
    (case cm_lCt => k_is)
    (case cm_ccCt => k_is)
    (case cm_kkCt => k_is)
    (case cm_aFi => k_is)
    (case cm_lFi => k_is)
    (case cm_ccFi => k_is)
    (case cm_kkFi => k_is)
    (case cm_aOd => k_is)
    (case cm_lOd => k_is)
    (case cm_ccOd => k_is)
    (case cm_kkOd => k_is)
    (case cm_aPk => k_is)
    (case cm_lPk => k_is)
    (case cm_ccPk => k_is)
    (case cm_kkPk => k_is)
    (case cm_aL => k_is)
    (case cm_lL => k_is)
    (case cm_ccL => k_is)
    (case cm_kkL => k_is)
    (case cm_aA => k_is)
    (case cm_lA => k_is)
    (case cm_ccA => k_is)
    (case cm_kkA => k_is)
    (case cm_aD => k_is)
    (case cm_lD => k_is)
    (case cm_ccD => k_is)
    (case cm_kkD => k_is)
    (case cm_aS => k_is)
    (case cm_lS => k_is)
    (case cm_ccS => k_is)
    (case cm_kkS => k_is)
    (case cm_aH => k_is)
    (case cm_lH => k_is)
    (case cm_ccH => k_is)
    (case cm_kkH => k_is)
    (case cm_aI => k_is)
    (case cm_lI => k_is)
    (case cm_ccI => k_is)
    (case cm_kkI => k_is)
    (case cm_aTh => k_is)
    (case cm_lTh => k_is)
    (case cm_ccTh => k_is)
    (case cm_kkTh => k_is)
    (case cm_aR => k_is)
    (case cm_lR => k_is)
    (case cm_ccR => k_is)
    (case cm_kkR => k_is)
    (case cm_aK => k_is)
    (case cm_lK => k_is)
    (case cm_ccK => k_is)
    (case cm_kkK => k_is)
    (case cm_aKo => k_is)
    (case cm_lKo => k_is)
    (case cm_ccKo => k_is)
    (case cm_kkKo => k_is)
    (case cm_aIo => k_is)
    (case cm_lIo => k_is)
    (case cm_ccIo => k_is)
    (case cm_kkIo => k_is)
    (case cm_aM => k_is)
    (case cm_lM => k_is)
    (case cm_ccM => k_is)
    (case cm_kkM => k_is)
    (case cm_aN => k_is)
    (case cm_lN => k_is)
    (case cm_ccN => k_is)
    (case cm_kkN => k_is)
    (case cm_gC => k_is)
    (case cm_gCr => k_is)
    (case cm_geV => k_is)
    (case cm_geN => k_is)
    (case cm_geP => k_is)
    (case cm_omN => k_is)
    (case cm_ymN => k_is)
    (case cm_lmN => k_is)
    (case cm_ccmN => k_is)
    (case cm_kkmN => k_is)
    (case cm_omT => k_is)
    (case cm_gmT => k_is)
    (case cm_tmT => k_is)
    (case cm_rmT => k_is)
    (case cm_lmT => k_is)
    (case cm_ccmT => k_is)
    (case cm_kkmT => k_is)
    (case cm_omO => k_is)
    (case cm_gmO => k_is)
    (case cm_tmO => k_is)
    (case cm_rmO => k_is)
    (case cm_lmO => k_is)
    (case cm_ccmO => k_is)
    (case cm_kkmO => k_is)
    (case cm_omL => k_is)
    (case cm_ymL => k_is)
    (case cm_lmL => k_is)
    (case cm_ccmL => k_is)
    (case cm_kkmL => k_is)
    (case cm_omC => k_is)
    (case cm_ymC => k_is)
    (case cm_lmC => k_is)
    (case cm_ccmC => k_is)
    (case cm_kkmC => k_is)
    (case cm_omE => k_is)
    (case cm_ymE => k_is)
    (case cm_lmE => k_is)
    (case cm_ccmE => k_is)
    (case cm_kkmE => k_is)
    (case cm_ocI => k_is)
    (case cm_ycI => k_is)
    (case cm_lcI => k_is)
    (case cm_cccI => k_is)
    (case cm_kkcI => k_is)
    (case cm_ocE => k_is)
    (case cm_ycE => k_is)
    (case cm_lcE => k_is)
    (case cm_cccE => k_is)
    (case cm_kkcE => k_is)
    (case cm_ocJ => k_is)
    (case cm_ycJ => k_is)
    (case cm_lcJ => k_is)
    (case cm_cccJ => k_is)
    (case cm_kkcJ => k_is)
    (case cm_ocN => k_is)
    (case cm_gcN => k_is)
    (case cm_tcN => k_is)
    (case cm_rcN => k_is)
    (case cm_lcN => k_is)
    (case cm_cccN => k_is)
    (case cm_kkcN => k_is)
    (case cm_ocR => k_is)
    (case cm_gcR => k_is)
    (case cm_tcR => k_is)
    (case cm_rcR => k_is)
    (case cm_lcR => k_is)
    (case cm_cccR => k_is)
    (case cm_kkcR => k_is)
    (case cm_gI => k_is)
    case cm_zI =>
      refine' L2.Cal.err_all L2.Cal.baseV (.inl rfl) ?ceI_xL ?ceI_a1 ?ceI_hf ?ceI_hcode ?ceI_hcell ?ceI_sa ?ceI_kC ?ceI_ga ?ceI_gg ?ceI_exC ?ceI_tyC ?ceI_dcl ?ceI_dget ?ceI_dtk ?ceI_mobj ?ceI_opq ?ceI_tI ?ceI_hcd ?ceI_hfo ?ceI_hbm ?ceI_hsup ?ceI_hvs ?ceI_hfile ?ceI_htop ?ceI_hev
      (case ceI_xL => k_is); (case ceI_a1 => k_is); (case ceI_hf => k_is); (case ceI_hcode => k_is); (case ceI_hcell => k_is); (case ceI_sa => k_is); (case ceI_kC => k_is); (case ceI_ga => k_is); (case ceI_gg => k_is); (case ceI_exC => k_is); (case ceI_tyC => k_is); (case ceI_dcl => k_is); (case ceI_dget => k_is); (case ceI_dtk => k_is); (case ceI_mobj => k_is); (case ceI_opq => k_is); (case ceI_tI => k_is); (case ceI_hcd => k_is); (case ceI_hfo => k_is)
      (case ceI_hbm => decide +kernel); (case ceI_hsup => kernel_rfl); (case ceI_hvs => rfl); (case ceI_hfile => kernel_rfl); (case ceI_htop => kernel_rfl); (case ceI_hev => exact fun _ => rfl)
    (case cm_gU => k_is)
    case cm_zU =>
      refine' L2.Cal.err_all L2.Cal.baseL (.inl rfl) ?ceU_xL ?ceU_a1 ?ceU_hf ?ceU_hcode ?ceU_hcell ?ceU_sa ?ceU_kC ?ceU_ga ?ceU_gg ?ceU_exC ?ceU_tyC ?ceU_dcl ?ceU_dget ?ceU_dtk ?ceU_mobj ?ceU_opq ?ceU_tI ?ceU_hcd ?ceU_hfo ?ceU_hbm ?ceU_hsup ?ceU_hvs ?ceU_hfile ?ceU_htop ?ceU_hev
      (case ceU_xL => k_is); (case ceU_a1 => k_is); (case ceU_hf => k_is); (case ceU_hcode => k_is); (case ceU_hcell => k_is); (case ceU_sa => k_is); (case ceU_kC => k_is); (case ceU_ga => k_is); (case ceU_gg => k_is); (case ceU_exC => k_is); (case ceU_tyC => k_is); (case ceU_dcl => k_is); (case ceU_dget => k_is); (case ceU_dtk => k_is); (case ceU_mobj => k_is); (case ceU_opq => k_is); (case ceU_tI => k_is); (case ceU_hcd => k_is); (case ceU_hfo => k_is)
      (case ceU_hbm => decide +kernel); (case ceU_hsup => kernel_rfl); (case ceU_hvs => rfl); (case ceU_hfile => kernel_rfl); (case ceU_htop => kernel_rfl); (case ceU_hev => exact fun _ => rfl)
    (case cm_gQ => k_is)
    case cm_zQ =>
      refine' L2.Cal.err_all L2.Cal.baseV (.inl rfl) ?ceQ_xL ?ceQ_a1 ?ceQ_hf ?ceQ_hcode ?ceQ_hcell ?ceQ_sa ?ceQ_kC ?ceQ_ga ?ceQ_gg ?ceQ_exC ?ceQ_tyC ?ceQ_dcl ?ceQ_dget ?ceQ_dtk ?ceQ_mobj ?ceQ_opq ?ceQ_tI ?ceQ_hcd ?ceQ_hfo ?ceQ_hbm ?ceQ_hsup ?ceQ_hvs ?ceQ_hfile ?ceQ_htop ?ceQ_hev
      (case ceQ_xL => k_is); (case ceQ_a1 => k_is); (case ceQ_hf => k_is); (case ceQ_hcode => k_is); (case ceQ_hcell => k_is); (case ceQ_sa => k_is); (case ceQ_kC => k_is); (case ceQ_ga => k_is); (case ceQ_gg => k_is); (case ceQ_exC => k_is); (case ceQ_tyC => k_is); (case ceQ_dcl => k_is); (case ceQ_dget => k_is); (case ceQ_dtk => k_is); (case ceQ_mobj => k_is); (case ceQ_opq => k_is); (case ceQ_tI => k_is); (case ceQ_hcd => k_is); (case ceQ_hfo => k_is)
      (case ceQ_hbm => decide +kernel); (case ceQ_hsup => kernel_rfl); (case ceQ_hvs => rfl); (case ceQ_hfile => kernel_rfl); (case ceQ_htop => kernel_rfl); (case ceQ_hev => exact fun _ => rfl)
    (case cm_mkm => kernel_rfl)
    (case cm_mkk => k_is)
    (case cm_cpg => kernel_rfl)
    (case cm_chd => kernel_rfl)
    (case cm_cpo => kernel_rfl)
    (case cm_csa => k_is)
    (case cm_no1 => k_is)
    (case cm_no2 => k_is)
    (case cm_dcl => k_is)
    (case cm_dget => k_is)
    (case cm_dtk => k_is)
    (case cm_mobj => k_is)
    (case cm_dkm => kernel_rfl)
    (case cm_dkk => k_is)
    (case cm_dpg => kernel_rfl)
    (case cm_dhd => kernel_rfl)
    (case cm_dpo => kernel_rfl)
    (case cm_dsa => k_is)
    (case cm_dn1 => k_is)
    (case cm_dn2 => k_is)
    (case cm_dn3 => k_is)
    (case cm_ddcl => k_is)
    (case cm_dmobj => k_is)
    (case cm_hneRf => k_is)
    (case cm_hneC => k_is)
    (case cm_fncJ => first | k_is | kernel_rfl)
    (case cm_kbI => kernel_rfl)
    (case cm_ksI => kernel_rfl)
    (case cm_ktI => kernel_rfl)
    (case cm_kxI => kernel_rfl)
    (case cm_kbU => kernel_rfl)
    (case cm_ksU => kernel_rfl)
    (case cm_ktU => kernel_rfl)
    (case cm_kxU => kernel_rfl)
    (case cm_kbQ => kernel_rfl)
    (case cm_ksQ => kernel_rfl)
    (case cm_ktQ => kernel_rfl)
    (case cm_kxQ => kernel_rfl)
    (case cm_ktab => kernel_rfl)
    (case cm_kitb => kernel_rfl)
    (case cm_kst => kernel_rfl)
    (case cm_hcR => rfl)
