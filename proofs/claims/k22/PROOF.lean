import PyProof.Rows.All
import Wide.All
import OpenK.AllK
import Wide.FinOn
import HandS.ForMost
import HandS.Wide
import HandS.Flow
import HandS.TupAny
import HandS.SetTxt0
import HandS.SetTxtIn
import HandS.SetFor
import HandS.TupSets
import HandS.SortOrd
import HandS.Strs
import HandS.Style
import HandS.IsInst
import HandS.Walk
import HandS.Iter
import KE.GoesMore
import KE.GoesEnum
import HandS.Property
import HandS.OwnEq
import HandS.ClsMeth
import HandS.MakeKw
import KE.KCallOwn
import OpenK.KMeth
import PyProof.InstEq
import PyProof.InstNe
import PyProof.EqKinds
import PyProof.Conv_bool
import PyProof.SumWalkG
import PyProof.WalksMore
import HandS.Text
import HandS.Zip
import HandS.StrMore
import HandS.DictComp
import HandS.WordsDict
import HandS.Nested
import KE.SortKeyHeap
import HandS.SortKw
import HandS.Keys
import HandS.Exc
import PyProof.TupleOfSeq
import HandS.Base
import HandS.Comp
import PyProof.Rows.TmSorted
import HandS.RepeatKit
import HandS.Codes
import HandS.SetKeys
import HandS.More
import HandS.EndTab
import PySem.Challenge.RW_calmlists_k22_again_the_same
set_option Elab.async false
set_option linter.all false
section
set_option maxRecDepth 100000
set_option maxHeartbeats 4000000
/-! what all laws of this program share: a def where it stands, the jar of drawn numbers -/
namespace L2.Cal
open PySem PySem.Spec PyProof.Rows L2
/-- a def of the top: its function, its name, how it binds -/
structure DefAt (K : PySem.W.Frag) (mg : Str → Option Value) (x : Str) (st : Stmt) (ps : List Str) (f : Addr) (fd : FuncData) : Prop where
  F : Fun K x x st f fd
  g : mg x = some (.ref f)
  b : Binds K fd ps []
/-- the jar: three numbers, none below nought -/
def Jar (H : Hp) (j : Addr) : Prop := ∃ d s c : Int, H j = some (.lst [.int d, .int s, .int c]) ∧ 0 ≤ d ∧ 0 ≤ s ∧ s < 2147483648 ∧ 0 ≤ c
theorem Jar.up {H : Hp} {j : Addr} {d s c : Int} (h1 : 0 ≤ d) (h2 : 0 ≤ s) (h3 : s < 2147483648) (h4 : 0 ≤ c) : Jar (upd H j (.lst [.int d, .int s, .int c])) j := ⟨d, s, c, upd_same, h1, h2, h3, h4⟩
/-- all that was tracked is as it was, but the jar -/
def Kp (j : Addr) (H H' : Hp) : Prop := ∀ b o, b ≠ j → H b = some o → H' b = some o
theorem Kp.refl {j : Addr} {H : Hp} : Kp j H H := fun _ _ _ h => h
theorem Kp.trans {j : Addr} {H H1 H2 : Hp} (a : Kp j H H1) (b : Kp j H1 H2) : Kp j H H2 := fun c o n h => b c o n (a c o n h)
theorem Kp.new {j p : Addr} {o : HO} {H : Hp} (h : H p = none) : Kp j H (upd H p o) := fun b u _ e => by rw [upd_ne (ne_of_none e h)]; exact e
theorem Kp.jar {j : Addr} {o : HO} {H : Hp} : Kp j H (upd H j o) := fun b u n e => by rw [upd_ne n]; exact e
theorem Kp.of {j : Addr} {H H' : Hp} (h : Same H H') : Kp j H H' := fun b o _ e => h b o e
theorem Jar.new {H : Hp} {j p : Addr} {o : HO} (h : Jar H j) (n : H p = none) : Jar (upd H p o) j := by
  obtain ⟨d, s, c, e, r⟩ := h
  exact ⟨d, s, c, by rw [upd_ne (ne_of_none e n)]; exact e, r⟩
theorem Jar.same {H H' : Hp} {j : Addr} (h : Jar H j) (e : Same H H') : Jar H' j := by
  obtain ⟨d, s, c, q, r⟩ := h
  exact ⟨d, s, c, e _ _ q, r⟩
theorem Kp.seqL {K : PySem.W.Frag} {j a : Addr} {H H' : Hp} {xs : List V} (k : Kp j H H') (n : a ≠ j) (h : SqL K H a xs) : SqL K H' a xs := by
  rcases h with (h | ⟨o, h⟩) | h
  · exact .inl (.inl (k _ _ n h))
  · exact .inl (.inr ⟨o, k _ _ n h⟩)
  · exact .inr h
theorem Kp.seqT {K : PySem.W.Frag} {j a : Addr} {H H' : Hp} {xs : List V} (k : Kp j H H') (n : a ≠ j) (h : SqT K H a xs) : SqT K H' a xs := by
  rcases h with (h | ⟨o, h⟩) | h
  · exact .inl (.inl (k _ _ n h))
  · exact .inl (.inr ⟨o, k _ _ n h⟩)
  · exact .inr h
/-! ### promises -/
def spDip : Sp := fun vs H Q _ => ∃ (j : Addr) (w d s c : Int), vs = [.ref j, .int w] ∧ H j = some (.lst [.int d, .int s, .int c]) ∧ 0 ≤ d ∧ 0 ≤ s ∧ s < 2147483648 ∧ 0 ≤ c ∧ 0 < w ∧ w < 1073741824 ∧
  ∀ r d' s' c' : Int, 0 ≤ r → r < w → 0 ≤ d' → 0 ≤ s' → s' < 2147483648 → 0 ≤ c' → Q (.int r) (upd H j (.lst [.int d', .int s', .int c']))
def spJar (K : PySem.W.Frag) : Sp := fun vs H Q _ => ∃ (a : Addr) (ns : List Int) (k : Int), vs = [.ref a, .int k] ∧ SqL K H a (ns.map V.int) ∧ ns.length ≤ 63 ∧ 0 ≤ k ∧ k ≤ 100 ∧
  ∀ H' p, Same H H' → H p = none → Jar H' p → Q (.ref p) H'
/-- one of a list, a tuple or a text's signs -/
def spPick (K : PySem.W.Frag) : Sp := fun vs H Q _ => ∃ (j m : Addr) (xs : List V) (d s c : Int), vs = [.ref j, .ref m] ∧ H j = some (.lst [.int d, .int s, .int c]) ∧ 0 ≤ d ∧ 0 ≤ s ∧ s < 2147483648 ∧ 0 ≤ c ∧ m ≠ j ∧ (SqL K H m xs ∨ SqT K H m xs) ∧ 0 < xs.length ∧ xs.length ≤ 1000 ∧
  ∀ (i : Nat) (v : V) (d' s' c' : Int), xs[i]? = some v → 0 ≤ d' → 0 ≤ s' → s' < 2147483648 → 0 ≤ c' → Q v (upd H j (.lst [.int d', .int s', .int c']))
end L2.Cal
end

section
set_option maxRecDepth 100000
set_option maxHeartbeats 4000000
/-! new objects, told by what stays and what stands there, not by the heap as a term -/
namespace L2.Cal
open PySem PySem.Spec PyProof.Rows L2
theorem same_new {H : Hp} {p : Addr} {o : HO} (h : H p = none) : Same H (upd H p o) := fun b u e => by rw [upd_ne (ne_of_none e h)]; exact e
/-- a new object o at p -/
abbrev New (H : Hp) (o : HO) (Q : VK) : Prop := ∀ (p : Addr) (H2 : Hp), Same H H2 → H p = none → H2 p = some o → Q (.ref p) H2
theorem New.use {H : Hp} {o : HO} {Q : VK} (h : New H o Q) {p : Addr} (n : H p = none) : Q (.ref p) (upd H p o) := h p _ (same_new n) n upd_same
def tLstS (t : TA) : TE := fun σ H Q => t σ H fun xs H1 => xs.length ≤ sizeLine ∧ New H1 (.lst xs) Q
def tTupS (t : TA) : TE := fun σ H Q => t σ H fun xs H1 => xs.length ≤ sizeLine ∧ New H1 (.tup xs) Q
section
variable {X : Cx} {es : List Expr} {t : TA} {pos : Pos}
theorem pe_lstS (h : PA X es t) : PE X (.List es pos) (tLstS t) := ⟨fun pins s σ H Q I hq => wpAny_List_spliced (thn (h.run pos pins s σ H _ I hq) fun us s1 hh => by
  obtain ⟨xs, H1, I1, r, z, q⟩ := hh
  refine ⟨by rw [← r.length]; exact z, .ref s1.heap.objs.size, _, I1.laid (t' := s1.toks) (a := s1.heap.objs.size) (o := .lst xs) (fun b u e => Heap.get?_push_of_some _ e) (Nat.le_refl _) ⟨z, us, 0, r, Heap.get?_push_size _ rfl⟩, rfl, q.use (I1.hok.fresh (Nat.le_refl _))⟩)⟩
theorem pe_tupS {k} (h : PA X es t) : PE X (.Tuple es k pos) (tTupS t) := ⟨fun pins s σ H Q I hq => wpAny_Tuple_spliced (thn (h.run pos pins s σ H _ I hq) fun us s1 hh => by
  obtain ⟨xs, H1, I1, r, z, q⟩ := hh
  refine ⟨by rw [← r.length]; exact z, .ref s1.heap.objs.size, _, I1.laid (t' := s1.toks) (a := s1.heap.objs.size) (o := .tup xs) (fun b u e => Heap.get?_push_of_some _ e) (Nat.le_refl _) ⟨z, us, r, ⟨_, Heap.get?_push_size _ rfl, rfl, _, rfl⟩⟩, rfl, q.use (I1.hok.fresh (Nat.le_refl _))⟩)⟩
theorem pe_dnewS : PE X (.Dict [] [] pos) (fun _ H Q => New H (.dK []) Q) := ⟨fun pins s σ H Q I h => pe_dnewK.run pins s σ H Q I fun p n => h.use n⟩
end
/-- a class of the program, a built-in class, as a value -/
theorem pe_cls {X : Cx} {x : Str} {C : Addr} {pos : Pos} (hg : Gl X x) (hm : X.mg x = some (.ref C)) (hd : (x == ("__debug__" : Str)) = false := by decide) : PE X (.Name x pos) (tC (.ref C)) := pe_glob (v := .ref C) hg hm rfl hd
theorem pe_bty {X : Cx} {x : Str} {n : String} {pos : Pos} (hg : Gl X x) (hm : X.mg x = none) (hv : bootBuiltins x = some (.type n)) (hn : x ≠ "__name__" := by decide) (hd : (x == ("__debug__" : Str)) = false := by decide) : PE X (.Name x pos) (tC (.ty n)) := pe_bltn (v := .ty n) hg hm hv rfl hn hd
def rCatS : R2 := fun x y H Q => ∃ l b xs zs, x = .ref l ∧ y = .ref b ∧ H l = some (.lst xs) ∧ H b = some (.lst zs) ∧ xs.length + zs.length ≤ sizeLine ∧ New H (.lst (xs ++ zs)) Q
theorem op_catS {X : Cx} : OpR X (binaryOp .Add) rCatS := fun pins s σ H x y v u Q I rx ry h => by
  obtain ⟨l, b, xs, zs, ex, ey, h1, h2, hz, q⟩ := h
  exact op_cat pins s σ H x y v u Q I rx ry ⟨l, b, xs, zs, ex, ey, h1, h2, hz, fun p n => q.use n⟩
end L2.Cal
end

section
set_option maxRecDepth 100000
set_option maxHeartbeats 4000000
namespace L2.Cal
open PySem PySem.Spec PyProof.Rows L2
def topS (i : Nat) : Stmt := PySem.Challenge.pw_calmlists_k22_again_the_same.main.body.getD i (.Pass ⟨0, 0, 0, 0⟩)
abbrev sJar : Stmt := topS 46
abbrev sDip : Stmt := topS 47
abbrev sPick : Stmt := topS 48
theorem scJar : FnScope ["_law_script", "_law_k", "_law_churned", "_law_cell", "_law_own", "_law_digits"] ["_law_script", "_law_k"] (defScope sJar) := ⟨rfl, rfl, rfl, by decide +kernel, rfl, by decide +kernel, by decide +kernel⟩
theorem scDip : FnScope ["_law_jar_here", "_law_wide", "_law_digit", "_law_seed"] ["_law_jar_here", "_law_wide"] (defScope sDip) := ⟨rfl, rfl, rfl, by decide +kernel, rfl, by decide +kernel, by decide +kernel⟩
theorem scPick : FnScope ["_law_jar_here", "_law_menu", "_law_at"] ["_law_jar_here", "_law_menu"] (defScope sPick) := ⟨rfl, rfl, rfl, by decide +kernel, rfl, by decide +kernel, by decide +kernel⟩
structure Txt (mg : Str → Option Value) : Prop where
  b_int : mg "int" = none
  b_len : mg "len" = none
  b_abs : mg "abs" = none
  b_range : mg "range" = none
  b_repr : mg "repr" = none
  b_max : mg "max" = none
  b_min : mg "min" = none
  b_all : mg "all" = none
  b_list : mg "list" = none
  b_sorted : mg "sorted" = none
  b_set : mg "set" = none
  b_tuple : mg "tuple" = none
  b_str : mg "str" = none
  b_bool : mg "bool" = none
  b_isinstance : mg "isinstance" = none
  b_enumerate : mg "enumerate" = none
  b_super : mg "super" = none
section
variable {P : Program} {w : World} {K : PySem.W.Frag} {mg : Str → Option Value} {base : Heap}
theorem ok_dip {f : Addr} {fd : FuncData} (D : DefAt K mg "_law_dip" sDip ["_law_jar_here", "_law_wide"] f fd) (T : Txt mg) : FnOk P w K mg base CX0 1 f fd ["_law_jar_here", "_law_wide"] spDip := by
  refine D.F.ok scDip (fun vs H Q E h => ?_) (fun cdv A outer sh H vs Q E hr h => ?_)
  · obtain ⟨j, w, d, s, c, rfl, _⟩ := h
    rfl
  · obtain ⟨j, w, d, s, c, rfl, hj, hd, hs, hs2, hc, hw, hw2, q⟩ := h
    refine ⟨_, (pss_cons (ps_asg (pe_op op_add (pe_ix ix_list (pv 0) pe_int (fun _ _ => rfl)) pe_int) (pg_sub (pv 0) pe_int set_list))
  (pss_cons (ps_if (pt_cmpR op_gt (pe_ix ix_list (pv 0) pe_int (fun _ _ => rfl)) pe_int (nomark _))
   (pss_cons (ps_set (i := 2) scDip.nd rfl (.inl rfl) (pe_op op_mod (pe_callTy call_int1 (by rfl) T.b_int (by decide +kernel) (pa_cons (pe_ix ix_list (pv 0) pe_int (fun _ _ => rfl)) pa_nil)) (pv 1)))
  (pss_cons (ps_asg (pe_op op_fdiv (pe_callTy call_int1 (by rfl) T.b_int (by decide +kernel) (pa_cons (pe_ix ix_list (pv 0) pe_int (fun _ _ => rfl)) pa_nil)) (pv 1)) (pg_sub (pv 0) pe_int set_list))
  (pss_one (ps_ret (pv 2)))))
   pss_nil)
  (pss_cons (ps_set (i := 3) scDip.nd rfl (.inl rfl) (pe_callTy call_int1 (by rfl) T.b_int (by decide +kernel) (pa_cons (pe_ix ix_list (pv 0) pe_int (fun _ _ => rfl)) pa_nil)))
  (pss_cons (ps_asg (pe_op op_mod (pe_callTy call_int1 (by rfl) T.b_int (by decide +kernel) (pa_cons (pe_op op_add (pe_op op_add (pe_op op_mul (pv 3) pe_int) (pe_op op_mul (pe_ix ix_list (pv 0) pe_int (fun _ _ => rfl)) pe_int)) pe_int) pa_nil)) pe_int) (pg_sub (pv 0) pe_int set_list))
  (pss_one (ps_ret (pe_op op_mod (pe_callTy call_int1 (by rfl) T.b_int (by decide +kernel) (pa_cons (pe_op op_fdiv (pe_ix ix_list (pv 0) pe_int (fun _ _ => rfl)) pe_int) pa_nil)) (pv 1)))))))), ?_⟩
    have i0 : ∀ a b c : Int, atI [V.int a, V.int b, V.int c] 0 = some (.int a) := fun a b c => atI_nat (j := 0) rfl
    have i1 : ∀ a b c : Int, atI [V.int a, V.int b, V.int c] 1 = some (.int b) := fun a b c => atI_nat (j := 1) rfl
    have i2 : ∀ a b c : Int, atI [V.int a, V.int b, V.int c] 2 = some (.int c) := fun a b c => atI_nat (j := 2) rfl
    -- jar[2] = jar[2] + 1
    refine ⟨_, rfl, j, _, _, _, rfl, rfl, SqL.of hj, i2 _ _ _, _, _, rfl, rfl, _, rfl, j, _, _, 2, rfl, rfl, hj, rfl, ?_⟩
    refine ⟨_, rfl, j, _, _, _, rfl, rfl, SqL.of upd_same, i0 _ _ _, _, _, rfl, rfl, _, rfl, ite2 (fun e => ?_) (fun e => ?_)⟩
    · have e0 : 0 < d := of_decide_eq_true e
      refine ⟨_, rfl, j, _, _, _, rfl, rfl, SqL.of upd_same, i0 _ _ _, .inl ⟨_, rfl, _, rfl, _, _, rfl, rfl, hw, ?_⟩⟩
      refine ⟨_, rfl, j, _, _, _, rfl, rfl, SqL.of upd_same, i0 _ _ _, .inl ⟨_, rfl, _, rfl, _, _, rfl, rfl, ⟨hw, hw2⟩, _, rfl, j, _, _, 0, rfl, rfl, upd_same, rfl, ?_⟩⟩
      refine ⟨_, rfl, ?_⟩
      rw [upd_upd]
      exact q _ _ _ _ (Int.emod_nonneg _ (by omega)) (Int.emod_lt_of_pos _ hw) (Int.ediv_nonneg (by omega) (by omega)) hs hs2 (by omega)
    · refine ⟨_, rfl, j, _, _, _, rfl, rfl, SqL.of upd_same, i1 _ _ _, .inl ⟨_, rfl, ?_⟩⟩
      refine ⟨_, rfl, _, _, rfl, rfl, .inr ⟨by decide, by decide⟩, _, rfl, j, _, _, _, rfl, rfl, SqL.of upd_same, i2 _ _ _, _, _, rfl, rfl, .inr ⟨by decide, by decide⟩, _, _, rfl, rfl, _, _, rfl, rfl, .inl ⟨_, rfl, _, _, rfl, rfl, (by show (0:Int) < 2147483399; decide), _, rfl, j, _, _, 1, rfl, rfl, upd_same, rfl, ?_⟩⟩
      refine ⟨_, rfl, j, _, _, _, rfl, rfl, SqL.of upd_same, i1 _ _ _, _, _, rfl, rfl, ⟨by decide, by decide⟩, .inl ⟨_, rfl, _, rfl, _, _, rfl, rfl, hw, ?_⟩⟩
      rw [upd_upd]
      exact q _ _ _ _ (Int.emod_nonneg _ (by omega)) (Int.emod_lt_of_pos _ hw) (by omega) (Int.emod_nonneg _ (by omega)) (by have := Int.emod_lt_of_pos (s * 40692 + (c + 1) * 52021 + 31) (b := 2147483399) (by decide); omega) (by omega)
end
end L2.Cal
end

section
set_option maxRecDepth 100000
set_option maxHeartbeats 4000000
namespace L2.Cal
open PySem PySem.Spec PyProof.Rows L2
section
variable {P : Program} {w : World} {K : PySem.W.Frag} {mg : Str → Option Value} {base : Heap}

theorem ok_jar {f : Addr} {fd : FuncData} (D : DefAt K mg "_law_jar" sJar ["_law_script", "_law_k"] f fd) (T : Txt mg) : FnOk P w K mg base CX0 1 f fd ["_law_script", "_law_k"] (spJar K) := by
  refine D.F.ok scJar (fun vs H Q E h => ?_) (fun cdv A outer sh H vs Q E hr h => ?_)
  · obtain ⟨a, ns, k, rfl, _⟩ := h
    rfl
  · obtain ⟨a, ns, k, rfl, hS, hn, h0, h1, q⟩ := h
    refine ⟨_, (pss_cons (ps_set (i := 2) scJar.nd rfl (.inl rfl) (pe_op op_add (pe_op op_mul (pe_op op_mul pe_int (pe_op op_add (pv 1) pe_int)) (pe_op op_add (pv 1) pe_int)) (pe_op op_mul pe_int (pe_callB call_len_seq (by rfl) T.b_len (by decide +kernel) (pa_cons (pv 0) pa_nil)))))
  (pss_cons (ps_for PassesOwn.never rfl (pi_list (pe_slice sl_list (pv 0) po_none (po_some pe_int))) (pg_name (i := 3) scJar.nd rfl (.inl rfl))
   (pss_one (ps_set (i := 2) scJar.nd rfl (.inl rfl) (pe_op op_mod (pe_callTy call_int1 (by rfl) T.b_int (by decide +kernel) (pa_cons (pe_op op_add (pe_op op_mul (pv 2) pe_int) (pv 3)) pa_nil)) pe_int))))
  (pss_cons (ps_set (i := 4) scJar.nd rfl (.inl rfl) (pe_ifExp (pt_cmpR op_lt (pv 1) (pe_callB call_len_seq (by rfl) T.b_len (by decide +kernel) (pa_cons (pv 0) pa_nil)) (nomark _)) (pe_ix ix_list (pv 0) (pv 1) (fun _ _ => rfl)) pe_int))
  (pss_cons (ps_set (i := 5) scJar.nd rfl (.inl rfl) (pe_ifExp (PW.pt (pw_or (pt_cmpR op_lt (pv 4) pe_int (nomark _)) (pw_or1 (pt_cmpR op_ge (pv 4) (pe_op op_pow pe_int pe_int) (nomark _))))) (pe_callB call_abs (by rfl) T.b_abs (by decide +kernel) (pa_cons (pv 4) pa_nil)) pe_int))
  (pss_one (ps_ret (pe_lstS (pa_cons (pv 5) (pa_cons (pe_op op_mod (pe_callTy call_int1 (by rfl) T.b_int (by decide +kernel) (pa_cons (pe_op op_add (pe_op op_add (pe_op op_mul (pv 2) pe_int) (pe_op op_mul (pv 4) pe_int)) (pe_op op_mul pe_int (pe_op op_add (pv 1) pe_int))) pa_nil)) pe_int) (pa_cons pe_int pa_nil)))))))))), ?_⟩
    -- churned
    refine ⟨_, rfl, _, _, rfl, rfl, _, _, rfl, rfl, .inl ⟨by decide, by decide⟩, _, rfl, _, _, rfl, rfl, _, _, rfl, rfl, .inr ⟨by omega, by omega⟩, _, rfl, a, _, rfl, .inl hS, _, _, rfl, rfl, .inl ⟨by decide, by decide⟩, _, _, rfl, rfl, ?_⟩
    refine ⟨_, rfl, 4, rfl, a, _, rfl, hS, fun p np => ?_⟩
    have s1 : Same H (upd H p (.lst (cutV (ns.map V.int) none (some 4)))) := same_new np
    have ec : cutV (ns.map V.int) none (some 4) = (ns.take 4).map V.int := by
      unfold cutV
      rw [HT.sIx_none, show HT.sIx (ns.map V.int).length (ns.map V.int).length (some 4) = min 4 (ns.map V.int).length from HT.sIx_nat _ _ 4, List.drop_zero, List.map_take]
      simp [List.take_eq_take_iff]
    rw [ec] at s1 ⊢
    refine ⟨p, rfl, ⟨_, SqL.of upd_same⟩, for_list (xs := (ns.take 4).map V.int) (fun i σ H' => ∃ c y3, σ = [some (.ref a), some (.int k), some (.int c), y3, none, none] ∧ H' = upd H p (.lst ((ns.take 4).map V.int))) ⟨_, none, rfl, rfl⟩ (fun i σ H' _ hP => ?_) (fun i x σ H' hx hP => ?_) (fun σ H' hP => ?_)⟩
    · obtain ⟨c, y3, rfl, rfl⟩ := hP
      exact SqL.of upd_same
    · obtain ⟨c, y3, rfl, rfl⟩ := hP
      obtain ⟨z, hz, rfl⟩ : ∃ z, (ns.take 4)[i]? = some z ∧ V.int z = x := by
        rw [List.getElem?_map] at hx
        cases e : (ns.take 4)[i]? with
        | none =>
          rw [e] at hx
          cases hx
        | some z =>
          rw [e] at hx
          exact ⟨z, rfl, Option.some.inj hx⟩
      refine ⟨_, rfl, _, _, rfl, rfl, .inr ⟨by decide, by decide⟩, _, rfl, _, _, rfl, rfl, .inl ⟨_, rfl, _, _, rfl, rfl, (by show (0:Int) < 1000000009; decide), ?_⟩⟩
      exact ⟨_, _, rfl, rfl⟩
    · obtain ⟨c, y3, rfl, rfl⟩ := hP
      have hS' : SqL K (upd H p (.lst ((ns.take 4).map V.int))) a (ns.map V.int) := s1.seq hS
      -- own, digits, the jar
      have last : ∀ dg : Int, 0 ≤ dg → ∀ v : Int, 0 ≤ v → v < 2147483563 → ∀ p' H', Same (upd H p (.lst ((ns.take 4).map V.int))) H' → (upd H p (.lst ((ns.take 4).map V.int))) p' = none → H' p' = some (.lst [.int dg, .int v, .int 0]) → Q (.ref p') H' := fun dg hdg v h0 h1 p' H' s' np' e' => by
        exact q _ p' (s1.trans s') (s1.free np') ⟨_, _, _, e', hdg, h0, by omega, by decide⟩
      refine ⟨_, rfl, _, rfl, a, _, rfl, .inl hS', _, _, rfl, rfl, _, rfl, ite2 (fun e => ?A) (fun e => ?B)⟩
      case' A =>
        have e0 : k < (ns.length : Int) := by
          have := of_decide_eq_true e
          rw [List.length_map] at this
          exact this
        have hk : k.toNat < ns.length := by omega
        have hg : atI (ns.map V.int) k = some (.int ns[k.toNat]) := at_of (j := k.toNat) (by omega) (by rw [List.getElem?_map, List.getElem?_eq_getElem hk]; rfl)
        refine ⟨_, rfl, _, rfl, a, _, _, _, rfl, rfl, hS', hg, ?_⟩
        generalize ns[k.toNat] = own
      all_goals
        refine ⟨_, rfl, _, _, rfl, rfl, _, rfl, ite2 (fun e => ?_) (fun e => ?_)⟩
        all_goals first
          | (refine iteT ?_
             have e1 := of_decide_eq_true e
             refine ⟨_, rfl, _, rfl, ?_⟩)
          | (have e1 := fun z => e (decide_eq_true z)
             refine ⟨_, rfl, _, _, rfl, rfl, ⟨by decide, by decide, by decide⟩, _, _, rfl, rfl, _, rfl, ite2 (fun e => ⟨_, rfl, _, rfl, ?_⟩) (fun e => ?_)⟩)
        all_goals
          refine ⟨_, rfl, _, rfl, _, _, rfl, rfl, .inr ⟨by decide, by decide⟩, _, rfl, _, _, rfl, rfl, .inr ⟨by decide, by decide⟩, _, _, rfl, rfl, _, rfl, _, _, rfl, rfl, _, _, rfl, rfl, .inl ⟨by decide, by decide⟩, _, _, rfl, rfl, .inl ⟨_, rfl, _, _, rfl, rfl, (by show (0:Int) < 2147483563; decide), ?_⟩⟩
          refine ⟨by show 3 ≤ sizeLine; decide, fun p' H' s' np' e' => ?_⟩
          exact last _ (by first | exact Int.le_refl _ | (split <;> omega)) _ (Int.emod_nonneg _ (by decide)) (Int.emod_lt_of_pos _ (by decide)) p' H' s' np' e'
theorem ok_pick {f fD : Addr} {fd fdD : FuncData} (D : DefAt K mg "_law_pick" sPick ["_law_jar_here", "_law_menu"] f fd) (DD : DefAt K mg "_law_dip" sDip ["_law_jar_here", "_law_wide"] fD fdD) (T : Txt mg) : FnOk P w K mg base CX0 2 f fd ["_law_jar_here", "_law_menu"] (spPick K) := by
  have GD : FnOk P w K mg base CX0 1 fD fdD ["_law_jar_here", "_law_wide"] spDip := ok_dip DD T
  refine D.F.ok scPick (fun vs H Q E h => ?_) (fun cdv A outer sh H vs Q E hr h => ?_)
  · obtain ⟨j, m, xs, d, s, c, rfl, _⟩ := h
    rfl
  · obtain ⟨j, m, xs, d, s, c, rfl, hj, hd, hs, hs2, hc, hm, hx, hl, hl2, q⟩ := h
    refine ⟨_, (pss_cons (ps_set (i := 2) scPick.nd rfl (.inl rfl) (pe_call GD (hr.mono (by decide)) (by rfl) DD.g DD.F.kp DD.b .nil pass0 (pa_cons (pv 0) (pa_cons (pe_callB call_len_seq (by rfl) T.b_len (by decide +kernel) (pa_cons (pv 1) pa_nil)) pa_nil))))
  (pss_one (ps_ret (pe_ix ix_seq (pv 1) (pv 2) (fun _ _ => rfl))))), ?_⟩
    refine ⟨_, rfl, _, rfl, m, xs, rfl, hx, j, _, d, s, c, rfl, hj, hd, hs, hs2, hc, by omega, by omega, fun r d' s' c' h0 h1 hd' hs' hs2' hc' => ?_⟩
    have kp : Kp j H (upd H j (.lst [.int d', .int s', .int c'])) := Kp.jar
    have hr' : r.toNat < xs.length := by omega
    have hg : atI xs r = some (xs[r.toNat]) := at_of (j := r.toNat) (by omega) (List.getElem?_eq_getElem hr')
    rcases hx with hx | hx
    · exact ⟨_, rfl, _, rfl, .inl ⟨m, _, _, _, rfl, rfl, kp.seqL hm hx, hg, q r.toNat _ _ _ _ (List.getElem?_eq_getElem hr') hd' hs' hs2' hc'⟩⟩
    · exact ⟨_, rfl, _, rfl, .inr (.inl ⟨m, _, _, _, rfl, rfl, kp.seqT hm hx, hg, q r.toNat _ _ _ _ (List.getElem?_eq_getElem hr') hd' hs' hs2' hc'⟩)⟩
end
end L2.Cal
end

section
set_option maxRecDepth 100000
set_option maxHeartbeats 4000000
/-! sets of texts: made of a list of texts or of a text's signs; their number; sorted -/
namespace L2.Cal
open PySem PySem.Spec PyProof.Rows PySem.Froz L2
section
variable {P : Program} {w : World}
/-- the payload can be walked -/
structure Way (w : World) (D : SD) : Prop where
  ris : Ris D.2.2.place.toList
  led : w.params.followText "set-order" = true ∨ D.2.2.led = true
/-- the payload holds the texts l, each once -/
structure Has (P : Program) (w : World) (D : SD) (l : List Str) : Prop where
  ok : TxOk P w D l
  way : Way w D
  one : l.Nodup
theorem Way.add {D : SD} (W : Way w D) (h : Int) (v : Value) : Way w (addTx h v D) := by
  obtain ⟨es, ep, t⟩ := D
  have r1 := layNew_ris t es h v W.ris
  have d1 := layNew_led t es h v
  unfold addTx tailTx
  dsimp only
  have w2 : Way w ((layNew t es h v).1, ep, if (layNew t es h v).2.1.plain = true then { (layNew t es h v).2.1 with plain := false } else (layNew t es h v).2.1) := by
    refine ⟨?_, ?_⟩
    · dsimp only
      split <;> exact r1
    · dsimp only
      rw [show (if (layNew t es h v).2.1.plain = true then { (layNew t es h v).2.1 with plain := false } else (layNew t es h v).2.1).led = t.led by split <;> exact d1]
      exact W.led
  generalize (if (layNew t es h v).2.1.plain = true then { (layNew t es h v).2.1 with plain := false } else (layNew t es h v).2.1) = t2 at w2 ⊢
  split
  · exact ⟨relayAll_ris _ _ _, by dsimp only; rw [relayAll_led]; exact w2.led⟩
  · exact ⟨w2.ris, w2.led⟩
theorem Has.add {D : SD} {l : List Str} {k : Str} (u : Tok) (S : Has P w D l) (n : k ∉ l) : Has P w (addTx (hashStr w k) (.str k u) D) (k :: l) :=
  ⟨add_ok u S.ok, S.way.add _ _, List.nodup_cons.mpr ⟨n, S.one⟩⟩
theorem Has.none (ep : Nat) : Has P w (#[], ep, .fresh 0 0 (!w.params.followText "set-order")) [] := by
  refine ⟨TxOk.nil rfl, ⟨?_, ?_⟩, .nil⟩
  · exact List.Pairwise.nil
  · cases e : w.params.followText "set-order"
    · exact .inr rfl
    · exact .inl rfl
variable {A : Around} {E : Value → Shared → Prop} {s : Shared} {a : Addr} {T : String} {D : SD} {l : List Str} {k : Str} {u : Tok}
/-- a text that is there already -/
theorem put_old {Q : Bool → Shared → Prop} (ho : s.heap.get? a = some (sObj T D)) (S : Has P w D l) (hk : k ∈ l) (hb : l.length < scanBound) (q : Q false s) : wpAny (model P w) A (setAddHashed a (.str k u) (hashStr w k)) Q E s := by
  obtain ⟨es, ep, t⟩ := D
  have dat : (sObj T (es, ep, t)).data = .set es ep t := rfl
  have few : es.size < scanBound := by
    have z : es.size = l.length := S.ok.sz
    rw [z]
    exact hb
  unfold setAddHashed setAddHashedIn
  refine wpAny_holding (wpAny_bind (wpAny_setState_of ho dat S.ok.fit ?_))
  dsimp only
  rw [byScan_of rfl few S.ok.el, if_pos rfl]
  unfold setAddByScan
  refine wpAny_bind (wpAny_bind (wpAny_rule (wpAny_bind (wpAny_setScan_of (knd := strKind P w) (k := k) (is_str k u) ho dat S.ok.fit S.ok.el ?_))))
  cases z : List.findIdx? (fun e => (strKind P w).is k e.2) es.toList with
  | none =>
    obtain ⟨e, he, p⟩ := (S.ok.mem k).mp hk
    have no := List.findIdx?_eq_none_iff.mp z e he
    rw [p] at no
    cases no
  | some j => exact wpAny_pure (wpAny_pure q)
/-- s.add(k), new or old -/
theorem put_any {Q : Bool → Shared → Prop} (ho : s.heap.get? a = some (sObj T D)) (S : Has P w D l) (hb : l.length + 1 < scanBound)
    (q : ∀ (b : Bool) (D' : SD) (l' : List Str) (h' : Heap), (∀ c o, c ≠ a → s.heap.get? c = some o → h'.get? c = some o) → h'.get? a = some (sObj T D') → Has P w D' l' → (∀ x, x ∈ l' ↔ x ∈ l ∨ x = k) → l'.length ≤ l.length + 1 → Q b { s with heap := h', toks := s.toks + 1 }) :
    wpAny (model P w) A (setAdd a (.str k u)) Q E s := by
  unfold setAdd
  refine wpAny_holding (wpAny_bind ((strKind P w).pyHash (k := k) (is_str k u) ?_))
  by_cases c : k ∈ l
  · refine put_old (s := { s with toks := s.toks + 1 }) (l := l) ho S c (by omega) (q _ D l s.heap (fun _ _ _ z => z) ho S (fun x => ⟨.inl, fun z => z.elim id fun e => e ▸ c⟩) (Nat.le_succ _))
  · refine add_x (s := { s with toks := s.toks + 1 }) (l := l) ho S.ok c hb (q _ _ (k :: l) _ (fun b o n z => PySem.Heap.get?_update_of_ne _ n.symm z) (get_upd _ ho rfl) (S.add u c) (fun x => ?_) (Nat.le_refl _))
    rw [List.mem_cons]
    exact Or.comm
/-- the rest of a walk over texts goes into the set -/
theorem fill {R : Result → Shared → Prop} {I S : Addr} {fp wr : List Addr} {n : Nat} {Pv : Nat → Value → Prop} {St : Nat → Heap → Prop} {val : Nat → Str} (W : Walks P w A.in1 I fp wr n Pv St) (away : S ∉ fp) (is : ∀ i v, Pv i v → ∃ t, v = .str (val i) t) (few : n + 1 < scanBound)
    (done : ∀ (h' : Heap) (tk : Nat) (D' : SD) (l' : List Str), (∀ b o, b ≠ S → b ∉ wr → s.heap.get? b = some o → h'.get? b = some o) → h'.get? S = some (sObj T D') → Has P w D' l' → (∀ x, x ∈ l' ↔ ∃ j, j < n ∧ val j = x) → R (.ok (.ret .none)) { s with heap := h', toks := tk }) :
    ∀ (m i : Nat) (h : Heap) (tk : Nat) (D : SD) (l : List Str), n - i = m → i ≤ n → St i h → (∀ b o, b ≠ S → b ∉ wr → s.heap.get? b = some o → h.get? b = some o) → h.get? S = some (sObj T D) → Has P w D l → (∀ x, x ∈ l ↔ ∃ j, j < i ∧ val j = x) → l.length ≤ i →
      codeAny (model P w) A (.builtin "set.update.loop" ⟨[.ref S, .ref I], []⟩) R { s with heap := h, toks := tk } := by
  intro m
  have awr : S ∉ wr := fun z => away (W.sub _ z)
  induction m with
  | zero =>
    intro i h tk D l hm hi hst keep at_ H mem len
    have e : i = n := by omega
    subst e
    refine codeAny_builtin PyProof.Rows.F.entry_set_update_loop ?_
    rw [Around.under_plainId PyProof.Rows.F.plain_set_update_loop _]
    show wpAny _ A.in1 (pyNext (.ref I) >>= _) _ _ _
    refine wpAny_bind (W.done _ _ _ hst fun h2 tk2 k2 => wpAny_pure ?_)
    exact done h2 tk2 D l (fun b o n1 n2 z => k2 b o n2 (keep b o n1 n2 z)) (k2 _ _ awr at_) H mem
  | succ m ih =>
    intro i h tk D l hm hi hst keep at_ H mem len
    refine codeAny_builtin PyProof.Rows.F.entry_set_update_loop ?_
    rw [Around.under_plainId PyProof.Rows.F.plain_set_update_loop _]
    show wpAny _ A.in1 (pyNext (.ref I) >>= _) _ _ _
    refine wpAny_bind (W.item i _ _ _ (by omega) hst fun v h2 tk2 hv hst2 k2 => ?_)
    obtain ⟨t, rfl⟩ := is i v hv
    show wpAny _ A.in1 (holding [Value.str (val i) t] (setAdd S (.str (val i) t)) >>= _) _ _ _
    refine wpAny_bind (wpAny_holding (put_any (k := val i) (l := l) (D := D) (T := T) (k2 _ _ awr at_) H (by omega) fun b D' l' h3 k3 at3 H3 mem3 len3 => ?_))
    refine wpAny_pure ⟨plainId_quiet PyProof.Rows.F.plain_set_update_loop _, ih (i + 1) h3 _ D' l' (by omega) (by omega) (W.frame _ _ _ hst2 fun b hb o z => k3 b o (fun e => away (e ▸ hb)) z) (fun b o n1 n2 z => k3 b o n1 (k2 b o n2 (keep b o n1 n2 z))) at3 H3 (fun x => ?_) (by omega)⟩
    rw [mem3 x, mem x]
    constructor
    · rintro (⟨j, hj, e⟩ | e)
      · exact ⟨j, by omega, e⟩
      · exact ⟨i, by omega, e.symm⟩
    · rintro ⟨j, hj, e⟩
      by_cases c : j = i
      · subst c
        exact .inr e.symm
      · exact .inl ⟨j, by omega, e⟩
/-- set(x): x's own texts go into a fresh set -/
theorem fresh_set {src : Value} {mem : Str → Prop} {Q : Value → Shared → Prop}
    (run : ∀ (A' : Around) (E' : Value → Shared → Prop) (Q' : Unit → Shared → Prop), A'.handled = A.handled →
      (∀ (h' : Heap) (tk : Nat) (D : SD) (l : List Str), (∀ b o, s.heap.get? b = some o → h'.get? b = some o) → h'.get? s.heap.objs.size = some (sObj "set" D) → Has P w D l → (∀ x, x ∈ l ↔ mem x) → Q' () { s with heap := h', toks := tk }) →
      wpAny (model P w) A' (Builtin.Frozenset.updateFrom "set.__init__" s.heap.objs.size src) Q' E' { s with heap := s.heap.push (sObj "set" (#[], 0, .fresh 0 0 (!w.params.followText "set-order"))) })
    (q : ∀ (h' : Heap) (tk : Nat) (D : SD) (l : List Str), (∀ b o, s.heap.get? b = some o → h'.get? b = some o) → h'.get? s.heap.objs.size = some (sObj "set" D) → Has P w D l → (∀ x, x ∈ l ↔ mem x) → Q (.ref s.heap.objs.size) { s with heap := h', toks := tk }) :
    wpAny (model P w) A (call (.type "set") [src]) Q E s := by
  obtain ⟨c, tl, chain⟩ := PySem.F.called_set.mro
  have made := PySem.F.called_set.made
  have below := PySem.F.called_set.sub
  have plain1 := PySem.F.called_set.notType
  have plain2 := PySem.F.called_set.canCreate
  have ask := PySem.F.typeCall_set_1 src
  refine wpAny_call (codeAny_of_tree (show wpAny _ _ (callAny (.type "set") _) _ _ _ from wpAny_pure ⟨Code.quiet_builtin _ (by decide +kernel), codeAny_builtin F.entry_type_call ?_⟩))
  rw [Around.under_plain (weight_type_call_type "set" [src] []) rfl]
  repeat (any_goals (first | assumption | wp_step))
  have laid : (s.heap.push (sObj "set" (#[], 0, .fresh 0 0 (!w.params.followText "set-order")))).get? s.heap.objs.size = some (sObj "set" (#[], 0, .fresh 0 0 (!w.params.followText "set-order"))) := Heap.get?_push_size _ rfl
  have kind : Shared.TypeIs { s with heap := s.heap.push (sObj "set" (#[], 0, .fresh 0 0 (!w.params.followText "set-order"))) } (.ref s.heap.objs.size) "set" := ⟨_, laid, rfl⟩
  have look := PySem.F.called_set.init.lookup
  have tie := PySem.F.called_set.init.bind (.ref s.heap.objs.size)
  refine codeAny_mono (code_set_led1 src (E := E) (Q₁ := fun v s1 => v = .ref s.heap.objs.size ∧ s1 = { s with heap := s.heap.push (sObj "set" (#[], 0, .fresh 0 0 (!w.params.followText "set-order"))) }) ⟨rfl, rfl⟩) fun r s1 hr => ?_
  match r, hr with
  | .error _, hr => exact hr
  | .ok (.ret v), ⟨e1, e2⟩ =>
    subst e1 e2
    repeat (any_goals (first | assumption | wp_step))
    refine codeAny_mono (codeAny_call_builtin (R := wants (fun v s2 => v = .none ∧ ∃ h' tk D l, s2 = { s with heap := h', toks := tk } ∧ (∀ b o, s.heap.get? b = some o → h'.get? b = some o) ∧ h'.get? s.heap.objs.size = some (sObj "set" D) ∧ Has P w D l ∧ (∀ x, x ∈ l ↔ mem x)) E)
      PySem.F.called_set.init.plain PySem.F.entry_set_init (PySem.check_set_init_1 kind ?_)) fun r2 s2 hr2 => ?_
    · unfold Builtin.«set.__init__» noKeywords
      generalize hU : Builtin.Frozenset.updateFrom "set.__init__" = U
      wp_walk
      subst hU
      refine run _ _ _ (by simp) fun h' tk D l k1 k2 k3 k4 => ?_
      show wpAny _ _ _ _ _ _
      first
        | exact wpAny_pure ⟨rfl, h', tk, D, l, rfl, k1, k2, k3, k4⟩
        | exact wpAny_pure (wpAny_pure ⟨rfl, h', tk, D, l, rfl, k1, k2, k3, k4⟩)
        | (wp_walk
           exact ⟨rfl, h', tk, D, l, rfl, k1, k2, k3, k4⟩)
    · match r2, hr2 with
      | .error _, hr2 => exact hr2
      | .ok (.ret v), ⟨e1, h', tk, D, l, e2, k1, k2, k3, k4⟩ =>
        subst e1 e2
        repeat (any_goals (first | assumption | wp_step))
        exact q _ _ _ _ k1 k2 k3 k4
end
end L2.Cal
end

section
set_option maxRecDepth 100000
set_option maxHeartbeats 4000000
namespace L2.Cal
open PySem PySem.Spec PyProof.Rows PySem.Froz L2
section
variable {P : Program} {w : World} {A : Around} {E : Value → Shared → Prop} {s : Shared}
theorem are_length {vs : List Value} {ss : List Str} (h : StrsAre vs ss) : vs.length = ss.length := by
  induction h with
  | nil => rfl
  | cons _ _ _ ih => simp [ih]
theorem are_at {vs : List Value} {ss : List Str} (h : StrsAre vs ss) : ∀ (i : Nat) (v : Value), vs[i]? = some v → ∃ t, v = .str (ss.getD i ⟨#[]⟩) t := by
  induction h with
  | nil => intro i v z; simp at z
  | cons y t _ ih =>
    intro i v z
    cases i with
    | zero => exact ⟨t, (Option.some.inj z).symm⟩
    | succ i => exact ih i v z
/-- set(xs), xs a list of texts -/
theorem set_list {b : Addr} {items : Array Value} {ss : List Str} {Q : Value → Shared → Prop} (hh : A.handled = none) (at_ : s.heap.IsList b items) (are : StrsAre items.toList ss) (few : ss.length + 1 < scanBound)
    (q : ∀ (h' : Heap) (tk : Nat) (D : SD) (l : List Str), (∀ b o, s.heap.get? b = some o → h'.get? b = some o) → h'.get? s.heap.objs.size = some (sObj "set" D) → Has P w D l → (∀ x, x ∈ l ↔ x ∈ ss) → Q (.ref s.heap.objs.size) { s with heap := h', toks := tk }) :
    wpAny (model P w) A (call (.type "set") [.ref b]) Q E s := by
  refine fresh_set (mem := fun x => x ∈ ss) (fun A' E' Q' hA k => ?_) q
  have h2 : A'.handled = none := hA.trans hh
  obtain ⟨ol, hol, hcl, nl, hdl⟩ := at_
  have lt : b < s.heap.objs.size := Heap.lt_size hol
  obtain ⟨ocls, odict, odata, oslots⟩ := ol
  simp only at hcl hdl
  subst hcl; subst hdl
  have there : (s.heap.push (sObj "set" (#[], 0, .fresh 0 0 (!w.params.followText "set-order")))).get? b = some { cls := .type "list", dict := odict, data := .seq items nl, slots := oslots } := Heap.get?_push_of_some _ hol
  have no1 := PySem.F.sub_list_set
  have no2 := PySem.F.sub_list_frozenset
  have no3 : (Value.type "list" == Value.type "dict") = false := by decide
  have isl : (s.heap.push (sObj "set" (#[], 0, .fresh 0 0 (!w.params.followText "set-order")))).IsList b items := ⟨_, there, rfl, nl, rfl⟩
  unfold Builtin.Frozenset.updateFrom
  generalize hI : pyIter = it
  wp_walk
  subst hI
  refine wpAny_pyIter_list isl (wpAny_bind (wpAny_runValue ?_))
  have sz : (s.heap.push (sObj "set" (#[], 0, .fresh 0 0 (!w.params.followText "set-order")))).objs.size = s.heap.objs.size + 1 := Heap.size_push ..
  have off : b ≠ (s.heap.push (sObj "set" (#[], 0, .fresh 0 0 (!w.params.followText "set-order")))).objs.size := by rw [sz]; exact Nat.ne_of_lt (Nat.lt_succ_of_lt lt)
  have n : items.size = ss.length := by rw [← Array.length_toList]; exact are_length are
  refine fill (s := s) (T := "set") (val := fun i => ss.getD i ⟨#[]⟩) (Walks.list (by simp [h2]) _ b off items) (S := s.heap.objs.size) ?_ (fun i v hv => ?_) (by omega) (fun h' tk D l keep at1 H mem => wpAny_pure (k h' tk D l (fun c o z => keep c o (Nat.ne_of_lt (Heap.lt_size z)) (fun m => ?_) z) at1 H fun x => (mem x).trans ?_))
    (items.size - 0) 0 _ _ _ [] rfl (Nat.zero_le _) ⟨⟨_, Heap.get?_push_size _ rfl, rfl, rfl⟩, isl.push _⟩ (fun c o _ _ z => Heap.get?_push_of_some _ (Heap.get?_push_of_some _ z)) (Heap.get?_push_of_some _ (Heap.get?_push_size _ rfl)) (Has.none 0) (fun x => by simp) (Nat.zero_le _)
  · rw [sz]
    intro z
    rcases List.mem_cons.mp z with z | z
    · exact absurd z (Nat.ne_of_lt (Nat.lt_succ_self _))
    · exact absurd (List.mem_singleton.mp z) (Nat.ne_of_gt lt)
  · exact are_at are i v (by rw [Array.getElem?_toList]; exact hv)
  · rw [List.mem_singleton.mp m, sz] at z
    exact absurd (Heap.lt_size z) (Nat.not_lt.mpr (Nat.le_succ _))
  · rw [n]
    constructor
    · rintro ⟨j, hj, e⟩
      rw [List.getD_eq_getElem?_getD, List.getElem?_eq_getElem hj] at e
      exact e ▸ List.getElem_mem hj
    · intro hx
      obtain ⟨j, hj, e⟩ := List.getElem_of_mem hx
      exact ⟨j, hj, by rw [List.getD_eq_getElem?_getD, List.getElem?_eq_getElem hj]; exact e⟩
/-- set(x), x a text -/
theorem set_text {y : Str} {t : Tok} {Q : Value → Shared → Prop} (hh : A.handled = none) (few : y.cps.size + 1 < scanBound)
    (q : ∀ (h' : Heap) (tk : Nat) (D : SD) (l : List Str), (∀ b o, s.heap.get? b = some o → h'.get? b = some o) → h'.get? s.heap.objs.size = some (sObj "set" D) → Has P w D l → (∀ x, x ∈ l ↔ ∃ c ∈ y.cps.toList, x = ⟨#[c]⟩) → Q (.ref s.heap.objs.size) { s with heap := h', toks := tk }) :
    wpAny (model P w) A (call (.type "set") [.str y t]) Q E s := by
  refine fresh_set (mem := fun x => ∃ c ∈ y.cps.toList, x = ⟨#[c]⟩) (fun A' E' Q' hA k => ?_) q
  have h2 : A'.handled = none := hA.trans hh
  unfold Builtin.Frozenset.updateFrom
  refine wpAny_bind (L2.Fz.anySet ?_)
  rw [if_neg Bool.false_ne_true]
  refine wpAny_bind (wpAny_of_eq (typeIs_str s y t) ?_)
  rw [if_neg (by decide)]
  refine wpAny_bind (wpAny_pyIter_str fun o St hW hst => ?_)
  have sz : (s.heap.push (sObj "set" (#[], 0, .fresh 0 0 (!w.params.followText "set-order")))).objs.size = s.heap.objs.size + 1 := Heap.size_push ..
  refine wpAny_bind (wpAny_runValue ?_)
  refine fill (s := s) (T := "set") (val := fun i => ⟨#[y.cps.getD i 0]⟩) (hW _ (by simp [h2])) (S := s.heap.objs.size) ?_ (fun i v hv => ?_) few (fun h' tk D l keep at1 H mem => wpAny_pure (k h' tk D l (fun c o z => keep c o (Nat.ne_of_lt (Heap.lt_size z)) (fun m => ?_) z) at1 H fun x => (mem x).trans ?_))
    y.cps.size 0 _ _ _ [] rfl (Nat.zero_le _) hst (fun c o _ _ z => Heap.get?_push_of_some _ (Heap.get?_push_of_some _ z)) (Heap.get?_push_of_some _ (Heap.get?_push_size _ rfl)) (Has.none 0) (fun x => by simp) (Nat.zero_le _)
  · rw [sz]
    intro z
    exact absurd (List.mem_singleton.mp z) (Nat.ne_of_lt (Nat.lt_succ_self _))
  · obtain ⟨c, u, hc, rfl⟩ := hv
    refine ⟨u, ?_⟩
    rw [Array.getD_eq_getD_getElem?, hc] <;> rfl
  · rw [List.mem_singleton.mp m, sz] at z
    exact absurd (Heap.lt_size z) (Nat.not_lt.mpr (Nat.le_succ _))
  · constructor
    · rintro ⟨j, hj, e⟩
      rw [Array.getD_eq_getD_getElem?, Array.getElem?_eq_getElem hj] at e
      exact ⟨_, by rw [Array.mem_toList_iff]; exact Array.getElem_mem hj, e.symm⟩
    · rintro ⟨c, hc, rfl⟩
      obtain ⟨j, hj, e⟩ := List.getElem_of_mem hc
      rw [Array.length_toList] at hj
      refine ⟨j, hj, ?_⟩
      rw [Array.getD_eq_getD_getElem?, Array.getElem?_eq_getElem hj]
      rw [Array.getElem_toList] at e
      rw [← e] <;> rfl
end
end L2.Cal
end

section
set_option maxRecDepth 100000
set_option maxHeartbeats 4000000
namespace L2.Cal
open PySem PySem.Spec PyProof.Rows PySem.Froz L2
/-! ### texts in order -/
theorem same_of_both : ∀ a b : List Nat, ltCps a b = false → ltCps b a = false → a = b
  | [], [], _, _ => rfl
  | [], b :: t, h, _ => by simp [ltCps] at h
  | a :: r, [], _, h => by simp [ltCps] at h
  | a :: r, b :: t, h1, h2 => by
    simp only [ltCps, Bool.or_eq_false_iff, Bool.and_eq_false_imp, decide_eq_false_iff_not, beq_iff_eq] at h1 h2
    have e : a = b := by omega
    subst e
    rw [same_of_both r t (h1.2 rfl) (h2.2 rfl)]
def Below (a b : Str) : Prop := ltCps a.cps.toList b.cps.toList = true
theorem below_of {a b : Str} (h : ltCps b.cps.toList a.cps.toList = false) (n : a ≠ b) : Below a b := by
  cases e : ltCps a.cps.toList b.cps.toList with
  | true => exact e
  | false =>
    have z := same_of_both _ _ e h
    exact absurd (by cases a; cases b; exact congrArg Str.mk (Array.toList_inj.mp z)) n
/-- each text is below the next one -/
def Climbs : List Str → Prop
  | a :: b :: r => Below a b ∧ Climbs (b :: r)
  | _ => True
theorem climbs_rising : ∀ (r : List Str) (p : Str), risingS p r = true → (p :: r).Nodup → Climbs (p :: r)
  | [], _, _, _ => trivial
  | x :: r, p, h, n => by
    simp only [risingS, Bool.and_eq_true, Bool.not_eq_true'] at h
    have n2 := List.nodup_cons.mp n
    exact ⟨below_of h.1 fun e => n2.1 (e ▸ List.mem_cons_self ..), climbs_rising r x h.2 n2.2⟩
theorem climbs_sorted {ys : List Str} (h : sortedS ys = true) (n : ys.Nodup) : Climbs ys := by
  cases ys with
  | nil => trivial
  | cons x r => exact climbs_rising r x h n
theorem Climbs.at {ys : List Str} : ∀ (i : Nat) (a b : Str), Climbs ys → ys[i]? = some a → ys[i + 1]? = some b → Below a b := by
  induction ys with
  | nil => intro i a b _ h; simp at h
  | cons x r ih =>
    intro i a b c h1 h2
    cases r with
    | nil => simp at h2
    | cons y r =>
      cases i with
      | zero =>
        simp at h1 h2
        subst h1 h2
        exact c.1
      | succ i => exact ih i a b c.2 (by simpa using h1) (by simpa using h2)
/-! ### as many and all there -/
theorem perm_of_into {α : Type} : ∀ (l m : List α), l.Nodup → (∀ x, x ∈ l → x ∈ m) → m.length ≤ l.length → m.Perm l
  | [], m, _, _, h => by
    have : m = [] := List.length_eq_zero_iff.mp (Nat.le_zero.mp h)
    subst this
    exact .nil
  | a :: l, m, n, sub, h => by
    obtain ⟨m1, m2, rfl⟩ := List.append_of_mem (sub a (List.mem_cons_self ..))
    have n2 := List.nodup_cons.mp n
    refine List.perm_middle.trans (.cons a (perm_of_into l (m1 ++ m2) n2.2 (fun x hx => ?_) ?_))
    · have z := sub x (List.mem_cons_of_mem _ hx)
      have ne : x ≠ a := fun e => n2.1 (e ▸ hx)
      rcases List.mem_append.mp z with z | z
      · exact List.mem_append_left _ z
      · rcases List.mem_cons.mp z with z | z
        · exact absurd z ne
        · exact List.mem_append_right _ z
    · simp only [List.length_append, List.length_cons] at h ⊢
      omega
section
variable {P : Program} {w : World} {A : Around} {E : Value → Shared → Prop} {s : Shared}
def txtOf : Value → Str | .str k _ => k | _ => ⟨#[]⟩
theorem are_of : ∀ (l : List Value), (∀ v ∈ l, ∃ k u, v = Value.str k u) → StrsAre l (l.map txtOf)
  | [], _ => .nil
  | v :: l, h => by
    obtain ⟨k, u, rfl⟩ := h v (List.mem_cons_self ..)
    exact .cons k u (are_of l fun x hx => h x (List.mem_cons_of_mem _ hx))
theorem Has.vals {D : SD} {l : List Str} (H : Has P w D l) : (∀ v ∈ D.1.toList.map (·.2), ∃ k u, v = Value.str k u) ∧ ((D.1.toList.map (·.2)).map txtOf).Perm l := by
  have el : ∀ e ∈ D.1.toList, ∃ k u, e.2 = Value.str k u ∧ (strKind P w).is k e.2 = true := fun e he => by
    obtain ⟨⟨k, hk, _⟩, _⟩ := H.ok.el e he
    obtain ⟨u, hu⟩ := Value.isStrOf_shape (show Value.isStrOf k e.2 = true from hk)
    exact ⟨k, u, hu, hk⟩
  refine ⟨fun v hv => ?_, perm_of_into _ _ H.one (fun x hx => ?_) ?_⟩
  · obtain ⟨e, he, rfl⟩ := List.mem_map.mp hv
    obtain ⟨k, u, h1, _⟩ := el e he
    exact ⟨k, u, h1⟩
  · obtain ⟨e, he, h1⟩ := (H.ok.mem x).mp hx
    obtain ⟨u, hu⟩ := Value.isStrOf_shape (show Value.isStrOf x e.2 = true from h1)
    exact List.mem_map.mpr ⟨e.2, List.mem_map.mpr ⟨e, he, rfl⟩, by rw [hu] <;> rfl⟩
  · rw [List.length_map, List.length_map, Array.length_toList]
    exact Nat.le_of_eq H.ok.sz
/-- sorted(x) of what gives texts -/
theorem sort_texts {src : Value} {good : Shared → List Str → Prop} {Q : Value → Shared → Prop} (few : ∀ s1 ss, good s1 ss → ss.length < 64)
    (col : ∀ (E' : Value → Shared → Prop) (Q' : List Value → Shared → Prop), (∀ s1 vs ss, good s1 ss → StrsAre vs ss → Q' vs s1) → wpAny (model P w) A.in1 (collect src) Q' E' s)
    (q : ∀ s1 s' (out : Array Value) (c : Nat) (ys ss : List Str), good s1 ss → (∀ b o, s1.heap.get? b = some o → s'.heap.get? b = some o) → s'.gens = s1.gens → s'.os = s1.os → s'.heap.get? s1.heap.objs.size = some (seqObj "list" out c) → StrsAre out.toList ys → ys.Perm ss → sortedS ys = true → Q (.ref s1.heap.objs.size) s') :
    wpAny (model P w) A (call (.builtin "sorted") [src]) Q E s := by
  refine Calls.call_function_entry kind_sorted plain_sorted entry_sorted (args_sorted1 _) ?_
  unfold Builtin.«sorted»
  refine wpAny_bind (m := checkCount "sorted" 1 1 _) (wpAny_pure (wpAny_bind (col _ _ fun s1 vs ss ok are => ?_)))
  have n : vs.length = ss.length := are_length are
  have lt := few s1 ss ok
  refine wpAny_bind (wpAny_newList ?_ (by rw [n, sizeLine_eq]; omega))
  have at1 : (s1.heap.push (seqObj "list" vs.toArray 0)).get? s1.heap.objs.size = some (seqObj "list" vs.toArray 0) := Heap.get?_push_size _ rfl
  refine wpAny_bind (wpAny_holding (wpAny_call_entry slot_list_sort ⟨_, at1, rfl⟩ entry_list_sort
    (list_sort_treeK strKind_oneLt (s := { s1 with heap := s1.heap.push (seqObj "list" vs.toArray 0) }) at1 are.keysOf (fun v1 v2 rest e => keyKind_strs (by rw [← e]; exact are)) (by rw [n]; exact lt) fun st' hp hs => ⟨_, rfl, ?_⟩) (args_list_sort _)))
  obtain ⟨ys, h1, h2, h3⟩ := sorted_out_str are hp hs
  obtain ⟨c, hc⟩ := sortedHeap_at (vs := vs) (out := (arrOf st').map (·.2)) at1
  refine wpAny_pure ⟨_, rfl, q s1 _ _ c ys ss ok (fun b o z1 => ?_) rfl rfl hc h1 h2 h3⟩
  have lt1 := Heap.lt_size z1
  show (sortedHeap (s1.heap.push (seqObj "list" vs.toArray 0)) s1.heap.objs.size vs _).get? b = some o
  rw [sortedHeap_old (Nat.ne_of_lt lt1) (by rw [size_push']; exact Nat.lt_succ_of_lt lt1)]
  exact Heap.get?_push_of_some _ z1
/-- sorted(a set of texts) -/
theorem sort_set {a : Addr} {D : SD} {l : List Str} {Q : Value → Shared → Prop} (hh : A.handled = none) (ho : s.heap.get? a = some (sObj "set" D)) (H : Has P w D l) (few : l.length < 64)
    (q : ∀ s' p (out : Array Value) (c : Nat) (ys : List Str), (∀ b o, s.heap.get? b = some o → s'.heap.get? b = some o) → s'.gens = s.gens → s'.os = s.os → s.heap.objs.size ≤ p → s'.heap.get? p = some (seqObj "list" out c) → StrsAre out.toList ys → ys.Perm l → Climbs ys → Q (.ref p) s') :
    wpAny (model P w) A (call (.builtin "sorted") [.ref a]) Q E s := by
  obtain ⟨v1, v2⟩ := H.vals
  refine sort_texts (good := fun s1 ss => ss.Perm l ∧ (∀ b o, s.heap.get? b = some o → s1.heap.get? b = some o) ∧ s.heap.objs.size ≤ s1.heap.objs.size ∧ s1.gens = s.gens ∧ s1.os = s.os) (fun s1 ss h => by rw [h.1.length_eq]; exact few) (fun E' Q' k => ?_)
    fun s1 s' out c ys ss ⟨ok, k1, z, g1, o1⟩ k g o at1 are pm so => q s' _ out c ys (fun b o e => k b o (k1 b o e)) (g.trans g1) (o.trans o1) z at1 are (pm.trans ok) (climbs_sorted so ((pm.trans ok).nodup_iff.mpr H.one))
  obtain ⟨es, ep, t⟩ := D
  have sz : es.size = l.length := H.ok.sz
  refine collect_set (A := A.in1) (by simpa using hh) ⟨_, ho, rfl, rfl⟩ H.ok.fit (by show es.size < scanBound; unfold scanBound; omega) H.way.ris H.way.led fun s1 vs k1 z g1 o1 pm => ?_
  exact k s1 vs _ ⟨(pm.map txtOf).trans v2, k1, z, g1, o1⟩ (are_of vs fun v hv => v1 v (pm.mem_iff.mp hv))
/-- the signs of a text -/
theorem are_signs {y : Str} {acc : Array Value} (h : ItemsOf (SignAt y) acc y.cps.size) : StrsAre acc.toList (signs y) := by
  have z : acc.toList.map txtOf = signs y := by
    apply List.ext_getElem?
    intro i
    unfold signs
    rw [List.getElem?_map, List.getElem?_map, Array.getElem?_toList, Array.getElem?_toList]
    cases e : acc[i]? with
    | none =>
      have n : acc.size ≤ i := Array.getElem?_eq_none_iff.mp e
      rw [h.1] at n
      rw [Array.getElem?_eq_none_iff.mpr n] <;> rfl
    | some v =>
      obtain ⟨c, u, hc, rfl⟩ := h.2 i v e
      rw [hc] <;> rfl
  rw [← z]
  refine are_of _ fun v hv => ?_
  obtain ⟨i, hi, e⟩ := List.getElem_of_mem hv
  obtain ⟨c, u, _, z⟩ := h.2 i v (by rw [← Array.getElem?_toList, List.getElem?_eq_getElem hi, e])
  exact ⟨_, u, z⟩
end
section
variable {X : Cx}
theorem inv_list {pins : List (Addr × Obj)} {σ : St} {H : Hp} {s s' : Shared} {p : Addr} {out : Array Value} {c : Nat} {ys : List Str} (I : Inv X pins σ H s) (k : ∀ b o, s.heap.get? b = some o → s'.heap.get? b = some o) (g : s'.gens = s.gens) (o : s'.os = s.os) (z : s.heap.objs.size ≤ p)
    (at1 : s'.heap.get? p = some (seqObj "list" out c)) (are : StrsAre out.toList ys) (few : ys.length < 64) : Inv X pins σ (upd H p (.lst (ys.map V.str))) s' ∧ H p = none := by
  have n : H p = none := I.hok.fresh z
  have len : (ys.map V.str).length ≤ sizeLine := by rw [List.length_map, sizeLine_eq]; omega
  have J : Inv X pins σ (upd H p (.lst (ys.map V.str))) { s with heap := s'.heap, gens := s'.gens, drawn := s'.drawn, toks := s'.toks } :=
    I.call (ch := []) (Un.laid k z n) (I.hok.laid k z ⟨len, out.toList, c, vals_of_strs are, at1⟩) (by rw [g]; exact I.bare) (fun _ z => nomatch z)
  have e : s' = { s with heap := s'.heap, gens := s'.gens, drawn := s'.drawn, toks := s'.toks } := by
    cases s'
    cases s
    cases o
    rfl
  rw [e]
  exact ⟨J, n⟩
/-- a list or a tuple of texts: sorted(set(xs)) -/
def tSortedSet (K : PySem.W.Frag) (ta : TE) : TE := fun σ H Q => ta σ H fun x H1 => ∃ (l : Addr) (xs : List Str), x = V.ref l ∧ SqL K H1 l (xs.map V.str) ∧ xs.length < 64 ∧
  ∀ (ys : List Str) (p : Addr), Climbs ys → ys.Nodup → (∀ x, x ∈ ys ↔ x ∈ xs) → H1 p = none → Q (.ref p) (upd H1 p (.lst (ys.map V.str)))
theorem pe_sortedSet {a : Expr} {ta : TE} {p p2 q pos : Pos} (hc : X.calm = true) (hg : Gl X "sorted") (hm : X.mg "sorted" = none) (hg2 : Gl X "set") (hm2 : X.mg "set" = none) (ha : PE X a ta)
    (na : starEach [a] X.env = (false, eval a X.env) :: starEach [] X.env := by rfl) : PE X (.Call (.Name "sorted" p) [.Call (.Name "set" p2) [a] [] q] [] pos) (tSortedSet X.K ta) := by
  refine ⟨fun pins s σ H Q I h => Call_ (ld_blt I hg hm PyProof.Rows.boot_sorted (PyProof.Rows.callWith_builtin1 (PyProof.Rows.args_cons ?_ rfl) rfl rfl))⟩
  refine Call_ (ld_blt I hg2 hm2 PyProof.Rows.boot_set (PyProof.Rows.callWith_type1 (PyProof.Rows.args_cons (thn (ha.run pins s σ H _ I h) fun v s1 ⟨x, H1, I1, r1, q1⟩ => PyProof.Rows.args_nil ?_) na) na rfl))
  obtain ⟨l, xs, rfl, hq, few, fin⟩ := q1
  cases r1
  obtain ⟨its, r, pl, _⟩ := I1.list hq
  refine set_list (I1.ok.hd hc) pl.isList (by simpa using r.strs) (by unfold scanBound; omega) fun h' tk D L k1 at1 S mem => PyProof.Rows.args_nil ?_
  have I2 : Inv X pins σ H1 { s1 with heap := h', toks := tk } := I1.kept k1
  have short : L.length < 64 := by
    refine Nat.lt_of_le_of_lt ?_ few
    exact (List.Nodup.length_le_of_subset S.one fun x hx => (mem x).mp hx)
  refine sort_set (I2.ok.hd hc) at1 S short fun s' b out c ys k g o z at2 are pm cl => ?_
  obtain ⟨J, n⟩ := inv_list I2 k g o z at2 are (by rw [pm.length_eq]; exact short)
  exact ⟨.ref b, _, J, rfl, fin ys b cl (pm.nodup_iff.mpr S.one) (fun x => pm.mem_iff.trans (mem x)) n⟩
/-- len(set(y)), y a text -/
def tLenSetS (ta : TE) : TE := fun σ H Q => ta σ H fun x H1 => ∃ y : Str, x = .str y ∧ y.cps.size ≤ 1000 ∧ ∀ l : List Str, l.Nodup → (∀ x, x ∈ l ↔ ∃ c ∈ y.cps.toList, x = ⟨#[c]⟩) → Q (.int l.length) H1
theorem pe_lenSetS {a : Expr} {ta : TE} {p p2 q pos : Pos} (hc : X.calm = true) (hg : Gl X "len") (hm : X.mg "len" = none) (hg2 : Gl X "set") (hm2 : X.mg "set" = none) (ha : PE X a ta)
    (na : starEach [a] X.env = (false, eval a X.env) :: starEach [] X.env := by rfl) : PE X (.Call (.Name "len" p) [.Call (.Name "set" p2) [a] [] q] [] pos) (tLenSetS ta) := by
  refine ⟨fun pins s σ H Q I h => Call_ (ld_blt I hg hm PySem.boot_len (PyProof.Rows.callWith_builtin1 (PyProof.Rows.args_cons ?_ rfl) rfl rfl))⟩
  refine Call_ (ld_blt I hg2 hm2 PyProof.Rows.boot_set (PyProof.Rows.callWith_type1 (PyProof.Rows.args_cons (thn (ha.run pins s σ H _ I h) fun v s1 ⟨x, H1, I1, r1, q1⟩ => PyProof.Rows.args_nil ?_) na) na rfl))
  obtain ⟨y, rfl, few, fin⟩ := q1
  obtain ⟨t, rfl⟩ := r1
  refine set_text (I1.ok.hd hc) (by unfold scanBound; omega) fun h' tk D L k1 at1 S mem => PyProof.Rows.args_nil ?_
  have I2 : Inv X pins σ H1 { s1 with heap := h', toks := tk } := I1.kept k1
  have short : D.1.size = L.length := S.ok.sz
  have le : L.length ≤ y.cps.size := by
    have z := List.Nodup.length_le_of_subset S.one (l₂ := y.cps.toList.map fun c => (⟨#[c]⟩ : Str)) fun x hx => by
      obtain ⟨c, hc, rfl⟩ := (mem x).mp hx
      exact List.mem_map.mpr ⟨c, hc, rfl⟩
    simpa using z
  refine call_len_set at1 ⟨rfl, rfl, rfl⟩ rfl S.ok.fit (by rw [short] <;> omega) ⟨.int L.length, H1, I2.tok _, ⟨_, by rw [short]⟩, fin L S.one mem⟩
/-- sorted(y), y a text -/
def rSortText : List V → Hp → VK → Prop := fun vs H Q => ∃ y : Str, vs = [.str y] ∧ y.cps.size < 64 ∧ ∀ (ys : List Str) (p : Addr), ys.Perm (signs y) → sortedS ys = true → H p = none → Q (.ref p) (upd H p (.lst (ys.map V.str)))
theorem cr_sortText (hc : X.calm = true) : CallR X (.builtin "sorted") rSortText := by
  intro pins s σ H vs us Q I r h
  obtain ⟨y, rfl, few, q⟩ := h
  cases r with
  | cons r rr =>
    cases rr
    obtain ⟨t, rfl⟩ := r
    refine sort_texts (good := fun s1 ss => ss = signs y ∧ (∀ b o, s.heap.get? b = some o → s1.heap.get? b = some o) ∧ s1.gens = s.gens ∧ s1.drawn = s.drawn ∧ s1.os = s.os) (fun s1 ss h => by rw [h.1, signs_length]; exact few) (fun E' Q' k => ?_)
      fun s1 s' out c ys ss ⟨e, k1, g1, d1, o1⟩ k g o at1 are pm so => ?_
    · exact wpAny_collect_str (by simpa using I.ok.hd hc) y t (fun s1 acc k1 g d o it => k s1 acc.toList _ ⟨rfl, k1, g, d, o⟩ (are_signs it)) (by rw [sizeLine_eq]; omega)
    · subst e
      have I1 : Inv X pins σ H s1 := by
        have z : s1 = { s with heap := s1.heap, toks := s1.toks } := by
          cases s1
          cases s
          cases g1
          cases d1
          cases o1
          rfl
        rw [z]
        exact I.kept k1
      obtain ⟨J, n⟩ := inv_list I1 k g o (Nat.le_refl _) at1 are (by rw [pm.length_eq, signs_length]; exact few)
      exact ⟨.ref _, _, J, rfl, q ys _ pm so n⟩
/-- list(y), y a text -/
def rListText : List V → Hp → VK → Prop := fun vs H Q => ∃ y : Str, vs = [.str y] ∧ y.cps.size ≤ 1000 ∧ ∀ p : Addr, H p = none → Q (.ref p) (upd H p (.lst ((signs y).map V.str)))
theorem cr_listText (hc : X.calm = true) : CallR X (.type "list") rListText := by
  intro pins s σ H vs us Q I r h
  obtain ⟨y, rfl, few, q⟩ := h
  cases r with
  | cons r rr =>
    cases rr
    obtain ⟨t, rfl⟩ := r
    refine call_list_str (I.ok.hd hc) y t (fun h' tk acc c k at1 it => ?_) (by rw [sizeLine_eq]; omega)
    have are := are_signs it
    have len : ((signs y).map V.str).length ≤ sizeLine := by
      rw [List.length_map, signs_length, sizeLine_eq]
      show y.cps.size ≤ _
      omega
    exact ⟨.ref s.heap.objs.size, _, I.laid (t' := tk) k (Nat.le_refl _) (show ObjOk X.prog X.w _ h' _ (.lst ((signs y).map V.str)) from ⟨len, acc.toList, c, vals_of_strs are, at1⟩), rfl, q _ (I.hok.fresh (Nat.le_refl _))⟩
end
end L2.Cal
end

section
set_option maxRecDepth 100000
set_option maxHeartbeats 4000000
namespace L2.Cal
open PySem PySem.Spec PyProof.Rows L2
abbrev sShuf : Stmt := topS 49
theorem scShuf : FnScope ["_law_jar_here", "_law_things_here", "_law_rest", "_law_found", "_law_turn"] ["_law_jar_here", "_law_things_here"] (defScope sShuf) := ⟨rfl, rfl, rfl, by decide +kernel, rfl, by decide +kernel, by decide +kernel⟩

theorem app_cps (a b : Str) : (a ++ b).cps.toList = a.cps.toList ++ b.cps.toList := by
  show (Array.append _ _).toList = _
  simp
theorem sign_cps (a : Str) (c : Nat) : (a ++ (⟨#[c]⟩ : Str)).cps.toList = a.cps.toList ++ [c] := app_cps _ _
theorem Jar.keep {H H' : Hp} {j p : Addr} (J : Jar H j) (n : H p = none) (k : ∀ b o, b ≠ p → H b = some o → H' b = some o) : Jar H' j := by
  obtain ⟨d, s, c, e, r⟩ := J
  exact ⟨d, s, c, k _ _ (fun z => by rw [z, n] at e; cases e) e, r⟩
theorem seq_in {r : Int} {n : Nat} (h0 : 0 ≤ r) (h1 : r < n) : seqIndex? r n = some r.toNat := by
  unfold seqIndex?
  dsimp only
  rw [if_neg (by omega : ¬ r < 0), if_pos (by rw [Bool.and_eq_true]; exact ⟨decide_eq_true h0, decide_eq_true h1⟩)]
theorem erase_map {α β : Type} (f : α → β) : ∀ (l : List α) (k : Nat), (l.map f).eraseIdx k = (l.eraseIdx k).map f
  | [], _ => rfl
  | _ :: _, 0 => rfl
  | a :: l, k + 1 => congrArg (f a :: ·) (erase_map f l k)
theorem erase_perm {α : Type} : ∀ {l : List α} {k : Nat} (h : k < l.length), ([l[k]] ++ l.eraseIdx k).Perm l
  | a :: l, 0, _ => .refl _
  | a :: l, k + 1, h => (List.Perm.swap a _ _).trans (.cons a (erase_perm (l := l) (Nat.lt_of_succ_lt_succ h)))
def spShuf : Sp := fun vs H Q _ => ∃ (j : Addr) (y : Str), vs = [.ref j, .str y] ∧ Jar H j ∧ y.cps.size ≤ 100 ∧ ∀ (z : Str) (H' : Hp), Kp j H H' → Jar H' j → z.cps.toList.Perm y.cps.toList → Q (.str z) H'
section
variable {P : Program} {w : World} {K : PySem.W.Frag} {mg : Str → Option Value} {base : Heap}
theorem ok_shuf {f fD : Addr} {fd fdD : FuncData} (D : DefAt K mg "_law_shuffled" sShuf ["_law_jar_here", "_law_things_here"] f fd) (DD : DefAt K mg "_law_dip" sDip ["_law_jar_here", "_law_wide"] fD fdD) (T : Txt mg) : FnOk P w K mg base CX0 2 f fd ["_law_jar_here", "_law_things_here"] spShuf := by
  have GD : FnOk P w K mg base CX0 1 fD fdD ["_law_jar_here", "_law_wide"] spDip := ok_dip DD T
  refine D.F.ok scShuf (fun vs H Q E h => ?_) (fun cdv A outer sh H vs Q E hr h => ?_)
  · obtain ⟨j, y, rfl, _⟩ := h
    rfl
  · obtain ⟨j, y, rfl, hj, hy, q⟩ := h
    refine ⟨_, (pss_cons (ps_par (i := 2) (j := 3) (by rfl) scShuf.nd rfl rfl (by decide) rfl rfl (pa_cons (pe_callTy (cr_listText rfl) (by rfl) T.b_list (by decide +kernel) (pa_cons (pv 1) pa_nil)) (pa_cons pe_str pa_nil)) (by rfl))
  (pss_cons (ps_for PassesOwn.never rfl (pi_range1 (by rfl) T.b_range (pa_cons (pe_callB call_len_seq (by rfl) T.b_len (by decide +kernel) (pa_cons (pv 2) pa_nil)) pa_nil)) (pg_name (i := 4) scShuf.nd rfl (.inl rfl))
   (pss_one (ps_set (i := 3) scShuf.nd rfl (.inl rfl) (pe_op op_add_str (pv 3) (pe_bm PySem.F.plainAttrs_list PySem.F.slot_list_pop PySem.F.type_list_pop mt_popAt (pv 2) (pa_cons (pe_call GD (hr.mono (by decide)) (by rfl) DD.g DD.F.kp DD.b .nil pass0 (pa_cons (pv 0) (pa_cons (pe_callB call_len_seq (by rfl) T.b_len (by decide +kernel) (pa_cons (pv 2) pa_nil)) pa_nil))) pa_nil))))))
  (pss_one (ps_ret (pv 3))))), ?_⟩
    refine ⟨_, rfl, y, rfl, by omega, fun p np => ⟨_, _, rfl, _, rfl, p, _, rfl, .inl (SqL.of upd_same), ?_⟩⟩
    rw [List.length_map, signs_length]
    have hp : j ≠ p := by
      obtain ⟨d, s, c, e, _⟩ := hj
      exact fun z => by rw [z, np] at e; cases e
    have hly : y.length = y.cps.size := rfl
    refine ⟨(y.length : Int), rfl, by omega, by omega, for_range (n := y.cps.size) (fun i σ H' => ∃ (z : Str) (cs : List Nat) (v : Option V), σ = [some (.ref j), some (.str y), some (.ref p), some (.str z), v] ∧
      H' p = some (.lst (cs.map fun c => V.str ⟨#[c]⟩)) ∧ Jar H' j ∧ (∀ b o, b ≠ j → b ≠ p → H b = some o → H' b = some o) ∧ (z.cps.toList ++ cs).Perm y.cps.toList ∧ z.cps.toList.length = i)
      ⟨⟨#[]⟩, y.cps.toList, none, rfl, ?_, hj.new np, fun b o _ n e => by rw [upd_ne n]; exact e, .refl _, rfl⟩ (fun i σ H' hi hP => ?_) (fun σ H' hP => ?_)⟩
    · rw [upd_same]
      unfold signs
      rw [List.map_map] <;> rfl
    · obtain ⟨z, cs, v, rfl, hl, hJ, hk, hpm, hz⟩ := hP
      obtain ⟨d, s, c, ej, h0, h1, h2, h3⟩ := hJ
      have hlen := hpm.length_eq
      simp only [List.length_append, Array.length_toList] at hlen hz
      have hcs : 0 < cs.length := by omega
      refine ⟨_, rfl, _, rfl, .inl ⟨rfl, _, SqL.of hl⟩, _, rfl, _, rfl, p, _, rfl, .inl (SqL.of hl), j, _, d, s, c, rfl, ej, h0, h1, h2, h3, by rw [List.length_map]; omega, by rw [List.length_map]; omega, fun r d' s' c' r0 r1 a0 a1 a2 a3 => ?_⟩
      rw [List.length_map] at r1
      have hk1 : r.toNat < cs.length := by omega
      have up : (upd H' j (.lst [.int d', .int s', .int c'])) p = some (.lst (cs.map fun c => V.str ⟨#[c]⟩)) := by rw [upd_ne hp.symm]; exact hl
      have hsi : seqIndex? r (cs.map fun c => V.str ⟨#[c]⟩).length = some r.toNat := by
        rw [List.length_map]
        exact seq_in r0 r1
      refine ⟨p, _, r, r.toNat, _, rfl, rfl, up, by omega, by omega, hsi, (by rw [List.getElem?_map, List.getElem?_eq_getElem hk1] <;> rfl), _, _, rfl, rfl, ?_, ?_⟩
      · rw [sizeLine_eq]
        show z.cps.size + 1 ≤ _
        have : z.cps.size = i := by rw [← Array.length_toList]; exact hz
        omega
      · refine ⟨_, cs.eraseIdx r.toNat, _, rfl, ?_, ?_, fun b o n1 n2 e => ?_, ?_, ?_⟩
        · rw [upd_same, erase_map]
        · exact ⟨d', s', c', by rw [upd_ne hp, upd_same], a0, a1, a2, a3⟩
        · rw [upd_ne n2, upd_ne n1]
          exact hk b o n1 n2 e
        · rw [sign_cps, List.append_assoc]
          exact (List.Perm.append_left _ (erase_perm hk1)).trans hpm
        · rw [sign_cps]
          simp only [List.length_append, List.length_cons, List.length_nil, Array.length_toList] at hz ⊢
          omega
    · obtain ⟨z, cs, v, rfl, hl, hJ, hk, hpm, hz⟩ := hP
      have hlen := hpm.length_eq
      simp only [List.length_append, Array.length_toList] at hlen hz
      have hcs : cs = [] := List.length_eq_zero_iff.mp (by omega)
      subst hcs
      rw [List.append_nil] at hpm
      exact ⟨_, rfl, q z _ (fun b o n e => hk b o n (fun z => by rw [z, np] at e; cases e) e) hJ hpm⟩
end
end L2.Cal
end

section
set_option maxRecDepth 100000
set_option maxHeartbeats 4000000
namespace L2.Cal
open PySem PySem.Spec PyProof.Rows L2
abbrev sLett : Stmt := topS 50
theorem scLett : FnScope ["_law_jar_here", "_law_many", "_law_rest", "_law_found", "_law_turn"] ["_law_jar_here", "_law_many"] (defScope sLett) := ⟨rfl, rfl, rfl, by decide +kernel, rfl, by decide +kernel, by decide +kernel⟩

def one (c : Nat) : Str := ⟨#[c]⟩
theorem join_signs (z : Str) : Txt.join (PySem.Str.ofString "") (signs z) = z := by
  have e : Txt.join (PySem.Str.ofString "") (signs z) = PySem.Str.join (PySem.Str.ofString "") (signs z) := eq_of_beq (join_plain_closes _ _)
  rw [e, show PySem.Str.ofString "" = (⟨#[]⟩ : Str) by decide +kernel]
  exact join_nil_signs z
theorem ones_back {ys : List Str} {cs : List Nat} (h : ys.Perm (cs.map one)) : ∃ z : Str, ys = signs z ∧ z.cps.toList.Perm cs := by
  have g : (cs.map one).map (fun s => s.cps.getD 0 0) = cs := by
    rw [List.map_map]
    exact (List.map_congr_left fun c _ => rfl).trans (List.map_id _)
  refine ⟨⟨(ys.map fun s => s.cps.getD 0 0).toArray⟩, ?_, ?_⟩
  · unfold signs
    dsimp only
    rw [List.map_map]
    refine (List.map_id' ys).symm.trans (List.map_congr_left fun s hs => ?_)
    obtain ⟨c, _, rfl⟩ := List.mem_map.mp (h.mem_iff.mp hs)
    rfl
  · dsimp only
    have := h.map (fun s => s.cps.getD 0 0)
    rw [g] at this
    exact this
/-- letters, each once -/
def Lett (z : Str) : Prop := z.cps.toList.Nodup ∧ ∀ c ∈ z.cps.toList, 97 ≤ c ∧ c ≤ 122
theorem Lett.perm {y z : Str} (h : Lett y) (p : z.cps.toList.Perm y.cps.toList) : Lett z := ⟨p.nodup_iff.mpr h.1, fun c hc => h.2 c (p.mem_iff.mp hc)⟩
theorem sum_ones : ∀ l : List Nat, (l.map fun _ => 1).sum = l.length
  | [] => rfl
  | a :: l => by rw [List.map_cons, List.sum_cons, sum_ones l, List.length_cons, Nat.add_comm]
def spLett : Sp := fun vs H Q _ => ∃ (j : Addr) (m : Nat), vs = [.ref j, .int m] ∧ Jar H j ∧ m ≤ 11 ∧ ∀ (z : Str) (H' : Hp), Kp j H H' → Jar H' j → Lett z → z.cps.size = m → Q (.str z) H'
section
variable {P : Program} {w : World} {K : PySem.W.Frag} {mg : Str → Option Value} {base : Heap}
theorem ok_lett {f fD : Addr} {fd fdD : FuncData} (D : DefAt K mg "_law_letters" sLett ["_law_jar_here", "_law_many"] f fd) (DD : DefAt K mg "_law_dip" sDip ["_law_jar_here", "_law_wide"] fD fdD) (T : Txt mg) : FnOk P w K mg base CX0 2 f fd ["_law_jar_here", "_law_many"] spLett := by
  have GD : FnOk P w K mg base CX0 1 fD fdD ["_law_jar_here", "_law_wide"] spDip := ok_dip DD T
  refine D.F.ok scLett (fun vs H Q E h => ?_) (fun cdv A outer sh H vs Q E hr h => ?_)
  · obtain ⟨j, m, rfl, _⟩ := h
    rfl
  · obtain ⟨j, m, rfl, hj, hm, q⟩ := h
    refine ⟨_, (pss_cons (ps_par (i := 2) (j := 3) (by rfl) scLett.nd rfl rfl (by decide) rfl rfl (pa_cons (pe_callTy (cr_listText rfl) (by rfl) T.b_list (by decide +kernel) (pa_cons pe_str pa_nil)) (pa_cons (pe_lstS pa_nil) pa_nil)) (by rfl))
  (pss_cons (ps_for PassesOwn.never rfl (pi_range1 (by rfl) T.b_range (pa_cons (pv 1) pa_nil)) (pg_name (i := 4) scLett.nd rfl (.inl rfl))
   (pss_one (ps_expr (pe_bm PySem.F.plainAttrs_list PySem.F.slot_list_append PySem.F.type_list_append mt_append (pv 3) (pa_cons (pe_bm PySem.F.plainAttrs_list PySem.F.slot_list_pop PySem.F.type_list_pop mt_popAt (pv 2) (pa_cons (pe_call GD (hr.mono (by decide)) (by rfl) DD.g DD.F.kp DD.b .nil pass0 (pa_cons (pv 0) (pa_cons (pe_callB call_len_seq (by rfl) T.b_len (by decide +kernel) (pa_cons (pv 2) pa_nil)) pa_nil))) pa_nil)) pa_nil)))))
  (pss_one (ps_ret (pe_join pe_str (pe_callB cr_sortedS (by rfl) T.b_sorted (by decide +kernel) (pa_cons (pv 3) pa_nil))))))), ?_⟩
    refine ⟨_, rfl, by decide +kernel, fun p np => ⟨(by show 0 ≤ sizeLine; decide), fun l H1 s1 nl el => ?_⟩⟩
    have hp : j ≠ p := by
      obtain ⟨d, s, c, e, _⟩ := hj
      exact fun z => by rw [z, np] at e; cases e
    have abc : (Str.ofString "abcdefkmxyz").cps.toList = [97, 98, 99, 100, 101, 102, 107, 109, 120, 121, 122] := by decide +kernel
    have ep : H1 p = some (.lst ([97, 98, 99, 100, 101, 102, 107, 109, 120, 121, 122].map fun c => V.str (one c))) := by
      refine s1 _ _ ?_
      rw [upd_same]
      unfold signs
      rw [abc, List.map_map] <;> rfl
    have hjl : j ≠ l := by
      obtain ⟨d, s, c, e, _⟩ := (hj.new np).same s1
      exact fun z => by
        obtain ⟨d2, s2, c2, e2, _⟩ := hj.new (o := .lst ((signs (Str.ofString "abcdefkmxyz")).map V.str)) np
        rw [z, nl] at e2
        cases e2
    have hpl : p ≠ l := fun z => by rw [← z, upd_same] at nl; cases nl
    have nl0 : H l = none := by
      cases e : H l with
      | none => rfl
      | some o => rw [upd_ne hpl.symm, e] at nl; cases nl
    refine ⟨_, _, rfl, _, rfl, (m : Int), rfl, by omega, by omega, for_range (n := m) (fun i σ H' => ∃ (cs fs : List Nat) (v : Option V), σ = [some (.ref j), some (.int m), some (.ref p), some (.ref l), v] ∧
      H' p = some (.lst (cs.map fun c => V.str (one c))) ∧ H' l = some (.lst (fs.map fun c => V.str (one c))) ∧ Jar H' j ∧ (∀ b o, b ≠ j → b ≠ p → b ≠ l → H b = some o → H' b = some o) ∧ (fs ++ cs).Perm [97, 98, 99, 100, 101, 102, 107, 109, 120, 121, 122] ∧ fs.length = i)
      ⟨_, [], none, rfl, ep, el, (hj.new np).same s1, fun b o _ n _ e => s1 _ _ (by rw [upd_ne n]; exact e), .refl _, rfl⟩ (fun i σ H' hi hP => ?_) (fun σ H' hP => ?_)⟩
    · obtain ⟨cs, fs, v, rfl, hc, hf, hJ, hk, hpm, hz⟩ := hP
      obtain ⟨d, s, c, ej, h0, h1, h2, h3⟩ := hJ
      have hlen := hpm.length_eq
      rw [List.length_append, hz] at hlen
      simp only [List.length_cons, List.length_nil] at hlen
      have hcs : 0 < cs.length := by omega
      refine ⟨_, rfl, .inl ⟨rfl, _, SqL.of hf⟩, _, rfl, .inl ⟨rfl, _, SqL.of hc⟩, _, rfl, _, rfl, p, _, rfl, .inl (SqL.of hc), j, _, d, s, c, rfl, ej, h0, h1, h2, h3, by rw [List.length_map]; omega, by rw [List.length_map]; omega, fun r d' s' c' r0 r1 a0 a1 a2 a3 => ?_⟩
      rw [List.length_map] at r1
      have hk1 : r.toNat < cs.length := by omega
      have up : (upd H' j (.lst [.int d', .int s', .int c'])) p = some (.lst (cs.map fun c => V.str (one c))) := by rw [upd_ne hp.symm]; exact hc
      have ul : (upd (upd H' j (.lst [.int d', .int s', .int c'])) p (.lst ((cs.map fun c => V.str (one c)).eraseIdx r.toNat))) l = some (.lst (fs.map fun c => V.str (one c))) := by rw [upd_ne hpl.symm, upd_ne hjl.symm]; exact hf
      have hsi : seqIndex? r (cs.map fun c => V.str (one c)).length = some r.toNat := by
        rw [List.length_map]
        exact seq_in r0 r1
      refine ⟨p, _, r, r.toNat, _, rfl, rfl, up, by omega, by omega, hsi, (by rw [List.getElem?_map, List.getElem?_eq_getElem hk1] <;> rfl), l, _, _, rfl, rfl, ul, ?_, ?_⟩
      · rw [List.length_map, hz, sizeLine_eq]
        omega
      · refine ⟨cs.eraseIdx r.toNat, fs ++ [cs[r.toNat]], _, rfl, ?_, ?_, ?_, fun b o n1 n2 n3 e => ?_, ?_, ?_⟩
        · rw [upd_ne hpl, upd_same, erase_map]
        · rw [upd_same, List.map_append]
          rfl
        · exact ⟨d', s', c', by rw [upd_ne hjl, upd_ne hp, upd_same], a0, a1, a2, a3⟩
        · rw [upd_ne n3, upd_ne n2, upd_ne n1]
          exact hk b o n1 n2 n3 e
        · rw [List.append_assoc]
          exact (List.Perm.append_left _ (erase_perm hk1)).trans hpm
        · simp [hz]
    · obtain ⟨cs, fs, v, rfl, hc, hf, hJ, hk, hpm, hz⟩ := hP
      refine ⟨⟨_, rfl⟩, _, rfl, l, fs.map one, rfl, SqL.of (by rw [hf, List.map_map] <;> rfl), by rw [List.length_map]; omega, fun ys p2 pm so n2 => ?_⟩
      obtain ⟨z, rfl, hzp⟩ := ones_back pm
      have sub := List.Nodup.sublist (List.sublist_append_left fs cs) (hpm.nodup_iff.mpr (by decide))
      have zl : z.cps.size = m := by
        rw [← Array.length_toList, hzp.length_eq, hz]
      refine ⟨_, p2, _, rfl, rfl, .inl (SqL.of upd_same), ?_, ?_⟩
      · have e1 : ((signs z).map (·.length)).sum = m := by
          unfold signs
          rw [List.map_map, show ((fun x : Str => x.length) ∘ fun n => (⟨#[n]⟩ : Str)) = fun _ => 1 from rfl, sum_ones, Array.length_toList]
          exact zl
        rw [e1, signs_length, show (PySem.Str.ofString "").length = 0 by decide +kernel]
        omega
      · rw [join_signs]
        refine q z _ (fun b o n e => ?_) ?_ ⟨hzp.nodup_iff.mpr sub, fun c hc => ?_⟩ zl
        · have nb : b ≠ p := fun z => by rw [z, np] at e; cases e
          have nb2 : b ≠ l := fun z => by rw [z, nl0] at e; cases e
          rw [upd_ne (ne_of_none (hk b o n nb nb2 e) n2)]
          exact hk b o n nb nb2 e
        · exact hJ.new n2
        · have := hpm.mem_iff.mp (List.mem_append_left cs (hzp.mem_iff.mp hc))
          simp only [List.mem_cons, List.not_mem_nil, or_false] at this
          omega
end
end L2.Cal
end

section
set_option maxRecDepth 100000
set_option maxHeartbeats 4000000
namespace L2.Cal
open PySem PySem.Spec PyProof.Rows L2
abbrev sHill : Stmt := topS 51
theorem scHill : FnScope ["_law_jar_here", "_law_line_here", "_law_at", "_law_low", "_law_high", "_law_found", "_law_turn"] ["_law_jar_here", "_law_line_here"] (defScope sHill) := ⟨rfl, rfl, rfl, by decide +kernel, rfl, by decide +kernel, by decide +kernel⟩

def spHill : Sp := fun vs H Q _ => ∃ (j : Addr) (y : Str), vs = [.ref j, .str y] ∧ Jar H j ∧ 0 < y.cps.size ∧ y.cps.size ≤ 100 ∧ ∀ (z : Str) (H' : Hp), Kp j H H' → Jar H' j → z.cps.toList.Perm y.cps.toList → Q (.str z) H'
section
variable {P : Program} {w : World} {K : PySem.W.Frag} {mg : Str → Option Value} {base : Heap}
theorem ok_hill {f fD : Addr} {fd fdD : FuncData} (D : DefAt K mg "_law_hill" sHill ["_law_jar_here", "_law_line_here"] f fd) (DD : DefAt K mg "_law_dip" sDip ["_law_jar_here", "_law_wide"] fD fdD) (T : Txt mg) : FnOk P w K mg base CX0 2 f fd ["_law_jar_here", "_law_line_here"] spHill := by
  have GD : FnOk P w K mg base CX0 1 fD fdD ["_law_jar_here", "_law_wide"] spDip := ok_dip DD T
  refine D.F.ok scHill (fun vs H Q E h => ?_) (fun cdv A outer sh H vs Q E hr h => ?_)
  · obtain ⟨j, y, rfl, _⟩ := h
    rfl
  · obtain ⟨j, y, rfl, hj, hy0, hy, q⟩ := h
    obtain ⟨d, s, c, ej, h0, h1, h2, h3⟩ := hj
    refine ⟨_, (pss_cons (ps_set (i := 2) scHill.nd rfl (.inl rfl) (pe_call GD (hr.mono (by decide)) (by rfl) DD.g DD.F.kp DD.b .nil pass0 (pa_cons (pv 0) (pa_cons (pe_callB call_len_str (by rfl) T.b_len (by decide +kernel) (pa_cons (pv 1) pa_nil)) pa_nil))))
  (pss_cons (ps_par3 (i := 3) (j := 4) (l := 5) (by rfl) scHill.nd rfl rfl rfl (by decide) (by decide) (by decide) rfl rfl rfl (pa_cons (pe_op op_sub (pv 2) pe_int) (pa_cons (pe_op op_add (pv 2) pe_int) (pa_cons (pe_ix ix_str (pv 1) (pv 2) (fun _ _ => rfl)) pa_nil))) (by rfl))
  (pss_cons (ps_for PassesOwn.never rfl (pi_range1 (by rfl) T.b_range (pa_cons (pe_op op_sub (pe_callB call_len_str (by rfl) T.b_len (by decide +kernel) (pa_cons (pv 1) pa_nil)) pe_int) pa_nil)) (pg_name (i := 6) scHill.nd rfl (.inl rfl))
   (pss_one (ps_if (PW.pt (pw_or (pt_cmpR op_eq (pv 4) (pe_callB call_len_str (by rfl) T.b_len (by decide +kernel) (pa_cons (pv 1) pa_nil)) (nomark _)) (pw_or1 (PW.pt (pw_and (pt_cmpR op_ge (pv 3) pe_int (nomark _)) (pw_and1 (pt_cmpR op_eq (pe_call GD (hr.mono (by decide)) (by rfl) DD.g DD.F.kp DD.b .nil pass0 (pa_cons (pv 0) (pa_cons pe_int pa_nil))) pe_int (nomark _))))))))
   (pss_one (ps_par (i := 5) (j := 3) (by rfl) scHill.nd rfl rfl (by decide) rfl rfl (pa_cons (pe_op op_add_str (pv 5) (pe_ix ix_str (pv 1) (pv 3) (fun _ _ => rfl))) (pa_cons (pe_op op_sub (pv 3) pe_int) pa_nil)) (by rfl)))
   (pss_one (ps_par (i := 5) (j := 4) (by rfl) scHill.nd rfl rfl (by decide) rfl rfl (pa_cons (pe_op op_add_str (pv 5) (pe_ix ix_str (pv 1) (pv 4) (fun _ _ => rfl))) (pa_cons (pe_op op_add (pv 4) pe_int) pa_nil)) (by rfl))))))
  (pss_one (ps_ret (pv 5)))))), ?_⟩
    have sz : y.length = y.cps.size := rfl
    refine ⟨_, rfl, _, rfl, y, rfl, (by rw [sizeLine_eq, sz]; omega), j, _, d, s, c, rfl, ej, h0, h1, h2, h3, by omega, by omega, fun r d' s' c' r0 r1 a0 a1 a2 a3 => ?_⟩
    have ej1 : ((y.length : Int) - 1) = ((y.cps.size - 1 : Nat) : Int) := by rw [sz]; omega
    obtain ⟨rn, rfl⟩ := Int.eq_ofNat_of_zero_le r0
    have rl : rn < y.cps.size := by omega
    have szl : y.cps.toList.length = y.cps.size := Array.length_toList
    have gat : ∀ k : Nat, (hk : k < y.cps.size) → atI y.cps.toList (k : Int) = some (y.cps.toList[k]'(by omega)) := fun k hk => atI_nat (List.getElem?_eq_getElem _)
    refine ⟨_, rfl, _, _, rfl, rfl, _, rfl, _, _, rfl, rfl, _, rfl, _, rfl, y, rn, _, rfl, rfl, (by rw [sizeLine_eq, sz]; omega), gat rn rl, _, _, _, rfl, ?_⟩
    refine ⟨_, rfl, y, rfl, (by rw [sizeLine_eq, sz]; omega), _, _, rfl, rfl, ((y.cps.size - 1 : Nat) : Int), congrArg (fun t => [V.int t]) ej1, by omega, by omega, for_range (n := y.cps.size - 1) (fun i σ H' => ∃ (A B : Nat) (z : Str) (v : Option V), σ = [some (.ref j), some (.str y), some (.int rn), some (.int ((A : Int) - 1)), some (.int B), some (.str z), v] ∧
      A + i + 1 = B ∧ B ≤ y.cps.size ∧ Jar H' j ∧ Kp j H H' ∧ z.cps.toList.Perm ((y.cps.toList.take B).drop A))
      ⟨rn, rn + 1, one (y.cps.toList[rn]'(by omega)), none, rfl, by omega, by omega, .up a0 a1 a2 a3, .jar, ?_⟩ (fun i σ H' hi hP => ?_) (fun σ H' hP => ?_)⟩
    · rw [List.take_succ, List.getElem?_eq_getElem (by omega), List.drop_append, List.drop_of_length_le (by rw [List.length_take]; omega), List.length_take, Nat.min_eq_left (by omega), Nat.sub_self]
      exact .refl _
    · obtain ⟨A, B, z, v, rfl, hAB, hB, hJ, hk, hpm⟩ := hP
      have zl : z.cps.size = i + 1 := by
        rw [← Array.length_toList, hpm.length_eq, List.length_drop, List.length_take]
        omega
      have fit : z.length + 1 ≤ sizeLine := by
        rw [sizeLine_eq]
        show z.cps.size + 1 ≤ _
        omega
      have lo : ∀ a : Nat, ∀ e : A = a + 1, (z ++ one (y.cps.toList[a]'(by omega))).cps.toList.Perm ((y.cps.toList.take B).drop a) := fun a e => by
        have hb : a < (y.cps.toList.take B).length := by rw [List.length_take]; omega
        rw [List.drop_eq_getElem_cons hb, List.getElem_take, ← e]
        refine .trans (by rw [show (z ++ one (y.cps.toList[a]'(by omega))).cps.toList = z.cps.toList ++ [y.cps.toList[a]'(by omega)] from sign_cps _ _]; exact List.perm_append_singleton _ _) (.cons _ hpm)
      have hi2 : (hb : B < y.cps.size) → (z ++ one (y.cps.toList[B]'(by omega))).cps.toList.Perm ((y.cps.toList.take (B + 1)).drop A) := fun hb => by
        rw [List.take_succ, List.getElem?_eq_getElem (by omega), List.drop_append, List.length_take, show A - min B y.cps.toList.length = 0 by omega, show (z ++ one (y.cps.toList[B]'(by omega))).cps.toList = z.cps.toList ++ [y.cps.toList[B]'(by omega)] from sign_cps _ _]
        exact List.Perm.append_right _ hpm
      have goLo : 0 < A → ∀ H2 : Hp, Jar H2 j → Kp j H H2 → ∃ a : Nat, A = a + 1 := fun h _ _ _ => ⟨A - 1, by omega⟩
      obtain ⟨d2, s2, c2, ej2, b0, b1, b2, b3⟩ := hJ
      have J2 : Jar H' j := ⟨d2, s2, c2, ej2, b0, b1, b2, b3⟩
      refine ⟨_, rfl, _, rfl, y, rfl, (by rw [sizeLine_eq, sz]; omega), rfl, _, rfl, ite2 (fun e => ?_) (fun e => ⟨_, rfl, _, _, rfl, rfl, _, rfl, ite2 (fun e2 => ⟨_, rfl, j, 2, d2, s2, c2, rfl, ej2, b0, b1, b2, b3, by decide, by decide, fun r d' s' c' r0 r1 x0 x1 x2 x3 => ⟨rfl, _, rfl, ite2 (fun e3 => ?_) (fun e3 => ?_)⟩⟩) (fun e2 => iteF ?_)⟩)⟩
      · have eB : B = y.cps.size := by
          have := V.int.inj (of_decide_eq_true e)
          rw [sz] at this
          omega
        obtain ⟨a, rfl⟩ : ∃ a : Nat, A = a + 1 := ⟨A - 1, by omega⟩
        refine iteT ?_
        have ea : (((a + 1 : Nat) : Int) - 1) = (a : Int) := by omega
        rw [ea]
        refine ⟨_, rfl, _, rfl, _, rfl, y, a, _, rfl, rfl, (by rw [sizeLine_eq, sz]; omega), gat a (by omega), _, _, rfl, rfl, fit, _, rfl, _, _, rfl, rfl, _, _, rfl, ?_⟩
        exact ⟨a, B, _, _, rfl, by omega, hB, J2, hk, lo a rfl⟩
      · have eA : 0 < A := by
          have := of_decide_eq_true e2
          omega
        obtain ⟨a, rfl⟩ : ∃ a : Nat, A = a + 1 := ⟨A - 1, by omega⟩
        have ea : (((a + 1 : Nat) : Int) - 1) = (a : Int) := by omega
        rw [ea]
        refine ⟨_, rfl, _, rfl, _, rfl, y, a, _, rfl, rfl, (by rw [sizeLine_eq, sz]; omega), gat a (by omega), _, _, rfl, rfl, fit, _, rfl, _, _, rfl, rfl, _, _, rfl, ?_⟩
        exact ⟨a, B, _, _, rfl, by omega, hB, .up x0 x1 x2 x3, hk.trans .jar, lo a rfl⟩
      · have nB : B < y.cps.size := by
          have : ¬ B = y.cps.size := fun z => e (decide_eq_true (by rw [z] <;> rfl))
          omega
        refine ⟨_, rfl, _, rfl, _, rfl, y, B, _, rfl, rfl, (by rw [sizeLine_eq, sz]; omega), gat B nB, _, _, rfl, rfl, fit, _, rfl, _, _, rfl, rfl, _, _, rfl, ?_⟩
        exact ⟨A, B + 1, _, _, rfl, by omega, nB, .up x0 x1 x2 x3, hk.trans .jar, hi2 nB⟩
      · have nB : B < y.cps.size := by
          have : ¬ B = y.cps.size := fun z => e (decide_eq_true (by rw [z] <;> rfl))
          omega
        refine ⟨_, rfl, _, rfl, _, rfl, y, B, _, rfl, rfl, (by rw [sizeLine_eq, sz]; omega), gat B nB, _, _, rfl, rfl, fit, _, rfl, _, _, rfl, rfl, _, _, rfl, ?_⟩
        exact ⟨A, B + 1, _, _, rfl, by omega, nB, J2, hk, hi2 nB⟩
    · obtain ⟨A, B, z, v, rfl, hAB, hB, hJ, hk, hpm⟩ := hP
      have eA : A = 0 := by omega
      have eB : B = y.cps.size := by omega
      subst eA eB
      rw [List.drop_zero, List.take_of_length_le (by omega)] at hpm
      exact ⟨_, rfl, q z _ hk hJ hpm⟩
end
end L2.Cal
end

section
set_option maxRecDepth 100000
set_option maxHeartbeats 4000000
namespace L2.Cal
open PySem PySem.Spec PyProof.Rows L2
abbrev sLot : Stmt := topS 52
theorem scLot : FnScope ["_law_jar_here", "_law_things_here", "_law_many", "_law_way", "_law_found", "_law_line_here", "_law_turn", "_law_each", "_law_at", "_law_pair"] ["_law_jar_here", "_law_things_here", "_law_many"] (defScope sLot) := ⟨rfl, rfl, rfl, by decide +kernel, rfl, by decide +kernel, by decide +kernel⟩

theorem len_app (a b : Str) : (a ++ b).length = a.length + b.length := by
  show (a ++ b).cps.size = a.cps.size + b.cps.size
  rw [← Array.length_toList, app_cps, List.length_append, Array.length_toList, Array.length_toList]
theorem swap_perm (x : Str) (a : Nat) (h : a + 1 < x.cps.size) :
    (cutS x none (some (a : Int)) ++ ((⟨#[x.cps.toList[a + 1]'(by rw [Array.length_toList]; omega)]⟩ : Str) ++ (⟨#[x.cps.toList[a]'(by rw [Array.length_toList]; omega)]⟩ : Str)) ++ cutS x (some ((a : Int) + 2)) none).cps.toList.Perm x.cps.toList := by
  have sz : x.cps.toList.length = x.length := Array.length_toList
  have e1 : (cutS x none (some (a : Int))).cps.toList = x.cps.toList.take a := by
    unfold cutS
    rw [HT.sIx_none, show HT.sIx x.length x.length (some (a : Int)) = min a x.length from HT.sIx_nat _ _ a]
    have : min a x.length = a := Nat.min_eq_left (by show a ≤ x.cps.size; omega)
    rw [this]
    simp
  have e2 : (cutS x (some ((a : Int) + 2)) none).cps.toList = x.cps.toList.drop (a + 2) := by
    unfold cutS
    rw [HT.sIx_none, show HT.sIx x.length 0 (some ((a : Int) + 2)) = min (a + 2) x.length from HT.sIx_nat _ _ (a + 2)]
    have : min (a + 2) x.length = a + 2 := Nat.min_eq_left (by show a + 2 ≤ x.cps.size; omega)
    rw [this]
    dsimp only
    rw [List.take_of_length_le]
    rw [List.length_drop, sz]
    exact Nat.le_refl _
  rw [app_cps, app_cps, app_cps, e1, e2]
  have d1 : x.cps.toList.drop a = x.cps.toList[a]'(by rw [sz]; show a < x.cps.size; omega) :: x.cps.toList[a + 1]'(by rw [sz]; exact h) :: x.cps.toList.drop (a + 2) := by
    rw [List.drop_eq_getElem_cons (by rw [sz]; show a < x.cps.size; omega), List.drop_eq_getElem_cons (by rw [sz]; exact h)]
  refine .trans ?_ (List.Perm.of_eq (List.take_append_drop a x.cps.toList))
  rw [d1, List.append_assoc]
  exact List.Perm.append_left _ (.swap _ _ _)
/-- a lot of orders of the letters of y -/
structure Lot (ys : List Str) (y : Str) : Prop where
  up : Climbs ys
  one : ys.Nodup
  some : 0 < ys.length
  of : ∀ z, z ∈ ys → z.cps.toList.Perm y.cps.toList
def spLot : Sp := fun vs H Q _ => ∃ (j : Addr) (y : Str) (m : Int), vs = [.ref j, .str y, .int m] ∧ Jar H j ∧ 2 ≤ y.cps.size ∧ y.cps.size ≤ 100 ∧ 0 < m ∧ m ≤ 60 ∧
  ∀ (ys : List Str) (p : Addr) (H' : Hp), Kp j H H' → Jar H' j → H p = none → H' p = some (.tup (ys.map V.str)) → Lot ys y → (ys.length : Int) ≤ m → Q (.ref p) H'
section
variable {P : Program} {w : World} {K : PySem.W.Frag} {mg : Str → Option Value} {base : Heap}
theorem ok_lot {f fD fS fH : Addr} {fd fdD fdS fdH : FuncData} (D : DefAt K mg "_law_lot_of" sLot ["_law_jar_here", "_law_things_here", "_law_many"] f fd) (DD : DefAt K mg "_law_dip" sDip ["_law_jar_here", "_law_wide"] fD fdD)
    (DS : DefAt K mg "_law_shuffled" sShuf ["_law_jar_here", "_law_things_here"] fS fdS) (DH : DefAt K mg "_law_hill" sHill ["_law_jar_here", "_law_line_here"] fH fdH) (T : Txt mg) : FnOk P w K mg base CX0 3 f fd ["_law_jar_here", "_law_things_here", "_law_many"] spLot := by
  have GD : FnOk P w K mg base CX0 1 fD fdD ["_law_jar_here", "_law_wide"] spDip := ok_dip DD T
  have GS : FnOk P w K mg base CX0 2 fS fdS ["_law_jar_here", "_law_things_here"] spShuf := ok_shuf DS DD T
  have GH : FnOk P w K mg base CX0 2 fH fdH ["_law_jar_here", "_law_line_here"] spHill := ok_hill DH DD T
  refine D.F.ok scLot (fun vs H Q E h => ?_) (fun cdv A outer sh H vs Q E hr h => ?_)
  · obtain ⟨j, y, m, rfl, _⟩ := h
    rfl
  · obtain ⟨j, y, m, rfl, hj, hy0, hy, hm0, hm, q⟩ := h
    obtain ⟨d, s, c, ej, h0, h1, h2, h3⟩ := hj
    refine ⟨_, (pss_cons (ps_par (i := 3) (j := 4) (by rfl) scLot.nd rfl rfl (by decide) rfl rfl (pa_cons (pe_call GD (hr.mono (by decide)) (by rfl) DD.g DD.F.kp DD.b .nil pass0 (pa_cons (pv 0) (pa_cons pe_int pa_nil))) (pa_cons (pe_lstS pa_nil) pa_nil)) (by rfl))
  (pss_cons (ps_set (i := 5) scLot.nd rfl (.inl rfl) (pe_call GS (hr.mono (by decide)) (by rfl) DS.g DS.F.kp DS.b .nil pass0 (pa_cons (pv 0) (pa_cons (pv 1) pa_nil))))
  (pss_cons (ps_for PassesOwn.never rfl (pi_range1 (by rfl) T.b_range (pa_cons (pe_op op_add pe_int (pe_call GD (hr.mono (by decide)) (by rfl) DD.g DD.F.kp DD.b .nil pass0 (pa_cons (pv 0) (pa_cons (pv 2) pa_nil)))) pa_nil)) (pg_name (i := 6) scLot.nd rfl (.inl rfl))
   (pss_cons (ps_set (i := 7) scLot.nd rfl (.inl rfl) (pe_ifExp (PW.pt (pw_or (pt_cmpR op_eq (pv 3) pe_int (nomark _)) (pw_or1 (pt_cmpR op_eq (pe_call GD (hr.mono (by decide)) (by rfl) DD.g DD.F.kp DD.b .nil pass0 (pa_cons (pv 0) (pa_cons pe_int pa_nil))) pe_int (nomark _))))) (pe_call GS (hr.mono (by decide)) (by rfl) DS.g DS.F.kp DS.b .nil pass0 (pa_cons (pv 0) (pa_cons (pv 1) pa_nil))) (pe_call GH (hr.mono (by decide)) (by rfl) DH.g DH.F.kp DH.b .nil pass0 (pa_cons (pv 0) (pa_cons (pv 5) pa_nil)))))
  (pss_cons (ps_if (pt_cmpR op_eq (pv 3) pe_int (nomark _))
   (pss_cons (ps_set (i := 8) scLot.nd rfl (.inl rfl) (pe_call GD (hr.mono (by decide)) (by rfl) DD.g DD.F.kp DD.b .nil pass0 (pa_cons (pv 0) (pa_cons (pe_op op_sub (pe_callB call_len_str (by rfl) T.b_len (by decide +kernel) (pa_cons (pv 5) pa_nil)) pe_int) pa_nil))))
  (pss_cons (ps_set (i := 9) scLot.nd rfl (.inl rfl) (pe_op op_add_str (pe_ix ix_str (pv 5) (pe_op op_add (pv 8) pe_int) (fun _ _ => rfl)) (pe_ix ix_str (pv 5) (pv 8) (fun _ _ => rfl))))
  (pss_cons (ps_set (i := 5) scLot.nd rfl (.inl rfl) (pe_op op_add_str (pe_op op_add_str (pe_slice sl_str (pv 5) po_none (po_some (pv 8))) (pv 9)) (pe_slice sl_str (pv 5) (po_some (pe_op op_add (pv 8) pe_int)) po_none)))
  (pss_one (ps_set (i := 7) scLot.nd rfl (.inl rfl) (pv 5))))))
   pss_nil)
  (pss_one (ps_expr (pe_bm PySem.F.plainAttrs_list PySem.F.slot_list_append PySem.F.type_list_append mt_append (pv 4) (pa_cons (pv 7) pa_nil)))))))
  (pss_one (ps_ret (pe_callTy call_tuple_of (by rfl) T.b_tuple (by decide +kernel) (pa_cons (pe_sortedSet rfl (by rfl) T.b_sorted (by rfl) T.b_set (pv 4)) pa_nil))))))), ?_⟩
    refine ⟨_, rfl, j, _, d, s, c, rfl, ej, h0, h1, h2, h3, by decide, by decide, fun way d' s' c' w0 w1 a0 a1 a2 a3 => ?_⟩
    refine ⟨(by show 0 ≤ sizeLine; decide), fun l H1 s1 nl el => ⟨_, _, rfl, ?_⟩⟩
    have J1 : Jar H1 j := (Jar.up a0 a1 a2 a3).same s1
    have hjl : j ≠ l := fun z => by rw [← z, upd_same] at nl; cases nl
    have nl0 : H l = none := by rw [upd_ne hjl.symm] at nl; exact nl
    refine ⟨_, rfl, _, rfl, j, y, rfl, J1, hy, fun x H2 k2 J2 px => ?_⟩
    obtain ⟨d2, s2, c2, ej2, b0, b1, b2, b3⟩ := J2
    refine ⟨_, rfl, _, rfl, j, m, d2, s2, c2, rfl, ej2, b0, b1, b2, b3, hm0, by omega, fun r d3 s3 c3 r0 r1 x0 x1 x2 x3 => ?_⟩
    obtain ⟨rn, rfl⟩ := Int.eq_ofNat_of_zero_le r0
    have el2 : H2 l = some (.lst []) := k2 _ _ hjl.symm el
    refine ⟨_, _, rfl, rfl, ((1 + rn : Nat) : Int), congrArg (fun t => [V.int t]) (by omega : (1 : Int) + (rn : Int) = ((1 + rn : Nat) : Int)), by omega, by omega, for_range (n := 1 + rn) (fun i σ H' => ∃ (x : Str) (fs : List Str) (v6 v7 v8 v9 : Option V), σ = [some (.ref j), some (.str y), some (.int m), some (.int way), some (.ref l), some (.str x), v6, v7, v8, v9] ∧
      x.cps.toList.Perm y.cps.toList ∧ H' l = some (.lst (fs.map V.str)) ∧ Jar H' j ∧ (∀ b o, b ≠ j → b ≠ l → H b = some o → H' b = some o) ∧ (∀ z, z ∈ fs → z.cps.toList.Perm y.cps.toList) ∧ fs.length = i)
      ⟨x, [], none, none, none, none, rfl, px, by rw [upd_ne hjl.symm]; exact el2, .up x0 x1 x2 x3, fun b o n1 n2 e => ?_, fun z hz => by simp at hz, rfl⟩ (fun i σ H' hi hP => ?_) (fun σ H' hP => ?_)⟩
    · rw [upd_ne n1]
      exact k2 _ _ n1 (s1 _ _ (by rw [upd_ne n1]; exact e))
    · obtain ⟨x, fs, v6, v7, v8, v9, rfl, px, hl, hJ, hk, hf, hz⟩ := hP
      have J0 := hJ
      obtain ⟨d4, s4, c4, ej4, e0, e1, e2, e3⟩ := hJ
      have lx : x.cps.size = y.cps.size := by rw [← Array.length_toList, px.length_eq, Array.length_toList]
      have sx : x.length = x.cps.size := rfl
      have szx : x.cps.toList.length = x.cps.size := Array.length_toList
      have fitx : x.length ≤ sizeLine := by rw [sizeLine_eq, sx]; omega
      refine ⟨_, rfl, rfl, _, rfl, ite2 (fun e => iteT ?a) (fun e => ⟨_, rfl, j, 9, d4, s4, c4, rfl, ej4, e0, e1, e2, e3, by decide, by decide, fun r d5 s5 c5 r0 r1 y0 y1 y2 y3 => ⟨rfl, _, rfl, ite2 (fun e5 => ?b) (fun e5 => ?c)⟩⟩)⟩
      case' a => refine ⟨_, rfl, _, rfl, j, y, rfl, J0, hy, fun e H3 k3 J3 p3 => ?_⟩
      case' b =>
        have kj : Kp j H' (upd H' j (.lst [.int d5, .int s5, .int c5])) := .jar
        refine ⟨_, rfl, _, rfl, j, y, rfl, .up y0 y1 y2 y3, hy, fun e H3 k3' J3 p3 => ?_⟩
        have k3 := kj.trans k3'
      case' c =>
        have kj : Kp j H' (upd H' j (.lst [.int d5, .int s5, .int c5])) := .jar
        refine ⟨_, rfl, _, rfl, j, x, rfl, .up y0 y1 y2 y3, by omega, by omega, fun e H3 k3' J3 p3' => ?_⟩
        have k3 := kj.trans k3'
        have p3 := p3'.trans px
      all_goals
        have hl3 : H3 l = some (.lst (fs.map V.str)) := k3 _ _ hjl.symm hl
        have put : ∀ (e' x' : Str) (H4 : Hp) (u7 u8 u9 : Option V), e'.cps.toList.Perm y.cps.toList → x'.cps.toList.Perm y.cps.toList → H4 l = some (.lst (fs.map V.str)) → Jar H4 j → Kp j H' H4 → ∃ (l' : Addr) (xs : List V) (y' : V), V.ref l = V.ref l' ∧ [V.str e'] = [y'] ∧ H4 l' = some (.lst xs) ∧ xs.length < sizeLine ∧
            ∃ (x'' : Str) (fs' : List Str) (v6 v7 v8 v9 : Option V), [some (V.ref j), some (V.str y), some (V.int m), some (V.int way), some (V.ref l), some (V.str x'), some (V.int (0 + (i : Int))), u7, u8, u9] = [some (.ref j), some (.str y), some (.int m), some (.int way), some (.ref l), some (.str x''), v6, v7, v8, v9] ∧
              x''.cps.toList.Perm y.cps.toList ∧ (upd H4 l' (.lst (xs ++ [y']))) l = some (.lst (fs'.map V.str)) ∧ Jar (upd H4 l' (.lst (xs ++ [y']))) j ∧ (∀ b o, b ≠ j → b ≠ l → H b = some o → (upd H4 l' (.lst (xs ++ [y']))) b = some o) ∧ (∀ z, z ∈ fs' → z.cps.toList.Perm y.cps.toList) ∧ fs'.length = i + 1 := by
          intro e' x' H4 u7 u8 u9 pe pX h4 J4 k4
          refine ⟨l, _, _, rfl, rfl, h4, by rw [List.length_map, hz, sizeLine_eq]; omega, x', fs ++ [e'], _, _, _, _, rfl, pX, by rw [upd_same, List.map_append] <;> rfl, ?_, fun b o n1 n2 q => ?_, fun z hz' => ?_, by rw [List.length_append, hz] <;> rfl⟩
          · obtain ⟨d, s, c, q, r⟩ := J4
            exact ⟨d, s, c, by rw [upd_ne hjl]; exact q, r⟩
          · rw [upd_ne n2]
            exact k4 _ _ n1 (hk b o n1 n2 q)
          · rcases List.mem_append.mp hz' with q | q
            · exact hf z q
            · rw [List.mem_singleton.mp q]
              exact pe
        refine ⟨_, rfl, rfl, _, rfl, ite2 (fun e2 => ?_) (fun e2 => ⟨_, rfl, .inl ⟨rfl, _, SqL.of hl3⟩, _, rfl, put e x H3 _ _ _ p3 px hl3 J3 k3⟩)⟩
        obtain ⟨d6, s6, c6, ej6, f0, f1, f2, f3⟩ := J3
        refine ⟨_, rfl, _, rfl, x, rfl, fitx, _, _, rfl, rfl, j, _, d6, s6, c6, rfl, ej6, f0, f1, f2, f3, by omega, by omega, fun r d7 s7 c7 r0 r1 z0 z1 z2 z3 => ?_⟩
        obtain ⟨a, rfl⟩ := Int.eq_ofNat_of_zero_le r0
        have ha : a + 1 < x.cps.size := by omega
        have g1 : atI x.cps.toList ((a : Int) + 1) = some (x.cps.toList[a + 1]'(by omega)) := atI_nat (j := a + 1) (List.getElem?_eq_getElem _)
        have g0 : atI x.cps.toList (a : Int) = some (x.cps.toList[a]'(by omega)) := atI_nat (List.getElem?_eq_getElem _)
        have eP : (cutS x none (some (a : Int)) ++ ((⟨#[x.cps.toList[a + 1]'(by omega)]⟩ : Str) ++ (⟨#[x.cps.toList[a]'(by omega)]⟩ : Str)) ++ cutS x (some ((a : Int) + 2)) none).cps.toList.Perm x.cps.toList := swap_perm x a ha
        have fit2 : ∀ u v : Str, u.length ≤ 200 → v.length ≤ 200 → u.length + v.length ≤ sizeLine := fun u v h1 h2 => by rw [sizeLine_eq]; omega
        have le1 := cutS_length x none (some (a : Int))
        have le2 := cutS_length x (some ((a : Int) + 2)) none
        refine ⟨_, rfl, _, rfl, _, _, rfl, rfl, x, _, _, rfl, rfl, fitx, g1, _, rfl, _, rfl, x, _, _, rfl, rfl, fitx, g0, _, _, rfl, rfl, (by rw [sizeLine_eq]; show 2 ≤ 16777216; decide), ?_⟩
        refine ⟨_, rfl, _, rfl, _, rfl, x, rfl, fitx, _, rfl, _, _, rfl, rfl, ?_, ?_⟩
        · exact fit2 _ _ (by omega) (by show 2 ≤ 200; decide)
        refine ⟨_, rfl, _, rfl, _, _, rfl, rfl, _, rfl, x, rfl, fitx, _, _, rfl, rfl, ?_, ?_⟩
        · refine fit2 _ _ ?_ (by omega)
          rw [len_app, len_app]
          show (cutS x none (some (a : Int))).length + (1 + 1) ≤ 200
          omega
        refine ⟨_, rfl, _, rfl, .inl ⟨rfl, _, SqL.of (by rw [upd_ne hjl.symm]; exact hl3)⟩, _, rfl, put _ _ _ _ _ _ (eP.trans px) (eP.trans px) (by rw [upd_ne hjl.symm]; exact hl3) (.up z0 z1 z2 z3) (k3.trans .jar)⟩
    · obtain ⟨x, fs, v6, v7, v8, v9, rfl, px, hl, hJ, hk, hf, hz⟩ := hP
      refine ⟨_, rfl, l, fs, rfl, SqL.of hl, by omega, fun ys p cl nd mem np => ⟨p, _, rfl, .inl ⟨SqL.of upd_same, fun t nt => ?_⟩⟩⟩
      have len : ys.length ≤ fs.length := List.Nodup.length_le_of_subset nd fun z hz => (mem z).mp hz
      have old : ∀ b o, b ≠ j → H b = some o → H' b = some o := fun b o n e => hk b o n (fun z => by rw [z, nl0] at e; cases e) e
      have newT : ∀ b o, H' b = some o → (upd (upd H' p (.lst (ys.map V.str))) t (.tup (ys.map V.str))) b = some o := fun b o e => by
        have e2 : (upd H' p (.lst (ys.map V.str))) b = some o := by rw [upd_ne (ne_of_none e np)]; exact e
        rw [upd_ne (ne_of_none e2 nt)]
        exact e2
      obtain ⟨d, s, c, q1, q2⟩ := hJ
      refine q ys t _ (fun b o n e => newT _ _ (old b o n e)) ⟨d, s, c, newT _ _ q1, q2⟩ ?_ upd_same ⟨cl, nd, ?_, fun z hz => hf z ((mem z).mp hz)⟩ (by omega)
      · cases e : H t with
        | none => rfl
        | some o =>
          by_cases c : t = j
          · rw [c] at nt
            have := ne_of_none q1 np
            rw [upd_ne this, q1] at nt
            cases nt
          · have e2 := old t o c e
            rw [upd_ne (ne_of_none e2 np), e2] at nt
            cases nt
      · cases ys with
        | cons _ _ => exact Nat.succ_pos _
        | nil =>
          cases fs with
          | nil => simp at hz; omega
          | cons f _ => exact absurd ((mem f).mpr (List.mem_cons_self ..)) (by simp)
end
end L2.Cal
end

section
set_option maxRecDepth 100000
set_option maxHeartbeats 4000000
namespace L2.Cal
open PySem PySem.Spec PyProof.Rows L2
abbrev sRos : Stmt := topS 53
theorem scRos : FnScope ["_law_jar_here", "_law_size", "_law_many"] ["_law_jar_here", "_law_size", "_law_many"] (defScope sRos) := ⟨rfl, rfl, rfl, by decide +kernel, rfl, by decide +kernel, by decide +kernel⟩

def spRos : Sp := fun vs H Q _ => ∃ (j : Addr) (s m : Int), vs = [.ref j, .int s, .int m] ∧ Jar H j ∧ 3 ≤ s ∧ s ≤ 6 ∧ 0 < m ∧ m ≤ 60 ∧
  ∀ (ys : List Str) (y : Str) (p : Addr) (H' : Hp), Kp j H H' → Jar H' j → H p = none → H' p = some (.tup (ys.map V.str)) → Lot ys y → Lett y → 3 ≤ y.cps.size → (y.cps.size : Int) ≤ s → (ys.length : Int) ≤ m → Q (.ref p) H'
section
variable {P : Program} {w : World} {K : PySem.W.Frag} {mg : Str → Option Value} {base : Heap}
theorem ok_ros {f fD fS fH fL fA : Addr} {fd fdD fdS fdH fdL fdA : FuncData} (D : DefAt K mg "_law_roster" sRos ["_law_jar_here", "_law_size", "_law_many"] f fd) (DL : DefAt K mg "_law_lot_of" sLot ["_law_jar_here", "_law_things_here", "_law_many"] fL fdL) (DA : DefAt K mg "_law_letters" sLett ["_law_jar_here", "_law_many"] fA fdA) (DD : DefAt K mg "_law_dip" sDip ["_law_jar_here", "_law_wide"] fD fdD)
    (DS : DefAt K mg "_law_shuffled" sShuf ["_law_jar_here", "_law_things_here"] fS fdS) (DH : DefAt K mg "_law_hill" sHill ["_law_jar_here", "_law_line_here"] fH fdH) (T : Txt mg) : FnOk P w K mg base CX0 4 f fd ["_law_jar_here", "_law_size", "_law_many"] spRos := by
  have GD : FnOk P w K mg base CX0 1 fD fdD ["_law_jar_here", "_law_wide"] spDip := ok_dip DD T
  have GA : FnOk P w K mg base CX0 2 fA fdA ["_law_jar_here", "_law_many"] spLett := ok_lett DA DD T
  have GL : FnOk P w K mg base CX0 3 fL fdL ["_law_jar_here", "_law_things_here", "_law_many"] spLot := ok_lot DL DD DS DH T
  refine D.F.ok scRos (fun vs H Q E h => ?_) (fun cdv A outer sh H vs Q E hr h => ?_)
  · obtain ⟨j, s, m, rfl, _⟩ := h
    rfl
  · obtain ⟨j, sz, m, rfl, hj, hs0, hs, hm0, hm, q⟩ := h
    obtain ⟨d, s, c, ej, h0, h1, h2, h3⟩ := hj
    refine ⟨_, (pss_one (ps_ret (pe_call GL (hr.mono (by decide)) (by rfl) DL.g DL.F.kp DL.b .nil pass0 (pa_cons (pv 0) (pa_cons (pe_call GA (hr.mono (by decide)) (by rfl) DA.g DA.F.kp DA.b .nil pass0 (pa_cons (pv 0) (pa_cons (pe_op op_add pe_int (pe_call GD (hr.mono (by decide)) (by rfl) DD.g DD.F.kp DD.b .nil pass0 (pa_cons (pv 0) (pa_cons (pe_op op_sub (pv 1) pe_int) pa_nil)))) pa_nil))) (pa_cons (pv 2) pa_nil)))))), ?_⟩
    refine ⟨_, rfl, _, rfl, _, rfl, _, rfl, _, _, rfl, rfl, j, _, d, s, c, rfl, ej, h0, h1, h2, h3, by omega, by omega, fun r d' s' c' r0 r1 a0 a1 a2 a3 => ?_⟩
    obtain ⟨rn, rfl⟩ := Int.eq_ofNat_of_zero_le r0
    refine ⟨_, _, rfl, rfl, j, 3 + rn, congrArg (fun t => [V.ref j, V.int t]) (by omega : (3 : Int) + (rn : Int) = ((3 + rn : Nat) : Int)), .up a0 a1 a2 a3, by omega, fun y H2 k2 J2 ly sy => ?_⟩
    have kj : Kp j H (upd H j (.lst [.int d', .int s', .int c'])) := .jar
    have k2' := kj.trans k2
    refine ⟨_, rfl, j, y, m, rfl, J2, by omega, by omega, hm0, hm, fun ys p H3 k3 J3 np ep lo lm => ?_⟩
    refine q ys y p H3 (k2'.trans k3) J3 ?_ ep lo ly (by omega) (by omega) lm
    cases e : H p with
    | none => rfl
    | some o =>
      by_cases c : p = j
      · obtain ⟨_, _, _, z, _⟩ := J2
        rw [c, z] at np
        cases np
      · rw [k2' _ _ c e] at np
        cases np
end
end L2.Cal
end

section
set_option maxRecDepth 100000
set_option maxHeartbeats 4000000
namespace L2.Cal
open PySem PySem.Spec PyProof.Rows L2
abbrev sIsO : Stmt := topS 20
theorem scIsO : FnScope ["value", "letter"] ["value"] (defScope sIsO) := ⟨rfl, rfl, rfl, by decide +kernel, rfl, by decide +kernel, by decide +kernel⟩

theorem one_lt (a b : Nat) : decide (([a] : List Nat) < [b]) = decide (a < b) := by
  rw [← ltCps_eq]
  simp [ltCps]
theorem nodup_back {l : List Nat} (h : (l.map fun n => (⟨#[n]⟩ : Str)).Nodup) : l.Nodup := List.Pairwise.of_map _ (fun a b n e => n (by rw [e])) h
theorem nodup_signs {y : Str} (h : y.cps.toList.Nodup) : (signs y).Nodup := by
  refine List.Pairwise.map _ (fun a b n e => n ?_) h
  have : ([a] : List Nat) = [b] := congrArg (fun z : Str => z.cps.toList) e
  exact (List.cons.inj this).1
theorem ca : (Str.ofString "a").cps.toList = [97] := by decide +kernel
theorem cz : (Str.ofString "z").cps.toList = [122] := by decide +kernel
structure Lims (mg : Str → Option Value) : Prop where
  c1 : ∃ t, mg "LEAST_THINGS" = some (.int 3 t)
  c2 : ∃ t, mg "MOST_THINGS" = some (.int 6 t)
  c3 : ∃ t, mg "MOST_ORDERS" = some (.int 48 t)
def ordB (y : Str) : Bool := decide (3 ≤ y.cps.size ∧ y.cps.size ≤ 6) && (decide y.cps.toList.Nodup && y.cps.toList.all fun c => decide (97 ≤ c) && decide (c ≤ 122))
def spIsO : Sp := fun vs H Q _ => ∃ y : Str, vs = [.str y] ∧ y.cps.size ≤ 1000 ∧ ∀ H', Same H H' → Q (.bl (ordB y)) H'
section
variable {P : Program} {w : World} {K : PySem.W.Frag} {mg : Str → Option Value} {base : Heap}
theorem ok_iso {f : Addr} {fd : FuncData} (D : DefAt K mg "is_order" sIsO ["value"] f fd) (T : Txt mg) (Lm : Lims mg) : FnOk P w K mg base CX0 1 f fd ["value"] spIsO := by
  obtain ⟨_, c1⟩ := Lm.c1
  obtain ⟨_, c2⟩ := Lm.c2
  refine D.F.ok scIsO (fun vs H Q E h => ?_) (fun cdv A outer sh H vs Q E hr h => ?_)
  · obtain ⟨y, rfl, _⟩ := h
    rfl
  · obtain ⟨y, rfl, hy, q⟩ := h
    refine ⟨_, (pss_cons (ps_if (PW.pt (pw_or (pt_not (pt_val (pe_callB call_isi (by rfl) T.b_isinstance (by decide +kernel) (pa_cons (pv 0) (pa_cons (pe_bty (n := "str") (by rfl) T.b_str (by decide +kernel)) pa_nil))))) (pw_or1 (pt_not (pt_chain op_le op_le (pe_glob (v := .int 3) (by rfl) c1 ⟨_, rfl⟩) (pe_callB call_len_str (by rfl) T.b_len (by decide +kernel) (pa_cons (pv 0) pa_nil)) (pe_glob (v := .int 6) (by rfl) c2 ⟨_, rfl⟩))))))
   (pss_one (ps_ret pe_bl))
   pss_nil)
  (pss_one (ps_ret (pe_and (pe_cmpR op_eq (pe_lenSetS rfl (by rfl) T.b_len (by rfl) T.b_set (pv 0)) (pe_callB call_len_str (by rfl) T.b_len (by decide +kernel) (pa_cons (pv 0) pa_nil)) (nomark _)) (pe_one (pe_callB (cr_all rfl) (by rfl) T.b_all (by decide +kernel) (pa_cons (pe_lc (own := [("letter", 1)]) (g := gName 1) (tt := tYes) rfl scIsO.nd (pi_str (pv 0)) (blkOk_by (own := [("letter", 1)]) (N := ["value", "letter"]) (sc := (defScope sIsO)) (by decide +kernel)) (fun _ _ _ _ _ => pg_name (i := 1) scIsO.nd rfl (Or.inl rfl)) (fun _ _ _ _ _ => pts_nil) (fun _ _ _ _ _ => (pe_chain op_le_str op_le_str pe_str (pv 1) pe_str))) pa_nil))))))), ?_⟩
    have sz : y.length = y.cps.size := rfl
    have fit : y.length ≤ sizeLine := by rw [sizeLine_eq, sz]; omega
    refine ⟨_, rfl, .str y, .ty "str", .type "str", .type "str", true, rfl, .ty _, .base (.str y), rfl, true, rfl, iteF ?_⟩
    refine ⟨_, rfl, y, rfl, fit, _, _, rfl, rfl, _, rfl, ite2 (fun e => ⟨_, _, rfl, rfl, _, rfl, ?_⟩) (fun e => ⟨_, rfl, ?_⟩)⟩
    · have e3 : 3 ≤ y.cps.size := by
        have := of_decide_eq_true e
        rw [sz] at this
        omega
      by_cases c6 : y.cps.size ≤ 6
      · rw [decide_eq_true (show (y.length : Int) ≤ 6 by rw [sz]; omega)]
        refine iteF ?_
        have e36 : decide (3 ≤ y.cps.size ∧ y.cps.size ≤ 6) = true := decide_eq_true ⟨e3, c6⟩
        refine ⟨_, rfl, y, rfl, hy, fun l nd mem => ⟨_, rfl, y, rfl, fit, rfl, _, rfl, ite2 (fun e => ?_) (fun e => ?_)⟩⟩
        · have ndy : y.cps.toList.Nodup := by
            have el : l.length = y.cps.size := by
              have := V.int.inj (of_decide_eq_true e)
              rw [sz] at this
              omega
            have pm : (signs y).Perm l := perm_of_into l (signs y) nd (fun x hx => by
              obtain ⟨c, hc, rfl⟩ := (mem x).mp hx
              exact List.mem_map.mpr ⟨c, hc, rfl⟩) (by rw [signs_length, el]; exact Nat.le_refl _)
            have := pm.nodup_iff.mpr nd
            unfold signs at this
            exact nodup_back this
          refine ⟨_, rfl, y, rfl, fun D nD => lc_it walk_str (fun k H' => Same H H' ∧ H' D = some (.lst ((y.cps.toList.take k).map fun c => V.bl (decide (97 ≤ c) && decide (c ≤ 122))))) ⟨same_new nD, upd_same⟩ (fun _ _ _ _ => trivial) (fun k x H1 H2 hk hP hY => ?_) (fun H1 hP => ?_)⟩
          · obtain ⟨sm, eD⟩ := hP
            obtain ⟨rfl, c, hc, rfl⟩ := hY
            have hk2 : k < y.cps.toList.length := by rw [Array.length_toList]; exact hk
            have ec : y.cps.toList[k] = c := by
              rw [Array.getElem_toList]
              exact (Array.getElem?_eq_some_iff.mp hc).2
            have fin : ∀ b, b = (decide (97 ≤ c) && decide (c ≤ 122)) → ∃ acc, H2 D = some (.lst acc) ∧ acc.length < sizeLine ∧ Same H (upd H2 D (.lst (acc ++ [V.bl b]))) ∧ (upd H2 D (.lst (acc ++ [V.bl b]))) D = some (.lst ((y.cps.toList.take (k + 1)).map fun c => V.bl (decide (97 ≤ c) && decide (c ≤ 122)))) := fun b eb => by
              refine ⟨_, eD, ?_, fun a o z => ?_, ?_⟩
              · rw [List.length_map, List.length_take, sizeLine_eq]
                omega
              · rw [upd_ne (ne_of_none z nD)]
                exact sm _ _ z
              · rw [upd_same, List.take_succ, List.getElem?_eq_getElem hk2, ec, List.map_append, eb] <;> rfl
            refine ⟨rfl, _, rfl, _, _, rfl, rfl, _, rfl, ite2 (fun e => ⟨_, _, rfl, rfl, fin _ ?_⟩) (fun e => fin _ ?_)⟩
            · rw [ca, one_lt] at e
              have e97 : 97 ≤ c := by
                have := of_decide_eq_false (by simpa using e : decide (c < 97) = false)
                omega
              rw [cz, one_lt, decide_eq_true e97, Bool.true_and]
              by_cases h : c ≤ 122
              · rw [decide_eq_true h, decide_eq_false (by omega)] <;> rfl
              · rw [decide_eq_false h, decide_eq_true (by omega)] <;> rfl
            · rw [ca, one_lt] at e
              have e97 : ¬ 97 ≤ c := fun z => e (by rw [decide_eq_false (by omega)] <;> rfl)
              rw [decide_eq_false e97, Bool.false_and]
          · obtain ⟨sm, eD⟩ := hP
            rw [List.take_of_length_le (by rw [Array.length_toList]; exact Nat.le_refl _)] at eD
            refine ⟨D, y.cps.toList.map fun c => decide (97 ≤ c) && decide (c ≤ 122), rfl, SqL.of (by rw [eD, List.map_map] <;> rfl), ?_⟩
            have z := q H1 sm
            unfold ordB at z
            rw [e36, decide_eq_true ndy, Bool.true_and, Bool.true_and] at z
            rw [List.all_map]
            exact z
        · have z := q H (fun _ _ z => z)
          unfold ordB at z
          rw [e36, decide_eq_false (show ¬ y.cps.toList.Nodup from fun nd2 => e (decide_eq_true ?_)), Bool.true_and, Bool.false_and] at z
          · exact z
          · have into : ∀ x, x ∈ l → x ∈ signs y := fun x hx => by
              obtain ⟨c, hc, rfl⟩ := (mem x).mp hx
              exact List.mem_map.mpr ⟨c, hc, rfl⟩
            have nds : (signs y).Nodup := nodup_signs nd2
            have le1 := List.Nodup.length_le_of_subset nd into
            have le2 := List.Nodup.length_le_of_subset nds fun x hx => by
              obtain ⟨c, hc, rfl⟩ := List.mem_map.mp hx
              exact (mem _).mpr ⟨c, hc, rfl⟩
            rw [signs_length] at le1 le2
            rw [Nat.le_antisymm le1 le2]
      · rw [decide_eq_false (show ¬ (y.length : Int) ≤ 6 by rw [sz]; omega)]
        refine iteT ?_
        have z := q H (fun _ _ z => z)
        unfold ordB at z
        rw [decide_eq_false (show ¬ (3 ≤ y.cps.size ∧ y.cps.size ≤ 6) by omega), Bool.false_and] at z
        exact z
    · refine iteT ?_
      have z := q H (fun _ _ z => z)
      unfold ordB at z
      rw [decide_eq_false (show ¬ (3 ≤ y.cps.size ∧ y.cps.size ≤ 6) from fun c => e (decide_eq_true (show (3 : Int) ≤ (y.length : Int) by rw [sz]; omega))), Bool.false_and] at z
      exact z
end
end L2.Cal
end

section
set_option maxRecDepth 100000
set_option maxHeartbeats 4000000
/-! `for i, x in enumerate(t)`, t a tuple -/
namespace L2.Cal
open PySem PySem.Spec PyProof.Rows L2
theorem enum_meets {v : Value} {o : Obj} {H : Heap → Prop} (B : Begins v o H) : Meets (Builtin.«enumerate.__new__» ⟨[.type "enumerate", v], []⟩) (fun _ R s => H s.heap ∧
    R (.ok (.ret (.ref (s.heap.push o).objs.size))) { s with heap := (s.heap.push o).push { cls := .type "enumerate", data := .fields #[.none, .bool false, .ref s.heap.objs.size, rawInt 0, .none, .none] } }) :=
  .of_wp fun prog w A R s h => by
    obtain ⟨hp, g, d, tk, os⟩ := s
    obtain ⟨hH, fin⟩ := h
    have below := PySem.sub_enumerate
    have start : ∀ {A' : Around} {E : Value → Shared → Prop} {Q : Value → Shared → Prop}, Q (.ref hp.objs.size) ⟨hp.push o, g, d, tk, os⟩ → wpAny (model prog w) A' (pyIter v) Q E ⟨hp, g, d, tk, os⟩ := fun q => B.iter prog w _ _ ⟨hp, g, d, tk, os⟩ _ hH q
    wp_walk using start
    refine wpAny_stack_any fun _ => wpAny_pure ?_
    split
    · rename_i c _ _ _ _ _
      cases (c == Value.type "enumerate") <;> (wp_walk using start; exact ⟨_, rfl, fin⟩)
    · wp_walk using start
      exact ⟨_, rfl, fin⟩
section
variable {prog : Program} {w : World} {A : Around} {E : Value → Shared → Prop} {s : Shared}
theorem enum_one {v : Value} {o : Obj} {H : Heap → Prop} {Q : Value → Shared → Prop} (B : Begins v o H) (hH : H s.heap)
    (q : ∀ h', IsEnum h' (s.heap.objs.size + 1) s.heap.objs.size 0 .none → h'.get? s.heap.objs.size = some o → (∀ b o, s.heap.get? b = some o → h'.get? b = some o) → Q (.ref (s.heap.objs.size + 1)) { s with heap := h' }) :
    wpAny (model prog w) A (call (.type "enumerate") [v]) Q E s := by
  have z : (s.heap.push o).objs.size = s.heap.objs.size + 1 := Heap.size_push ..
  have at1 : IsEnum ((s.heap.push o).push { cls := .type "enumerate", data := .fields #[.none, .bool false, .ref s.heap.objs.size, rawInt 0, .none, .none] }) (s.heap.objs.size + 1) s.heap.objs.size 0 .none := by
    rw [← z]
    exact Heap.get?_push_size _ rfl
  refine callType_new PySem.F.called_enumerate (by decide) (PySem.F.typeCall_enumerate_1 _) (PySem.F.newCall_enumerate_1 _) (fun obj => PySem.F.args_object_init_2 obj _) PySem.F.entry_enumerate_new (enum_meets B) ⟨hH, ?_⟩
  show _ ∧ _
  rw [z]
  exact ⟨⟨_, at1, rfl⟩, q _ at1 (Heap.get?_push_of_some _ (Heap.get?_push_size _ B.free)) fun b o e => Heap.get?_push_of_some _ (Heap.get?_push_of_some _ e)⟩
end
/-- the tuple at a, each item in a new pair with its place -/
def IteT (K : PySem.W.Frag) (a : Addr) : It :=
  ⟨fun i H => ∃ (xs : List V) (x : V), SqT K H a xs ∧ xs[i]? = some x, fun i H v H' => ∃ T x, v = .ref T ∧ H T = none ∧ H' = upd H T (.tup [.int (i : Nat), x]) ∧ ∀ xs, SqT K H a xs → xs[i]? = some x, fun i H => ∃ xs : List V, SqT K H a xs ∧ xs.length ≤ i⟩
theorem turn_enumT {P : Program} {w : World} {K : PySem.W.Frag} {elts : List Expr} {kk : Nat} {tpos : Pos} (a e it : Addr) :
    Turn P w K (.Tuple elts kk tpos) (IteT K a) [e, it] e (fun i h => (∃ old, IsEnum h e it ((i : Nat) : Int) old) ∧ h.IsTupleIter it a i ∧ e ≠ it) where
  mem := by simp
  obj := fun i h st b hb => by
    obtain ⟨⟨old, he⟩, ⟨o, ho, hc, hd⟩, _⟩ := st
    rcases List.mem_cons.mp hb with z | z
    · rw [z]
      exact ⟨_, he, fun v q => nomatch q⟩
    · rw [List.mem_singleton.mp z]
      exact ⟨o, ho, fun v q => by rw [hd] at q; cases q⟩
  keep := fun i h h' st k => let ⟨⟨old, he⟩, hi, hne⟩ := st; ⟨⟨old, k e (by simp) _ he⟩, hi.at fun o q => k it (by simp) o q, hne⟩
  item := by
    intro X hP hw hK hc i pins s σ H E I hf st hg
    subst hP hw hK
    obtain ⟨⟨old, he⟩, hit, hne⟩ := st
    obtain ⟨xs, x, hq, hx⟩ := hg
    obtain ⟨its, rv, p, hz⟩ := I.tuple hq
    obtain ⟨u, hu, ru⟩ := rv.get hx
    have lt1 : e < s.heap.objs.size := Heap.lt_size he
    have lt2 : it < s.heap.objs.size := by obtain ⟨_, q, _⟩ := hit; exact Heap.lt_size q
    have tup : s.heap.IsTuple a its.toArray := p
    have nai : a ≠ it := fun z => by
      obtain ⟨o1, e1, c1, _⟩ := tup
      obtain ⟨o2, e2, c2, _⟩ := hit
      rw [z, e2] at e1
      cases e1
      rw [c2] at c1
      exact absurd c1 (by decide)
    have nae : e ∉ [it, a] := by
      intro z
      rcases List.mem_cons.mp z with z | z
      · exact hne z
      · have z := List.mem_singleton.mp z
        obtain ⟨o1, e1, c1, _⟩ := tup
        rw [← z, he] at e1
        cases e1
        exact absurd (show Value.type "enumerate" = .type "tuple" from c1) (by decide)
    have isz : i < its.toArray.size := by
      have := (List.getElem?_eq_some_iff.mp hu).1
      simpa using this
    refine wpAny_pyNext_enum_itemD (Draws.tuple (A := X.A.in1) (by simpa using I.ok.hd hc) it a nai its.toArray) he ⟨hit, tup⟩ isz hne nae fun x' h' tk hx' ho hst hT hsz hk => ?_
    have ex : x' = u := by
      have : its.toArray[i]? = some u := by simpa using hu
      rw [this] at hx'
      exact (Option.some.inj hx').symm
    subst ex
    obtain ⟨hit', _⟩ := hst
    refine ⟨_, rfl, wpAny_letOwnedTupleGo_enum (s := { s with heap := h', toks := tk + 1 }) ho fun h'' he' sb => ?_⟩
    have hT2 : h''.get? s.heap.objs.size = some { cls := .type "tuple", data := .seq #[.int i tk, x'] } := (sb.2 _ (Nat.ne_of_gt lt1)).trans hT
    have new : ObjOk X.prog X.w (upd H s.heap.objs.size (.tup [.int (i : Nat), x])) h'' s.heap.objs.size (.tup [.int (i : Nat), x]) := ⟨by show 2 ≤ sizeLine; decide, [.int i tk, x'], .cons ⟨_, rfl⟩ (.cons ru .nil), ⟨_, hT2, rfl, _, rfl⟩⟩
    have J : Inv X pins σ (upd H s.heap.objs.size (.tup [.int (i : Nat), x])) { s with heap := h'', toks := tk + 1 } :=
      I.turnedNew (ch := [e, it]) (fun b ob hb q => (sb.2 b (fun z => hb (by simp [z]))).trans (hk b ob (fun z => hb (by simp [z])) (fun z => hb (by simp [z])) q)) hf (Nat.le_refl _) new
    refine ⟨.ref s.heap.objs.size, _, J, rfl, ⟨_, x, rfl, I.hok.fresh (Nat.le_refl _), rfl, fun ys hy => by rw [I.tuple_inj hy hq]; exact hx⟩, ⟨⟨x', ?_⟩, hit'.at fun o q => (sb.2 it (Ne.symm hne)).trans q, hne⟩, fun b hb => ?_⟩
    · rw [show ((i + 1 : Nat) : Int) = (i : Int) + 1 by omega]
      exact he'
    · have lt : b < s.heap.objs.size := by
        rcases List.mem_cons.mp hb with z | z
        · rw [z]; exact lt1
        · rw [List.mem_singleton.mp z]; exact lt2
      rw [upd_ne (Nat.ne_of_lt lt)]
      exact (hf b hb).1
  done := by
    intro X hP hw hK hc i pins s σ H E I hf st hg
    subst hP hw hK
    obtain ⟨⟨old, he⟩, hit, hne⟩ := st
    obtain ⟨xs, hq, hx⟩ := hg
    obtain ⟨its, rv, p, hz⟩ := I.tuple hq
    obtain ⟨f0, f1, f2, f3, f4, f5⟩ := hf it (by simp)
    have len := rv.length
    have kind : s.TypeIs (.ref e) "enumerate" := ⟨_, he, rfl⟩
    unfold pyNext
    refine wpAny_bind (wpAny_attempt (wpAny_callSpecial?_slot (name := Str.ofString "__next__") kind PySem.F.slot_enumerate_next (wpAny_call_entry PySem.F.slot_enumerate_next kind PySem.F.entry_enumerate_next ?_ (PySem.F.args_enumerate_next_1 _))))
    show wpAny _ _ (field (.ref e) 2 >>= _) _ _ _
    refine wpAny_bind (wpAny_field he rfl (x := .ref it) rfl (wpAny_bind (wpAny_nextOf_tuple_end (by simpa using I.ok.hd hc) hit (show s.heap.IsTuple a its.toArray from p) (by simp; omega) fun h' x he' ⟨o, ho, hc'⟩ => ?_)))
    exact wpAny_bind (wpAny_isInstance (T := "StopIteration") (b := true) ⟨o, ho, hc'⟩ isSubtype_stop (wpAny_pure ⟨rfl, I.turned (t' := s.toks) (fun b o hb q => he' b o hb q) f0 f1 f3 f4 f5⟩))
  self := fun A i s Q E st h => let ⟨⟨_, he⟩, _⟩ := st; wpAny_pyIter_enum he h
def iEnumT (K : PySem.W.Frag) (ta : TA) : TI := fun σ H R => ta σ H fun vs H1 => ∃ a xs, vs = [.ref a] ∧ SqT K H1 a xs ∧ R (IteT K a) H1
theorem pi_enumT {X : Cx} {e : Expr} {ta : TA} {p pos tpos : Pos} {elts : List Expr} {kk : Nat} (hg : Gl X "enumerate") (hm : X.mg "enumerate" = none) (ha : PA X [e] ta) (hs : starEach [e] X.env = [(false, eval e X.env)] := by rfl) :
    PI X (.Tuple elts kk tpos) (.Call (.Name "enumerate" p) [e] [] pos) (iEnumT X.K ta) := by
  refine ⟨fun pins s σ H R I h => Call_ (ld_blt I hg hm boot_enumerate (PyProof.Rows.callWith_type1 (thn (ha.run pos pins s σ H _ I h) fun us s1 ⟨vs, H1, I1, r1, q1⟩ => ?_) hs rfl))⟩
  obtain ⟨a, xs, rfl, hq, q⟩ := q1
  match us, r1 with
  | _, .cons r .nil =>
    cases r
    obtain ⟨its, rv, tup, _⟩ := I1.tuple hq
    refine enum_one (begins_tuple a its.toArray) tup fun h' he hit k => wpAny_pyIter_enum he ?_
    have I2 : Inv X pins σ H1 { s1 with heap := h' } := I1.kept (t' := s1.toks) k
    refine ⟨s1.heap.objs.size + 1, [s1.heap.objs.size + 1, s1.heap.objs.size], _, _, H1, rfl, I2, turn_enumT a (s1.heap.objs.size + 1) s1.heap.objs.size, ⟨⟨.none, he⟩, ⟨_, hit, rfl, rfl⟩, Nat.succ_ne_self _⟩, fun b hb => ?_, q⟩
    have le : s1.heap.objs.size ≤ b := by
      rcases List.mem_cons.mp hb with z | z
      · rw [z]; exact Nat.le_add_right _ _
      · rw [List.mem_singleton.mp z]; exact Nat.le_refl _
    exact I1.fpOk le (I1.hok.fresh le)
theorem walk_enumT {K : PySem.W.Frag} {a : Addr} {xs : List V} : Walk (IteT K a) xs.length (fun H => SqT K H a xs) (YPair (fun i => some (.int (i : Nat))) (fun i => xs[i]?)) :=
  ⟨fun i H hi hq => ⟨xs, _, hq, List.getElem?_eq_getElem hi⟩, fun H hq => ⟨xs, hq, Nat.le_refl _⟩, fun i H v H' hi hq ⟨T, x, e1, e2, e3, e4⟩ => ⟨T, _, x, e1, e2, e3, rfl, e4 xs hq⟩⟩
end L2.Cal
end

section
set_option maxRecDepth 100000
set_option maxHeartbeats 4000000
namespace L2.Cal
open PySem PySem.Spec PyProof.Rows L2
abbrev sThO : Stmt := topS 21
theorem scThO : FnScope ["order"] ["order"] (defScope sThO) := ⟨rfl, rfl, rfl, by decide +kernel, rfl, by decide +kernel, by decide +kernel⟩
abbrev sRah : Stmt := topS 23
theorem scRah : FnScope ["orders", "index", "order"] ["orders"] (defScope sRah) := ⟨rfl, rfl, rfl, by decide +kernel, rfl, by decide +kernel, by decide +kernel⟩

/-- a text's letters in order -/
def tidy (y : Str) : Str := ⟨(y.cps.toList.mergeSort fun a b => decide (a ≤ b)).toArray⟩
theorem rising_ones : ∀ (r : List Nat) (p : Nat), risingS ⟨#[p]⟩ (r.map fun n => ⟨#[n]⟩) = true → (p :: r).Pairwise (· ≤ ·)
  | [], _, _ => List.pairwise_singleton _ _
  | x :: r, p, h => by
    simp only [List.map_cons, risingS, Bool.and_eq_true, Bool.not_eq_true'] at h
    have le : p ≤ x := by
      have z := h.1
      simp [ltCps] at z
      omega
    have ih := rising_ones r x h.2
    refine List.pairwise_cons.mpr ⟨fun y hy => ?_, ih⟩
    rcases List.mem_cons.mp hy with e | hy
    · omega
    · exact Nat.le_trans le ((List.pairwise_cons.mp ih).1 y hy)
theorem signs_cps (z : Str) : (signs z).map (fun s => s.cps.getD 0 0) = z.cps.toList := by
  unfold signs
  rw [List.map_map]
  exact (List.map_congr_left fun c _ => rfl).trans (List.map_id _)
theorem tidy_perm (y : Str) : (tidy y).cps.toList.Perm y.cps.toList := List.mergeSort_perm _ _
theorem tidy_up (y : Str) : (tidy y).cps.toList.Pairwise (· ≤ ·) := by
  have := List.pairwise_mergeSort (le := fun a b : Nat => decide (a ≤ b)) (fun a b c h1 h2 => decide_eq_true (Nat.le_trans (of_decide_eq_true h1) (of_decide_eq_true h2))) (fun a b => by
    rcases Nat.le_total a b with h | h <;> simp [h]) y.cps.toList
  exact this.imp fun h => of_decide_eq_true h
theorem str_ext {a b : Str} (h : a.cps.toList = b.cps.toList) : a = b := by
  cases a
  cases b
  exact congrArg Str.mk (Array.toList_inj.mp h)
theorem tidy_of {y z : Str} (p : (signs z).Perm (signs y)) (s : sortedS (signs z) = true) : z = tidy y := by
  have p2 := p.map fun s => s.cps.getD 0 0
  rw [signs_cps, signs_cps] at p2
  have up : z.cps.toList.Pairwise (· ≤ ·) := by
    unfold signs at s
    cases e : z.cps.toList with
    | nil => exact .nil
    | cons a r =>
      rw [e] at s
      exact rising_ones r a s
  exact str_ext (List.Perm.eq_of_pairwise (fun a b _ _ h1 h2 => Nat.le_antisymm h1 h2) up (tidy_up y) (p2.trans (tidy_perm y).symm))
theorem tidy_same {x y : Str} (p : x.cps.toList.Perm y.cps.toList) : tidy x = tidy y :=
  str_ext (List.Perm.eq_of_pairwise (fun a b _ _ h1 h2 => Nat.le_antisymm h1 h2) (tidy_up x) (tidy_up y) ((tidy_perm x).trans (p.trans (tidy_perm y).symm)))
theorem sign_sum (z : Str) : ((signs z).map (·.length)).sum = z.cps.size := by
  unfold signs
  rw [List.map_map, show ((fun x : Str => x.length) ∘ fun n => (⟨#[n]⟩ : Str)) = fun _ => 1 from rfl, sum_ones, Array.length_toList]
theorem ys_signs {ys : List Str} {y : Str} (h : ys.Perm (signs y)) : ∃ z : Str, ys = signs z ∧ z.cps.toList.Perm y.cps.toList := ones_back (cs := y.cps.toList) h
theorem same_seqT {K : PySem.W.Frag} {a : Addr} {H H' : Hp} {xs : List V} (h : SqT K H a xs) (s : Same H H') : SqT K H' a xs := by
  rcases h with (z | ⟨o, z⟩) | z
  · exact .inl (.inl (s _ _ z))
  · exact .inl (.inr ⟨o, s _ _ z⟩)
  · exact .inr z
def spThO : Sp := fun vs H Q _ => ∃ y : Str, vs = [.str y] ∧ y.cps.size < 64 ∧ ∀ H', Same H H' → Q (.str (tidy y)) H'
def spRah (K : PySem.W.Frag) : Sp := fun vs H Q _ => ∃ (t : Addr) (ys : List Str) (y : Str), vs = [.ref t] ∧ SqT K H t (ys.map V.str) ∧ Lot ys y ∧ Lett y ∧ 3 ≤ y.cps.size ∧ y.cps.size ≤ 6 ∧ ys.length ≤ 48 ∧ ∀ H', Same H H' → Q (.int ys.length) H'
section
variable {P : Program} {w : World} {K : PySem.W.Frag} {mg : Str → Option Value} {base : Heap}
theorem ok_tho {f : Addr} {fd : FuncData} (D : DefAt K mg "things_of" sThO ["order"] f fd) (T : Txt mg) : FnOk P w K mg base CX0 1 f fd ["order"] spThO := by
  refine D.F.ok scThO (fun vs H Q E h => ?_) (fun cdv A outer sh H vs Q E hr h => ?_)
  · obtain ⟨y, rfl, _⟩ := h
    rfl
  · obtain ⟨y, rfl, hy, q⟩ := h
    refine ⟨_, (pss_one (ps_ret (pe_join pe_str (pe_callB (cr_sortText rfl) (by rfl) T.b_sorted (by decide +kernel) (pa_cons (pv 0) pa_nil))))), ?_⟩
    refine ⟨⟨_, rfl⟩, _, rfl, y, rfl, hy, fun ys p pm so np => ?_⟩
    obtain ⟨z, rfl, hz⟩ := ys_signs pm
    refine ⟨_, p, _, rfl, rfl, .inl (SqL.of upd_same), ?_, ?_⟩
    · rw [sign_sum, signs_length, show (PySem.Str.ofString "").length = 0 by decide +kernel]
      have : z.cps.size = y.cps.size := by rw [← Array.length_toList, hz.length_eq, Array.length_toList]
      omega
    · rw [join_signs, tidy_of pm so]
      exact q _ (same_new np)
theorem Lot.fine {ys : List Str} {y z : Str} (L : Lot ys y) (ly : Lett y) (h3 : 3 ≤ y.cps.size) (h6 : y.cps.size ≤ 6) (hz : z ∈ ys) : z.cps.size = y.cps.size ∧ ordB z = true := by
  have pm := L.of z hz
  have e : z.cps.size = y.cps.size := by rw [← Array.length_toList, pm.length_eq, Array.length_toList]
  have lz := ly.perm pm
  refine ⟨e, ?_⟩
  unfold ordB
  rw [decide_eq_true (show 3 ≤ z.cps.size ∧ z.cps.size ≤ 6 by omega), decide_eq_true lz.1, Bool.true_and, Bool.true_and, List.all_eq_true]
  intro c hc
  have := lz.2 c hc
  rw [decide_eq_true this.1, decide_eq_true this.2] <;> rfl
theorem ok_rah {f fI fT : Addr} {fd fdI fdT : FuncData} (D : DefAt K mg "right_ahead" sRah ["orders"] f fd) (DI : DefAt K mg "is_order" sIsO ["value"] fI fdI) (DT : DefAt K mg "things_of" sThO ["order"] fT fdT) (T : Txt mg) (Lm : Lims mg) : FnOk P w K mg base CX0 2 f fd ["orders"] (spRah K) := by
  have GI : FnOk P w K mg base CX0 1 fI fdI ["value"] spIsO := ok_iso DI T Lm
  have GT : FnOk P w K mg base CX0 1 fT fdT ["order"] spThO := ok_tho DT T
  obtain ⟨_, c3⟩ := Lm.c3
  refine D.F.ok scRah (fun vs H Q E h => ?_) (fun cdv A outer sh H vs Q E hr h => ?_)
  · obtain ⟨t, ys, y, rfl, _⟩ := h
    rfl
  · obtain ⟨t, ys, y, rfl, hT, L, ly, h3, h6, hl, q⟩ := h
    refine ⟨_, (pss_cons (ps_for PassesOwn.never rfl (pi_enumT (by rfl) T.b_enumerate (pa_cons (pv 0) pa_nil)) (pg_tup rfl (pgs_cons (pg_name (i := 1) scRah.nd rfl (.inl rfl)) (pgs_cons (pg_name (i := 2) scRah.nd rfl (.inl rfl)) pgs_nil)))
   (pss_cons (ps_if (PW.pt (pw_or (pt_cmpR op_eq (pv 1) (pe_glob (v := .int 48) (by rfl) c3 ⟨_, rfl⟩) (nomark _)) (pw_or1 (pt_not (pt_val (pe_call GI (hr.mono (by decide)) (by rfl) DI.g DI.F.kp DI.b .nil pass0 (pa_cons (pv 2) pa_nil)))))))
   (pss_one (ps_ret (pv 1)))
   pss_nil)
  (pss_cons (ps_if (pt_cmpR op_ne (pe_call GT (hr.mono (by decide)) (by rfl) DT.g DT.F.kp DT.b .nil pass0 (pa_cons (pv 2) pa_nil)) (pe_call GT (hr.mono (by decide)) (by rfl) DT.g DT.F.kp DT.b .nil pass0 (pa_cons (pe_ix ix_tup (pv 0) pe_int (fun _ _ => rfl)) pa_nil)) (nomark _))
   (pss_one (ps_ret (pv 1)))
   pss_nil)
  (pss_one (ps_if (PW.pt (pw_and (pt_cmpR op_gt (pv 1) pe_int (nomark _)) (pw_and1 (pt_cmpR op_le_str (pv 2) (pe_ix ix_tup (pv 0) (pe_op op_sub (pv 1) pe_int) (fun _ _ => rfl)) (nomark _)))))
   (pss_one (ps_ret (pv 1)))
   pss_nil)))))
  (pss_one (ps_ret (pe_callB call_len_seq (by rfl) T.b_len (by decide +kernel) (pa_cons (pv 0) pa_nil))))), ?_⟩
    refine ⟨_, rfl, t, _, rfl, hT, for_it (walk_enumT (xs := ys.map V.str)) (fun i σ H' => ∃ v1 v2, σ = [some (.ref t), v1, v2] ∧ Same H H') ⟨none, none, rfl, fun _ _ z => z⟩ (fun i σ H' _ hP => ?_) (fun i x σ H1 H2 hi hP hY => ?_) (fun σ H' hP => ?_)⟩
    · obtain ⟨_, _, _, sm⟩ := hP
      exact same_seqT hT sm
    · obtain ⟨v1, v2, rfl, sm⟩ := hP
      obtain ⟨T', a, b, rfl, nT, rfl, e1, e2⟩ := hY
      cases e1
      rw [List.length_map] at hi
      have e2 : (ys.map V.str)[i]? = some b := e2
      rw [List.getElem?_map, List.getElem?_eq_getElem hi] at e2
      cases e2
      have zin : ys[i] ∈ ys := List.getElem_mem hi
      obtain ⟨sz, oz⟩ := L.fine ly h3 h6 zin
      have sm1 : Same H (upd H1 T' (.tup [.int (i : Nat), .str ys[i]])) := fun b o e => by
        rw [upd_ne (ne_of_none (sm _ _ e) nT)]
        exact sm _ _ e
      have at_ : ∀ k, (hk : k < ys.length) → atI (ys.map V.str) (k : Int) = some (.str ys[k]) := fun k hk => atI_nat (by rw [List.getElem?_map, List.getElem?_eq_getElem hk] <;> rfl)
      have h0 : 0 < ys.length := L.some
      obtain ⟨sz0, _⟩ := L.fine ly h3 h6 (List.getElem_mem h0)
      refine ⟨T', _, rfl, SqT.of upd_same, rfl, _, _, rfl, _, _, rfl, rfl, ?_⟩
      refine ⟨_, rfl, rfl, _, rfl, ite2 (fun e => absurd (V.int.inj (of_decide_eq_true e)) (by omega)) (fun e => ⟨_, rfl, ys[i], rfl, by omega, fun H3 s3 => ⟨_, rfl, ?_⟩⟩)⟩
      rw [oz]
      have sm3 : Same H H3 := sm1.trans s3
      refine iteF ⟨_, rfl, ys[i], rfl, by omega, fun H4 s4 => ⟨_, rfl, t, _, 0, _, rfl, rfl, same_seqT hT (sm3.trans s4), at_ 0 h0, ys[0], rfl, by omega, fun H5 s5 => ⟨rfl, _, rfl, iteNS (by rw [tidy_same ((L.of _ zin).trans (L.of _ (List.getElem_mem h0)).symm)]) ?_⟩⟩⟩
      have sm5 : Same H H5 := sm3.trans (s4.trans s5)
      refine ⟨_, rfl, _, _, rfl, rfl, _, rfl, ite2 (fun e => ?_) (fun e => iteF ⟨_, _, rfl, sm5⟩)⟩
      have i0 : 0 < i := by
        have := of_decide_eq_true e
        omega
      have e1 : ((i : Int) - 1) = ((i - 1 : Nat) : Int) := by omega
      have up : Below ys[i - 1] ys[i] := L.up.at (i - 1) _ _ (List.getElem?_eq_getElem (by omega)) (by rw [Nat.sub_add_cancel i0]; exact List.getElem?_eq_getElem hi)
      refine ⟨_, rfl, _, rfl, _, rfl, _, _, rfl, rfl, t, _, _, _, rfl, rfl, same_seqT hT sm5, (by show atI _ ((i : Int) - 1) = _; rw [e1]; exact at_ (i - 1) (by omega)), _, _, rfl, rfl, _, rfl, ?_⟩
      have lt : decide (ys[i - 1].cps.toList < ys[i].cps.toList) = true := by rw [← ltCps_eq]; exact up
      rw [lt]
      exact iteF ⟨_, _, rfl, sm5⟩
    · obtain ⟨v1, v2, rfl, sm⟩ := hP
      exact ⟨_, rfl, t, _, rfl, .inr (same_seqT hT sm), by rw [List.length_map]; exact q _ sm⟩
end
end L2.Cal
end

section
set_option maxRecDepth 100000
set_option maxHeartbeats 4000000
/-! what built-in functions and operators ask of an object of an own class -/
namespace L2.Cal
open PySem PySem.Spec PyProof.Rows L2
section
variable {X : Cx} {CX : CXT} {k : Nat} {C f : Addr} {fd : FuncData} {ps : List Str} {sp : Sp} {E : XK} {pins : List (Addr × Obj)} {σ : St} {H : Hp} {s : Shared}
/-- a def at work further in -/
theorem run_at {A : Around} {E' : Value → Shared → Prop} {vs : List V} {us : List Value} {Q : VK} (e0 : Env0 X.prog X.w X.K X.mg X.base A X.stack s H) (hr : Room k A) (I : Inv X pins σ H s) (F : FnOk X.prog X.w X.K X.mg X.base CX k f fd ps sp) (hb : Binds X.K fd ps []) (r : Vals vs us) (hx : Passes CX X.nox E) (h : sp vs H Q E) :
    wpAny (model X.prog X.w) A (call (.ref f) us) (EP X pins σ Q) E' s := by
  have hl : (us ++ []).length = ps.length := by
    rw [List.append_nil, ← F.len _ _ _ _ h]
    exact r.length.symm
  have bind := hb s us I.kIn hl
  rw [List.append_nil] at bind
  refine wpAny_call (codeAny_mono (F.run A X.stack s H ⟨us, []⟩ us vs Q E hr e0 bind r h) fun r s' hq => ?_)
  match r, hq with
  | .error er, hq => exact False.elim (hx pins σ H s er s' (I.wish _) hq)
  | .ok (.ret u), hq => exact I.after hq
theorem ins_at {a dx : Addr} {fs : List (Str × V)} (I : Inv X pins σ H s) (ea : H a = some (.ins C dx fs)) : ∃ ox od, PySem.W.InstAt s.heap a ox C (some od) := by
  obtain ⟨mA, O, _⟩ := ins_get I.hok ea
  obtain ⟨od, J, _⟩ := O.look
  exact ⟨_, od, J⟩
/-- an own method that stands in the class -/
structure Own (K : PySem.W.Frag) (C : Addr) (m : Str) (f : Addr) : Prop where
  at_ : PySem.W.findIn K (.ref C) m = some (some (.ref f))
  fn : PySem.W.typeIn K (.ref f) = some (.type "function")
theorem Own.isFn {K : PySem.W.Frag} {m : Str} (o : Own K C m f) : PySem.W.isFn K (.ref f) = true := beq_iff_eq.mpr o.fn
/-- len(o) -/
def rLenO (C : Addr) (sp : Sp) (E : XK) : List V → Hp → VK → Prop := fun xs H Q => ∃ (a dx : Addr) (fs : List (Str × V)), xs = [.ref a] ∧ H a = some (.ins C dx fs) ∧ sp [.ref a] H (fun v H' => ∃ n : Nat, v = .int n ∧ n < 2 ^ 62 ∧ Q (.int n) H') E
theorem call_lenO (o : Own X.K C "__len__" f) (F : FnOk X.prog X.w X.K X.mg X.base CX k f fd ps sp) (hr : Room (k + 1) X.A) (hb : Binds X.K fd ps []) (hx : Passes CX X.nox E) : CallR X (.builtin "len") (rLenO C sp E) := by
  intro pins s σ H xs us Q I r h
  obtain ⟨a, dx, fs, rfl, ea, h⟩ := h
  rw [Vals.ref1 r]
  obtain ⟨ox, od, J⟩ := ins_at I ea
  refine Calls.call_function_entry kind_len plain_len entry_len (args_len1 _) ?_
  unfold Builtin.«len»
  refine wpAny_bind (m := oneArg "len" _) (wpAny_pure (wpAny_bind (m := callSpecial? (.ref a) (Str.ofString "__len__")) (PySem.W.special_fn I.kIn J o.at_ o.fn (wpAny_mono (run_at (A := X.A.in1) I.env0.in1 hr.in1 (vs := [.ref a]) I F hb (.cons rfl .nil) hx h) (fun u s' hq => ?_) fun _ _ z => z))))
  obtain ⟨v, H', I', rv, n, rfl, lt, q⟩ := hq
  obtain ⟨t, rfl⟩ := rv
  refine wpAny_bind (wpAny_holding (wpAny_pure (wpAny_bind (wpAny_letGo ?_))))
  show wpAny _ _ (if ((n : Int) < 0) then _ else _) _ _ _
  rw [if_neg (by omega)]
  show wpAny _ _ (if ((n : Int) ≥ 2 ^ 63) then _ else _) _ _ _
  rw [if_neg (by omega)]
  exact wpAny_bind (wpAny_mkInt (wpAny_pure ⟨_, rfl, .int n, H', I'.tok _, ⟨_, rfl⟩, q⟩))
/-- str(o) -/
def rStrO (C : Addr) (sp : Sp) (E : XK) : List V → Hp → VK → Prop := fun xs H Q => ∃ (a dx : Addr) (fs : List (Str × V)), xs = [.ref a] ∧ H a = some (.ins C dx fs) ∧ sp [.ref a] H (fun v H' => ∃ y : Str, v = .str y ∧ Q (.str y) H') E
theorem call_strO (o : Own X.K C "__str__" f) (F : FnOk X.prog X.w X.K X.mg X.base CX k f fd ps sp) (hr : Room (k + 2) X.A) (hb : Binds X.K fd ps []) (hx : Passes CX X.nox E) : CallR X (.type "str") (rStrO C sp E) := by
  intro pins s σ H xs us Q I r h
  obtain ⟨a, dx, fs, rfl, ea, h⟩ := h
  rw [Vals.ref1 r]
  obtain ⟨ox, od, J⟩ := ins_at I ea
  refine PySem.W.kso_call (by have := hr.in1.in1.units; omega) I.kIn J o.at_ o.isFn (wpAny_mono (run_at (A := X.A.in1.in1) I.env0.in1.in1 hr.in1.in1 (vs := [.ref a]) I F hb (.cons rfl .nil) hx h) (fun u s' hq => ?_) fun _ _ z => z)
  obtain ⟨v, H', I', rv, y, rfl, q⟩ := hq
  obtain ⟨t, rfl⟩ := rv
  exact ⟨.str y, H', I', ⟨t, rfl⟩, q⟩
/-- x in o -/
def rInO (C : Addr) (sp : Sp) (E : XK) : V → V → Hp → VK → Prop := fun x y H Q => ∃ (a dx : Addr) (fs : List (Str × V)), y = .ref a ∧ H a = some (.ins C dx fs) ∧ sp [.ref a, x] H (fun v H' => ∃ b : Bool, v = .bl b ∧ Q (.bl b) H') E
theorem op_inO (o : Own X.K C "__contains__" f) (F : FnOk X.prog X.w X.K X.mg X.base CX k f fd ps sp) (hr : Room k X.A) (hb : Binds X.K fd ps []) (hx : Passes CX X.nox E) : OpR X (compareOp .In) (rInO C sp E) := by
  intro pins s σ H x y v u Q I rx ry h
  obtain ⟨a, dx, fs, rfl, ea, h⟩ := h
  cases ry
  obtain ⟨ox, od, J⟩ := ins_at I ea
  refine wpAny_bind (m := contains _ _) ?_
  unfold contains
  refine wpAny_holding (wpAny_bind (wpAny_bind (J.type.here ((PySem.W.looks_findIn I.kIn o.at_).here ?_))))
  rw [if_neg (by simp)]
  refine wpAny_bind (PySem.W.unlessNone_K I.kIn J o.at_ o.isFn (wpAny_mono (run_at (vs := [.ref a, x]) I.env0 hr I F hb (.cons rfl (.cons rx .nil)) hx h) (fun u s' hq => ?_) fun _ _ z => z))
  obtain ⟨v', H', I', rv, b, rfl, q⟩ := hq
  cases rv
  exact wpAny_pure (wpAny_pure ⟨.bl b, H', I', rfl, q⟩)
end
end L2.Cal
end

section
set_option maxRecDepth 100000
set_option maxHeartbeats 4000000
namespace L2.Cal
open PySem PySem.Spec PyProof.Rows L2
section
variable {X : Cx} {CX : CXT} {k : Nat} {C f : Addr} {fd : FuncData} {ps : List Str} {sp : Sp} {E : XK} {pins : List (Addr × Obj)} {σ : St} {H : Hp} {s : Shared}
/-- o == y, o's own `__eq__` asked first -/
def rEqO (K : PySem.W.Frag) (C : Addr) (sp : Sp) (E : XK) (g : Bool → Bool) : V → V → Hp → VK → Prop := fun x y H Q => ∃ (a dx : Addr) (fs : List (Str × V)) (t : Value), x = .ref a ∧ H a = some (.ins C dx fs) ∧ TyX K H y t ∧ PySem.W.notFirst K C t = true ∧
  sp [.ref a, y] H (fun v H' => ∃ b : Bool, v = .bl b ∧ Q (.bl (g b)) H') E
theorem op_eqO (o : Own X.K C "__eq__" f) (F : FnOk X.prog X.w X.K X.mg X.base CX k f fd ps sp) (hr : Room k X.A) (hb : Binds X.K fd ps []) (hx : Passes CX X.nox E) : OpR X (compareOp .Eq) (rEqO X.K C sp E id) := by
  intro pins s σ H x y v u Q I rx ry h
  obtain ⟨a, dx, fs, t, rfl, ea, ty, nf, h⟩ := h
  cases rx
  obtain ⟨ox, od, J⟩ := ins_at I ea
  obtain ⟨Pt, kt, hP, _⟩ := kit_of I ry ty
  obtain ⟨m, hF⟩ := I.fr
  refine PySem.W.cmp_K (op := .Eq) hr.units0 hF I.ok.mod.kin J (kt.ty _ _ I.kIn hP) nf o.at_ o.isFn (wpAny_mono (run_at (vs := [.ref a, y]) I.env0 hr I F hb (.cons rfl (.cons ry .nil)) hx h) (fun u' s' hq => ?_) fun _ _ z => z)
  obtain ⟨v', H', I', rv, b, rfl, q⟩ := hq
  cases rv
  exact ⟨.bl b, H', I', rfl, q⟩
/-- o's `__ne__` is object's, which asks o's own `__eq__` -/
theorem try_ne {a dx : Addr} {fs : List (Str × V)} {y : V} {u : Value} {Q : VK} (o : Own X.K C "__eq__" f) (hne : PySem.W.findIn X.K (.ref C) "__ne__" = some (some (.builtin "object.__ne__"))) (hob : PySem.W.mroIn X.K C (.type "object") = some true)
    (F : FnOk X.prog X.w X.K X.mg X.base CX k f fd ps sp) (hr : Room (k + 1) X.A) (hb : Binds X.K fd ps []) (hx : Passes CX X.nox E) (I : Inv X pins σ H s) (ea : H a = some (.ins C dx fs)) (ry : RelV y u) (h : sp [.ref a, y] H (fun v H' => ∃ b : Bool, v = .bl b ∧ Q (.bl (!b)) H') E) :
    wpAny (model X.prog X.w) X.A (tryCompare (.ref a) "__ne__" u) (fun r s' => ∃ v, r = some v ∧ EP X pins σ Q v s') X.xe s := by
  obtain ⟨ox, od, J⟩ := ins_at I ea
  have S := PySem.F.cmp_object.ne
  have sub : PySem.W.Looks (model X.prog X.w) s.heap (isInstance (.ref a) (.type "object")) true := J.type.andThen (PySem.W.looks_mroIn I.kIn hob)
  have body : wpAny (model X.prog X.w) X.A (call (.builtin "object.__ne__") [.ref a, u]) (fun v s' => ∃ (b : Bool) (H' : Hp), v = .bool b ∧ Inv X pins σ H' s' ∧ Q (.bl b) H') X.xe s := by
    refine wpAny_call (codeAny_call_builtin S.plain PySem.F.cmpEntry_ne (@PySem.W.check_slot (model X.prog X.w) _ _ s "object.__ne__" "object" "__ne__" (.ref a) [u] [] _ PySem.F.cmpKind_ne PySem.F.cmpSplit_ne sub (PySem.F.cmpArgs_ne _ _) ?_))
    unfold Builtin.«object.__ne__»
    have room : X.A.in1.units < cLine := hr.in1.units0
    have asked : wpAny (model X.prog X.w) X.A.in1 (callSpecialIfBound? (.ref a) (Str.ofString "__eq__") [u]) (fun r s' => ∃ (b : Bool) (H' : Hp), r = some (.bool b) ∧ Inv X pins σ H' s' ∧ Q (.bl (!b)) H') X.xe s := by
      refine PySem.W.ifBound_K I.kIn J o.at_ o.isFn (wpAny_mono (run_at (vs := [.ref a, y]) I.env0.in1 hr.in1 I F hb (.cons rfl (.cons ry .nil)) hx h) (fun u' s' hq => ?_) fun _ _ z => z)
      obtain ⟨v', H', I', rv, b, rfl, q⟩ := hq
      cases rv
      exact ⟨b, H', rfl, I', q⟩
    repeat (first
      | with_reducible refine wpAny_cRoomFor room ?_
      | (refine wpAny_bind (m := callSpecialIfBound? (.ref a) (Str.ofString "__eq__") [u]) (wpAny_mono asked (fun r s' hq => ?_) fun _ _ z => z))
      | wp_step)
    obtain ⟨b, H', rfl, I', q⟩ := hq
    exact wpAny_bind (wpAny_truthy_bool (wpAny_pure ⟨!b, H', rfl, I', q⟩))
  unfold tryCompare callSpecialIfBound? bindSpecialIfBound?
  have fin : wpAny (model X.prog X.w) X.A (call (.builtin "object.__ne__") ([.ref a] ++ [u]) >>= fun v => pure (some v)) (fun r s' => ∃ (b : Bool) (H' : Hp), r = some (.bool b) ∧ Inv X pins σ H' s' ∧ Q (.bl b) H') X.xe s := wpAny_bind (wpAny_mono body (fun v s' z => let ⟨b, H', e, r⟩ := z; wpAny_pure ⟨b, H', congrArg some e, r⟩) fun _ _ z => z)
  refine wpAny_bind (wpAny_mono (Q := fun r s' => ∃ (b : Bool) (H' : Hp), r = some (.bool b) ∧ Inv X pins σ H' s' ∧ Q (.bl b) H') ?_ (fun r s' z => ?_) fun _ _ z => z)
  · refine wpAny_holding (wpAny_bind (wpAny_bind (wpAny_bind (J.type.here ((PySem.W.looks_findIn I.kIn hne).here ?_)))))
    simp only [S.bind]
    refine wpAny_bind (wpAny_askSetting (wpAny_ite ?_))
    split
    · exact wpAny_bind (wpAny_pure (wpAny_pure fin))
    · exact wpAny_tryCatch (wpAny_bind (wpAny_pure (wpAny_pure fin)))
  · obtain ⟨b, H', rfl, I', q⟩ := z
    exact wpAny_pure ⟨_, rfl, .bl b, H', I', rfl, q⟩
theorem op_neO (o : Own X.K C "__eq__" f) (hne : PySem.W.findIn X.K (.ref C) "__ne__" = some (some (.builtin "object.__ne__"))) (hob : PySem.W.mroIn X.K C (.type "object") = some true) (F : FnOk X.prog X.w X.K X.mg X.base CX k f fd ps sp) (hr : Room (k + 1) X.A) (hb : Binds X.K fd ps []) (hx : Passes CX X.nox E) :
    OpR X (compareOp .NotEq) (rEqO X.K C sp E fun b => !b) := by
  intro pins s σ H x y v u Q I rx ry h
  obtain ⟨a, dx, fs, t, rfl, ea, ty, nf, h⟩ := h
  cases rx
  obtain ⟨ox, od, J⟩ := ins_at I ea
  obtain ⟨Pt, kt, hP, _⟩ := kit_of I ry ty
  have ask := try_ne o hne hob F hr hb hx I ea ry h
  show wpAny (model X.prog X.w) X.A (richCompare .NotEq (.ref a) u) (EP X pins σ Q) X.xe s
  unfold richCompare
  simp only [oneThing_ref]
  refine wpAny_holding (wpAny_bind (wpAny_cRoomFor hr.units0 (wpAny_bind (J.type.here (wpAny_bind ((kt.ty _ _ I.kIn hP).here ?_))))))
  split
  · rename_i q
    have e : PySem.W.subIn X.K t (.ref C) = some false := by
      rcases Bool.or_eq_true_iff.mp nf with e | e
      · rw [beq_iff_eq.mp e] at q
        simp at q
      · exact beq_iff_eq.mp e
    refine wpAny_bind ((PySem.W.looks_subIn I.kIn e).here ?_)
    simp only [Bool.false_eq_true, if_false]
    refine wpAny_bind (wpAny_mono ask (fun r s' z => ?_) fun _ _ e => e)
    obtain ⟨v, rfl, hq⟩ := z
    exact wpAny_pure hq
  · refine wpAny_bind (wpAny_pure ?_)
    simp only [Bool.false_eq_true, if_false]
    refine wpAny_bind (wpAny_mono ask (fun r s' z => ?_) fun _ _ e => e)
    obtain ⟨v, rfl, hq⟩ := z
    exact wpAny_pure hq
end
end L2.Cal
end

section
set_option maxRecDepth 100000
set_option maxHeartbeats 4000000
/-! `v == o`, v of a built-in type that declines: o's own `__eq__` is asked -/
namespace L2.Cal
open PySem PySem.Spec PyProof.Rows L2
open PySem.AutoSeq1 (wpAny_loadPart')
section
variable {P : Program} {w : World} {A : Around} {E : Value → Shared → Prop} {s : Shared} {C b dx l : Addr} {Q : Value → Shared → Prop}
theorem nay_list {o : Obj} (hl : s.heap.get? l = some o) (hc : o.cls = .type "list") (no : PySem.W.Looks (model P w) s.heap (isInstance (.ref b) (.type "list")) false) (q : Q .notImplemented s) : wpAny (model P w) A (call (.builtin "list.__eq__") [.ref l, .ref b]) Q E s := by
  refine wpAny_call_entry PySem.F.slot_list_eq ⟨_, hl, hc⟩ PySem.F.entry_list_eq ?_ (PySem.F.args_list_eq_2 _ _)
  unfold Builtin.«list.__eq__»
  repeat (first | with_reducible refine no.here ?_ | wp_step)
  exact ⟨_, rfl, q⟩
theorem nay_tuple {o : Obj} (hl : s.heap.get? l = some o) (hc : o.cls = .type "tuple") (no : PySem.W.Looks (model P w) s.heap (isInstance (.ref b) (.type "tuple")) false) (q : Q .notImplemented s) : wpAny (model P w) A (call (.builtin "tuple.__eq__") [.ref l, .ref b]) Q E s := by
  refine wpAny_call_entry PySem.F.slot_tuple_eq ⟨_, hl, hc⟩ PySem.F.entry_tuple_eq ?_ (PySem.F.args_tuple_eq_2 _ _)
  unfold Builtin.«tuple.__eq__»
  repeat (first | with_reducible refine no.here ?_ | wp_step)
  exact ⟨_, rfl, q⟩
theorem nay_dict {o : Obj} (hl : s.heap.get? l = some o) (hc : o.cls = .type "dict") (no : PySem.W.Looks (model P w) s.heap (isInstance (.ref b) (.type "dict")) false) (q : Q .notImplemented s) : wpAny (model P w) A (call (.builtin "dict.__eq__") [.ref l, .ref b]) Q E s := by
  refine wpAny_call_entry PySem.F.slot_dict_eq ⟨_, hl, hc⟩ PySem.F.entry_dict_eq ?_ (PySem.F.args_dict_eq_2 _ _)
  unfold Builtin.«dict.__eq__»
  repeat (first | with_reducible refine no.here ?_ | wp_step)
  exact ⟨_, rfl, q⟩
theorem nay_none (q : Q .notImplemented s) : wpAny (model P w) A (call (.builtin "NoneType.__eq__") [.none, .ref b]) Q E s := by
  refine wpAny_call_entry PySem.F.slot_NoneType_eq rfl PySem.F.entry_NoneType_eq ?_ (PySem.F.args_NoneType_eq_2 _ _)
  wp_walk
  exact ⟨_, rfl, q⟩
theorem nay_str {y : Str} {t : Tok} (hb : s.heap.get? b = some (PySem.W.instObj C dx)) (q : Q .notImplemented s) : wpAny (model P w) A (call (.builtin "str.__eq__") [.str y t, .ref b]) Q E s := by
  refine wpAny_call_entry PySem.F.slot_str_eq (typeIs_str s y t) PySem.F.entry_str_eq ?_ (PySem.F.args_str_eq_2 _ _)
  wp_walk using wpAny_loadPart' hb, wpAny_load hb
  exact ⟨_, rfl, q⟩
theorem nay_int {i : Int} {t : Tok} (hb : s.heap.get? b = some (PySem.W.instObj C dx)) (q : Q .notImplemented s) : wpAny (model P w) A (call (.builtin "int.__eq__") [.int i t, .ref b]) Q E s := by
  refine wpAny_call_entry PySem.F.slot_int_eq rfl PySem.F.entry_int_eq ?_ (PySem.F.args_int_eq_2 _ _)
  wp_walk using wpAny_loadPart' hb, wpAny_load hb
  exact ⟨_, rfl, q⟩
end
/-- values whose type declines -/
inductive Dcl (H : Hp) : V → String → Prop where
  | non : Dcl H .non "NoneType"
  | int (i : Int) : Dcl H (.int i) "int"
  | str (y : Str) : Dcl H (.str y) "str"
  | lst {l : Addr} {xs : List V} (e : H l = some (.lst xs)) : Dcl H (.ref l) "list"
  | tup {l : Addr} {xs : List V} (e : H l = some (.tup xs)) : Dcl H (.ref l) "tuple"
  | dct {l : Addr} {kvs : List (Key × V)} (e : H l = some (.dK kvs)) : Dcl H (.ref l) "dict"
section
variable {X : Cx} {CX : CXT} {k : Nat} {C f : Addr} {fd : FuncData} {ps : List Str} {sp : Sp} {E : XK} {pins : List (Addr × Obj)} {σ : St} {H : Hp} {s : Shared}
theorem Dcl.ty {K : PySem.W.Frag} {x : V} {T : String} (d : Dcl H x T) : TyX K H x (.type T) := by
  cases d with
  | non => exact .base .non
  | int i => exact .base (.int i)
  | str y => exact .base (.str y)
  | lst e => exact .base (.lst e)
  | tup e => exact .base (.tup e)
  | dct e => exact .base (.dK e)
theorem Dcl.try_ {A : Around} {E' : Value → Shared → Prop} {Q : Option Value → Shared → Prop} {x : V} {v : Value} {T : String} {b dx : Addr} {fs : List (Str × V)} (d : Dcl H x T) (I : Inv X pins σ H s) (rx : RelV x v) (eb : H b = some (.ins C dx fs)) (no : PySem.W.mroIn X.K C (.type T) = some false) (q : Q none s) :
    wpAny (model X.prog X.w) A (tryCompare v "__eq__" (.ref b)) Q E' s := by
  obtain ⟨mA, O, _⟩ := ins_get I.hok eb
  have ob := O.obj
  obtain ⟨od, J, _⟩ := O.look
  have isi : PySem.W.Looks (model X.prog X.w) s.heap (isInstance (.ref b) (.type T)) false := J.type.andThen (PySem.W.looks_mroIn I.kIn no)
  obtain ⟨Pt, kt, hP, _⟩ := kit_of I rx (d.ty (K := X.K))
  cases d with
  | non =>
    cases (show v = Value.none from rx)
    exact wpAny_tryCompare_declines (T := "NoneType") rfl PySem.F.slot_NoneType_eq (nay_none ⟨rfl, q⟩)
  | int i =>
    obtain ⟨t, rfl⟩ := (show ∃ t, v = Value.int i t from rx)
    exact wpAny_tryCompare_declines (T := "int") rfl PySem.F.slot_int_eq (nay_int ob ⟨rfl, q⟩)
  | str y =>
    obtain ⟨t, rfl⟩ := (show ∃ t, v = Value.str y t from rx)
    exact wpAny_tryCompare_declines (T := "str") (typeIs_str s y t) PySem.F.slot_str_eq (nay_str ob ⟨rfl, q⟩)
  | @lst l xs e =>
    cases (show v = Value.ref l from rx)
    obtain ⟨_, _, n, _, h1⟩ := (show ObjOk X.prog X.w H s.heap l (.lst xs) from I.hok l _ e)
    exact wpAny_tryCompare_declines (T := "list") ⟨_, h1, rfl⟩ PySem.F.slot_list_eq (nay_list h1 rfl isi ⟨rfl, q⟩)
  | @tup l xs e =>
    cases (show v = Value.ref l from rx)
    obtain ⟨_, _, _, o, h1, h2, _⟩ := (show ObjOk X.prog X.w H s.heap l (.tup xs) from I.hok l _ e)
    exact wpAny_tryCompare_declines (T := "tuple") ⟨_, h1, h2⟩ PySem.F.slot_tuple_eq (nay_tuple h1 h2 isi ⟨rfl, q⟩)
  | @dct l kvs e =>
    cases (show v = Value.ref l from rx)
    obtain ⟨_, _, vs, _, o, es, ep, h1, h2, _⟩ := (show ObjOk X.prog X.w H s.heap l (.dK kvs) from I.hok l _ e)
    exact wpAny_tryCompare_declines (T := "dict") ⟨_, h1, h2.1⟩ PySem.F.slot_dict_eq (nay_dict h1 h2.1 isi ⟨rfl, q⟩)
/-- v == o -/
def rEqR (K : PySem.W.Frag) (C : Addr) (sp : Sp) (E : XK) : V → V → Hp → VK → Prop := fun x y H Q => ∃ (b dx : Addr) (fs : List (Str × V)) (T : String), y = .ref b ∧ H b = some (.ins C dx fs) ∧ Dcl H x T ∧ PySem.W.mroIn K C (.type T) = some false ∧ PySem.W.subIn K (.ref C) (.type T) = some false ∧
  sp [.ref b, x] H (fun v H' => ∃ b : Bool, v = .bl b ∧ Q (.bl b) H') E
theorem op_eqR (o : Own X.K C "__eq__" f) (F : FnOk X.prog X.w X.K X.mg X.base CX k f fd ps sp) (hr : Room k X.A) (hb : Binds X.K fd ps []) (hx : Passes CX X.nox E) : OpR X (compareOp .Eq) (rEqR X.K C sp E) := by
  intro pins s σ H x y v u Q I rx ry h
  obtain ⟨b, dx, fs, T, rfl, eb, d, nm, ns, h⟩ := h
  cases ry
  obtain ⟨ox, od, J⟩ := ins_at I eb
  obtain ⟨Pt, kt, hP, _⟩ := kit_of I rx (d.ty (K := X.K))
  show wpAny (model X.prog X.w) X.A (richCompare .Eq v (.ref b)) (EP X pins σ Q) X.xe s
  have one : oneThing? .Eq v (.ref b) = none := by
    cases d <;> first
      | (cases (show v = Value.none from rx); rfl)
      | (obtain ⟨t, rfl⟩ := (show ∃ t, v = Value.int _ t from rx); rfl)
      | (obtain ⟨t, rfl⟩ := (show ∃ t, v = Value.str _ t from rx); rfl)
      | (cases (show v = Value.ref _ from rx); exact oneThing_ref ..)
  unfold richCompare
  simp only [one]
  refine wpAny_holding (wpAny_bind (wpAny_cRoomFor hr.units0 (wpAny_bind ((kt.ty _ _ I.kIn hP).here (wpAny_bind (J.type.here ?_))))))
  have fin : wpAny (model X.prog X.w) X.A (tryCompare (.ref b) "__eq__" v) (fun r s' => ∃ z, r = some z ∧ EP X pins σ Q z s') X.xe s := by
    unfold tryCompare
    refine wpAny_bind (PySem.W.ifBound_K I.kIn J o.at_ o.isFn (wpAny_mono (run_at (vs := [.ref b, x]) I.env0 hr I F hb (.cons rfl (.cons rx .nil)) hx h) (fun u' s' hq => ?_) fun _ _ z => z))
    obtain ⟨v', H', I', rv, c, rfl, q⟩ := hq
    cases rv
    exact wpAny_pure ⟨_, rfl, .bl c, H', I', rfl, q⟩
  have nt : (Value.type T != Value.ref C) = true := by simp
  rw [if_pos nt]
  refine wpAny_bind ((PySem.W.looks_subIn I.kIn ns).here ?_)
  simp only [Bool.false_eq_true, if_false]
  refine wpAny_bind (m := tryCompare v _ (.ref b)) (d.try_ I rx eb nm ?_)
  simp only [Bool.not_false, if_true]
  refine wpAny_bind (m := tryCompare (.ref b) _ v) (wpAny_mono fin (fun r s' z => ?_) fun _ _ e => e)
  obtain ⟨z, rfl, hq⟩ := z
  exact wpAny_pure hq
end
end L2.Cal
end

section
set_option maxRecDepth 100000
set_option maxHeartbeats 4000000
namespace L2.Cal
open PySem PySem.Spec PyProof.Rows L2
section
variable {X : Cx} {CX : CXT} {k : Nat} {C f : Addr} {fd : FuncData} {ps : List Str} {sp : Sp} {E : XK} {pins : List (Addr × Obj)} {σ : St} {H : Hp} {s : Shared}
/-- truth of an object that has a length -/
theorem truth_len {A : Around} {E' : Value → Shared → Prop} {Q : Bool → Hp → Prop} {a dx : Addr} {fs : List (Str × V)} (e0 : Env0 X.prog X.w X.K X.mg X.base A.in1 X.stack s H) (hr : Room k A.in1) (I : Inv X pins σ H s) (ea : H a = some (.ins C dx fs)) (o : Own X.K C "__len__" f) (nb : PySem.W.findIn X.K (.ref C) "__bool__" = some none)
    (F : FnOk X.prog X.w X.K X.mg X.base CX k f fd ps sp) (hb : Binds X.K fd ps []) (hx : Passes CX X.nox E) (h : sp [.ref a] H (fun v H' => ∃ n : Nat, v = .int n ∧ n < 2 ^ 62 ∧ Q (decide (n ≠ 0)) H') E) :
    wpAny (model X.prog X.w) A (truthy (.ref a)) (fun b s' => ∃ H', Inv X pins σ H' s' ∧ Q b H') E' s := by
  obtain ⟨ox, od, J⟩ := ins_at I ea
  unfold truthy
  refine wpAny_bind (m := callSpecial? (.ref a) (Str.ofString "__bool__")) (wpAny_bind (wpAny_bind (J.type.here ((PySem.W.looks_findIn I.kIn nb).here (wpAny_pure ?_)))))
  refine wpAny_bind (wpAny_bind (J.type.here ((PySem.W.looks_findIn I.kIn o.at_).here ?_)))
  rw [if_neg (by simp)]
  refine wpAny_bind (wpAny_runValue (codeAny_builtin entry_len ?_))
  rw [Around.under_plainId plain_len _]
  unfold Builtin.«len»
  refine wpAny_bind (m := oneArg "len" _) (wpAny_pure (wpAny_bind (m := callSpecial? (.ref a) (Str.ofString "__len__")) (PySem.W.special_fn I.kIn J o.at_ o.fn (wpAny_mono (run_at (vs := [.ref a]) e0 hr I F hb (.cons rfl .nil) hx h) (fun u s' hq => ?_) fun _ _ z => z))))
  obtain ⟨v, H', I', rv, n, rfl, lt, q⟩ := hq
  obtain ⟨t, rfl⟩ := rv
  refine wpAny_bind (wpAny_holding (wpAny_pure (wpAny_bind (wpAny_letGo ?_))))
  show wpAny _ _ (if ((n : Int) < 0) then _ else _) _ _ _
  rw [if_neg (by omega)]
  show wpAny _ _ (if ((n : Int) ≥ 2 ^ 63) then _ else _) _ _ _
  rw [if_neg (by omega)]
  refine wpAny_bind (wpAny_mkInt (wpAny_pure ?_))
  show wpAny _ _ (pure ((n : Int) != 0)) _ _ _
  have e : ((n : Int) != 0) = decide (n ≠ 0) := by
    by_cases c : n = 0
    · subst c; rfl
    · rw [decide_eq_true c]
      exact bne_iff_ne.mpr (by omega)
  rw [e]
  exact wpAny_pure ⟨H', I'.tok _, q⟩
/-- bool(o) -/
def rBoolO (C : Addr) (sp : Sp) (E : XK) : List V → Hp → VK → Prop := fun xs H Q => ∃ (a dx : Addr) (fs : List (Str × V)), xs = [.ref a] ∧ H a = some (.ins C dx fs) ∧ sp [.ref a] H (fun v H' => ∃ n : Nat, v = .int n ∧ n < 2 ^ 62 ∧ Q (.bl (decide (n ≠ 0))) H') E
theorem call_boolO (o : Own X.K C "__len__" f) (nb : PySem.W.findIn X.K (.ref C) "__bool__" = some none) (F : FnOk X.prog X.w X.K X.mg X.base CX k f fd ps sp) (hr : Room (k + 3) X.A) (hb : Binds X.K fd ps []) (hx : Passes CX X.nox E) : CallR X (.type "bool") (rBoolO C sp E) := by
  intro pins s σ H xs us Q I r h
  obtain ⟨a, dx, fs, rfl, ea, h⟩ := h
  rw [Vals.ref1 r]
  have tr : ∀ E', wpAny (model X.prog X.w) X.A.in1.in1 (truthy (.ref a)) (fun b s' => ∃ H', Inv X pins σ H' s' ∧ Q (.bl b) H') E' s := fun E' => truth_len (Q := fun b H' => Q (.bl b) H') I.env0.in1.in1.in1 hr.in1.in1.in1 I ea o nb F hb hx h
  refine callType_codes (T := "bool") (Bi := Builtin.«object.__init__») (Q₁ := fun r s₁ => ∃ (b : Bool) (H' : Hp), r = .bool b ∧ Inv X pins σ H' s₁ ∧ Q (.bl b) H') PySem.F.called_bool (PySem.F.typeCall_bool_1 _) PySem.F.entry_object_init ?_ ?_
  · refine codeAny_of_tree ?_
    show wpAny _ X.A.in1.in1 (do checkBuiltinCall "bool.__new__" ⟨[.type "bool", .ref a], []⟩; again (.builtin "bool.__new__" ⟨[.type "bool", .ref a], []⟩)) _ _ s
    refine wpAny_bind (wpAny_of_eq (PySem.F.newCall_bool_1 _) (wpAny_pure ⟨plainId_quiet (by decide +kernel) _, codeAny_builtin PySem.F.entry_bool_new ?_⟩))
    rw [Around.under_plainId (by decide +kernel) _]
    unfold Builtin.«bool.__new__»
    have below := PySem.F.conv_sub_bool
    generalize hT : truthy = T
    repeat (first | assumption | wp_step)
    subst hT
    refine wpAny_mono (tr _) (fun b s' hq => ?_) fun _ _ z => z
    obtain ⟨H', I', q⟩ := hq
    exact wpAny_pure ⟨b, H', rfl, I', q⟩
  · rintro obj s₁ ⟨b, H', rfl, I', q⟩
    exact ⟨rfl, PySem.F.args_object_init_2 _ _, object_init_meets PySem.F.called_bool.init.lookup PySem.F.called_bool.made (by decide) X.prog X.w X.A.in1 _ s₁ ⟨rfl, rfl, ⟨.bl b, H', I', rfl, q⟩⟩⟩
end
end L2.Cal
end

section
set_option maxRecDepth 100000
set_option maxHeartbeats 4000000
namespace L2.Cal
open PySem PySem.Spec PyProof.Rows L2
def clsBody (s : Stmt) : List Stmt := match s with
  | .ClassDef _ _ _ b _ _ _ _ _ _ _ => b
  | _ => []
def methS (j : Nat) : Stmt := (clsBody (topS 24)).getD j (.Pass ⟨0, 0, 0, 0⟩)
abbrev sIni : Stmt := methS 0
theorem scIni : FnScope ["self", "orders", "right"] ["self", "orders"] (defScope sIni) := ⟨rfl, rfl, rfl, by decide +kernel, rfl, by decide +kernel, by decide +kernel⟩
abbrev sOrd : Stmt := methS 2
theorem scOrd : FnScope ["self"] ["self"] (defScope sOrd) := ⟨rfl, rfl, rfl, by decide +kernel, rfl, by decide +kernel, by decide +kernel⟩
abbrev sThi : Stmt := methS 3
theorem scThi : FnScope ["self"] ["self"] (defScope sThi) := ⟨rfl, rfl, rfl, by decide +kernel, rfl, by decide +kernel, by decide +kernel⟩
abbrev sLen : Stmt := methS 4
theorem scLen : FnScope ["self"] ["self"] (defScope sLen) := ⟨rfl, rfl, rfl, by decide +kernel, rfl, by decide +kernel, by decide +kernel⟩
abbrev sStr : Stmt := methS 5
theorem scStr : FnScope ["self"] ["self"] (defScope sStr) := ⟨rfl, rfl, rfl, by decide +kernel, rfl, by decide +kernel, by decide +kernel⟩
abbrev sCon : Stmt := methS 6
theorem scCon : FnScope ["self", "x"] ["self", "x"] (defScope sCon) := ⟨rfl, rfl, rfl, by decide +kernel, rfl, by decide +kernel, by decide +kernel⟩
abbrev sEqu : Stmt := methS 7
theorem scEqu : FnScope ["self", "other"] ["self", "other"] (defScope sEqu) := ⟨rfl, rfl, rfl, by decide +kernel, rfl, by decide +kernel, by decide +kernel⟩
/-- what the class is asked for -/
structure RollC (K : PySem.W.Frag) (mg : Str → Option Value) (C : Addr) : Prop where
  g : mg "Roll" = some (.ref C)
  cls : Cls K C
  no1 : NoAttr K C "_orders"
  no2 : NoAttr K C "_things"
  dcl : PySem.W.findIn K (.ref C) "__class__" = some (some (.builtin "object.__class__"))
  dget : PySem.W.specialIn K (.builtin "object.__class__") "__get__" = some (some (.builtin "getset_descriptor.__get__"))
  dtk : PySem.W.takesIn K (.builtin "object.__class__") = some true
  mobj : PySem.W.mroIn K C (.type "object") = some true
def RollAt (C : Addr) (H : Hp) (a t : Addr) (z : Str) : Prop := ∃ dx fs, H a = some (.ins C dx fs) ∧ fs.lookup ("_orders" : Str) = some (.ref t) ∧ fs.lookup ("_things" : Str) = some (.str z)
theorem RollAt.same {C : Addr} {H H' : Hp} {a t : Addr} {z : Str} (r : RollAt C H a t z) (s : Same H H') : RollAt C H' a t z := by
  obtain ⟨dx, fs, h, r⟩ := r
  exact ⟨dx, fs, s _ _ h, r⟩
/-- a lot that a roll takes -/
structure Good (ys : List Str) (y : Str) : Prop where
  lot : Lot ys y
  let_ : Lett y
  h3 : 3 ≤ y.cps.size
  h6 : y.cps.size ≤ 6
  few : ys.length ≤ 48
theorem seqT_off {K : PySem.W.Frag} {a t C dx : Addr} {fs : List (Str × V)} {H H' : Hp} {xs : List V} (h : SqT K H t xs) (ha : H a = some (.ins C dx fs)) (k : ∀ b o, b ≠ a → H b = some o → H' b = some o) : SqT K H' t xs := by
  rcases h with (z | ⟨o, z⟩) | z
  · exact .inl (.inl (k _ _ (fun e => by rw [e, ha] at z; cases z) z))
  · exact .inl (.inr ⟨o, k _ _ (fun e => by rw [e, ha] at z; cases z) z⟩)
  · exact .inr z
def spIni (K : PySem.W.Frag) (C : Addr) : Sp := fun vs H Q _ => ∃ (a t dx : Addr) (ys : List Str) (y : Str), vs = [.ref a, .ref t] ∧ H a = some (.ins C dx []) ∧ SqT K H t (ys.map V.str) ∧ TyX K H (.ref t) (.type "tuple") ∧ Good ys y ∧
  ∀ H' : Hp, (∀ b o, b ≠ a → H b = some o → H' b = some o) → RollAt C H' a t (tidy y) → Q .non H'
def spOrd (C : Addr) : Sp := fun vs H Q _ => ∃ (a t : Addr) (z : Str), vs = [.ref a] ∧ RollAt C H a t z ∧ Q (.ref t) H
def spThi (C : Addr) : Sp := fun vs H Q _ => ∃ (a t : Addr) (z : Str), vs = [.ref a] ∧ RollAt C H a t z ∧ Q (.str z) H
def spLen (K : PySem.W.Frag) (C : Addr) : Sp := fun vs H Q _ => ∃ (a t : Addr) (z : Str) (xs : List V), vs = [.ref a] ∧ RollAt C H a t z ∧ SqT K H t xs ∧ Q (.int xs.length) H
def spStr (K : PySem.W.Frag) (C : Addr) : Sp := fun vs H Q _ => ∃ (a t : Addr) (z : Str) (ys : List Str), vs = [.ref a] ∧ RollAt C H a t z ∧ SqT K H t (ys.map V.str) ∧ (ys.map (·.length)).sum + ys.length ≤ 10000 ∧ Q (.str (Txt.join (PySem.Str.ofString "\n") ys)) H
section
variable {P : Program} {w : World} {K : PySem.W.Frag} {mg : Str → Option Value} {base : Heap} {C : Addr}
theorem ok_ini {f fR fT : Addr} {fd fdR fdT fdI : FuncData} (F : Fun K "__init__" "Roll.__init__" sIni f fd) (DR : DefAt K mg "right_ahead" sRah ["orders"] fR fdR) {fI : Addr} (DI : DefAt K mg "is_order" sIsO ["value"] fI fdI) (DT : DefAt K mg "things_of" sThO ["order"] fT fdT) (T : Txt mg) (Lm : Lims mg) (R : RollC K mg C) :
    FnOk P w K mg base CX0 3 f fd ["self", "orders"] (spIni K C) := by
  have GT : FnOk P w K mg base CX0 1 fT fdT ["order"] spThO := ok_tho DT T
  have GR : FnOk P w K mg base CX0 2 fR fdR ["orders"] (spRah K) := ok_rah DR DI DT T Lm
  refine F.ok scIni (fun vs H Q E h => ?_) (fun cdv A outer sh H vs Q E hr h => ?_)
  · obtain ⟨a, t, dx, ys, y, rfl, _⟩ := h
    rfl
  · obtain ⟨a, t, dx, ys, y, rfl, ha, hT, ty, G, q⟩ := h
    refine ⟨_, (pss_cons (ps_if (PW.pt (pw_or (pt_not (pt_val (pe_callB call_isi (by rfl) T.b_isinstance (by decide +kernel) (pa_cons (pv 1) (pa_cons (pe_bty (n := "tuple") (by rfl) T.b_tuple (by decide +kernel)) pa_nil))))) (pw_or1 (pt_cmpR op_eq (pe_callB call_len_seq (by rfl) T.b_len (by decide +kernel) (pa_cons (pv 1) pa_nil)) pe_int (nomark _)))))
   (pss_one ps_never)
   pss_nil)
  (pss_cons (ps_set (i := 2) scIni.nd rfl (.inl rfl) (pe_call GR (hr.mono (by decide)) (by rfl) DR.g DR.F.kp DR.b .nil pass0 (pa_cons (pv 1) pa_nil)))
  (pss_cons (ps_if (pt_cmpR op_lt (pv 2) (pe_callB call_len_seq (by rfl) T.b_len (by decide +kernel) (pa_cons (pv 1) pa_nil)) (nomark _))
   (pss_one ps_never)
   pss_nil)
  (pss_cons (ps_fld (pv 0) (pv 1) rfl)
  (pss_one (ps_fld (pv 0) (pe_call GT (hr.mono (by decide)) (by rfl) DT.g DT.F.kp DT.b .nil pass0 (pa_cons (pe_ix ix_tup (pv 1) pe_int (fun _ _ => rfl)) pa_nil)) rfl)))))), ?_⟩
    have h0 : 0 < ys.length := G.lot.some
    refine ⟨_, rfl, .ref t, .ty "tuple", .type "tuple", .type "tuple", true, rfl, .ty _, ty, rfl, true, rfl, iteF ?_⟩
    refine ⟨_, rfl, t, _, rfl, .inr hT, rfl, _, rfl, ite2 (fun e => ?_) (fun e => ?_)⟩
    · have := V.int.inj (of_decide_eq_true e)
      rw [List.length_map] at this
      omega
    refine ⟨_, rfl, t, ys, y, rfl, hT, G.lot, G.let_, G.h3, G.h6, G.few, fun H1 s1 => ?_⟩
    refine ⟨_, rfl, _, rfl, t, _, rfl, .inr (same_seqT hT s1), _, _, rfl, rfl, _, rfl, ite2 (fun e => ?_) (fun e => ?_)⟩
    · have := of_decide_eq_true e
      rw [List.length_map] at this
      omega
    refine ⟨_, rfl, _, rfl, a, C, dx, [], rfl, s1 _ _ ha, R.cls, R.no1, by decide, ?_⟩
    have off : ∀ b o, b ≠ a → H1 b = some o → (upd H1 a (.ins C dx (putF "_orders" (.ref t) []))) b = some o := fun b o n e => by rw [upd_ne n]; exact e
    have hT2 := seqT_off (same_seqT hT s1) (s1 _ _ ha) off
    have at0 : atI (ys.map V.str) 0 = some (.str ys[0]) := atI_nat (j := 0) (by rw [List.getElem?_map, List.getElem?_eq_getElem h0] <;> rfl)
    obtain ⟨sz0, _⟩ := G.lot.fine G.let_ G.h3 G.h6 (List.getElem_mem h0)
    refine ⟨_, rfl, t, _, 0, _, rfl, rfl, hT2, at0, ys[0], rfl, (by have := G.h6; omega), fun H2 s2 => ⟨_, rfl, a, C, dx, _, rfl, s2 _ _ upd_same, R.cls, R.no2, Nat.lt_of_le_of_lt (length_putF _ _ _) (by decide), ?_⟩⟩
    rw [tidy_same (G.lot.of _ (List.getElem_mem h0))]
    refine q _ (fun b o n e => ?_) ⟨dx, _, upd_same, ?_, ?_⟩
    · rw [upd_ne n]
      exact s2 _ _ (off b o n (s1 _ _ e))
    · rw [lookup_putF, if_neg (by decide), lookup_putF, if_pos rfl]
    · rw [lookup_putF, if_pos rfl]
theorem ok_ord {f : Addr} {fd : FuncData} (F : Fun K "orders" "Roll.orders" sOrd f fd) (R : RollC K mg C) : FnOk P w K mg base CX0 1 f fd ["self"] (spOrd C) := by
  refine F.ok scOrd (fun vs H Q E h => ?_) (fun cdv A outer sh H vs Q E hr h => ?_)
  · obtain ⟨a, t, z, rfl, _⟩ := h
    rfl
  · obtain ⟨a, t, z, rfl, ⟨dx, fs, ha, l1, l2⟩, q⟩ := h
    exact ⟨_, (pss_one (ps_ret (pe_fld (pv 0) rfl))), _, rfl, a, C, dx, fs, _, rfl, ha, R.cls, R.no1, l1, q⟩
theorem ok_thi {f : Addr} {fd : FuncData} (F : Fun K "things" "Roll.things" sThi f fd) (R : RollC K mg C) : FnOk P w K mg base CX0 1 f fd ["self"] (spThi C) := by
  refine F.ok scThi (fun vs H Q E h => ?_) (fun cdv A outer sh H vs Q E hr h => ?_)
  · obtain ⟨a, t, z, rfl, _⟩ := h
    rfl
  · obtain ⟨a, t, z, rfl, ⟨dx, fs, ha, l1, l2⟩, q⟩ := h
    exact ⟨_, (pss_one (ps_ret (pe_fld (pv 0) rfl))), _, rfl, a, C, dx, fs, _, rfl, ha, R.cls, R.no2, l2, q⟩
theorem ok_len {f : Addr} {fd : FuncData} (F : Fun K "__len__" "Roll.__len__" sLen f fd) (T : Txt mg) (R : RollC K mg C) : FnOk P w K mg base CX0 1 f fd ["self"] (spLen K C) := by
  refine F.ok scLen (fun vs H Q E h => ?_) (fun cdv A outer sh H vs Q E hr h => ?_)
  · obtain ⟨a, t, z, xs, rfl, _⟩ := h
    rfl
  · obtain ⟨a, t, z, xs, rfl, ⟨dx, fs, ha, l1, l2⟩, hT, q⟩ := h
    exact ⟨_, (pss_one (ps_ret (pe_callB call_len_seq (by rfl) T.b_len (by decide +kernel) (pa_cons (pe_fld (pv 0) rfl) pa_nil)))), _, rfl, a, C, dx, fs, _, rfl, ha, R.cls, R.no1, l1, t, _, rfl, .inr hT, q⟩
theorem ok_str {f : Addr} {fd : FuncData} (F : Fun K "__str__" "Roll.__str__" sStr f fd) (T : Txt mg) (R : RollC K mg C) : FnOk P w K mg base CX0 1 f fd ["self"] (spStr K C) := by
  refine F.ok scStr (fun vs H Q E h => ?_) (fun cdv A outer sh H vs Q E hr h => ?_)
  · obtain ⟨a, t, z, ys, rfl, _⟩ := h
    rfl
  · obtain ⟨a, t, z, ys, rfl, ⟨dx, fs, ha, l1, l2⟩, hT, hl, q⟩ := h
    refine ⟨_, (pss_one (ps_ret (pe_join pe_str (pe_fld (pv 0) rfl)))), ⟨_, rfl⟩, _, rfl, a, C, dx, fs, _, rfl, ha, R.cls, R.no1, l1, _, t, ys, rfl, rfl, .inr hT, ?_, q⟩
    rw [show (PySem.Str.ofString "\n").length = 1 by decide +kernel]
    omega
/-- x is a text of ys -/
def inB : V → List Str → Bool
  | .str y, ys => decide (y ∈ ys)
  | _, _ => false
/-- x in o: only texts are in it -/
def spCon (K : PySem.W.Frag) (C : Addr) : Sp := fun vs H Q _ => ∃ (a t : Addr) (z : Str) (ys : List Str) (x : V) (T : Value) (b : Bool), vs = [.ref a, x] ∧ RollAt C H a t z ∧ SqT K H t (ys.map V.str) ∧ TyX K H x T ∧ PySem.W.kitOne K T (.type "str") = some b ∧ (b = true → ∃ y, x = .str y) ∧
  Q (.bl (b && inB x ys)) H
theorem ok_con {f : Addr} {fd : FuncData} (F : Fun K "__contains__" "Roll.__contains__" sCon f fd) (T : Txt mg) (R : RollC K mg C) : FnOk P w K mg base CX0 1 f fd ["self", "x"] (spCon K C) := by
  refine F.ok scCon (fun vs H Q E h => ?_) (fun cdv A outer sh H vs Q E hr h => ?_)
  · obtain ⟨a, t, z, ys, x, T, b, rfl, _⟩ := h
    rfl
  · obtain ⟨a, t, z, ys, x, Ty, b, rfl, ⟨dx, fs, ha, l1, l2⟩, hT, ty, kit, bt, q⟩ := h
    refine ⟨_, (pss_one (ps_ret (pe_and (pe_callB call_isi (by rfl) T.b_isinstance (by decide +kernel) (pa_cons (pv 1) (pa_cons (pe_bty (n := "str") (by rfl) T.b_str (by decide +kernel)) pa_nil))) (pe_one (pe_cmpR op_in_seq (pv 1) (pe_fld (pv 0) rfl) (by rfl)))))), ?_⟩
    refine ⟨_, rfl, x, .ty "str", Ty, .type "str", b, rfl, .ty _, ty, kit, b, rfl, ?_⟩
    cases b with
    | false => exact iteF q
    | true =>
      obtain ⟨y, rfl⟩ := bt rfl
      refine iteT ⟨_, rfl, _, rfl, a, C, dx, fs, _, rfl, ha, R.cls, R.no1, l1, t, _, rfl, .inr hT, rfl, by simp [List.all_eq_true, flatV], ?_⟩
      have e : inV (.str y) (ys.map V.str) = inB (.str y) ys := by
        unfold inV inB
        rw [Bool.eq_iff_iff, decide_eq_true_eq, List.any_eq_true]
        constructor
        · rintro ⟨v, hv, e⟩
          obtain ⟨y', hy, rfl⟩ := List.mem_map.mp hv
          have : y' = y := by simpa [eqV] using e
          exact this ▸ hy
        · intro hy
          exact ⟨.str y, List.mem_map.mpr ⟨y, hy, rfl⟩, by simp [eqV]⟩
      rw [Bool.true_and, ← e] at q
      exact q
theorem dp_strs {H0 : Hp} : ∀ ys : List Str, DpAll K H0 (ys.map V.str) (ys.map PyData.str)
  | [] => .nil
  | y :: ys => .cons (.str y) (dp_strs ys)
theorem shaped_strs (ys : List Str) (ok : ∀ y, y ∈ ys → PyData.strOk y = true) : SeqAt.shaped (.tuple (ys.map PyData.str)) = true := by
  have lay : ∀ ys : List Str, (∀ y, y ∈ ys → PyData.strOk y = true) → PyData.canLayAll0 (ys.map PyData.str) = true := fun ys => by
    induction ys with
    | nil => intro _; simp [PyData.canLayAll0]
    | cons y ys ih =>
      intro ok
      have h1 := ok y (List.mem_cons_self ..)
      simp [PyData.canLayAll0, PyData.canLay0, h1, ih fun z hz => ok z (List.mem_cons_of_mem _ hz)]
  have deep : ∀ ys : List Str, PyData.depthAll (ys.map PyData.str) = 0 := fun ys => by
    induction ys with
    | nil => simp [PyData.depthAll]
    | cons y ys ih => simp [PyData.depthAll, PyData.depth, ih]
  simp [SeqAt.shaped, PyData.canLay0, lay ys ok, PyData.depth, deep]
theorem eqv_strs (ys zs : List Str) : PyData.eqv (.tuple (ys.map PyData.str)) (.tuple (zs.map PyData.str)) = decide (ys = zs) := by
  have all : ∀ ys zs : List Str, PyData.eqvAll (ys.map PyData.str) (zs.map PyData.str) = decide (ys = zs) := fun ys => by
    induction ys with
    | nil => intro zs; cases zs <;> simp [PyData.eqvAll]
    | cons y ys ih =>
      intro zs
      cases zs with
      | nil => simp [PyData.eqvAll]
      | cons z zs =>
        simp only [List.map_cons, PyData.eqvAll, ih]
        simp [PyData.eqv, show (y == z) = decide (y = z) by rw [Bool.eq_iff_iff]; simp]
  simp [PyData.eqv, all]
/-- o == x -/
def spEqu (K : PySem.W.Frag) (C : Addr) : Sp := fun vs H Q _ => ∃ (a t : Addr) (z : Str) (x : V), vs = [.ref a, x] ∧ RollAt C H a t z ∧
  ((∃ (b t2 : Addr) (z2 : Str) (ys zs : List Str), x = .ref b ∧ RollAt C H b t2 z2 ∧ SqT K H t (ys.map V.str) ∧ SqT K H t2 (zs.map V.str) ∧ (∀ y, y ∈ ys → PyData.strOk y = true) ∧ (∀ y, y ∈ zs → PyData.strOk y = true) ∧ Q (.bl (decide (ys = zs))) H) ∨ (∃ T : Value, TyX K H x T ∧ PySem.W.kitOne K T (.ref C) = some false ∧ Q (.bl false) H))
theorem ok_equ {f : Addr} {fd : FuncData} (F : Fun K "__eq__" "Roll.__eq__" sEqu f fd) (T : Txt mg) (R : RollC K mg C) : FnOk P w K mg base CX0 1 f fd ["self", "other"] (spEqu K C) := by
  refine F.ok scEqu (fun vs H Q E h => ?_) (fun cdv A outer sh H vs Q E hr h => ?_)
  · obtain ⟨a, t, z, x, rfl, _⟩ := h
    rfl
  · obtain ⟨a, t, z, x, rfl, ⟨dx, fs, ha, l1, l2⟩, h⟩ := h
    have hu := hr.units
    refine ⟨_, (pss_one (ps_ret (pe_and (pe_callB call_isi (by rfl) T.b_isinstance (by decide +kernel) (pa_cons (pv 1) (pa_cons (pe_cls (by rfl) R.g) pa_nil))) (pe_one (pe_cmpR (op_eqD hu) (pe_fld (pv 0) rfl) (pe_fld (pv 1) rfl) (nomark _)))))), ?_⟩
    rcases h with ⟨b, t2, z2, ys, zs, rfl, ⟨dx2, fs2, hb, m1, m2⟩, hT, hT2, o1, o2, q⟩ | ⟨Ty, ty, kit, q⟩
    · have ty : TyX K H (.ref b) (.ref C) := .base (.ins hb R.cls R.dcl R.dget R.dtk R.mobj)
      have kit : PySem.W.kitOne K (.ref C) (.ref C) = some true := by unfold PySem.W.kitOne; rw [if_pos (by simp)]
      refine ⟨_, rfl, .ref b, .ref C, .ref C, .ref C, true, rfl, .own C, ty, kit, true, rfl, iteT ?_⟩
      refine ⟨_, rfl, a, C, dx, fs, _, rfl, ha, R.cls, R.no1, l1, _, rfl, b, C, dx2, fs2, _, rfl, hb, R.cls, R.no1, m1, _, _, .tup hT (dp_strs ys), .tup hT2 (dp_strs zs), shaped_strs _ o1, shaped_strs _ o2, ?_⟩
      rw [eqv_strs]
      exact q
    · exact ⟨_, rfl, x, .ref C, Ty, .ref C, false, rfl, .own C, ty, kit, false, rfl, iteF q⟩
end
end L2.Cal
end

section
set_option maxRecDepth 100000
set_option maxHeartbeats 4000000
namespace L2.Cal
open PySem PySem.Spec PyProof.Rows L2
/-- as spDip, of great numbers, too -/
def spDipB : Sp := fun vs H Q _ => ∃ (j : Addr) (w d s c : Int), vs = [.ref j, .int w] ∧ H j = some (.lst [.int d, .int s, .int c]) ∧ 0 ≤ d ∧ 0 ≤ s ∧ s < 2147483648 ∧ 0 ≤ c ∧ 0 < w ∧ w < 10 ^ 32 ∧
  ∀ r d' s' c' : Int, 0 ≤ r → r < w → 0 ≤ d' → 0 ≤ s' → s' < 2147483648 → 0 ≤ c' → Q (.int r) (upd H j (.lst [.int d', .int s', .int c']))
section
variable {P : Program} {w : World} {K : PySem.W.Frag} {mg : Str → Option Value} {base : Heap}
theorem ok_dipB {f : Addr} {fd : FuncData} (D : DefAt K mg "_law_dip" sDip ["_law_jar_here", "_law_wide"] f fd) (T : Txt mg) : FnOk P w K mg base CX0 1 f fd ["_law_jar_here", "_law_wide"] spDipB := by
  refine D.F.ok scDip (fun vs H Q E h => ?_) (fun cdv A outer sh H vs Q E hr h => ?_)
  · obtain ⟨j, w, d, s, c, rfl, _⟩ := h
    rfl
  · obtain ⟨j, w, d, s, c, rfl, hj, hd, hs, hs2, hc, hw, hw2, q⟩ := h
    refine ⟨_, (pss_cons (ps_asg (pe_op op_add (pe_ix ix_list (pv 0) pe_int (fun _ _ => rfl)) pe_int) (pg_sub (pv 0) pe_int L2.set_list))
  (pss_cons (ps_if (pt_cmpR op_gt (pe_ix ix_list (pv 0) pe_int (fun _ _ => rfl)) pe_int (nomark _))
   (pss_cons (ps_set (i := 2) scDip.nd rfl (.inl rfl) (pe_op op_mod (pe_callTy call_int1 (by rfl) T.b_int (by decide +kernel) (pa_cons (pe_ix ix_list (pv 0) pe_int (fun _ _ => rfl)) pa_nil)) (pv 1)))
  (pss_cons (ps_asg (pe_op op_fdivW (pe_callTy call_int1 (by rfl) T.b_int (by decide +kernel) (pa_cons (pe_ix ix_list (pv 0) pe_int (fun _ _ => rfl)) pa_nil)) (pv 1)) (pg_sub (pv 0) pe_int L2.set_list))
  (pss_one (ps_ret (pv 2)))))
   pss_nil)
  (pss_cons (ps_set (i := 3) scDip.nd rfl (.inl rfl) (pe_callTy call_int1 (by rfl) T.b_int (by decide +kernel) (pa_cons (pe_ix ix_list (pv 0) pe_int (fun _ _ => rfl)) pa_nil)))
  (pss_cons (ps_asg (pe_op op_mod (pe_callTy call_int1 (by rfl) T.b_int (by decide +kernel) (pa_cons (pe_op op_add (pe_op op_add (pe_op op_mul (pv 3) pe_int) (pe_op op_mul (pe_ix ix_list (pv 0) pe_int (fun _ _ => rfl)) pe_int)) pe_int) pa_nil)) pe_int) (pg_sub (pv 0) pe_int L2.set_list))
  (pss_one (ps_ret (pe_op op_mod (pe_callTy call_int1 (by rfl) T.b_int (by decide +kernel) (pa_cons (pe_op op_fdiv (pe_ix ix_list (pv 0) pe_int (fun _ _ => rfl)) pe_int) pa_nil)) (pv 1)))))))), ?_⟩
    have i0 : ∀ a b c : Int, atI [V.int a, V.int b, V.int c] 0 = some (.int a) := fun a b c => atI_nat (j := 0) rfl
    have i1 : ∀ a b c : Int, atI [V.int a, V.int b, V.int c] 1 = some (.int b) := fun a b c => atI_nat (j := 1) rfl
    have i2 : ∀ a b c : Int, atI [V.int a, V.int b, V.int c] 2 = some (.int c) := fun a b c => atI_nat (j := 2) rfl
    have hb : w.natAbs < 2 ^ 107 := by
      have e : (10 : Int) ^ 32 = 100000000000000000000000000000000 := by decide
      have e2 : (2 : Nat) ^ 107 = 162259276829213363391578010288128 := by decide
      rw [e2]
      omega
    refine ⟨_, rfl, j, _, _, _, rfl, rfl, SqL.of hj, i2 _ _ _, _, _, rfl, rfl, _, rfl, j, _, _, 2, rfl, rfl, hj, rfl, ?_⟩
    refine ⟨_, rfl, j, _, _, _, rfl, rfl, SqL.of upd_same, i0 _ _ _, _, _, rfl, rfl, _, rfl, ite2 (fun e => ?_) (fun e => ?_)⟩
    · have e0 : 0 < d := of_decide_eq_true e
      refine ⟨_, rfl, j, _, _, _, rfl, rfl, SqL.of upd_same, i0 _ _ _, .inl ⟨_, rfl, _, rfl, _, _, rfl, rfl, hw, ?_⟩⟩
      refine ⟨_, rfl, j, _, _, _, rfl, rfl, SqL.of upd_same, i0 _ _ _, .inl ⟨_, rfl, _, rfl, _, _, rfl, rfl, wide_div (b := 107) hw hb (by decide) (by decide), _, rfl, j, _, _, 0, rfl, rfl, upd_same, rfl, ?_⟩⟩
      refine ⟨_, rfl, ?_⟩
      rw [upd_upd]
      exact q _ _ _ _ (Int.emod_nonneg _ (by omega)) (Int.emod_lt_of_pos _ hw) (Int.ediv_nonneg (by omega) (by omega)) hs hs2 (by omega)
    · refine ⟨_, rfl, j, _, _, _, rfl, rfl, SqL.of upd_same, i1 _ _ _, .inl ⟨_, rfl, ?_⟩⟩
      refine ⟨_, rfl, _, _, rfl, rfl, .inr ⟨by decide, by decide⟩, _, rfl, j, _, _, _, rfl, rfl, SqL.of upd_same, i2 _ _ _, _, _, rfl, rfl, .inr ⟨by decide, by decide⟩, _, _, rfl, rfl, _, _, rfl, rfl, .inl ⟨_, rfl, _, _, rfl, rfl, (by show (0:Int) < 2147483399; decide), _, rfl, j, _, _, 1, rfl, rfl, upd_same, rfl, ?_⟩⟩
      refine ⟨_, rfl, j, _, _, _, rfl, rfl, SqL.of upd_same, i1 _ _ _, _, _, rfl, rfl, ⟨by decide, by decide⟩, .inl ⟨_, rfl, _, rfl, _, _, rfl, rfl, hw, ?_⟩⟩
      rw [upd_upd]
      exact q _ _ _ _ (Int.emod_nonneg _ (by omega)) (Int.emod_lt_of_pos _ hw) (by omega) (Int.emod_nonneg _ (by omega)) (by have := Int.emod_lt_of_pos (s * 40692 + (c + 1) * 52021 + 31) (b := 2147483399) (by decide); omega) (by omega)
end
end L2.Cal
end

section
set_option maxRecDepth 100000
set_option maxHeartbeats 4000000
/-! sum of a list or a tuple of integers -/
namespace L2.Cal
open PySem PySem.Spec PyProof.Rows L2
theorem ints_at : ∀ {ns : List Int} {us : List Value}, Vals (ns.map V.int) us → us.length = ns.length ∧ ∀ (i : Nat) v, us[i]? = some v → ∃ t, v = .int (ns.getD i 0) t
  | [], us, h => by
    cases h
    exact ⟨rfl, fun i v e => by simp at e⟩
  | n :: ns, us, h => by
    cases h with
    | @cons _ u _ us r rr =>
      obtain ⟨t, rfl⟩ := r
      obtain ⟨l, at_⟩ := ints_at rr
      refine ⟨by simp [l], fun i v e => ?_⟩
      cases i with
      | zero => exact ⟨t, by cases e; rfl⟩
      | succ i => exact at_ i v e
theorem preSum_take (ns : List Int) : ∀ n, n ≤ ns.length → preSum (fun i => ns.getD i 0) n = (ns.take n).sum := by
  intro n
  induction n with
  | zero => intro _; simp [preSum]
  | succ n ih =>
    intro h
    have hn : n < ns.length := by omega
    rw [List.take_succ, List.getElem?_eq_getElem hn, Option.toList_some, List.sum_append, ← ih (by omega)]
    simp [preSum, List.getElem?_eq_getElem hn]
section
variable {X : Cx}
def rSumI (K : PySem.W.Frag) : List V → Hp → VK → Prop := fun vs H Q => ∃ (a : Addr) (ns : List Int), vs = [.ref a] ∧ (SqL K H a (ns.map V.int) ∨ SqT K H a (ns.map V.int)) ∧ Q (.int ns.sum) H
theorem call_sumI (hc : X.calm = true) : CallR X (.builtin "sum") (rSumI X.K) := by
  intro pins s σ H vs us Q I r h
  obtain ⟨a, ns, rfl, hs, q⟩ := h
  cases r with
  | cons r rr =>
    cases rr
    cases r
    have hh : X.A.in1.handled = none := by simpa using I.ok.hd hc
    have fin : ∀ (its : List Value) (h' : Heap) (tk : Nat) (t' : Tok), Vals (ns.map V.int) its → (∀ b o, s.heap.get? b = some o → h'.get? b = some o) → EP X pins σ Q (.int (preSum (fun i => ns.getD i 0) its.length) t') { s with heap := h', toks := tk } := fun its h' tk t' rv k => by
      have l := (ints_at rv).1
      rw [l, preSum_take ns _ (Nat.le_refl _), List.take_length]
      exact ⟨.int ns.sum, H, I.kept k, ⟨t', rfl⟩, q⟩
    rcases hs with hs | hs
    · obtain ⟨its, rv, pl, _⟩ := I.list hs
      refine call_sum_walkG (wpAny_pyIter_list pl.isList ?_)
      have lt : a < s.heap.objs.size := by obtain ⟨o, n, e, _⟩ := pl; exact Heap.lt_size e
      refine ⟨s.heap.objs.size, [s.heap.objs.size, a], [s.heap.objs.size], its.toArray.size, _, _, fun i => ns.getD i 0, rfl, Walks.list hh _ a (Nat.ne_of_lt lt) its.toArray, ⟨⟨_, Heap.get?_push_size _ rfl, rfl, rfl⟩, pl.isList.push _⟩, fun b hb => ?_, fun i v e => ?_, fun h' tk t' k => ?_⟩
      · rw [Heap.size_push]
        rcases List.mem_cons.mp hb with rfl | hb
        · exact Nat.lt_succ_self _
        · cases List.mem_singleton.mp hb
          exact Nat.lt_succ_of_lt lt
      · exact (ints_at rv).2 i v (by simpa using e)
      · rw [List.size_toArray]
        refine fin its h' tk t' rv fun b o e => k b o (fun m => ?_) (Heap.get?_push_of_some _ e)
        exact Nat.ne_of_lt (Heap.lt_size e) (List.mem_singleton.mp m)
    · obtain ⟨its, rv, pl, _⟩ := I.tuple hs
      refine call_sum_walkG (wpAny_pyIter_tuple pl ?_)
      have lt : a < s.heap.objs.size := by obtain ⟨o, e, _⟩ := pl; exact Heap.lt_size e
      refine ⟨s.heap.objs.size, [s.heap.objs.size, a], [s.heap.objs.size], its.toArray.size, _, _, fun i => ns.getD i 0, rfl, Walks.tuple hh _ a (Nat.ne_of_lt lt) its.toArray, ⟨⟨_, Heap.get?_push_size _ rfl, rfl, rfl⟩, Heap.IsTuple.push pl _⟩, fun b hb => ?_, fun i v e => ?_, fun h' tk t' k => ?_⟩
      · rw [Heap.size_push]
        rcases List.mem_cons.mp hb with rfl | hb
        · exact Nat.lt_succ_self _
        · cases List.mem_singleton.mp hb
          exact Nat.lt_succ_of_lt lt
      · exact (ints_at rv).2 i v (by simpa using e)
      · rw [List.size_toArray]
        refine fin its h' tk t' rv fun b o e => k b o (fun m => ?_) (Heap.get?_push_of_some _ e)
        exact Nat.ne_of_lt (Heap.lt_size e) (List.mem_singleton.mp m)
end
end L2.Cal
end

section
set_option maxRecDepth 100000
set_option maxHeartbeats 4000000
set_option synthInstance.maxHeartbeats 400000
namespace L2.Cal
open PySem PySem.Spec PyProof.Rows L2
abbrev sChk : Stmt := topS 25
theorem scChk : FnScope ["roll"] ["roll"] (defScope sChk) := ⟨rfl, rfl, rfl, by decide +kernel, rfl, by decide +kernel, by decide +kernel⟩
abbrev sNum : Stmt := topS 39
theorem scNum : FnScope ["value"] ["value"] (defScope sNum) := ⟨rfl, rfl, rfl, by decide +kernel, rfl, by decide +kernel, by decide +kernel⟩
abbrev sRnu : Stmt := topS 40
theorem scRnu : FnScope ["numbers", "many", "index", "number"] ["numbers", "many"] (defScope sRnu) := ⟨rfl, rfl, rfl, by decide +kernel, rfl, by decide +kernel, by decide +kernel⟩
def crS (j : Nat) : Stmt := (clsBody (topS 44)).getD j (.Pass ⟨0, 0, 0, 0⟩)
abbrev sCIn : Stmt := crS 0
theorem scCIn : FnScope ["self", "roll", "numbers", "right"] ["self", "roll", "numbers"] (defScope sCIn) := ⟨rfl, rfl, rfl, by decide +kernel, rfl, by decide +kernel, by decide +kernel⟩
abbrev sCRo : Stmt := crS 1
theorem scCRo : FnScope ["self"] ["self"] (defScope sCRo) := ⟨rfl, rfl, rfl, by decide +kernel, rfl, by decide +kernel, by decide +kernel⟩
abbrev sCNu : Stmt := crS 2
theorem scCNu : FnScope ["self"] ["self"] (defScope sCNu) := ⟨rfl, rfl, rfl, by decide +kernel, rfl, by decide +kernel, by decide +kernel⟩
abbrev sCPe : Stmt := crS 3
theorem scCPe : FnScope ["self"] ["self"] (defScope sCPe) := ⟨rfl, rfl, rfl, by decide +kernel, rfl, by decide +kernel, by decide +kernel⟩
abbrev sCEq : Stmt := crS 4
theorem scCEq : FnScope ["self", "other"] ["self", "other"] (defScope sCEq) := ⟨rfl, rfl, rfl, by decide +kernel, rfl, by decide +kernel, by decide +kernel⟩
/-- what the class of crowds is asked for -/
structure CrC (K : PySem.W.Frag) (mg : Str → Option Value) (Cr : Addr) : Prop where
  g : mg "Crowd" = some (.ref Cr)
  cls : Cls K Cr
  no1 : NoAttr K Cr "_roll"
  no2 : NoAttr K Cr "_numbers"
  no3 : NoAttr K Cr "_people"
  dcl : PySem.W.findIn K (.ref Cr) "__class__" = some (some (.builtin "object.__class__"))
  dget : PySem.W.specialIn K (.builtin "object.__class__") "__get__" = some (some (.builtin "getset_descriptor.__get__"))
  dtk : PySem.W.takesIn K (.builtin "object.__class__") = some true
  mobj : PySem.W.mroIn K Cr (.type "object") = some true
def CrAt (Cr : Addr) (H : Hp) (c r n : Addr) (p : Int) : Prop := ∃ dx fs, H c = some (.ins Cr dx fs) ∧ fs.lookup ("_roll" : Str) = some (.ref r) ∧ fs.lookup ("_numbers" : Str) = some (.ref n) ∧ fs.lookup ("_people" : Str) = some (.int p)
/-- a crowd has no other fields -/
def NoF (Cr : Addr) (H : Hp) (c : Addr) : Prop := ∃ dx fs, H c = some (.ins Cr dx fs) ∧ ∀ m : Str, m ≠ "_roll" → m ≠ "_numbers" → m ≠ "_people" → fs.lookup m = none
theorem CrAt.same {Cr : Addr} {H H' : Hp} {c r n : Addr} {p : Int} (h : CrAt Cr H c r n p) (s : Same H H') : CrAt Cr H' c r n p := by
  obtain ⟨dx, fs, h, r⟩ := h
  exact ⟨dx, fs, s _ _ h, r⟩
def spChk (C : Addr) : Sp := fun vs H Q _ => ∃ (a t : Addr) (z : Str), vs = [.ref a] ∧ RollAt C H a t z ∧ Q .non H
def spNum : Sp := fun vs H Q _ => ∃ i : Int, vs = [.int i] ∧ Q (.bl true) H
def spRnu (K : PySem.W.Frag) : Sp := fun vs H Q _ => ∃ (n : Addr) (ns : List Int) (m : Int), vs = [.ref n, .int m] ∧ SqT K H n (ns.map V.int) ∧ (ns.length : Int) = m ∧ (∀ i, i ∈ ns → 0 ≤ i) ∧ ns.length ≤ 60 ∧ ∀ H', Same H H' → Q (.int ns.length) H'
def spCIn (K : PySem.W.Frag) (C Cr : Addr) : Sp := fun vs H Q _ => ∃ (a r n t dx : Addr) (z : Str) (ys : List Str) (ns : List Int), vs = [.ref a, .ref r, .ref n] ∧ H a = some (.ins Cr dx []) ∧ RollAt C H r t z ∧ r ≠ a ∧ SqT K H t (ys.map V.str) ∧ SqT K H n (ns.map V.int) ∧ TyX K H (.ref n) (.type "tuple") ∧
  ns.length = ys.length ∧ ys.length ≤ 60 ∧ (∀ i, i ∈ ns → 0 ≤ i) ∧ ns.sum ≠ 0 ∧ ∀ H' : Hp, (∀ b o, b ≠ a → H b = some o → H' b = some o) → CrAt Cr H' a r n ns.sum → NoF Cr H' a → Q .non H'
def spCRo (Cr : Addr) : Sp := fun vs H Q _ => ∃ (c r n : Addr) (p : Int), vs = [.ref c] ∧ CrAt Cr H c r n p ∧ Q (.ref r) H
def spCNu (Cr : Addr) : Sp := fun vs H Q _ => ∃ (c r n : Addr) (p : Int), vs = [.ref c] ∧ CrAt Cr H c r n p ∧ Q (.ref n) H
def spCPe (Cr : Addr) : Sp := fun vs H Q _ => ∃ (c r n : Addr) (p : Int), vs = [.ref c] ∧ CrAt Cr H c r n p ∧ Q (.int p) H
section
variable {P : Program} {w : World} {K : PySem.W.Frag} {mg : Str → Option Value} {base : Heap} {C Cr : Addr}
theorem ok_chk {f : Addr} {fd : FuncData} (D : DefAt K mg "check_roll" sChk ["roll"] f fd) (T : Txt mg) (R : RollC K mg C) : FnOk P w K mg base CX0 1 f fd ["roll"] (spChk C) := by
  refine D.F.ok scChk (fun vs H Q E h => ?_) (fun cdv A outer sh H vs Q E hr h => ?_)
  · obtain ⟨a, t, z, rfl, _⟩ := h
    rfl
  · obtain ⟨a, t, z, rfl, ⟨dx, fs, ha, l1, l2⟩, q⟩ := h
    have ty : TyX K H (.ref a) (.ref C) := .base (.ins ha R.cls R.dcl R.dget R.dtk R.mobj)
    have kit : PySem.W.kitOne K (.ref C) (.ref C) = some true := by unfold PySem.W.kitOne; rw [if_pos (by simp)]
    refine ⟨_, pss_one (ps_if (pt_not (pt_val (pe_callB call_isi (by rfl) T.b_isinstance (by decide +kernel) (pa_cons (pv 0) (pa_cons (pe_cls (by rfl) R.g) pa_nil))))) (pss_one ps_never) pss_nil), ?_⟩
    exact ⟨_, rfl, .ref a, .ref C, .ref C, .ref C, true, rfl, .own C, ty, kit, true, rfl, iteF q⟩
theorem ok_num {f : Addr} {fd : FuncData} (D : DefAt K mg "is_number" sNum ["value"] f fd) (T : Txt mg) : FnOk P w K mg base CX0 1 f fd ["value"] spNum := by
  refine D.F.ok scNum (fun vs H Q E h => ?_) (fun cdv A outer sh H vs Q E hr h => ?_)
  · obtain ⟨i, rfl, _⟩ := h
    rfl
  · obtain ⟨i, rfl, q⟩ := h
    refine ⟨_, pss_one (ps_ret (pe_and (pe_callB call_isi (by rfl) T.b_isinstance (by decide +kernel) (pa_cons (pv 0) (pa_cons (pe_bty (n := "int") (by rfl) T.b_int (by decide +kernel)) pa_nil))) (pe_one (pe_not (pe_callB call_isi (by rfl) T.b_isinstance (by decide +kernel) (pa_cons (pv 0) (pa_cons (pe_bty (n := "bool") (by rfl) T.b_bool (by decide +kernel)) pa_nil))))))), ?_⟩
    exact ⟨_, rfl, .int i, .ty "int", .type "int", .type "int", true, rfl, .ty _, .base (.int i), rfl, true, rfl, iteT ⟨_, rfl, .int i, .ty "bool", .type "int", .type "bool", false, rfl, .ty _, .base (.int i), rfl, false, rfl, q⟩⟩
theorem ok_rnu {f fN : Addr} {fd fdN : FuncData} (D : DefAt K mg "right_numbers" sRnu ["numbers", "many"] f fd) (DN : DefAt K mg "is_number" sNum ["value"] fN fdN) (T : Txt mg) : FnOk P w K mg base CX0 2 f fd ["numbers", "many"] (spRnu K) := by
  have GN : FnOk P w K mg base CX0 1 fN fdN ["value"] spNum := ok_num DN T
  refine D.F.ok scRnu (fun vs H Q E h => ?_) (fun cdv A outer sh H vs Q E hr h => ?_)
  · obtain ⟨n, ns, m, rfl, _⟩ := h
    rfl
  · obtain ⟨n, ns, m, rfl, hT, hm, pos, few, q⟩ := h
    refine ⟨_, (pss_cons (ps_for PassesOwn.never rfl (pi_enumT (by rfl) T.b_enumerate (pa_cons (pv 0) pa_nil)) (pg_tup rfl (pgs_cons (pg_name (i := 2) scRnu.nd rfl (.inl rfl)) (pgs_cons (pg_name (i := 3) scRnu.nd rfl (.inl rfl)) pgs_nil)))
        (pss_one (ps_if (PW.pt (pw_or (pt_cmpR op_eq (pv 2) (pv 1) (nomark _)) (pw_or (pt_not (pt_val (pe_call GN (hr.mono (by decide)) (by rfl) DN.g DN.F.kp DN.b .nil pass0 (pa_cons (pv 3) pa_nil)))) (pw_or1 (pt_cmpR op_lt (pv 3) pe_int (nomark _)))))) (pss_one (ps_ret (pv 2))) pss_nil)))
      (pss_one (ps_ret (pe_callB call_len_seq (by rfl) T.b_len (by decide +kernel) (pa_cons (pv 0) pa_nil))))), ?_⟩
    refine ⟨_, rfl, n, _, rfl, hT, for_it (walk_enumT (xs := ns.map V.int)) (fun i σ H' => ∃ v2 v3, σ = [some (.ref n), some (.int m), v2, v3] ∧ Same H H') ⟨none, none, rfl, fun _ _ z => z⟩ (fun i σ H' _ hP => ?_) (fun i x σ H1 H2 hi hP hY => ?_) (fun σ H' hP => ?_)⟩
    · obtain ⟨_, _, _, sm⟩ := hP
      exact same_seqT hT sm
    · obtain ⟨v1, v2, rfl, sm⟩ := hP
      obtain ⟨T', a, b, rfl, nT, rfl, e1, e2⟩ := hY
      cases e1
      rw [List.length_map] at hi
      have e2 : (ns.map V.int)[i]? = some b := e2
      rw [List.getElem?_map, List.getElem?_eq_getElem hi] at e2
      cases e2
      have sm1 : Same H (upd H1 T' (.tup [.int (i : Nat), .int ns[i]])) := fun b o e => by
        rw [upd_ne (ne_of_none (sm _ _ e) nT)]
        exact sm _ _ e
      have p0 := pos ns[i] (List.getElem_mem hi)
      refine ⟨T', _, rfl, SqT.of upd_same, rfl, _, _, rfl, _, _, rfl, rfl, ?_⟩
      refine ⟨_, rfl, _, rfl, rfl, _, rfl, ite2 (fun e => absurd (V.int.inj (of_decide_eq_true e)) (by omega)) (fun e => ⟨_, rfl, ns[i], rfl, true, rfl, iteF ⟨_, rfl, _, _, rfl, rfl, _, rfl, ite2 (fun e3 => absurd (of_decide_eq_true e3) (by omega)) (fun _ => ⟨_, _, rfl, sm1⟩)⟩⟩)⟩
    · obtain ⟨v1, v2, rfl, sm⟩ := hP
      exact ⟨_, rfl, n, _, rfl, .inr (same_seqT hT sm), by rw [List.length_map]; exact q _ sm⟩
end
end L2.Cal
end

section
set_option maxRecDepth 100000
set_option maxHeartbeats 4000000
set_option synthInstance.maxHeartbeats 400000
namespace L2.Cal
open PySem PySem.Spec PyProof.Rows L2
theorem dp_ints {K : PySem.W.Frag} {H0 : Hp} : ∀ ns : List Int, DpAll K H0 (ns.map V.int) (ns.map PyData.int)
  | [] => .nil
  | n :: ns => .cons (.int n) (dp_ints ns)
theorem shaped_ints (ns : List Int) : SeqAt.shaped (.tuple (ns.map PyData.int)) = true := by
  have lay : ∀ ns : List Int, PyData.canLayAll0 (ns.map PyData.int) = true := fun ns => by
    induction ns with
    | nil => simp [PyData.canLayAll0]
    | cons n ns ih => simp [PyData.canLayAll0, PyData.canLay0, ih]
  have deep : ∀ ns : List Int, PyData.depthAll (ns.map PyData.int) = 0 := fun ns => by
    induction ns with
    | nil => simp [PyData.depthAll]
    | cons n ns ih => simp [PyData.depthAll, PyData.depth, ih]
  simp [SeqAt.shaped, PyData.canLay0, lay ns, PyData.depth, deep]
theorem eqv_ints (ns ms : List Int) : PyData.eqv (.tuple (ns.map PyData.int)) (.tuple (ms.map PyData.int)) = decide (ns = ms) := by
  have all : ∀ ns ms : List Int, PyData.eqvAll (ns.map PyData.int) (ms.map PyData.int) = decide (ns = ms) := fun ns => by
    induction ns with
    | nil => intro ms; cases ms <;> simp [PyData.eqvAll]
    | cons n ns ih =>
      intro ms
      cases ms with
      | nil => simp [PyData.eqvAll]
      | cons m ms =>
        simp only [List.map_cons, PyData.eqvAll, ih]
        simp [PyData.eqv, show (n == m) = decide (n = m) by rw [Bool.eq_iff_iff]; simp]
  simp [PyData.eqv, all]
def spCEq (K : PySem.W.Frag) (C Cr : Addr) : Sp := fun vs H Q _ => ∃ (c r n : Addr) (p : Int) (x : V), vs = [.ref c, x] ∧ CrAt Cr H c r n p ∧
  ((∃ (c2 r2 n2 t t2 : Addr) (p2 : Int) (z z2 : Str) (ys zs : List Str) (ns ms : List Int), x = .ref c2 ∧ CrAt Cr H c2 r2 n2 p2 ∧ RollAt C H r t z ∧ RollAt C H r2 t2 z2 ∧ SqT K H t (ys.map V.str) ∧ SqT K H t2 (zs.map V.str) ∧ (∀ y, y ∈ ys → PyData.strOk y = true) ∧ (∀ y, y ∈ zs → PyData.strOk y = true) ∧
    SqT K H n (ns.map V.int) ∧ SqT K H n2 (ms.map V.int) ∧ Q (.bl (decide (ys = zs) && decide (ns = ms))) H) ∨ (∃ T : Value, TyX K H x T ∧ PySem.W.kitOne K T (.ref Cr) = some false ∧ Q (.bl false) H))
theorem roll_ty {K : PySem.W.Frag} {mg : Str → Option Value} {C : Addr} {H : Hp} {a t : Addr} {z : Str} (R : RollC K mg C) (h : RollAt C H a t z) : TyX K H (.ref a) (.ref C) := by
  obtain ⟨dx, fs, ha, _⟩ := h
  exact .base (.ins ha R.cls R.dcl R.dget R.dtk R.mobj)
theorem crowd_ty {K : PySem.W.Frag} {mg : Str → Option Value} {Cr : Addr} {H : Hp} {c r n : Addr} {p : Int} (R : CrC K mg Cr) (h : CrAt Cr H c r n p) : TyX K H (.ref c) (.ref Cr) := by
  obtain ⟨dx, fs, ha, _⟩ := h
  exact .base (.ins ha R.cls R.dcl R.dget R.dtk R.mobj)
theorem kit_self {K : PySem.W.Frag} {C : Addr} : PySem.W.kitOne K (.ref C) (.ref C) = some true := by unfold PySem.W.kitOne; rw [if_pos (by simp)]
section
variable {P : Program} {w : World} {K : PySem.W.Frag} {mg : Str → Option Value} {base : Heap} {C Cr : Addr}
theorem ok_cro {f : Addr} {fd : FuncData} (F : Fun K "roll" "Crowd.roll" sCRo f fd) (R : CrC K mg Cr) : FnOk P w K mg base CX0 1 f fd ["self"] (spCRo Cr) := by
  refine F.ok scCRo (fun vs H Q E h => ?_) (fun cdv A outer sh H vs Q E hr h => ?_)
  · obtain ⟨c, r, n, p, rfl, _⟩ := h
    rfl
  · obtain ⟨c, r, n, p, rfl, ⟨dx, fs, ha, l1, l2, l3⟩, q⟩ := h
    exact ⟨_, (pss_one (ps_ret (pe_fld (pv 0) rfl))), _, rfl, c, Cr, dx, fs, _, rfl, ha, R.cls, R.no1, l1, q⟩
theorem ok_cnu {f : Addr} {fd : FuncData} (F : Fun K "numbers" "Crowd.numbers" sCNu f fd) (R : CrC K mg Cr) : FnOk P w K mg base CX0 1 f fd ["self"] (spCNu Cr) := by
  refine F.ok scCNu (fun vs H Q E h => ?_) (fun cdv A outer sh H vs Q E hr h => ?_)
  · obtain ⟨c, r, n, p, rfl, _⟩ := h
    rfl
  · obtain ⟨c, r, n, p, rfl, ⟨dx, fs, ha, l1, l2, l3⟩, q⟩ := h
    exact ⟨_, (pss_one (ps_ret (pe_fld (pv 0) rfl))), _, rfl, c, Cr, dx, fs, _, rfl, ha, R.cls, R.no2, l2, q⟩
theorem ok_cpe {f : Addr} {fd : FuncData} (F : Fun K "people" "Crowd.people" sCPe f fd) (R : CrC K mg Cr) : FnOk P w K mg base CX0 1 f fd ["self"] (spCPe Cr) := by
  refine F.ok scCPe (fun vs H Q E h => ?_) (fun cdv A outer sh H vs Q E hr h => ?_)
  · obtain ⟨c, r, n, p, rfl, _⟩ := h
    rfl
  · obtain ⟨c, r, n, p, rfl, ⟨dx, fs, ha, l1, l2, l3⟩, q⟩ := h
    exact ⟨_, (pss_one (ps_ret (pe_fld (pv 0) rfl))), _, rfl, c, Cr, dx, fs, _, rfl, ha, R.cls, R.no3, l3, q⟩
theorem ok_ceq {f fE : Addr} {fd fdE : FuncData} (F : Fun K "__eq__" "Crowd.__eq__" sCEq f fd) (FE : Fun K "__eq__" "Roll.__eq__" sEqu fE fdE) (bE : Binds K fdE ["self", "other"] []) (OE : Own K C "__eq__" fE) (nf : PySem.W.notFirst K C (.ref C) = true) (T : Txt mg) (R : RollC K mg C) (RC : CrC K mg Cr) :
    FnOk P w K mg base CX0 2 f fd ["self", "other"] (spCEq K C Cr) := by
  have GE : FnOk P w K mg base CX0 1 fE fdE ["self", "other"] (spEqu K C) := ok_equ FE T R
  refine F.ok scCEq (fun vs H Q E h => ?_) (fun cdv A outer sh H vs Q E hr h => ?_)
  · obtain ⟨c, r, n, p, x, rfl, _⟩ := h
    rfl
  · obtain ⟨c, r, n, p, x, rfl, hc, h⟩ := h
    have hu := hr.units
    refine ⟨_, (pss_one (ps_ret (pe_and (pe_callB call_isi (by rfl) T.b_isinstance (by decide +kernel) (pa_cons (pv 1) (pa_cons (pe_cls (by rfl) RC.g) pa_nil))) (pe_and (pe_cmpR (op_eqO OE GE (hr.mono (by decide)) bE pass0) (pe_fld (pv 0) rfl) (pe_fld (pv 1) rfl) (nomark _)) (pe_one (pe_cmpR (op_eqD hu) (pe_fld (pv 0) rfl) (pe_fld (pv 1) rfl) (nomark _))))))), ?_⟩
    rcases h with ⟨c2, r2, n2, t, t2, p2, z, z2, ys, zs, ns, ms, rfl, hc2, hR, hR2, hT, hT2, o1, o2, hN, hN2, q⟩ | ⟨Ty, ty, kit, q⟩
    · have ty := crowd_ty RC hc2
      have tr := roll_ty R hR2
      obtain ⟨dx, fs, ha, l1, l2, l3⟩ := hc
      obtain ⟨dx2, fs2, hb, m1, m2, m3⟩ := hc2
      refine ⟨_, rfl, .ref c2, .ref Cr, .ref Cr, .ref Cr, true, rfl, .own Cr, ty, kit_self, true, rfl, iteT ?_⟩
      have hR' := hR
      obtain ⟨dr, fr, hr1, _⟩ := hR'
      refine ⟨_, rfl, c, Cr, dx, fs, _, rfl, ha, RC.cls, RC.no1, l1, _, rfl, c2, Cr, dx2, fs2, _, rfl, hb, RC.cls, RC.no1, m1, r, dr, fr, .ref C, rfl, hr1, tr, nf, ?_⟩
      refine ⟨r, t, z, .ref r2, rfl, hR, .inl ⟨r2, t2, z2, ys, zs, rfl, hR2, hT, hT2, o1, o2, decide (ys = zs), rfl, decide (ys = zs), rfl, ?_⟩⟩
      cases e : decide (ys = zs) with
      | false =>
        rw [e, Bool.false_and] at q
        exact iteF q
      | true =>
        rw [e, Bool.true_and] at q
        refine iteT ⟨_, rfl, c, Cr, dx, fs, _, rfl, ha, RC.cls, RC.no2, l2, _, rfl, c2, Cr, dx2, fs2, _, rfl, hb, RC.cls, RC.no2, m2, _, _, .tup hN (dp_ints ns), .tup hN2 (dp_ints ms), shaped_ints _, shaped_ints _, ?_⟩
        rw [eqv_ints]
        exact q
    · exact ⟨_, rfl, x, .ref Cr, Ty, .ref Cr, false, rfl, .own Cr, ty, kit, false, rfl, iteF q⟩
theorem ok_cin {f fK fN fM fL : Addr} {fd fdK fdN fdM fdL : FuncData} (F : Fun K "__init__" "Crowd.__init__" sCIn f fd) (DK : DefAt K mg "check_roll" sChk ["roll"] fK fdK) (DM : DefAt K mg "right_numbers" sRnu ["numbers", "many"] fM fdM) (DN : DefAt K mg "is_number" sNum ["value"] fN fdN)
    (FL : Fun K "__len__" "Roll.__len__" sLen fL fdL) (bL : Binds K fdL ["self"] []) (OL : Own K C "__len__" fL) (bsum : mg "sum" = none) (T : Txt mg) (R : RollC K mg C) (RC : CrC K mg Cr) :
    FnOk P w K mg base CX0 3 f fd ["self", "roll", "numbers"] (spCIn K C Cr) := by
  have GK : FnOk P w K mg base CX0 1 fK fdK ["roll"] (spChk C) := ok_chk DK T R
  have GM : FnOk P w K mg base CX0 2 fM fdM ["numbers", "many"] (spRnu K) := ok_rnu DM DN T
  have GL : FnOk P w K mg base CX0 1 fL fdL ["self"] (spLen K C) := ok_len FL T R
  refine F.ok scCIn (fun vs H Q E h => ?_) (fun cdv A outer sh H vs Q E hr h => ?_)
  · obtain ⟨a, r, n, t, dx, z, ys, ns, rfl, _⟩ := h
    rfl
  · obtain ⟨a, r, n, t, dx, z, ys, ns, rfl, ha, hR, ne, hT, hN, ty, lens, few, pos, s0, q⟩ := h
    refine ⟨_, pss_cons (ps_expr (pe_call GK (hr.mono (by decide)) (by rfl) DK.g DK.F.kp DK.b .nil pass0 (pa_cons (pv 1) pa_nil)))
      (pss_cons (ps_if (pt_not (pt_val (pe_callB call_isi (by rfl) T.b_isinstance (by decide +kernel) (pa_cons (pv 2) (pa_cons (pe_bty (n := "tuple") (by rfl) T.b_tuple (by decide +kernel)) pa_nil))))) (pss_one ps_never) pss_nil)
      (pss_cons (ps_set (i := 3) scCIn.nd rfl (.inl rfl) (pe_call GM (hr.mono (by decide)) (by rfl) DM.g DM.F.kp DM.b .nil pass0 (pa_cons (pv 2) (pa_cons (pe_callB (call_lenO OL GL (hr.mono (by decide)) bL pass0) (by rfl) T.b_len (by decide +kernel) (pa_cons (pv 1) pa_nil)) pa_nil))))
      (pss_cons (ps_if (PW.pt (pw_or (pt_cmpR op_lt (pv 3) (pe_callB call_len_seq (by rfl) T.b_len (by decide +kernel) (pa_cons (pv 2) pa_nil)) (nomark _)) (pw_or1 (pt_cmpR op_lt (pv 3) (pe_callB (call_lenO OL GL (hr.mono (by decide)) bL pass0) (by rfl) T.b_len (by decide +kernel) (pa_cons (pv 1) pa_nil)) (nomark _))))) (pss_one ps_never) pss_nil)
      (pss_cons (ps_if (pt_cmpR op_eq (pe_callB (call_sumI rfl) (by rfl) bsum (by decide +kernel) (pa_cons (pv 2) pa_nil)) pe_int (nomark _)) (pss_one ps_never) pss_nil)
      (pss_cons (ps_fld (pv 0) (pv 1) rfl)
      (pss_cons (ps_fld (pv 0) (pv 2) rfl)
      (pss_one (ps_fld (pv 0) (pe_callB (call_sumI rfl) (by rfl) bsum (by decide +kernel) (pa_cons (pv 2) pa_nil)) rfl)))))))), ?_⟩
    have hR' := hR
    obtain ⟨dr, fr, hr1, _⟩ := hR'
    have small : ys.length < 2 ^ 62 := by omega
    refine ⟨_, rfl, r, t, z, rfl, hR, ?_⟩
    refine ⟨_, rfl, .ref n, .ty "tuple", .type "tuple", .type "tuple", true, rfl, .ty _, ty, rfl, true, rfl, iteF ?_⟩
    refine ⟨_, rfl, _, rfl, r, dr, fr, rfl, hr1, r, t, z, ys.map V.str, rfl, hR, hT, ys.length, by rw [List.length_map], small, ?_⟩
    refine ⟨n, ns, _, rfl, hN, by rw [lens], pos, by omega, fun H1 s1 => ?_⟩
    have hN1 := same_seqT hN s1
    have hR1 := hR.same s1
    refine ⟨_, rfl, _, rfl, n, _, rfl, .inr hN1, _, _, rfl, rfl, _, rfl, ite2 (fun e => ?_) (fun e => ?_)⟩
    · have := of_decide_eq_true e
      rw [List.length_map] at this
      omega
    refine ⟨_, rfl, _, rfl, r, dr, fr, rfl, s1 _ _ hr1, r, t, z, ys.map V.str, rfl, hR1, same_seqT hT s1, ys.length, by rw [List.length_map], small, _, _, rfl, rfl, _, rfl, ite2 (fun e => ?_) (fun e => ?_)⟩
    · have := of_decide_eq_true e
      omega
    refine ⟨_, rfl, n, ns, rfl, .inr hN1, rfl, _, rfl, ite2 (fun e => ?_) (fun e => ?_)⟩
    · exact absurd (V.int.inj (of_decide_eq_true e)) s0
    refine ⟨_, rfl, _, rfl, a, Cr, dx, [], rfl, s1 _ _ ha, RC.cls, RC.no1, by decide, ?_⟩
    refine ⟨_, rfl, _, rfl, a, Cr, dx, _, rfl, upd_same, RC.cls, RC.no2, Nat.lt_of_le_of_lt (length_putF _ _ _) (by decide), ?_⟩
    rw [upd_upd]
    have off : ∀ fs : List (Str × V), ∀ b o, b ≠ a → H1 b = some o → (upd H1 a (.ins Cr dx fs)) b = some o := fun fs b o n e => by rw [upd_ne n]; exact e
    have hN2 := seqT_off hN1 (s1 _ _ ha) (off (putF "_numbers" (.ref n) (putF "_roll" (.ref r) [])))
    refine ⟨_, rfl, n, ns, rfl, .inr hN2, _, rfl, a, Cr, dx, _, rfl, upd_same, RC.cls, RC.no3, ?_, ?_⟩
    · have h1 := length_putF "_numbers" (.ref n) (putF "_roll" (.ref r) ([] : List (Str × V)))
      have h2 := length_putF "_roll" (.ref r) ([] : List (Str × V))
      have h3 : 100 < sizeLine := by rw [sizeLine_eq]; omega
      simp only [List.length_nil] at h2
      omega
    rw [upd_upd]
    refine q _ (fun b o nb e => off _ b o nb (s1 _ _ e)) ⟨dx, _, upd_same, ?_, ?_, ?_⟩ ⟨dx, _, upd_same, fun m h1 h2 h3 => ?_⟩
    · rw [lookup_putF, if_neg (by decide), lookup_putF, if_neg (by decide), lookup_putF, if_pos rfl]
    · rw [lookup_putF, if_neg (by decide), lookup_putF, if_pos rfl]
    · rw [lookup_putF, if_pos rfl]
    · rw [lookup_putF, if_neg (by first | exact h3 | exact fun e => h3 e.symm), lookup_putF, if_neg (by first | exact h2 | exact fun e => h2 e.symm), lookup_putF, if_neg (by first | exact h1 | exact fun e => h1 e.symm)] <;> rfl
end
end L2.Cal
end

section
set_option maxRecDepth 100000
set_option maxHeartbeats 4000000
set_option synthInstance.maxHeartbeats 400000
namespace L2.Cal
open PySem PySem.Spec PyProof.Rows L2
abbrev sCnt : Stmt := topS 54
theorem scCnt : FnScope ["_law_jar_here", "_law_lot", "_law_top", "_law_found", "_law_row_here"] ["_law_jar_here", "_law_lot"] (defScope sCnt) := ⟨rfl, rfl, rfl, by decide +kernel, rfl, by decide +kernel, by decide +kernel⟩
def spCnt (K : PySem.W.Frag) : Sp := fun vs H Q _ => ∃ (j t : Addr) (ys : List Str), vs = [.ref j, .ref t] ∧ Jar H j ∧ H t = some (.tup (ys.map V.str)) ∧ 0 < ys.length ∧ ys.length ≤ 48 ∧
  ∀ (n : Addr) (ns : List Int) (H' : Hp), Kp j H H' → Jar H' j → H' n = some (.tup (ns.map V.int)) → H n = none → ns.length = ys.length → (∀ i, i ∈ ns → 0 ≤ i ∧ i ≤ 10 ^ 30) → 0 < ns.sum → Q (.ref n) H'
theorem jar_ne {H : Hp} {j D : Addr} (J : Jar H j) (n : H D = none) : D ≠ j := fun z => by
  obtain ⟨_, _, _, w, _⟩ := J
  rw [z, w] at n
  cases n
theorem sum_pos : ∀ {ns : List Int}, (∀ i, i ∈ ns → 0 ≤ i) → (∃ i, i ∈ ns ∧ 0 < i) → 0 < ns.sum
  | [], _, h => by
    obtain ⟨i, h, _⟩ := h
    cases h
  | n :: ns, p, h => by
    obtain ⟨i, hi, h0⟩ := h
    have nn : ∀ {ns : List Int}, (∀ i, i ∈ ns → 0 ≤ i) → 0 ≤ ns.sum := fun {ns} => by
      induction ns with
      | nil => intro _; simp
      | cons a r ih =>
        intro p
        have h1 := p a (List.mem_cons_self ..)
        have h2 := ih fun i hi => p i (List.mem_cons_of_mem _ hi)
        rw [List.sum_cons]
        omega
    have h1 := p n (List.mem_cons_self ..)
    have h2 := nn fun i hi => p i (List.mem_cons_of_mem _ hi)
    rw [List.sum_cons]
    rcases List.mem_cons.mp hi with rfl | hi
    · omega
    · have := sum_pos (fun i hi => p i (List.mem_cons_of_mem _ hi)) ⟨i, hi, h0⟩
      omega
section
variable {P : Program} {w : World} {K : PySem.W.Frag} {mg : Str → Option Value} {base : Heap} {C Cr : Addr}
theorem ok_cnt {f fD fP : Addr} {fd fdD fdP : FuncData} (D : DefAt K mg "_law_counts" sCnt ["_law_jar_here", "_law_lot"] f fd) (DP : DefAt K mg "_law_pick" sPick ["_law_jar_here", "_law_menu"] fP fdP) (DD : DefAt K mg "_law_dip" sDip ["_law_jar_here", "_law_wide"] fD fdD) (T : Txt mg) :
    FnOk P w K mg base CX0 3 f fd ["_law_jar_here", "_law_lot"] (spCnt K) := by
  have GP : FnOk P w K mg base CX0 2 fP fdP ["_law_jar_here", "_law_menu"] (spPick K) := ok_pick DP DD T
  have GB : FnOk P w K mg base CX0 1 fD fdD ["_law_jar_here", "_law_wide"] spDipB := ok_dipB DD T
  refine D.F.ok scCnt (fun vs H Q E h => ?_) (fun cdv A outer sh H vs Q E hr h => ?_)
  · obtain ⟨j, t, ys, rfl, _⟩ := h
    rfl
  · obtain ⟨j, t, ys, rfl, hj, ht, some_, few, q⟩ := h
    refine ⟨_, pss_cons (ps_set (i := 2) scCnt.nd rfl (.inr rfl) (pe_call GP (hr.mono (by decide)) (by rfl) DP.g DP.F.kp DP.b .nil pass0 (pa_cons (pv 0) (pa_cons (pe_lstS (pa_cons pe_int (pa_cons pe_int (pa_cons pe_int (pa_cons (pe_op op_pow pe_int pe_int) (pa_cons (pe_op op_pow pe_int pe_int) pa_nil)))))) pa_nil))))
      (pss_cons (ps_setLc (i := 3) (own := [("_law_row_here", 4)]) (g := gName 4) (tt := tYes) rfl scCnt.nd rfl rfl (sw_true rfl rfl rfl (by decide +kernel)) (pi_tup (pv 1)) (blkOk_by (own := [("_law_row_here", 4)]) (N := ["_law_jar_here", "_law_lot", "_law_top", "_law_found", "_law_row_here"]) (sc := defScope sCnt) (by decide +kernel))
        (fun _ _ _ _ _ => pg_name (i := 4) scCnt.nd rfl (Or.inl rfl)) (fun _ _ _ _ _ => pts_nil) (fun _ _ _ _ _ => pe_call GB (hr.mono (by decide)) (by rfl) DD.g DD.F.kp DD.b .nil pass0 (pa_cons (pv 0) (pa_cons (pv 2) pa_nil))))
      (pss_cons (ps_asg (pe_op op_add pe_int (pe_call GB (hr.mono (by decide)) (by rfl) DD.g DD.F.kp DD.b .nil pass0 (pa_cons (pv 0) (pa_cons (pv 2) pa_nil)))) (pg_sub (pv 3) (pe_call GB (hr.mono (by decide)) (by rfl) DD.g DD.F.kp DD.b .nil pass0 (pa_cons (pv 0) (pa_cons (pe_callB call_len_seq (by rfl) T.b_len (by decide +kernel) (pa_cons (pv 1) pa_nil)) pa_nil))) L2.set_list))
      (pss_one (ps_ret (pe_callTy call_tuple_of (by rfl) T.b_tuple (by decide +kernel) (pa_cons (pv 3) pa_nil)))))), ?_⟩
    have tj : t ≠ j := fun z => by
      obtain ⟨_, _, _, w, _⟩ := hj
      rw [z, w] at ht
      cases ht
    refine ⟨_, rfl, _, _, rfl, rfl, ⟨by decide, by decide, by decide⟩, _, _, rfl, rfl, ⟨by decide, by decide, by decide⟩, by decide, fun m H1 s1 n1 e1 => ?_⟩
    have mj : m ≠ j := fun z => by
      obtain ⟨_, _, _, w, _⟩ := hj
      rw [z, w] at n1
      cases n1
    obtain ⟨d, s, c, ej, b0, b1, b2, b3⟩ := hj.same s1
    refine ⟨j, m, _, d, s, c, rfl, ej, b0, b1, b2, b3, mj, .inl (SqL.of e1), by decide, by decide, fun i v d' s' c' hv a0 a1 a2 a3 => ?_⟩
    obtain ⟨tp, rfl, tp0, tp1⟩ : ∃ tp : Int, v = .int tp ∧ 0 < tp ∧ tp ≤ 10 ^ 30 := by
      match i, hv with
      | 0, hv => cases hv; exact ⟨_, rfl, by decide, by decide⟩
      | 1, hv => cases hv; exact ⟨_, rfl, by decide, by decide⟩
      | 2, hv => cases hv; exact ⟨_, rfl, by decide, by decide⟩
      | 3, hv => cases hv; exact ⟨_, rfl, by decide, by decide⟩
      | 4, hv => cases hv; exact ⟨_, rfl, by decide, by decide⟩
      | n + 5, hv => simp at hv
    have tp2 : tp < 10 ^ 32 := Int.lt_of_le_of_lt tp1 (by decide)
    have J2 : Jar (upd H1 j (.lst [.int d', .int s', .int c'])) j := .up a0 a1 a2 a3
    have K2 : Kp j H (upd H1 j (.lst [.int d', .int s', .int c'])) := (Kp.of s1).trans .jar
    have t2 : (upd H1 j (.lst [.int d', .int s', .int c'])) t = some (.tup (ys.map V.str)) := K2 _ _ tj ht
    generalize upd H1 j (.lst [.int d', .int s', .int c']) = H2 at J2 K2 t2
    refine ⟨_, rfl, t, rfl, ⟨_, SqT.of t2⟩, fun D nD => lc_tup (K := K) (a := t) (xs := ys.map V.str) (fun k H' => Jar H' j ∧ (∀ b o, b ≠ j → H2 b = some o → H' b = some o) ∧ ∃ ns : List Int, H' D = some (.lst (ns.map V.int)) ∧ ns.length = k ∧ ∀ i, i ∈ ns → 0 ≤ i ∧ i ≤ 10 ^ 30)
      ⟨J2.new nD, Kp.new nD, [], upd_same, rfl, fun z hz => by cases hz⟩ (fun k H' _ hP => SqT.of (hP.2.1 _ _ tj t2)) (fun k x H4 hk hP => ?_) (fun H4 hP => ?_)⟩
    · have Dj : D ≠ j := jar_ne J2 nD
      obtain ⟨J4, k4, ns, eD, nl, np⟩ := hP
      have hk' : k < ys.length := by
        have := (List.getElem?_eq_some_iff.mp hk).1
        rw [List.length_map] at this
        exact this
      obtain ⟨d, s, c, ej, b0, b1, b2, b3⟩ := J4
      refine ⟨rfl, _, rfl, _, rfl, j, tp, d, s, c, rfl, ej, b0, b1, b2, b3, tp0, tp2, fun r d' s' c' r0 r1 a0 a1 a2 a3 => ?_⟩
      refine ⟨_, by rw [upd_ne Dj]; exact eD, by rw [List.length_map, nl, sizeLine_eq]; omega, ?_, fun b o n h => ?_, ns ++ [r], ?_, by rw [List.length_append, nl] <;> rfl, fun u hu => ?_⟩
      · exact ⟨d', s', c', by rw [upd_ne Dj.symm, upd_same], a0, a1, a2, a3⟩
      · rw [upd_ne (ne_of_none h nD), upd_ne n]
        exact k4 _ _ n h
      · rw [upd_same, List.map_append] <;> rfl
      · rcases List.mem_append.mp hu with hu | hu
        · exact np u hu
        · cases List.mem_singleton.mp hu
          exact ⟨r0, by omega⟩
    · have Dj : D ≠ j := jar_ne J2 nD
      obtain ⟨J4, k4, ns, eD, nl, np⟩ := hP
      rw [List.length_map] at nl
      have K4 : Kp j H H4 := K2.trans k4
      have t4 := k4 _ _ tj t2
      have nD0 : H D = none := by
        cases e : H D with
        | none => rfl
        | some o =>
          rw [K2 _ _ Dj e] at nD
          cases nD
      obtain ⟨d, s, c, ej, b0, b1, b2, b3⟩ := J4
      refine ⟨_, rfl, _, rfl, j, tp, d, s, c, rfl, ej, b0, b1, b2, b3, tp0, tp2, fun x d' s' c' x0 x1 a0 a1 a2 a3 => ⟨_, _, rfl, rfl, ?_⟩⟩
      have K5 : Kp j H (upd H4 j (.lst [.int d', .int s', .int c'])) := K4.trans .jar
      have t5 : (upd H4 j (.lst [.int d', .int s', .int c'])) t = some (.tup (ys.map V.str)) := by rw [upd_ne tj]; exact t4
      have e5 : (upd H4 j (.lst [.int d', .int s', .int c'])) D = some (.lst (ns.map V.int)) := by rw [upd_ne Dj]; exact eD
      refine ⟨_, rfl, _, rfl, _, rfl, t, _, rfl, .inr (SqT.of t5), j, _, d', s', c', rfl, upd_same, a0, a1, a2, a3, by rw [List.length_map]; omega, by rw [List.length_map]; omega, fun r d2 s2 c2 r0 r1 f0 f1 f2 f3 => ?_⟩
      rw [List.length_map] at r1
      obtain ⟨rn, rfl⟩ := Int.eq_ofNat_of_zero_le r0
      rw [upd_upd]
      have hr0 : rn < ys.length := by omega
      have eI : ixN (ns.map V.int).length (rn : Int) = some rn := by
        rw [List.length_map, nl]
        unfold ixN
        rw [if_pos (by omega), if_pos (by omega)]
        simp
      have e6 : (upd H4 j (.lst [.int d2, .int s2, .int c2])) D = some (.lst (ns.map V.int)) := by rw [upd_ne Dj]; exact eD
      have J6 : Jar (upd H4 j (.lst [.int d2, .int s2, .int c2])) j := .up f0 f1 f2 f3
      have K6 : Kp j H (upd H4 j (.lst [.int d2, .int s2, .int c2])) := K4.trans .jar
      refine ⟨D, _, _, rn, rfl, rfl, e6, eI, ?_⟩
      generalize upd H4 j (.lst [.int d2, .int s2, .int c2]) = H6 at J6 K6 e6
      have em : (ns.map V.int).set rn (.int (1 + x)) = (ns.set rn (1 + x)).map V.int := by rw [List.map_set]
      refine ⟨_, rfl, D, _, rfl, .inl ⟨SqL.of upd_same, fun n nn => ?_⟩⟩
      have nnD : n ≠ D := fun z => by rw [z, upd_same] at nn; cases nn
      rw [upd_ne nnD] at nn
      refine q n (ns.set rn (1 + x)) _ (fun b o nb h => ?_) ?_ (by rw [upd_same, em]) ?_ (by rw [List.length_set, nl]) (fun i hi => ?_) (sum_pos (fun i hi => ?_) ⟨1 + x, ?_, by omega⟩)
      · have bD : b ≠ D := ne_of_none h nD0
        have e := K6 _ _ nb h
        rw [upd_ne (ne_of_none e nn), upd_ne bD]
        exact e
      · have jn : j ≠ n := (jar_ne J6 nn).symm
        obtain ⟨d, s, c, e, r⟩ := J6
        exact ⟨d, s, c, by rw [upd_ne jn, upd_ne Dj.symm]; exact e, r⟩
      · have nj : n ≠ j := jar_ne J6 nn
        cases e : H n with
        | none => rfl
        | some o =>
          rw [K6 _ _ nj e] at nn
          cases nn
      · rcases List.mem_or_eq_of_mem_set hi with hi | rfl
        · exact np i hi
        · exact ⟨by omega, by omega⟩
      · rcases List.mem_or_eq_of_mem_set hi with hi | rfl
        · exact (np i hi).1
        · omega
      · exact List.mem_set (by omega) _
end
end L2.Cal
end

section
set_option maxRecDepth 100000
set_option maxHeartbeats 4000000
/-! repr of any data; promises of defs that are called where nothing is being shown (repr asks that) -/
namespace L2.Cal
open PySem PySem.Spec PyProof.Rows L2
mutual
theorem dp_nodict {K : PySem.W.Frag} {H : Hp} : ∀ (d : PyData) (v : V), Dp K H v d → d.hasDict = false
  | .none, _, _ => by simp only [PyData.hasDict]
  | .bool _, _, _ => by simp only [PyData.hasDict]
  | .int _, _, _ => by simp only [PyData.hasDict]
  | .str _, _, _ => by simp only [PyData.hasDict]
  | .list ds, _, h => by
    cases h with
    | lst _ h => simp only [PyData.hasDict]; exact dp_nodictAll ds _ h
  | .tuple ds, _, h => by
    cases h with
    | tup _ h => simp only [PyData.hasDict]; exact dp_nodictAll ds _ h
  | .dict _, _, h => by cases h
theorem dp_nodictAll {K : PySem.W.Frag} {H : Hp} : ∀ (ds : List PyData) (vs : List V), DpAll K H vs ds → PyData.hasDictAll ds = false
  | [], _, _ => by simp only [PyData.hasDictAll]
  | d :: ds, _, h => by
    cases h with
    | cons h1 h2 => simp only [PyData.hasDictAll, dp_nodict d _ h1, dp_nodictAll ds _ h2, Bool.or_false]
end
mutual
theorem dp_same {K : PySem.W.Frag} {H H' : Hp} (e : Same H H') : ∀ (d : PyData) (v : V), Dp K H v d → Dp K H' v d
  | .none, _, h => by cases h; exact .non
  | .bool _, _, h => by cases h; exact .bl _
  | .int _, _, h => by cases h; exact .int _
  | .str _, _, h => by cases h; exact .str _
  | .list ds, _, h => by
    cases h with
    | lst q h => exact .lst (e.seq q) (dp_sameAll e ds _ h)
  | .tuple ds, _, h => by
    cases h with
    | tup q h =>
      refine .tup ?_ (dp_sameAll e ds _ h)
      rcases q with (q | ⟨o, q⟩) | q
      · exact .inl (.inl (e _ _ q))
      · exact .inl (.inr ⟨o, e _ _ q⟩)
      · exact .inr q
  | .dict _, _, h => by cases h
theorem dp_sameAll {K : PySem.W.Frag} {H H' : Hp} (e : Same H H') : ∀ (ds : List PyData) (vs : List V), DpAll K H vs ds → DpAll K H' vs ds
  | [], _, h => by cases h; exact .nil
  | d :: ds, _, h => by
    cases h with
    | cons h1 h2 => exact .cons (dp_same e d _ h1) (dp_sameAll e ds _ h2)
end
/-- data, perhaps a dict of at most one text and a number -/
inductive DD (K : PySem.W.Frag) (H : Hp) : V → PyData → Prop
  | base {v : V} {d : PyData} : Dp K H v d → DD K H v d
  | dict0 {a : Addr} : H a = some (.dK []) → DD K H (.ref a) (.dict [])
  | dict1 {a : Addr} {x : Str} {i : Int} : H a = some (.dK [(Sum.inr x, .int i)]) → DD K H (.ref a) (.dict [(.str x, .int i)])
theorem DD.same {K : PySem.W.Frag} {H H' : Hp} {v : V} {d : PyData} (e : Same H H') (h : DD K H v d) : DD K H' v d := by
  cases h with
  | base h => exact .base (dp_same e _ _ h)
  | dict0 h => exact .dict0 (e _ _ h)
  | dict1 h => exact .dict1 (e _ _ h)
theorem DD.reads {X : Cx} {pins : List (Addr × Obj)} {σ : St} {H : Hp} {s : Shared} (I : Inv X pins σ H s) {v : V} {d : PyData} {u : Value} (h : DD X.K H v d) (r : RelV v u) : ∃ as, Reads s.heap u d as ∧ (d.hasDict = true → sysModules ∉ as) := by
  cases h with
  | base h =>
    obtain ⟨as, q⟩ := Dp.reads I d v u h r
    exact ⟨as, q, fun z => by rw [dp_nodict d v h] at z; cases z⟩
  | @dict0 a h =>
    obtain rfl : u = Value.ref a := r
    obtain ⟨_, ns, vs, rk, o, es, ep, ho, hx, hd, _, hp, _⟩ := I.hok a _ h
    cases rk
    have he : es.toList = [] := by
      cases e : es.toList with
      | nil => rfl
      | cons y r => rw [e] at hp; cases hp
    refine ⟨[a], Reads.dict (as := []) (bs := []) ho hx.1 hd (by rw [he]; exact .nil) (by rw [he]; exact .nil), fun _ z => ?_⟩
    rw [List.mem_singleton] at z
    rw [← z] at ns
    simp at ns
  | @dict1 a x i h =>
    obtain rfl : u = Value.ref a := r
    obtain ⟨_, ns, vs, rk, o, es, ep, ho, hx, hd, _, hp, _⟩ := I.hok a _ h
    cases rk with
    | @cons _ q _ vr r0 rr =>
      cases rr
      obtain ⟨qk, qv⟩ := q
      obtain ⟨e1, e2⟩ := r0
      have e1' : (Sum.inr x : L2.Key) = qk := e1
      subst e1'
      obtain ⟨t, e2'⟩ := (show ∃ t, qv = Value.int i t from e2)
      subst e2'
      cases e : es.toList with
      | nil => rw [e] at hp; cases hp
      | cons y r =>
        rw [e] at hp
        cases hp with
        | cons k1 k2 k3 =>
          cases k3
          obtain ⟨t', hk⟩ : ∃ t', y.key = Value.str x t' := by
            rcases keyIs_shape (k := Sum.inr x) (v := y.key) k1 with ⟨_, _, z, _⟩ | ⟨x', t', z, q⟩
            · cases z
            · cases z
              exact ⟨t', q⟩
          refine ⟨[a], Reads.dict (as := [] ++ []) (bs := [] ++ []) ho hx.1 hd ?_ ?_, fun _ z => ?_⟩
          · rw [e]
            show ReadsAll s.heap [y.key] [.str x] ([] ++ [])
            rw [hk]
            exact .cons (.str x t') .nil
          · rw [e]
            show ReadsAll s.heap [y.val] [.int i] ([] ++ [])
            rw [k2]
            exact .cons (.int i t) .nil
          · rw [List.mem_singleton] at z
            rw [← z] at ns
            simp at ns
def rRepr (K : PySem.W.Frag) : List V → Hp → VK → Prop := fun xs H Q => ∃ x d, xs = [x] ∧ DD K H x d ∧ d.showable = true ∧ d.shown.length ≤ sizeLine ∧ d.depth ≤ 40 ∧ Q (.str d.shown) H
theorem call_reprD {X : Cx} (hg : X.A.guards = some []) (hu : X.A.units + 64 < cLine) : CallR X (.builtin "repr") (rRepr X.K) := by
  intro pins s σ H xs us Q I r h
  obtain ⟨x, d, rfl, hd, hs, hz, hdp, q⟩ := h
  cases r with
  | @cons _ u _ ur r rr =>
    cases rr
    obtain ⟨as, rd, hm⟩ := hd.reads I r
    cases rd with
    | none =>
      rw [PyData.shown_none] at q
      exact P.repr_of_none ⟨.str _, H, I.tok _, ⟨_, rfl⟩, q⟩
    | bool b =>
      rw [PyData.shown_bool] at q
      exact P.repr_of_bool ⟨.str _, H, I.tok _, ⟨_, rfl⟩, q⟩
    | int i t =>
      rw [PyData.shown_int] at q
      exact P.repr_of_int (by simpa [PyData.showable] using hs) ⟨.str _, H, I.tok _, ⟨_, rfl⟩, q⟩
    | str y t =>
      rw [PyData.shown_str] at q hz
      exact P.repr_of_str ⟨.str _, H, I.tok _, ⟨_, rfl⟩, q⟩ hz
    | list h1 h2 h3 h4 => exact repr_of_reads' (.list h1 h2 h3 h4) hs hm hg (by omega) (fun _ _ e => e) (fun h' u tk hk => ⟨.str _, H, I.kept (t' := tk) hk, ⟨_, rfl⟩, q⟩) hz
    | tuple h1 h2 h3 h4 => exact repr_of_reads' (.tuple h1 h2 h3 h4) hs hm hg (by omega) (fun _ _ e => e) (fun h' u tk hk => ⟨.str _, H, I.kept (t' := tk) hk, ⟨_, rfl⟩, q⟩) hz
    | dict h1 h2 h3 h4 h5 => exact repr_of_reads' (.dict h1 h2 h3 h4 h5) hs hm hg (by omega) (fun _ _ e => e) (fun h' u tk hk => ⟨.str _, H, I.kept (t' := tk) hk, ⟨_, rfl⟩, q⟩) hz
/-! ### promises where nothing is being shown -/
structure FnOkG (P : Program) (w : World) (K : PySem.W.Frag) (mg : Str → Option Value) (base : Heap) (CX : CXT) (k : Nat) (f : Addr) (fd : FuncData) (ps : List Str) (sp : Sp) : Prop where
  len : ∀ vs H Q E, sp vs H Q E → vs.length = ps.length
  run : ∀ (A : Around) (outer : List Env) (s : Shared) (H : Hp) (args : Args) (us : List Value) (vs : List V) (Q : VK) (E : XK), A.guards = some [] → Room k A → Env0 P w K mg base A outer s H → BindsTo s fd args (ps.zip us) → Vals vs us → sp vs H Q E →
    codeAny (model P w) A (.call (.ref f) args) (CR CX outer P w H s Q E) s
theorem FnOk.toG {P : Program} {w : World} {K : PySem.W.Frag} {mg : Str → Option Value} {base : Heap} {CX : CXT} {k : Nat} {f : Addr} {fd : FuncData} {ps : List Str} {sp : Sp} (F : FnOk P w K mg base CX k f fd ps sp) : FnOkG P w K mg base CX k f fd ps sp := ⟨F.len, fun A o s H a us vs Q E _ => F.run A o s H a us vs Q E⟩
section
variable {P : Program} {w : World} {K : PySem.W.Frag} {mg : Str → Option Value} {base : Heap}
theorem Fun.okG {x qual : Str} {st : Stmt} {f : Addr} {fd : FuncData} {N ps : List Str} {k : Nat} {sp : Sp} (F : Fun K x qual st f fd) (S : FnScope N ps (defScope st)) (len : ∀ vs H Q E, sp vs H Q E → vs.length = ps.length)
    (body : ∀ (cdv : Value) (A : Around) (outer : List Env) (s : Shared) (H : Hp) (vs : List V) (Q : VK) (E : XK), A.guards = some [] → Room k (A.deeper (envOfC qual (defScope st) s.heap.objs.size f cdv)) → sp vs H Q E →
      ∃ t, PSs (cxOf CX0 P w K mg base N qual (defScope st) f cdv A outer s H E).nox (defBody st) t ∧ t { nx := fun _ H' => Q .non H', rt := Q } (start N vs) H) : FnOkG P w K mg base CX0 (k + 1) f fd ps sp := by
  obtain ⟨oc, od, kV, doc, pm, an, cdv, ct, osl, rfl, lk, hcd⟩ := F.ex
  refine ⟨len, fun A outer s H args us vs Q E hg hr e0 hb r hsp => ?_⟩
  have same : ∀ b o, base.get? b = some o → s.heap.get? b = some o := fun b o e => (e0.bs b o e).1
  have KX : K.In s.heap := e0.mod.kin.keeps same
  have lim : s.heap.NoLimit := e0.mod.nolimit.keeps same
  refine codeAny_call_function hr.depth (KX _ _ lk) rfl S.co S.gen rfl (PySem.W.codeRec_of KX hcd) (hb _ _ _ _ ?_)
  refine wpAny_newFunctionEnv_cells S.kind (fun y hy => ?_) fun env he s1 y => ?_
  · obtain ⟨n, v⟩ := y
    exact (S.par n (List.of_mem_zip hy).1).elim .inl fun q => .inr ⟨q, PySem.W.cellsFrom_some _ _ _ (.inl q)⟩
  · subst he
    refine ⟨lim.keeps y.toInCall.keep, codeAny_func ?_⟩
    obtain ⟨t, ht, hq⟩ := body cdv A outer s H vs Q E hg (hr.deeper _) hsp
    have I := inv_start (CX := CX0) (P := P) (w := w) (mg := mg) (E := E) S hr.hd e0 (len _ _ _ _ hsp) r y
    refine wpAny_mono (ht.nox.run [] s1 (start N vs) H _ I hq) (fun fl s' hs => ?_) fun e s' hs => hs
    cases fl with
    | ret u => obtain ⟨v, σ', H', J, rv, q⟩ := hs; exact ⟨v, H', J.os, J.bare, J.base, J.hok, rv, q⟩
    | next => obtain ⟨σ', H', J, q⟩ := hs; exact ⟨.non, H', J.os, J.bare, J.base, J.hok, rfl, q⟩
    | brk => obtain ⟨_, _, _, q⟩ := hs; exact q.elim
    | cont => obtain ⟨_, _, _, q⟩ := hs; exact q.elim
end
section
variable {X : Cx} {CX : CXT} {k : Nat} {f : Addr} {fd : FuncData} {ps : List Str} {sp : Sp} {E : XK} {x : Str} {p pos : Pos} {e : Expr} {es : List Expr} {t : TA} {dvs : List V} {ds : List Value}
theorem pe_callG (F : FnOkG X.prog X.w X.K X.mg X.base CX k f fd ps sp) (hA : X.A.guards = some []) (hr : Room k X.A) (hg : Gl X x) (hm : X.mg x = some (.ref f)) (hk : PySem.W.keepIn X.K (.ref f) = true) (hb : Binds X.K fd ps ds) (hd : Vals dvs ds) (hx : Passes CX X E)
    (ha : PA X (e :: es) t) (hdb : (x == ("__debug__" : Str)) = false := by decide) (he : starEach (e :: es) X.env = (false, eval e X.env) :: starEach es X.env := by rfl) (hpl : (backTo pos (starEach es X.env)).any (·.1) = false := by rfl) :
    PE X (.Call (.Name x p) (e :: es) [] pos) (tCall sp dvs E t) := ⟨fun pins s σ H Q I h => wpAny_Call_Name_kw (ld_glob I hg hm
    (PySem.W.callWith_K (h₀ := X.base) I.ok.mod.kin hk (thn (ha.run pos pins s σ H _ I h) fun us s1 ⟨vs, H1, I1, r, q⟩ => ⟨I1.kIn, by
      have r2 : Vals (vs ++ dvs) (us ++ ds) := r.append hd
      have hl : (us ++ ds).length = ps.length := r2.length.symm.trans (F.len _ _ _ _ q)
      refine wpAny_call (codeAny_mono (F.run X.A X.stack s1 H1 ⟨us, []⟩ (us ++ ds) (vs ++ dvs) Q E hA hr I1.env0 (hb s1 us I1.kIn hl) r2 q) fun r s' hq => ?_)
      cases r with
      | error e => exact hx pins σ H1 s1 e s' I1 hq
      | ok fl => cases fl <;> first | exact I1.after hq | exact False.elim hq⟩) he hpl) hdb)⟩
end
end L2.Cal
end

section
set_option maxRecDepth 100000
set_option maxHeartbeats 4000000
/-! text[::-1] -/
namespace L2.Cal
open PySem PySem.Spec PyProof.Rows L2
def revS (x : Str) : Str := ⟨x.cps.reverse⟩
theorem rev_range (n : Nat) : Builtin.Str.strSliceIndices none none (-1) n = (List.range n).map fun k => n - 1 - k := by
  unfold Builtin.Str.strSliceIndices sliceRange
  simp only [show ¬ ((-1 : Int) > 0) by decide, if_false]
  have e : (if ((n : Int) - 1) > -1 then ((n : Int) - 1 - -1 - -1 - 1) / - -1 else 0) = (n : Int) := by
    split
    · have : ((n : Int) - 1 - -1 - -1 - 1) = n := by omega
      rw [this]
      simp
    · omega
  rw [e]
  show List.map _ (List.range ((n : Int).toNat)) = _
  rw [Int.toNat_natCast]
  refine List.map_congr_left fun k hk => ?_
  have := List.mem_range.mp hk
  omega
theorem fm_congr {α β : Type} {f g : α → Option β} : ∀ {l : List α}, (∀ x, x ∈ l → f x = g x) → l.filterMap f = l.filterMap g
  | [], _ => rfl
  | x :: l, h => by rw [List.filterMap_cons, List.filterMap_cons, h x (List.mem_cons_self ..), fm_congr fun y hy => h y (List.mem_cons_of_mem _ hy)]
theorem get_range : ∀ m : List Nat, (List.range m.length).filterMap (fun k => m[k]?) = m
  | [] => rfl
  | a :: r => by
    rw [List.length_cons, List.range_succ_eq_map, List.filterMap_cons, List.filterMap_map]
    show a :: List.filterMap (fun k => (a :: r)[k + 1]?) (List.range r.length) = a :: r
    have h := get_range r
    congr 1
theorem rev_get (l : List Nat) : (((List.range l.length).map fun k => l.length - 1 - k).filterMap fun i => l[i]?) = l.reverse := by
  have h := get_range l.reverse
  rw [List.length_reverse] at h
  rw [List.filterMap_map]
  refine Eq.trans (fm_congr fun k hk => ?_) h
  show l[l.length - 1 - k]? = l.reverse[k]?
  rw [List.getElem?_reverse (List.mem_range.mp hk)]
theorem made_rev (z : Str) (t t2 : Tok) : sliceMade z t none none (some (-1, t2)) = .str (revS z) := by
  unfold sliceMade
  rw [if_neg (by simp)]
  congr 1
  unfold slicePicked
  show Str.mk _ = _
  rw [show ((Option.map (fun (x : Int × Tok) => x.fst) (some (-1, t2))).getD 1) = -1 from rfl]
  show Str.mk (List.filterMap (fun (x : Nat) => z.cps[x]?) (Builtin.Str.strSliceIndices none none (-1) z.length)).toArray = _
  rw [rev_range]
  have h := rev_get z.cps.toList
  rw [Array.length_toList] at h
  have e : (fun (x : Nat) => z.cps[x]?) = fun (i : Nat) => z.cps.toList[i]? := by
    funext i
    exact (Array.getElem?_toList).symm
  rw [e, show z.length = z.cps.size from rfl, h]
  unfold revS
  congr 1
  rw [← Array.toList_reverse]
section
variable {X : Cx}
def tRev (te ts : TE) : TE := fun σ H Q => te σ H fun x H1 => ts σ H1 fun v H2 => v = .int (-1) ∧ ∃ z, x = .str z ∧ z.length ≤ sizeLine ∧ Q (.str (revS z)) H2
theorem pe_rev {e st : Expr} {te ts : TE} {pos p2 : Pos} (he : PE X e te) (hs : PE X st ts) : PE X (e.Subscript (Expr.Slice none none (some st) p2) pos) (tRev te ts) where
  run pins s σ H Q I h := by
    refine Subscript_ (thn (he.run pins s σ H (fun x H1 => ts σ H1 fun v H2 => v = .int (-1) ∧ ∃ z, x = .str z ∧ z.length ≤ sizeLine ∧ Q (.str (revS z)) H2) I h) fun v s1 hq => ?_)
    obtain ⟨x, H1, I1, r1, q1⟩ := hq
    refine wpAny_Slice ?_
    rw [evalPart_none]
    refine wpAny_pure (wpAny_pure ?_)
    refine thn (hs.run pins s1 σ H1 (fun v H2 => v = .int (-1) ∧ ∃ z, x = .str z ∧ z.length ≤ sizeLine ∧ Q (.str (revS z)) H2) I1 q1) fun vs s3 hq => ?_
    obtain ⟨vx, H2, I2, rs, rfl, z, rfl, hz, q⟩ := hq
    obtain ⟨t2, rfl⟩ := rs
    obtain ⟨t, rfl⟩ := r1
    have I4 := Inv.kept (t' := s3.toks) I2 (fun b ob q => Heap.get?_push_of_some { cls := Value.type "slice", data := Data.fields #[Value.none, Value.none, Value.int (-1) t2] } q)
    refine tail_any (typeIs_str _ z t) F.slot_str_getitem.lookup ?_ (Eq.refl (subscripted (Expr.Slice none none (some st) p2) false _ _))
    refine wpAny_getItem_str_slice (l := none) (u := none) (st := some (-1, t2)) (Heap.IsSliceOf.new s3.heap Value.none Value.none (Value.int (-1) t2)) rfl ?_
    rw [made_rev]
    refine ⟨?_, .str (revS z), H2, Inv.tok I4 _, ⟨_, rfl⟩, q⟩
    show (revS z).cps.size ≤ sizeLine
    unfold revS
    rw [Array.size_reverse]
    exact hz
end
end L2.Cal
end

section
set_option maxRecDepth 100000
set_option maxHeartbeats 4000000
/-! bool(o) of an object with neither a length nor a truth of its own; two rules for one operation -/
namespace L2.Cal
open PySem PySem.Spec PyProof.Rows L2
section
variable {X : Cx} {C : Addr} {pins : List (Addr × Obj)} {σ : St} {H : Hp} {s : Shared}
theorem op_or {o : Value → Value → Sem Value} {r r' : V → V → Hp → VK → Prop} (a : OpR X o r) (b : OpR X o r') : OpR X o (fun x y H Q => r x y H Q ∨ r' x y H Q) := by
  intro pins s σ H x y v u Q I rx ry h
  rcases h with h | h
  · exact a _ _ _ _ _ _ _ _ _ I rx ry h
  · exact b _ _ _ _ _ _ _ _ _ I rx ry h
def rBoolP (C : Addr) : List V → Hp → VK → Prop := fun xs H Q => ∃ (a dx : Addr) (fs : List (Str × V)), xs = [.ref a] ∧ H a = some (.ins C dx fs) ∧ Q (.bl true) H
theorem call_boolP (nb : PySem.W.findIn X.K (.ref C) "__bool__" = some none) (nl : PySem.W.findIn X.K (.ref C) "__len__" = some none) : CallR X (.type "bool") (rBoolP C) := by
  intro pins s σ H xs us Q I r h
  obtain ⟨a, dx, fs, rfl, ea, h⟩ := h
  rw [Vals.ref1 r]
  obtain ⟨ox, od, J⟩ := ins_at I ea
  have tr : ∀ E', wpAny (model X.prog X.w) X.A.in1.in1 (truthy (.ref a)) (fun b s' => ∃ H', Inv X pins σ H' s' ∧ Q (.bl b) H') E' s := fun E' => by
    unfold truthy
    refine wpAny_bind (m := callSpecial? (.ref a) (Str.ofString "__bool__")) (wpAny_bind (wpAny_bind (J.type.here ((PySem.W.looks_findIn I.kIn nb).here (wpAny_pure ?_)))))
    refine wpAny_bind (wpAny_bind (J.type.here ((PySem.W.looks_findIn I.kIn nl).here ?_)))
    rw [if_pos (by simp)]
    exact wpAny_pure ⟨H, I, h⟩
  refine callType_codes (T := "bool") (Bi := Builtin.«object.__init__») (Q₁ := fun r s₁ => ∃ (b : Bool) (H' : Hp), r = .bool b ∧ Inv X pins σ H' s₁ ∧ Q (.bl b) H') PySem.F.called_bool (PySem.F.typeCall_bool_1 _) PySem.F.entry_object_init ?_ ?_
  · refine codeAny_of_tree ?_
    show wpAny _ X.A.in1.in1 (do checkBuiltinCall "bool.__new__" ⟨[.type "bool", .ref a], []⟩; again (.builtin "bool.__new__" ⟨[.type "bool", .ref a], []⟩)) _ _ s
    refine wpAny_bind (wpAny_of_eq (PySem.F.newCall_bool_1 _) (wpAny_pure ⟨plainId_quiet (by decide +kernel) _, codeAny_builtin PySem.F.entry_bool_new ?_⟩))
    rw [Around.under_plainId (by decide +kernel) _]
    unfold Builtin.«bool.__new__»
    have below := PySem.F.conv_sub_bool
    generalize hT : truthy = T
    repeat (first | assumption | wp_step)
    subst hT
    refine wpAny_mono (tr _) (fun b s' hq => ?_) fun _ _ z => z
    obtain ⟨H', I', q⟩ := hq
    exact wpAny_pure ⟨b, H', rfl, I', q⟩
  · rintro obj s₁ ⟨b, H', rfl, I', q⟩
    exact ⟨rfl, PySem.F.args_object_init_2 _ _, object_init_meets PySem.F.called_bool.init.lookup PySem.F.called_bool.made (by decide) X.prog X.w X.A.in1 _ s₁ ⟨rfl, rfl, ⟨.bl b, H', I', rfl, q⟩⟩⟩
end
end L2.Cal
end

section
set_option maxRecDepth 100000
set_option maxHeartbeats 4000000
set_option synthInstance.maxHeartbeats 400000
namespace L2.Cal
open PySem PySem.Spec PyProof.Rows L2
theorem shown_big {i : Int} (h0 : 0 ≤ i) (h : i < 10 ^ 33) : (PyData.shown (.int i)).length ≤ 40 := by
  obtain ⟨n, rfl⟩ := Int.eq_ofNat_of_zero_le h0
  have hn : n < 10 ^ 33 := by
    have : ((n : Int)) < ((10 ^ 33 : Nat) : Int) := by simpa using h
    omega
  show (Str.ofString (toString (n : Int))).length ≤ 40
  rw [show toString (n : Int) = toString n from rfl]
  rw [Nat.toString_eq_ofList_toDigits]
  have l := (Nat.length_toDigits_le_iff (b := 10) (k := 33) (by decide) (by decide) (n := n)).mpr hn
  rw [PySem.ofString_ofList_length]
  omega
theorem log_big {i : Int} (h0 : 0 ≤ i) (h : i < 10 ^ 33) : i.natAbs.log2 < 110 := by
  by_cases e : i.natAbs = 0
  · rw [e]
    decide
  · rw [Nat.log2_lt e]
    have e1 : (10 : Int) ^ 33 = 1000000000000000000000000000000000 := by decide
    have e2 : (2 : Nat) ^ 110 = 1298074214633706907132624082305024 := by decide
    rw [e2]
    omega
def toldC (ns : List Int) : PyData := .list [.tuple (ns.map PyData.int), .int ns.sum, .bool true]
theorem sum_bound : ∀ {ns : List Int}, (∀ i, i ∈ ns → 0 ≤ i ∧ i ≤ 10 ^ 30) → 0 ≤ ns.sum ∧ ns.sum ≤ (ns.length : Int) * 10 ^ 30
  | [], _ => ⟨by simp, by simp⟩
  | n :: ns, h => by
    have h1 := h n (List.mem_cons_self ..)
    have h2 := sum_bound fun i hi => h i (List.mem_cons_of_mem _ hi)
    rw [List.sum_cons, List.length_cons]
    push_cast
    rw [Int.add_mul]
    exact ⟨by omega, by omega⟩
theorem toldC_fine {ns : List Int} (few : ns.length ≤ 8) (h : ∀ i, i ∈ ns → 0 ≤ i ∧ i ≤ 10 ^ 30) : (toldC ns).showable = true ∧ (toldC ns).shown.length ≤ sizeLine ∧ (toldC ns).depth ≤ 40 := by
  have big : ∀ i, i ∈ ns → 0 ≤ i ∧ i < 10 ^ 33 := fun i hi => ⟨(h i hi).1, Int.lt_of_le_of_lt (h i hi).2 (by decide)⟩
  have sb : 0 ≤ ns.sum ∧ ns.sum < 10 ^ 33 := by
    have e := sum_bound h
    have e1 : (10 : Int) ^ 33 = 1000000000000000000000000000000000 := by decide
    have e2 : (10 : Int) ^ 30 = 1000000000000000000000000000000 := by decide
    rw [e2] at e
    rw [e1]
    omega
  have lv : ∀ ns : List Int, (∀ i, i ∈ ns → 0 ≤ i ∧ i < 10 ^ 33) → PyData.leavesShortAll 40 (ns.map PyData.int) = true := fun ns => by
    induction ns with
    | nil => intro _; simp [PyData.leavesShortAll]
    | cons z zs ih =>
      intro h
      simp only [List.map_cons, PyData.leavesShortAll, PyData.leavesShort, Bool.and_eq_true]
      have hz := h z (List.mem_cons_self ..)
      exact ⟨decide_eq_true (shown_big hz.1 hz.2), ih fun x hx => h x (List.mem_cons_of_mem _ hx)⟩
  have wt : ∀ ns : List Int, (∀ i, i ∈ ns → 0 ≤ i ∧ i < 10 ^ 33) → PyData.weightAll (ns.map PyData.int) ≤ 112 * ns.length := fun ns => by
    induction ns with
    | nil => intro _; simp [PyData.weightAll]
    | cons z zs ih =>
      intro h
      have hz := h z (List.mem_cons_self ..)
      have hl := log_big hz.1 hz.2
      have i2 := ih fun x hx => h x (List.mem_cons_of_mem _ hx)
      simp only [List.map_cons, PyData.weightAll, PyData.weight, List.length_cons]
      split <;> omega
  have dp : ∀ ns : List Int, PyData.depthAll (ns.map PyData.int) = 0 := fun ns => by
    induction ns with
    | nil => simp [PyData.depthAll]
    | cons z zs ih => simp [PyData.depthAll, PyData.depth, ih]
  have sw : ∀ ns : List Int, (∀ i, i ∈ ns → 0 ≤ i ∧ i < 10 ^ 33) → PyData.showableAll (ns.map PyData.int) = true := fun ns => by
    induction ns with
    | nil => intro _; simp [PyData.showableAll]
    | cons z zs ih =>
      intro h
      have hz := h z (List.mem_cons_self ..)
      have hl := log_big hz.1 hz.2
      simp only [List.map_cons, PyData.showableAll, PyData.showable, ih fun x hx => h x (List.mem_cons_of_mem _ hx), Bool.and_true]
      exact decide_eq_true (by omega)
  have sl := log_big sb.1 sb.2
  refine ⟨?_, ?_, ?_⟩
  · simp only [toldC, PyData.showable, PyData.showableAll, sw ns big, Bool.and_true, Bool.true_and]
    exact decide_eq_true (by omega)
  · have lf : (toldC ns).leavesShort 40 = true := by
      simp only [toldC, PyData.leavesShort, PyData.leavesShortAll, lv ns big, Bool.true_and, Bool.and_true]
      exact decide_eq_true (shown_big sb.1 sb.2)
    have h := PyData.shown_le 40 (by decide) (toldC ns) lf
    have w : (toldC ns).weight ≤ 1200 := by
      have := wt ns big
      simp only [toldC, PyData.weight, PyData.weightAll]
      split <;> omega
    rw [sizeLine_eq]
    omega
  · simp only [toldC, PyData.depth, PyData.depthAll, dp]
    decide
theorem Good.strOk {y : Str} {ys : List Str} (G : Good ys y) : ∀ z, z ∈ ys → PyData.strOk z = true := fun z hz => by
  unfold PyData.strOk
  rw [← Array.all_toList, List.all_eq_true]
  intro c hc
  have := (G.let_.perm (G.lot.of z hz)).2 c hc
  exact decide_eq_true (by omega)
theorem Good.sizes {y : Str} {ys : List Str} (G : Good ys y) : ∀ z, z ∈ ys → z.cps.size = y.cps.size := fun z hz => by
  rw [← Array.length_toList, (G.lot.of z hz).length_eq, Array.length_toList]
section
variable {P : Program} {w : World} {K : PySem.W.Frag} {mg : Str → Option Value} {base : Heap} {C Cr : Addr}
theorem mk_roll {Q : VK} {E : XK} {H : Hp} {p x dx : Addr} {ys : List Str} {y : Str} (ep : H p = some (.tup (ys.map V.str))) (G : Good ys y) (nx : H x = none) (nd : H dx = none) (q : ∀ H', Same H H' → RollAt C H' x p (tidy y) → Q .non H') :
    spIni K C [.ref x, .ref p] (upd (upd H dx (.own x)) x (.ins C dx [])) Q E := by
  have m : Same H (upd (upd H dx (.own x)) x (.ins C dx [])) := fun b o e => by rw [upd_ne (ne_of_none e nx), upd_ne (ne_of_none e nd)]; exact e
  exact ⟨x, p, dx, ys, y, rfl, upd_same, SqT.of (m _ _ ep), .base (.tup (m _ _ ep)), G, fun H' k r => q H' (fun b o e => k b o (ne_of_none e nx) (m _ _ e)) r⟩
theorem mk_crowd {Q : VK} {E : XK} {H : Hp} {r t n x dx : Addr} {z : Str} {ys : List Str} {ns : List Int} (hr : RollAt C H r t z) (ht : H t = some (.tup (ys.map V.str))) (hn : H n = some (.tup (ns.map V.int))) (len : ns.length = ys.length) (few : ys.length ≤ 60) (pos : ∀ i, i ∈ ns → 0 ≤ i) (s0 : 0 < ns.sum)
    (nx : H x = none) (nd : H dx = none) (q : ∀ H', Same H H' → CrAt Cr H' x r n ns.sum → NoF Cr H' x → Q .non H') :
    spCIn K C Cr [.ref x, .ref r, .ref n] (upd (upd H dx (.own x)) x (.ins Cr dx [])) Q E := by
  have m : Same H (upd (upd H dx (.own x)) x (.ins Cr dx [])) := fun b o e => by rw [upd_ne (ne_of_none e nx), upd_ne (ne_of_none e nd)]; exact e
  have rx : r ≠ x := fun e => by
    obtain ⟨_, _, h, _⟩ := hr
    rw [e, nx] at h
    cases h
  exact ⟨x, r, n, t, dx, z, ys, ns, rfl, upd_same, hr.same m, rx, SqT.of (m _ _ ht), SqT.of (m _ _ hn), .base (.tup (m _ _ hn)), len, few, pos, by omega, fun H' k c nf => q H' (fun b o e => k b o (ne_of_none e nx) (m _ _ e)) c nf⟩
/-- a crowd over these orders with these numbers -/
def CrdAt (C Cr : Addr) (H : Hp) (c : Addr) (ys : List Str) (ns : List Int) : Prop := ∃ (r n t : Addr) (z : Str), CrAt Cr H c r n ns.sum ∧ RollAt C H r t z ∧ H t = some (.tup (ys.map V.str)) ∧ H n = some (.tup (ns.map V.int)) ∧ ∀ y, y ∈ ys → PyData.strOk y = true
theorem CrdAt.same {H H' : Hp} {c : Addr} {ys : List Str} {ns : List Int} (h : CrdAt C Cr H c ys ns) (s : Same H H') : CrdAt C Cr H' c ys ns := by
  obtain ⟨r, n, t, z, h1, h2, h3, h4, h5⟩ := h
  exact ⟨r, n, t, z, h1.same s, h2.same s, s _ _ h3, s _ _ h4, h5⟩
theorem off_jar {H : Hp} {j b : Addr} {o : HO} (J : Jar H j) (h : H b = some o) (no : ∀ xs, o ≠ .lst xs) : b ≠ j := fun e => by
  obtain ⟨_, _, _, w, _⟩ := J
  rw [e, w] at h
  exact no _ (Option.some.inj h).symm
theorem CrdAt.kp {j : Addr} {H H' : Hp} {c : Addr} {ys : List Str} {ns : List Int} (J : Jar H j) (k : Kp j H H') (h : CrdAt C Cr H c ys ns) : CrdAt C Cr H' c ys ns := by
  obtain ⟨r, n, t, z, ⟨dx, fs, e1, l1⟩, ⟨dx2, fs2, e2, l2⟩, h3, h4, h5⟩ := h
  exact ⟨r, n, t, z, ⟨dx, fs, k _ _ (off_jar J e1 fun _ => nofun) e1, l1⟩, ⟨dx2, fs2, k _ _ (off_jar J e2 fun _ => nofun) e2, l2⟩, k _ _ (off_jar J h3 fun _ => nofun) h3, k _ _ (off_jar J h4 fun _ => nofun) h4, h5⟩
/-- what `==` of two crowds asks -/
theorem ceq_of {H : Hp} {c c2 : Addr} {ys zs : List Str} {ns ms : List Int} {Q : VK} {E : XK} (h : CrdAt C Cr H c ys ns) (h2 : CrdAt C Cr H c2 zs ms) (q : Q (.bl (decide (ys = zs) && decide (ns = ms))) H) : spCEq K C Cr [.ref c, .ref c2] H Q E := by
  obtain ⟨r, n, t, z, a1, a2, a3, a4, a5⟩ := h
  obtain ⟨r2, n2, t2, z2, b1, b2, b3, b4, b5⟩ := h2
  exact ⟨c, r, n, _, _, rfl, a1, .inl ⟨c2, r2, n2, t, t2, _, z, z2, ys, zs, ns, ms, rfl, b1, a2, b2, SqT.of a3, SqT.of b3, a5, b5, SqT.of a4, SqT.of b4, q⟩⟩
theorem CrdAt.ty {H : Hp} {c : Addr} {ys : List Str} {ns : List Int} (RC : CrC K mg Cr) (h : CrdAt C Cr H c ys ns) : TyX K H (.ref c) (.ref Cr) := by
  obtain ⟨r, n, t, z, h1, _⟩ := h
  exact crowd_ty RC h1
theorem CrdAt.ins {H : Hp} {c : Addr} {ys : List Str} {ns : List Int} (h : CrdAt C Cr H c ys ns) : ∃ dx fs, H c = some (.ins Cr dx fs) := by
  obtain ⟨r, n, t, z, ⟨dx, fs, e, _⟩, _⟩ := h
  exact ⟨dx, fs, e⟩
end
end L2.Cal
end

section
set_option maxRecDepth 100000
set_option maxHeartbeats 4000000
set_option synthInstance.maxHeartbeats 400000
namespace L2.Cal
open PySem PySem.Spec PyProof.Rows L2
abbrev sChT : Stmt := topS 41
theorem scChT : FnScope ["things", "thing"] ["things", "thing"] (defScope sChT) := ⟨rfl, rfl, rfl, by decide +kernel, rfl, by decide +kernel, by decide +kernel⟩
abbrev sAbv : Stmt := crS 5
theorem scAbv : FnScope ["self", "thing", "other"] ["self", "thing", "other"] (defScope sAbv) := ⟨rfl, rfl, rfl, by decide +kernel, rfl, by decide +kernel, by decide +kernel⟩
abbrev sBts : Stmt := crS 6
theorem scBts : FnScope ["self", "thing", "other"] ["self", "thing", "other"] (defScope sBts) := ⟨rfl, rfl, rfl, by decide +kernel, rfl, by decide +kernel, by decide +kernel⟩
abbrev sAb_ : Stmt := crS 13
theorem scAb_ : FnScope ["self", "thing", "other", "order", "number"] ["self", "thing", "other"] (defScope sAb_) := ⟨rfl, rfl, rfl, by decide +kernel, rfl, by decide +kernel, by decide +kernel⟩
theorem takes_never {X : Cx} : Takes X (fun _ _ _ _ => False) := fun u s' h => by
  obtain ⟨_, _, _, _, h⟩ := h
  simp at h
/-- a thing: a text of one letter -/
def chS (c : Nat) : Str := ⟨#[c]⟩
def spChT : Sp := fun vs H Q _ => ∃ (z : Str) (c : Nat), vs = [.str z, .str (chS c)] ∧ c ∈ z.cps.toList ∧ Q .non H
/-- the first thing stands ahead of the other one -/
def aheadS (y : Str) (a b : Nat) : Bool := match Txt.index0 y (chS a), Txt.index0 y (chS b) with
  | some i, some j => decide (i < j)
  | _, _ => false
/-- how many put the one thing above the other one -/
def abvL (l : List (Str × Int)) (a b : Nat) : List Int := (l.filter fun p => aheadS p.1 a b).map Prod.snd
def abv (ys : List Str) (ns : List Int) (a b : Nat) : Int := (abvL (ys.zip ns) a b).sum
theorem walk_zipT {K : PySem.W.Frag} {a b : Addr} {xs ys : List V} (hn : ys.length = xs.length) : Walk (RZ.ItzT K a b) xs.length (fun H => SqT K H a xs ∧ SqT K H b ys) (YPair (fun i => xs[i]?) (fun i => ys[i]?)) :=
  ⟨fun i H hi hq => ⟨xs, ys, _, _, hq.1, hq.2, List.getElem?_eq_getElem hi, List.getElem?_eq_getElem (by omega)⟩, fun H hq => ⟨xs, ys, hq.1, hq.2, .inl (Nat.le_refl _)⟩, fun i H v H' hi hq ⟨T, x, y, e1, e2, e3, e4, e5⟩ => ⟨T, x, y, e1, e2, e3, e4 xs hq.1, e5 ys hq.2⟩⟩
section
variable {P : Program} {w : World} {K : PySem.W.Frag} {mg : Str → Option Value} {base : Heap} {C Cr : Addr}
theorem ok_chT {f : Addr} {fd : FuncData} (D : DefAt K mg "check_thing" sChT ["things", "thing"] f fd) (T : Txt mg) : FnOk P w K mg base CX0 1 f fd ["things", "thing"] spChT := by
  refine D.F.ok scChT (fun vs H Q E h => ?_) (fun cdv A outer sh H vs Q E hr h => ?_)
  · obtain ⟨z, c, rfl, _⟩ := h
    rfl
  · obtain ⟨z, c, rfl, hc, q⟩ := h
    refine ⟨_, pss_one (ps_if (PW.pt (pw_or (pt_not (pt_val (pe_callB call_isi (by rfl) T.b_isinstance (by decide +kernel) (pa_cons (pv 1) (pa_cons (pe_bty (n := "str") (by rfl) T.b_str (by decide +kernel)) pa_nil))))) (pw_or (pt_cmpR op_ne (pe_callB call_len_str (by rfl) T.b_len (by decide +kernel) (pa_cons (pv 1) pa_nil)) pe_int (nomark _)) (pw_or1 (pt_cmpR op_notin_str (pv 1) (pv 0) (by rfl)))))) (pss_one ps_never) pss_nil), ?_⟩
    refine ⟨_, rfl, .str (chS c), .ty "str", .type "str", .type "str", true, rfl, .ty _, .base (.str _), rfl, true, rfl, iteF ?_⟩
    have fo : (!(Builtin.Str.occurrences z (chS c) 0 z.length 1).isEmpty) = true := (PySem.StrLaws.found_one z c).trans (decide_eq_true hc)
    refine ⟨_, rfl, chS c, rfl, (by show 1 ≤ sizeLine; decide), rfl, _, rfl, ite2 (fun e => ?_) (fun _ => ?_)⟩
    · rw [show (chS c).length = 1 from rfl] at e
      exact absurd e (by decide)
    · refine ⟨_, rfl, _, rfl, _, _, rfl, rfl, false, ?_, iteF q⟩
      show V.bl (!_) = V.bl false
      rw [fo] <;> rfl
/-- what `_above` is asked: the roll's orders and the crowd's numbers, each order with both things -/
def spAb_ (K : PySem.W.Frag) (C Cr : Addr) : Sp := fun vs H Q _ => ∃ (c : Addr) (ys : List Str) (ns : List Int) (a b : Nat), vs = [.ref c, .str (chS a), .str (chS b)] ∧ CrdAt C Cr H c ys ns ∧ ns.length = ys.length ∧ ys.length ≤ 48 ∧ (∀ y, y ∈ ys → (∃ i, Txt.index0 y (chS a) = some i) ∧ ∃ i, Txt.index0 y (chS b) = some i) ∧
  ∀ H', Same H H' → Q (.int (abv ys ns a b)) H'
theorem ok_ab_ {f fO : Addr} {fd fdO : FuncData} {pO : Addr} (F : Fun K "_above" "Crowd._above" sAb_ f fd) (PO : PropOf K C "orders" pO fO) (FO : Fun K "orders" "Roll.orders" sOrd fO fdO) (bO : Binds K fdO ["self"] []) (bsum : mg "sum" = none) (bzip : mg "zip" = none) (T : Txt mg) (R : RollC K mg C) (RC : CrC K mg Cr) :
    FnOk P w K mg base CX0 3 f fd ["self", "thing", "other"] (spAb_ K C Cr) := by
  have GO : FnOk P w K mg base CX0 1 fO fdO ["self"] (spOrd C) := ok_ord FO R
  refine F.ok scAb_ (fun vs H Q E h => ?_) (fun cdv A outer sh H vs Q E hr h => ?_)
  · obtain ⟨c, ys, ns, a, b, rfl, _⟩ := h
    rfl
  · obtain ⟨c, ys, ns, a, b, rfl, hc, len, few, fnd, q⟩ := h
    refine ⟨_, pss_one (ps_ret (pe_callB (call_sumI rfl) (by rfl) bsum (by decide +kernel) (pa_cons (pe_lc (own := [("order", 3), ("number", 4)]) (g := gTup K 2 (gCons (gName 3) (gCons (gName 4) gNil))) (tt := _) rfl scAb_.nd (RZ.pi_zipA (by rfl) bzip (pa_cons (pe_prop (pe_fld (pv 0) rfl) R.cls PO GO (hr.mono (by decide)) bO .nil pass0 rfl) (pa_cons (pe_fld (pv 0) rfl) pa_nil)))
      (blkOk_by (own := [("order", 3), ("number", 4)]) (N := ["self", "thing", "other", "order", "number"]) (sc := defScope sAb_) (by decide +kernel))
      (fun _ _ _ _ _ => pg_tup rfl (pgs_cons (pg_name (i := 3) scAb_.nd rfl (Or.inl rfl)) (pgs_cons (pg_name (i := 4) scAb_.nd rfl (Or.inl rfl)) pgs_nil))) (fun _ _ _ _ _ => pts_one (show PT _ _ (tTest (tOp _ (tBMS K "str" (rIndexX fun _ _ _ _ => False) (tVar 3) (tCons (tVar 1) tNil)) (tBMS K "str" (rIndexX fun _ _ _ _ => False) (tVar 3) (tCons (tVar 2) tNil)))) from pt_cmpR op_lt (pe_bmS PySem.F.plainAttrs_str PySem.F.slot_str_index PySem.F.type_str_index (mt_indexX rfl takes_never) (pv 3) (pa_cons (pv 1) pa_nil)) (pe_bmS PySem.F.plainAttrs_str PySem.F.slot_str_index PySem.F.type_str_index (mt_indexX rfl takes_never) (pv 3) (pa_cons (pv 2) pa_nil)) (nomark _))) (fun _ _ _ _ _ => pv 4)) pa_nil))), ?_⟩
    obtain ⟨dx, fs, e1⟩ := hc.ins
    obtain ⟨r, n, t, z, ⟨dx', fs', e1', l1, l2, l3⟩, ra, ht, hn, so⟩ := id hc
    obtain ⟨dr, fr, hr1, _⟩ := id ra
    have len2 : (ns.map V.int).length = (ys.map V.str).length := by rw [List.length_map, List.length_map, len]
    refine ⟨_, rfl, c, Cr, dx', fs', _, rfl, e1', RC.cls, RC.no1, l1, r, dr, fr, rfl, hr1, r, t, z, rfl, ra, _, rfl, c, Cr, dx', fs', _, rfl, e1', RC.cls, RC.no2, l2, t, n, _, _, rfl, .inr ⟨SqT.of ht, SqT.of hn, fun D nD => lc_it (walk_zipT (xs := ys.map V.str) (ys := ns.map V.int) len2) (fun i H' => Same H H' ∧ H' D = some (.lst ((abvL ((ys.zip ns).take i) a b).map V.int))) ⟨same_new nD, upd_same⟩ (fun i H' _ hP => ⟨SqT.of (hP.1 _ _ ht), SqT.of (hP.1 _ _ hn)⟩) (fun i x H1 H2 hi hP hY => ?_) (fun H1 hP => ?_)⟩⟩
    · obtain ⟨sm, eD⟩ := hP
      obtain ⟨T0, x1, y1, rfl, nT, rfl, g1, g2⟩ := hY
      have hi' : i < ys.length := by rw [List.length_map] at hi; exact hi
      have hn' : i < ns.length := by omega
      have g1 : (ys.map V.str)[i]? = some x1 := g1
      have g2 : (ns.map V.int)[i]? = some y1 := g2
      rw [List.getElem?_map, List.getElem?_eq_getElem hi'] at g1
      rw [List.getElem?_map, List.getElem?_eq_getElem hn'] at g2
      cases g1
      cases g2
      have tk : (ys.zip ns).take (i + 1) = (ys.zip ns).take i ++ [(ys[i], ns[i])] := by
        rw [List.take_succ, List.getElem?_eq_getElem (by rw [List.length_zip]; omega), List.getElem_zip] <;> rfl
      obtain ⟨⟨ka, ea⟩, kb, eb⟩ := fnd ys[i] (List.getElem_mem hi')
      have small : (abvL ((ys.zip ns).take i) a b).length < sizeLine := by
        unfold abvL
        rw [List.length_map]
        refine Nat.lt_of_le_of_lt (List.length_filter_le _ _) ?_
        rw [List.length_take, List.length_zip, sizeLine_eq]
        omega
      have sm2 : Same H (upd H1 T0 (.tup [.str ys[i], .int ns[i]])) := fun v o e => by
        rw [upd_ne (ne_of_none (sm _ _ e) nT)]
        exact sm _ _ e
      have DT : D ≠ T0 := fun z => by
        rw [z, nT] at eD
        cases eD
      have eD2 : (upd H1 T0 (.tup [.str ys[i], .int ns[i]])) D = some (.lst ((abvL ((ys.zip ns).take i) a b).map V.int)) := by rw [upd_ne DT]; exact eD
      have ah : aheadS ys[i] a b = decide (ka < kb) := by
        unfold aheadS
        rw [ea, eb]
      refine ⟨T0, _, rfl, SqT.of upd_same, rfl, _, _, rfl, _, _, rfl, rfl, ?_⟩
      refine ⟨rfl, _, rfl, rfl, _, rfl, ys[i], chS a, rfl, rfl, fun k hk => ?_, fun no => by rw [ea] at no; cases no⟩
      rw [ea] at hk
      cases hk
      refine ⟨_, rfl, rfl, _, rfl, ys[i], chS b, rfl, rfl, fun k hk => ?_, fun no => by rw [eb] at no; cases no⟩
      rw [eb] at hk
      cases hk
      refine ⟨_, _, rfl, rfl, _, rfl, ite2 (fun e => ?_) (fun e => ?_)⟩
      · have lt : ka < kb := by
          have := of_decide_eq_true e
          omega
        rw [decide_eq_true lt] at ah
        refine ⟨_, rfl, _, eD2, by rw [List.length_map]; exact small, fun v o e => ?_, ?_⟩
        · rw [upd_ne (ne_of_none e nD)]
          exact sm2 _ _ e
        · rw [upd_same, tk]
          unfold abvL
          rw [List.filter_append, List.filter_cons, if_pos ah, List.map_append, List.map_append] <;> rfl
      · have ge : ¬ ka < kb := fun lt => e (decide_eq_true (by omega))
        rw [decide_eq_false ge] at ah
        refine ⟨sm2, ?_⟩
        rw [eD2, tk]
        unfold abvL
        rw [List.filter_append, List.filter_cons, if_neg (by rw [ah]; exact Bool.false_ne_true), List.filter_nil, List.append_nil]
    · obtain ⟨sm, eD⟩ := hP
      rw [List.take_of_length_le (by rw [List.length_zip, List.length_map]; omega)] at eD
      exact ⟨D, _, rfl, .inl (SqL.of eD), q _ sm⟩
end
end L2.Cal
end

section
set_option maxRecDepth 100000
set_option maxHeartbeats 4000000
set_option synthInstance.maxHeartbeats 400000
namespace L2.Cal
open PySem PySem.Spec PyProof.Rows L2
/-- a crowd whose roll's things are z -/
def CrdZ (C Cr : Addr) (H : Hp) (c : Addr) (z : Str) (ys : List Str) (ns : List Int) : Prop := CrdAt C Cr H c ys ns ∧ ∃ (dx : Addr) (fs : List (Str × V)) (r t : Addr), H c = some (.ins Cr dx fs) ∧ fs.lookup ("_roll" : Str) = some (.ref r) ∧ (∀ m : Str, m ≠ "_roll" → m ≠ "_numbers" → m ≠ "_people" → fs.lookup m = none) ∧ RollAt C H r t z
theorem CrdZ.same {C Cr : Addr} {H H' : Hp} {c : Addr} {z : Str} {ys : List Str} {ns : List Int} (h : CrdZ C Cr H c z ys ns) (s : Same H H') : CrdZ C Cr H' c z ys ns := by
  obtain ⟨a, dx, fs, r, t, e, l, no, ra⟩ := h
  exact ⟨a.same s, dx, fs, r, t, s _ _ e, l, no, ra.same s⟩
/-- what `above` and `beats` are asked -/
structure Ask (z : Str) (ys : List Str) (ns : List Int) (a b : Nat) : Prop where
  ha : a ∈ z.cps.toList
  hb : b ∈ z.cps.toList
  len : ns.length = ys.length
  few : ys.length ≤ 48
  fnd : ∀ y, y ∈ ys → (∃ i, Txt.index0 y (chS a) = some i) ∧ ∃ i, Txt.index0 y (chS b) = some i
theorem Ask.swap {z : Str} {ys : List Str} {ns : List Int} {a b : Nat} (h : Ask z ys ns a b) : Ask z ys ns b a := ⟨h.hb, h.ha, h.len, h.few, fun y hy => ⟨(h.fnd y hy).2, (h.fnd y hy).1⟩⟩
def spAbv (C Cr : Addr) : Sp := fun vs H Q _ => ∃ (c : Addr) (z : Str) (ys : List Str) (ns : List Int) (a b : Nat), vs = [.ref c, .str (chS a), .str (chS b)] ∧ CrdZ C Cr H c z ys ns ∧ Ask z ys ns a b ∧ ∀ H', Same H H' → Q (.int (abv ys ns a b)) H'
def spBts (C Cr : Addr) : Sp := fun vs H Q _ => ∃ (c : Addr) (z : Str) (ys : List Str) (ns : List Int) (a b : Nat), vs = [.ref c, .str (chS a), .str (chS b)] ∧ CrdZ C Cr H c z ys ns ∧ Ask z ys ns a b ∧ ∀ H', Same H H' → Q (.bl (decide (abv ys ns a b > abv ys ns b a))) H'
section
variable {P : Program} {w : World} {K : PySem.W.Frag} {mg : Str → Option Value} {base : Heap} {C Cr : Addr}
theorem ok_abv {f fO fA fT fK : Addr} {fd fdO fdA fdT fdK : FuncData} {pO pT : Addr} (F : Fun K "above" "Crowd.above" sAbv f fd) (FA : Fun K "_above" "Crowd._above" sAb_ fA fdA) (mA : Meth K Cr "_above" fA) (bA : Binds K fdA ["self", "thing", "other"] []) (DK : DefAt K mg "check_thing" sChT ["things", "thing"] fK fdK)
    (PT : PropOf K C "things" pT fT) (FT : Fun K "things" "Roll.things" sThi fT fdT) (bT : Binds K fdT ["self"] []) (PO : PropOf K C "orders" pO fO) (FO : Fun K "orders" "Roll.orders" sOrd fO fdO) (bO : Binds K fdO ["self"] []) (bsum : mg "sum" = none) (bzip : mg "zip" = none) (T : Txt mg) (R : RollC K mg C) (RC : CrC K mg Cr) :
    FnOk P w K mg base CX0 4 f fd ["self", "thing", "other"] (spAbv C Cr) := by
  have GT : FnOk P w K mg base CX0 1 fT fdT ["self"] (spThi C) := ok_thi FT R
  have GK : FnOk P w K mg base CX0 1 fK fdK ["things", "thing"] spChT := ok_chT DK T
  have GA : FnOk P w K mg base CX0 3 fA fdA ["self", "thing", "other"] (spAb_ K C Cr) := ok_ab_ FA PO FO bO bsum bzip T R RC
  refine F.ok scAbv (fun vs H Q E h => ?_) (fun cdv A outer sh H vs Q E hr h => ?_)
  · obtain ⟨c, z, ys, ns, a, b, rfl, _⟩ := h
    rfl
  · obtain ⟨c, z, ys, ns, a, b, rfl, hz, as, q⟩ := h
    refine ⟨_, pss_cons (ps_expr (pe_call GK (hr.mono (by decide)) (by rfl) DK.g DK.F.kp DK.b .nil pass0 (pa_cons (pe_prop (pe_fld (pv 0) rfl) R.cls PT GT (hr.mono (by decide)) bT .nil pass0 rfl) (pa_cons (pv 1) pa_nil))))
      (pss_cons (ps_expr (pe_call GK (hr.mono (by decide)) (by rfl) DK.g DK.F.kp DK.b .nil pass0 (pa_cons (pe_prop (pe_fld (pv 0) rfl) R.cls PT GT (hr.mono (by decide)) bT .nil pass0 rfl) (pa_cons (pv 2) pa_nil))))
      (pss_one (ps_ret (pe_meth (pv 0) RC.cls mA GA (hr.mono (by decide)) bA .nil pass0 (pa_cons (pv 1) (pa_cons (pv 2) pa_nil)))))), ?_⟩
    obtain ⟨hc, dx, fs, r, t, e, l, no, ra⟩ := id hz
    obtain ⟨dr, fr, hr1, _⟩ := id ra
    refine ⟨_, rfl, c, Cr, dx, fs, _, rfl, e, RC.cls, RC.no1, l, r, dr, fr, rfl, hr1, r, t, z, rfl, ra, _, rfl, z, a, rfl, as.ha, ?_⟩
    refine ⟨_, rfl, c, Cr, dx, fs, _, rfl, e, RC.cls, RC.no1, l, r, dr, fr, rfl, hr1, r, t, z, rfl, ra, _, rfl, z, b, rfl, as.hb, ?_⟩
    exact ⟨_, rfl, c, dx, fs, rfl, e, no _ (by decide) (by decide) (by decide), _, rfl, _, rfl, c, ys, ns, a, b, rfl, hc, as.len, as.few, as.fnd, q⟩
theorem ok_bts {f fO fA fT fK : Addr} {fd fdO fdA fdT fdK : FuncData} {pO pT : Addr} (F : Fun K "beats" "Crowd.beats" sBts f fd) (FA : Fun K "_above" "Crowd._above" sAb_ fA fdA) (mA : Meth K Cr "_above" fA) (bA : Binds K fdA ["self", "thing", "other"] []) (DK : DefAt K mg "check_thing" sChT ["things", "thing"] fK fdK)
    (PT : PropOf K C "things" pT fT) (FT : Fun K "things" "Roll.things" sThi fT fdT) (bT : Binds K fdT ["self"] []) (PO : PropOf K C "orders" pO fO) (FO : Fun K "orders" "Roll.orders" sOrd fO fdO) (bO : Binds K fdO ["self"] []) (bsum : mg "sum" = none) (bzip : mg "zip" = none) (T : Txt mg) (R : RollC K mg C) (RC : CrC K mg Cr) :
    FnOk P w K mg base CX0 4 f fd ["self", "thing", "other"] (spBts C Cr) := by
  have GT : FnOk P w K mg base CX0 1 fT fdT ["self"] (spThi C) := ok_thi FT R
  have GK : FnOk P w K mg base CX0 1 fK fdK ["things", "thing"] spChT := ok_chT DK T
  have GA : FnOk P w K mg base CX0 3 fA fdA ["self", "thing", "other"] (spAb_ K C Cr) := ok_ab_ FA PO FO bO bsum bzip T R RC
  refine F.ok scBts (fun vs H Q E h => ?_) (fun cdv A outer sh H vs Q E hr h => ?_)
  · obtain ⟨c, z, ys, ns, a, b, rfl, _⟩ := h
    rfl
  · obtain ⟨c, z, ys, ns, a, b, rfl, hz, as, q⟩ := h
    refine ⟨_, pss_cons (ps_expr (pe_call GK (hr.mono (by decide)) (by rfl) DK.g DK.F.kp DK.b .nil pass0 (pa_cons (pe_prop (pe_fld (pv 0) rfl) R.cls PT GT (hr.mono (by decide)) bT .nil pass0 rfl) (pa_cons (pv 1) pa_nil))))
      (pss_cons (ps_expr (pe_call GK (hr.mono (by decide)) (by rfl) DK.g DK.F.kp DK.b .nil pass0 (pa_cons (pe_prop (pe_fld (pv 0) rfl) R.cls PT GT (hr.mono (by decide)) bT .nil pass0 rfl) (pa_cons (pv 2) pa_nil))))
      (pss_one (ps_ret (pe_cmpR op_gt (pe_meth (pv 0) RC.cls mA GA (hr.mono (by decide)) bA .nil pass0 (pa_cons (pv 1) (pa_cons (pv 2) pa_nil))) (pe_meth (pv 0) RC.cls mA GA (hr.mono (by decide)) bA .nil pass0 (pa_cons (pv 2) (pa_cons (pv 1) pa_nil))) (nomark _))))), ?_⟩
    obtain ⟨hc, dx, fs, r, t, e, l, no, ra⟩ := id hz
    obtain ⟨dr, fr, hr1, _⟩ := id ra
    refine ⟨_, rfl, c, Cr, dx, fs, _, rfl, e, RC.cls, RC.no1, l, r, dr, fr, rfl, hr1, r, t, z, rfl, ra, _, rfl, z, a, rfl, as.ha, ?_⟩
    refine ⟨_, rfl, c, Cr, dx, fs, _, rfl, e, RC.cls, RC.no1, l, r, dr, fr, rfl, hr1, r, t, z, rfl, ra, _, rfl, z, b, rfl, as.hb, ?_⟩
    refine ⟨_, rfl, c, dx, fs, rfl, e, no _ (by decide) (by decide) (by decide), _, rfl, _, rfl, c, ys, ns, a, b, rfl, hc, as.len, as.few, as.fnd, fun H1 s1 => ?_⟩
    exact ⟨_, rfl, c, dx, fs, rfl, s1 _ _ e, no _ (by decide) (by decide) (by decide), _, rfl, _, rfl, c, ys, ns, b, a, rfl, hc.same s1, as.len, as.few, as.swap.fnd, fun H2 s2 => ⟨_, _, rfl, rfl, q _ (s1.trans s2)⟩⟩
end
end L2.Cal
end

section
set_option maxRecDepth 100000
set_option maxHeartbeats 4000000
set_option synthInstance.maxHeartbeats 400000
namespace L2.Cal
open PySem PySem.Spec PyProof.Rows L2
abbrev sBtn : Stmt := crS 14
theorem scBtn : FnScope ["self", "things", "thing", "other"] ["self"] (defScope sBtn) := ⟨rfl, rfl, rfl, by decide +kernel, rfl, by decide +kernel, by decide +kernel⟩
abbrev sWin : Stmt := crS 8
theorem scWin : FnScope ["self", "beaten", "thing"] ["self"] (defScope sWin) := ⟨rfl, rfl, rfl, by decide +kernel, rfl, by decide +kernel, by decide +kernel⟩
/-- len of a dict, also of one that is walked along -/
theorem call_lenR {X : Cx} : CallR X (.builtin "len") (fun xs H Q => ∃ a kvs, xs = [V.ref a] ∧ Rd H a (.dK kvs) ∧ Q (.int ((kvs.length : Nat) : Int)) H) := by
  intro pins s σ H xs us Q I r h
  obtain ⟨a, kvs, rfl, ha, q⟩ := h
  obtain ⟨u, rfl, ru⟩ := vals1 r
  cases ru
  exact d_len I ha fun t s' I' => ⟨.int kvs.length, H, I', ⟨t, rfl⟩, q⟩
theorem dc_it {J : It} {n : Nat} {G : Hp → Prop} {Y : Nat → Hp → V → Hp → Prop} (w : Walk J n G Y) {g : TG} {tt : TT} {tk tv : TE} {vs : List Nat} {σ : St} {H1 : Hp} {D : Addr} {Qd : Hp → Prop} (Pv : Nat → Hp → Prop)
    (h0 : Pv 0 (upd H1 D (.dK []))) (hl : ∀ i H, i ≤ n → Pv i H → G H)
    (hs : ∀ i x H H', i < n → Pv i H → Y i H x H' → g x (wipe σ vs) H' fun σ2 H2 => wipe σ2 vs = wipe σ vs ∧ tt σ2 H2 fun b H3 => if b = true then tk σ2 H3 fun y H4 => tv σ2 H4 fun z H5 => ∃ kvs k, y = kV k ∧ H5 D = some (.dK kvs) ∧ kvs.length < sizeLine ∧ Pv (i + 1) (upd H5 D (.dK (putK kvs k z))) else Pv (i + 1) H3)
    (hd : ∀ H, Pv n H → Qd H) :
    ∃ W : Nat → Nat → Hp → Prop, (∃ m, W 0 m (upd H1 D (.dK []))) ∧ ∀ i m H, W i m H → (J.stop i H ∧ Qd H) ∨ (J.go i H ∧ ∃ Nx : Hp → Prop, (∀ H', Nx H' → ∃ m', m' < m ∧ W (i + 1) m' H') ∧ ∀ x H', J.yld i H x H' → g x (wipe σ vs) H' fun σ2 H2 => wipe σ2 vs = wipe σ vs ∧ tt σ2 H2 fun b H3 => if b = true then tk σ2 H3 fun y H4 => tv σ2 H4 fun z H5 => ∃ kvs k, y = kV k ∧ H5 D = some (.dK kvs) ∧ kvs.length < sizeLine ∧ Nx (upd H5 D (.dK (putK kvs k z))) else Nx H3) := by
  obtain ⟨g1, g2, g3⟩ := w
  refine ⟨fun i m H => i ≤ n ∧ m = n - i ∧ Pv i H, ⟨n, Nat.zero_le _, rfl, h0⟩, fun i m H hW => ?_⟩
  obtain ⟨hi, rfl, hp⟩ := hW
  by_cases e : i = n
  · subst e
    exact .inl ⟨g2 H (hl _ _ hi hp), hd _ hp⟩
  · have lt : i < n := by omega
    have gh := hl _ _ hi hp
    exact .inr ⟨g1 i H lt gh, Pv (i + 1), fun H' h => ⟨n - (i + 1), by omega, by omega, rfl, h⟩, fun x H' y => hs i x H H' lt hp (g3 i H x H' lt gh y)⟩
/-- what a thing beats -/
abbrev rJoinK (K : PySem.W.Frag) : V → List V → Hp → VK → Prop := (fun x xs H Q => ∃ a p, ∃ ys : List Str, x = .str a ∧ xs = [.ref p] ∧ (SqL K H p (ys.map V.str) ∨ SqT K H p (ys.map V.str)) ∧ (ys.map (·.length)).sum + ys.length * a.length ≤ 16777216 ∧ Q (.str (Txt.join a ys)) H)
def btB (ys : List Str) (ns : List Int) (a b : Nat) : Bool := decide (abv ys ns a b > abv ys ns b a)
def btS (z : Str) (ys : List Str) (ns : List Int) (a : Nat) : Str := ⟨(z.cps.toList.filter fun b => btB ys ns a b).toArray⟩
def bkv (z : Str) (ys : List Str) (ns : List Int) (l : List Nat) : List (Key × V) := l.map fun a => (.inr (chS a), V.str (btS z ys ns a))
structure AskAll (z : Str) (ys : List Str) (ns : List Int) : Prop where
  ask : ∀ a b, a ∈ z.cps.toList → b ∈ z.cps.toList → Ask z ys ns a b
  nd : z.cps.toList.Nodup
  z6 : z.cps.size ≤ 6
def spBtn (C Cr : Addr) : Sp := fun vs H Q _ => ∃ (c : Addr) (z : Str) (ys : List Str) (ns : List Int), vs = [.ref c] ∧ CrdZ C Cr H c z ys ns ∧ AskAll z ys ns ∧ ∀ (p : Addr) (H' : Hp), Same H H' → H p = none → H' p = some (.dK (bkv z ys ns z.cps.toList)) → Q (.ref p) H'
/-- the thing that beats all others -/
def winS (z : Str) (ys : List Str) (ns : List Int) : Option Nat := z.cps.toList.find? fun a => decide ((btS z ys ns a).cps.size + 1 = z.cps.size)
def spWin (C Cr : Addr) : Sp := fun vs H Q _ => ∃ (c : Addr) (z : Str) (ys : List Str) (ns : List Int), vs = [.ref c] ∧ CrdZ C Cr H c z ys ns ∧ AskAll z ys ns ∧ ∀ H', Same H H' → Q (match winS z ys ns with | some a => .str (chS a) | none => .non) H'
theorem bkv_val {z : Str} {ys : List Str} {ns : List Int} {a : Nat} : ∀ {l : List Nat}, a ∈ l → valV (bkv z ys ns l) (.inr (chS a)) = some (.str (btS z ys ns a))
  | b :: l, h => by
    by_cases e : b = a
    · subst e
      simp [valV, bkv]
    · have h := (List.mem_cons.mp h).resolve_left fun z => e z.symm
      have := bkv_val (z := z) (ys := ys) (ns := ns) h
      have ne : (Sum.inr (chS b) : Key) ≠ Sum.inr (chS a) := fun z => e (by
        have := Sum.inr.inj z
        simpa [chS] using this)
      unfold valV bkv at this ⊢
      rw [List.map_cons, List.find?_cons, decide_eq_false ne]
      exact this
theorem bkv_put {z : Str} {ys : List Str} {ns : List Int} {a : Nat} {l : List Nat} (h : a ∉ l) : putK (bkv z ys ns l) (.inr (chS a)) (.str (btS z ys ns a)) = bkv z ys ns (l ++ [a]) := by
  have no : ((bkv z ys ns l).any fun kv => decide (kv.1 = .inr (chS a))) = false := by
    rw [List.any_eq_false]
    intro kv hk
    obtain ⟨b, hb, rfl⟩ := List.mem_map.mp hk
    intro e
    have e := Sum.inr.inj (of_decide_eq_true e)
    have : b = a := by simpa [chS] using e
    exact h (this ▸ hb)
  unfold putK
  rw [no]
  unfold bkv
  rw [List.map_append] <;> rfl
section
variable {P : Program} {w : World} {K : PySem.W.Frag} {mg : Str → Option Value} {base : Heap} {C Cr : Addr}
theorem ok_btn {f fB fO fA fT fK : Addr} {fd fdB fdO fdA fdT fdK : FuncData} {pO pT : Addr} (F : Fun K "_beaten" "Crowd._beaten" sBtn f fd) (FB : Fun K "beats" "Crowd.beats" sBts fB fdB) (mB : Meth K Cr "beats" fB) (bB : Binds K fdB ["self", "thing", "other"] []) (FA : Fun K "_above" "Crowd._above" sAb_ fA fdA) (mA : Meth K Cr "_above" fA) (bA : Binds K fdA ["self", "thing", "other"] []) (DK : DefAt K mg "check_thing" sChT ["things", "thing"] fK fdK)
    (PT : PropOf K C "things" pT fT) (FT : Fun K "things" "Roll.things" sThi fT fdT) (bT : Binds K fdT ["self"] []) (PO : PropOf K C "orders" pO fO) (FO : Fun K "orders" "Roll.orders" sOrd fO fdO) (bO : Binds K fdO ["self"] []) (bsum : mg "sum" = none) (bzip : mg "zip" = none) (T : Txt mg) (R : RollC K mg C) (RC : CrC K mg Cr) :
    FnOk P w K mg base CX0 5 f fd ["self"] (spBtn C Cr) := by
  have GT : FnOk P w K mg base CX0 1 fT fdT ["self"] (spThi C) := ok_thi FT R
  have GB : FnOk P w K mg base CX0 4 fB fdB ["self", "thing", "other"] (spBts C Cr) := ok_bts FB FA mA bA DK PT FT bT PO FO bO bsum bzip T R RC
  refine F.ok scBtn (fun vs H Q E h => ?_) (fun cdv A outer sh H vs Q E hr h => ?_)
  · obtain ⟨c, z, ys, ns, rfl, _⟩ := h
    rfl
  · obtain ⟨c, z, ys, ns, rfl, hz, as, q⟩ := h
    have hb : blkC ["self", "things", "thing", "other"] (relS { kind := .function, names := [(".0", .local), ("thing", .cell), ("self", .free), ("things", .free)], isGenerator := false, isCoroutine := false } (defScope sBtn))
        { kind := .function, names := [(".0", .local), ("other", .local), ("self", .free), ("thing", .free)], isGenerator := false, isCoroutine := false } [("other", 3)] = true := by decide +kernel
    refine ⟨_, (pss_cons (ps_set (i := 1) scBtn.nd rfl (.inr rfl) (pe_prop (pe_fld (pv 0) rfl) R.cls PT GT (hr.mono (by decide)) bT .nil pass0 rfl))
      (pss_one (ps_ret (pe_dc (own := [("thing", 2)]) (g := gName 2) (tt := tYes) rfl scBtn.nd (pi_str (pv 1)) (blkOk_by (own := [("thing", 2)]) (N := ["self", "things", "thing", "other"]) (sc := defScope sBtn) (by decide +kernel))
        (fun _ _ _ _ _ => pg_name (i := 2) scBtn.nd rfl (Or.inr rfl)) (fun _ _ _ _ _ => pts_nil) (fun _ _ _ _ _ => pv 2)
        (fun _ _ _ _ _ => show PE _ _ (tM1 (rJoinK K) _ _) from pe_join pe_str (pe_lc (own := [("other", 3)]) (g := gName 3) (tt := _) rfl scBtn.nd (pi_str (pv 1)) (blkOk_by hb) (fun _ _ _ _ _ => pg_name (i := 3) scBtn.nd rfl (Or.inl rfl))
          (fun _ _ _ _ _ => pts_one (pt_val (pe_meth (pv 0) RC.cls mB GB (hr.mono (by decide)) bB .nil pass0 (pa_cons (pv 2) (pa_cons (pv 3) pa_nil))))) (fun _ _ _ _ _ => pv 3))))))), ?_⟩
    obtain ⟨hc, dx, fs, r, t, e, l, no, ra⟩ := id hz
    obtain ⟨dr, fr, hr1, _⟩ := id ra
    have zl : z.cps.toList.length = z.cps.size := Array.length_toList
    have z6 := as.z6
    refine ⟨_, rfl, c, Cr, dx, fs, _, rfl, e, RC.cls, RC.no1, l, r, dr, fr, rfl, hr1, r, t, z, rfl, ra, ?_⟩
    refine ⟨_, rfl, z, rfl, fun D nD => dc_it walk_str (fun i H' => Same H H' ∧ H' D = some (.dK (bkv z ys ns (z.cps.toList.take i)))) ⟨same_new nD, upd_same⟩ (fun _ _ _ _ => trivial) (fun i x H1 H2 hi hP hY => ?_) (fun H1 hP => ?_)⟩
    · obtain ⟨sm, eD⟩ := hP
      obtain ⟨rfl, a, ha, rfl⟩ := hY
      have ea : z.cps.toList[i]? = some a := by rw [Array.getElem?_toList]; exact ha
      have am := List.mem_of_getElem? ea
      refine ⟨rfl, _, rfl, ⟨_, rfl⟩, _, rfl, z, rfl, fun D2 nD2 => lc_it walk_str (fun k H' => Same H2 H' ∧ H' D2 = some (.lst (((z.cps.toList.take k).filter fun b => btB ys ns a b).map fun b => V.str ⟨#[b]⟩))) ⟨same_new nD2, upd_same⟩ (fun _ _ _ _ => trivial) (fun k v H3 H4 hk hP hY => ?_) (fun H3 hP => ?_)⟩
      · obtain ⟨s3', eD2⟩ := hP
        obtain ⟨rfl, b, hb', rfl⟩ := hY
        have eb : z.cps.toList[k]? = some b := by rw [Array.getElem?_toList]; exact hb'
        have bm := List.mem_of_getElem? eb
        have S := sm.trans s3'
        refine ⟨rfl, _, rfl, c, dx, fs, rfl, S _ _ e, no _ (by decide) (by decide) (by decide), _, rfl, _, rfl, c, z, ys, ns, a, b, rfl, hz.same S, as.ask a b am bm, fun H5 s5 => ⟨_, rfl, ite2 (fun e1 => ?_) (fun e1 => ?_)⟩⟩
        · have e1 : btB ys ns a b = true := e1
          refine ⟨_, rfl, _, s5 _ _ eD2, ?_, fun b o h => ?_, ?_⟩
          · rw [List.length_map, sizeLine_eq]
            refine Nat.lt_of_le_of_lt (List.length_filter_le _ _) ?_
            rw [List.length_take]
            omega
          · rw [upd_ne (ne_of_none h nD2)]
            exact s5 _ _ (s3' _ _ h)
          · rw [upd_same, List.take_succ, eb, Option.toList_some, List.filter_append, List.map_append]
            rw [show [b].filter (fun b => btB ys ns a b) = [b] by rw [List.filter_cons, if_pos e1, List.filter_nil]] <;> rfl
        · have e1 : ¬ btB ys ns a b = true := e1
          refine ⟨s3'.trans s5, ?_⟩
          rw [s5 _ _ eD2, List.take_succ, eb, Option.toList_some, List.filter_append]
          rw [show [b].filter (fun b => btB ys ns a b) = [] by rw [List.filter_cons, if_neg e1, List.filter_nil], List.append_nil]
      · obtain ⟨s3', eD2⟩ := hP
        rw [List.take_of_length_le (by omega)] at eD2
        have e2 : H3 D2 = some (.lst ((signs (btS z ys ns a)).map V.str)) := by
          rw [eD2]
          unfold signs btS
          rw [List.map_map] <;> rfl
        have ps : (btS z ys ns a).cps.size ≤ 6 := by
          have := List.length_filter_le (fun b => btB ys ns a b) z.cps.toList
          show (z.cps.toList.filter fun b => btB ys ns a b).length ≤ 6
          omega
        refine ⟨_, D2, _, rfl, rfl, .inl (SqL.of e2), ?_, ?_⟩
        · rw [sign_sum, signs_length, show (PySem.Str.ofString "").length = 0 by decide +kernel]
          omega
        rw [join_signs]
        refine ⟨_, .inr (chS a), rfl, s3' _ _ eD, ?_, fun b o h => ?_, ?_⟩
        · unfold bkv
          rw [List.length_map, List.length_take, sizeLine_eq]
          omega
        · rw [upd_ne (ne_of_none h nD)]
          exact s3' _ _ (sm _ _ h)
        · have nin : a ∉ z.cps.toList.take i := fun h => by
            have nd := as.nd
            rw [← List.take_append_drop i z.cps.toList] at nd
            have hd : a ∈ z.cps.toList.drop i := by
              rw [List.mem_iff_getElem?]
              exact ⟨0, by rw [List.getElem?_drop]; exact ea⟩
            exact (List.nodup_append.mp nd).2.2 a h a hd rfl
          rw [upd_same, bkv_put nin, List.take_succ, ea] <;> rfl
    · obtain ⟨sm, eD⟩ := hP
      rw [List.take_of_length_le (by omega)] at eD
      exact q D _ sm nD eD
theorem ok_win {f fN fB fO fA fT fK : Addr} {fd fdN fdB fdO fdA fdT fdK : FuncData} {pO pT : Addr} (F : Fun K "winner" "Crowd.winner" sWin f fd) (FN : Fun K "_beaten" "Crowd._beaten" sBtn fN fdN) (mN : Meth K Cr "_beaten" fN) (bN : Binds K fdN ["self"] []) (FB : Fun K "beats" "Crowd.beats" sBts fB fdB) (mB : Meth K Cr "beats" fB) (bB : Binds K fdB ["self", "thing", "other"] []) (FA : Fun K "_above" "Crowd._above" sAb_ fA fdA) (mA : Meth K Cr "_above" fA) (bA : Binds K fdA ["self", "thing", "other"] []) (DK : DefAt K mg "check_thing" sChT ["things", "thing"] fK fdK)
    (PT : PropOf K C "things" pT fT) (FT : Fun K "things" "Roll.things" sThi fT fdT) (bT : Binds K fdT ["self"] []) (PO : PropOf K C "orders" pO fO) (FO : Fun K "orders" "Roll.orders" sOrd fO fdO) (bO : Binds K fdO ["self"] []) (bsum : mg "sum" = none) (bzip : mg "zip" = none) (T : Txt mg) (R : RollC K mg C) (RC : CrC K mg Cr) :
    FnOk P w K mg base CX0 6 f fd ["self"] (spWin C Cr) := by
  have GN : FnOk P w K mg base CX0 5 fN fdN ["self"] (spBtn C Cr) := ok_btn FN FB mB bB FA mA bA DK PT FT bT PO FO bO bsum bzip T R RC
  refine F.ok scWin (fun vs H Q E h => ?_) (fun cdv A outer sh H vs Q E hr h => ?_)
  · obtain ⟨c, z, ys, ns, rfl, _⟩ := h
    rfl
  · obtain ⟨c, z, ys, ns, rfl, hz, as, q⟩ := h
    have hu := hr.units
    have hu1 : (A.deeper (envOfC (Str.ofString "Crowd.winner") (defScope sWin) sh.heap.objs.size f cdv)).units + 1 < cLine := by omega
    refine ⟨_, (pss_cons (ps_set (i := 1) scWin.nd rfl (.inl rfl) (pe_meth0 (pv 0) RC.cls mN GN (hr.mono (by decide)) bN .nil pass0))
      (pss_cons (ps_lock (ps_for PassesOwn.never rfl (pi_keys (pv 1)) (pg_name (i := 2) scWin.nd rfl (.inl rfl))
        (pss_one (ps_if (pt_cmpR op_eq (pe_callB call_len_str (by rfl) T.b_len (by decide +kernel) (pa_cons (pe_dget hu1 (pv 1) (pv 2) (fun _ _ => rfl)) pa_nil)) (pe_op op_sub (pe_callB call_lenR (by rfl) T.b_len (by decide +kernel) (pa_cons (pv 1) pa_nil)) pe_int) (nomark _)) (pss_one (ps_ret (pv 2))) pss_nil))))
      (pss_one (ps_ret pe_non)))), ?_⟩
    obtain ⟨hc, dx, fs, r, t, e, l, no, ra⟩ := id hz
    have zl : z.cps.toList.length = z.cps.size := Array.length_toList
    have z6 := as.z6
    refine ⟨_, rfl, c, dx, fs, rfl, e, no _ (by decide) (by decide) (by decide), c, z, ys, ns, rfl, hz, as, fun d H1 s1 n1 e1 => ?_⟩
    have kl : (bkv z ys ns z.cps.toList).length = z.cps.size := by
      unfold bkv
      rw [List.length_map, zl]
    have back : ∀ u, Same H (upd (upd H1 d u) d (.dK (bkv z ys ns z.cps.toList))) := fun u b o h => by
      have nb := ne_of_none h n1
      rw [upd_ne nb, upd_ne nb]
      exact s1 _ _ h
    refine ⟨d, _, e1, trivial, fun od => ⟨_, rfl, d, od, rfl, .inl ⟨_, upd_same, for_it walk_keys (fun i σ H' => ∃ v2, σ = [some (.ref c), some (.ref d), v2] ∧ H' = upd H1 d (.frz od (.dK (bkv z ys ns z.cps.toList))) ∧ ∀ a, a ∈ z.cps.toList.take i → ¬ (btS z ys ns a).cps.size + 1 = z.cps.size)
      ⟨_, rfl, rfl, fun a h => by simp at h⟩ (fun i σ H' _ hP => ?_) (fun i x σ H2 H3 hi hP hY => ?_) (fun σ H2 hP => ?_)⟩⟩⟩
    · obtain ⟨_, _, rfl, _⟩ := hP
      exact upd_same
    · obtain ⟨v2, rfl, rfl, np⟩ := hP
      obtain ⟨rfl, k, v, hk, rfl⟩ := hY
      unfold bkv at hk
      rw [List.getElem?_map] at hk
      cases ea : z.cps.toList[i]? with
      | none => rw [ea] at hk; cases hk
      | some a =>
        rw [ea] at hk
        cases hk
        have am := List.mem_of_getElem? ea
        have bl : (btS z ys ns a).length ≤ 6 := by
          have := List.length_filter_le (fun b => btB ys ns a b) z.cps.toList
          show (z.cps.toList.filter fun b => btB ys ns a b).length ≤ 6
          omega
        refine ⟨_, rfl, _, rfl, d, .str (btS z ys ns a), rfl, .inl ⟨_, .inr (chS a), .inr ⟨od, upd_same⟩, rfl, (bkv_val am).symm⟩, _, rfl, by rw [sizeLine_eq]; omega, ?_⟩
        refine ⟨_, rfl, d, _, rfl, .inr ⟨od, upd_same⟩, _, _, rfl, rfl, rfl, _, rfl, ite2 (fun e2 => ?_) (fun e2 => ?_)⟩
        · have e2 : (btS z ys ns a).cps.size + 1 = z.cps.size := by
            have := V.int.inj (of_decide_eq_true e2)
            rw [kl] at this
            have hl : (btS z ys ns a).length = (btS z ys ns a).cps.size := rfl
            rw [hl] at this
            omega
          have w : winS z ys ns = some a := by
            unfold winS
            rw [← List.take_append_drop i z.cps.toList, List.find?_append, List.drop_eq_getElem_cons (by omega : i < z.cps.toList.length)]
            rw [List.find?_eq_none.mpr fun u hu => by simpa using np u hu, Option.none_or]
            have : z.cps.toList[i]'(by omega) = a := (List.getElem?_eq_some_iff.mp ea).2
            rw [this, List.find?_cons, decide_eq_true e2]
          have q1 := q _ (back (.frz od (.dK (bkv z ys ns z.cps.toList))))
          rw [w] at q1
          exact ⟨_, rfl, upd_same, q1⟩
        · refine ⟨_, rfl, rfl, fun u hu => ?_⟩
          rw [List.take_succ, ea, Option.toList_some, List.mem_append, List.mem_singleton] at hu
          rcases hu with hu | rfl
          · exact np u hu
          · intro h
            refine e2 (decide_eq_true (congrArg V.int ?_))
            rw [kl]
            show ((btS z ys ns u).cps.size : Int) = _
            omega
    · obtain ⟨v2, rfl, rfl, np⟩ := hP
      rw [kl, ← zl, List.take_length] at np
      have w : winS z ys ns = none := by
        unfold winS
        rw [List.find?_eq_none]
        intro u hu
        simpa using np u hu
      have q1 := q _ (back (.frz od (.dK (bkv z ys ns z.cps.toList))))
      rw [w] at q1
      exact ⟨upd_same, q1⟩
end
end L2.Cal
end

section
set_option maxRecDepth 100000
set_option maxHeartbeats 4000000
/-! a lambda with parameters, called from a built-in within the def that made it -/
namespace LamK
open PySem PySem.Spec PyProof.Rows L2 LamX NdefX
/-- its words, as those of a def within a def; the body is told apart -/
abbrev lamF (q : Str) (params : Arguments) (scope : Scope) (cl : List (Str × Addr)) (c : Addr) : NF := ⟨"<lambda>", q, params, [], scope, cl, c⟩
abbrev noXK : XK := fun _ _ _ => False
section
variable {X : Cx} {pins : List (Addr × Obj)} {σ : L2.St} {H : Hp} {s : Shared} {A : Around} {N ps fr : List Str} {scope : Scope} {q : Str} {params : Arguments} {body : Expr} {cl : List (Str × Addr)} {f c : Addr} {pm ctv : Value} {k : Nat} {xs : List V} {us : List Value} {ws : List (Option V)} {tb : TE} {Q : VK}
/-- f(us), where the lambda stands at f -/
theorem lam_do (I : Inv X pins σ H s) (S : NScope N ps fr scope) (C : CellsAt cl fr ws s.heap H) (e0 : Env0 X.prog X.w X.K X.mg X.base A X.stack s H) (hr : Room (k + 1) A)
    (hf : s.heap.get? f = some (PySem.W.kla_obj "<lambda>" q params body scope cl pm c ctv)) (hc : H c = some (CodeO c q)) (hbind : bindArgs (PySem.W.kla_fn "<lambda>" q params body scope cl pm (.ref c) ctv) ⟨us, []⟩ = pure (ps.zip us)) (hl : xs.length = ps.length) (r : Vals xs us)
    (hbody : ∀ (B : Around) (g : Shared) (G : Hp), Room k (B.deeper (envF (lamF q params scope cl c) f g.heap.objs.size)) → PE (ncx CX0 X.prog X.w X.K X.mg X.base N (lamF q params scope cl c) f B X.stack g G noXK) body tb)
    (ht : tb (startF N xs ws) H Q) : wpAny (model X.prog X.w) A (call (.ref f) us) (EP X pins σ Q) (fun _ _ => False) s := by
  have room := hr
  have told : codeAny (model X.prog X.w) A (.call (.ref f) ⟨us, []⟩) (CR CX0 X.stack X.prog X.w H s Q noXK) s := by
    refine PySem.W.kla_callFunE room.depth hf rfl S.co S.gen rfl (codeO_at I.hok hc) ?_
    rw [hbind]
    refine wpAny_pure (wpAny_newFunctionEnv S.nocell (fun y hy => S.par y.1 (List.of_mem_zip (show (y.1, y.2) ∈ ps.zip us from hy)).1) (fun g1 hns sb => ⟨I.nolimit.fresh _ sb, PySem.W.kla_codeExpr ?_⟩) S.kind)
    have more : ∀ b o, s.heap.get? b = some o → g1.get? b = some o := fun b o e => sb.extBut b o (Nat.ne_of_lt (Heap.lt_size e)) (Heap.get?_push_of_some _ e)
    have J := inv_startN (CX := CX0) (F := lamF q params scope cl c) (f := f) (E := noXK) (tk := s.toks + (ps.zip us).length) S room.hd e0 hl r C hns more
    exact wpAny_mono ((hbody A s H (room.deeper _)).run [] _ _ H Q J ht) (fun v g ⟨y, G, J1, ry, qy⟩ => ⟨y, G, J1.os, J1.bare, J1.base, J1.hok, ry, qy⟩) fun e g z => z
  refine wpAny_call (codeAny_mono told fun r g hq => ?_)
  match r, hq with
  | .error e, hq => exact (show False from hq).elim
  | .ok (.ret v), hq => exact I.after hq
end
end LamK
end

section
set_option maxRecDepth 100000
set_option maxHeartbeats 4000000
/-! sorted(xs, key=f) where f runs in the def that sorts; the keys are whole numbers -/
namespace LamK
open PySem PySem.Spec PyProof.Rows L2 LamX PySem.W
/-- the key of a thing, as data -/
def keyN (key : V → Int) : V → PyData := fun x => .int (key x)
/-- Heap H has all that G has -/
abbrev Grown (G H : Hp) : Prop := ∀ b o, G b = some o → H b = some o
/-- values that are these numbers -/
abbrev AreN (us : List Value) (ns : List Int) : Prop := EachIs (fun v n => ∃ t, v = Value.int n t) us ns
theorem areN_reads {g : Heap} {key : V → Int} : ∀ {us : List Value} {xs : List V}, AreN us (xs.map key) → EachIs (fun v d => ∃ as, Reads g v d as) us (xs.map (keyN key))
  | [], [], _ => .nil
  | u :: us, x :: xs, h => by cases h with | cons a t => obtain ⟨tk, rfl⟩ := a; exact .cons ⟨[], .int _ _⟩ (areN_reads t)
  | [], x :: xs, h => by cases h
  | u :: us, [], h => by cases h
/-- the sort's own things and the function, as they stand while the keys are made -/
structure Mid (X : Cx) (σ : L2.St) (pins : List (Addr × Obj)) (H0 : Hp) (fo : Obj) (D L f e1 : Nat) (ns : List Int) (H : Hp) (s : Shared) : Prop where
  inv : Inv X pins σ H s
  up : Grown H0 H
  items : ∃ (made : Array Value) (n : Nat), s.heap.get? L = some (seqObj "list" made n) ∧ AreN made.toList ns
  bare : s.heap.get? D = some (seqObj "list" #[] e1)
  fn : s.heap.get? f = some fo
  noL : H L = none
  noD : H D = none
  noF : H f = none
section
variable {X : Cx} {pins : List (Addr × Obj)} {σ : L2.St} {H0 H : Hp} {s : Shared} {A : Around} {D L f e1 : Nat} {fo : Obj} {b : Bool} {us : List Value} {xs : List V} {key : V → Int}
/-- a key more -/
theorem Mid.more {ns : List Int} {x : V} {u : Value} (M : Mid X σ pins H0 fo D L f e1 ns H s) (fD : FpOk X pins H0 D) (fL : FpOk X pins H0 L) (hL : f ≠ X.env.locals ∧ f ∉ X.fs) (nF : ∀ v, fo.data ≠ .cell v) (LD : L ≠ D) (fL' : f ≠ L) (few : ns.length < sizeLine)
    (turn : ∀ (pl : List (Addr × Obj)), Inv X pl σ H s → wpAny (model X.prog X.w) A (call (.ref f) [u]) (EP X pl σ fun y H2 => y = .int (key x) ∧ Grown H H2) (fun _ _ => False) s) {E : Value → Shared → Prop} {R : Except Value Value → Shared → Prop}
    (k : ∀ (v : Value) (g : Shared), (∀ {Q : Unit → Shared → Prop} {E : Value → Shared → Prop}, (∀ g' H2, Mid X σ pins H0 fo D L f e1 (ns ++ [key x]) H2 g' → Q () g') → wpAny (model X.prog X.w) A (Builtin.List.listUpdate (.ref L) (·.push v)) Q E g) → R (.ok v) g) :
    wpAny (model X.prog X.w) A (call (.ref f) [u]).attempt R E s := by
  obtain ⟨made, n, eL, an⟩ := M.items
  have P := M.inv.pins_of (pins' := pins ++ [(f, fo), (L, seqObj "list" made n), (D, seqObj "list" #[] e1)]) fun p hp => by
    rcases List.mem_append.mp hp with h | h
    · exact M.inv.pin p (List.mem_append_right _ h)
    · simp only [List.mem_cons, List.not_mem_nil, or_false] at h
      rcases h with rfl | rfl | rfl
      · exact ⟨M.fn, M.noF, hL.1, hL.2, nF⟩
      · exact ⟨eL, M.noL, fL.2.1, fL.2.2.1, fun v z => by cases z⟩
      · exact ⟨M.bare, M.noD, fD.2.1, fD.2.2.1, fun v z => by cases z⟩
  refine wpAny_attempt (wpAny_mono (turn _ P) (fun v g hv => k v g fun {Q E} done => ?_) fun _ _ z => z.elim)
  obtain ⟨y, H2, J, rv, rfl, gr⟩ := hv
  obtain ⟨t, rfl⟩ := rv
  have held : ∀ p ∈ [(f, fo), (L, seqObj "list" made n), (D, seqObj "list" #[] e1)], g.heap.get? p.1 = some p.2 ∧ H2 p.1 = none := fun p hp => (fun z => ⟨z.1, z.2.1⟩) (J.pin p (List.mem_append_right _ (List.mem_append_right _ hp)))
  have hF := held (f, fo) (by simp)
  have hK := held (L, seqObj "list" made n) (by simp)
  have hD := held (D, seqObj "list" #[] e1) (by simp)
  have ml : made.size = ns.length := by rw [← an.length, Array.length_toList]
  have sb := Heap.SameBut.update g.heap L (Obj.mapSeq (·.push (Value.int (key x) t)))
  obtain ⟨n2, e2⟩ : ∃ m, (g.heap.update L (Obj.mapSeq (·.push (Value.int (key x) t)))).get? L = some (seqObj "list" (made.push (Value.int (key x) t)) m) := ⟨_, get?_update_seq hK.1 _⟩
  have J2 : Inv X pins σ H2 { g with heap := g.heap.update L (Obj.mapSeq (·.push (Value.int (key x) t))), toks := g.toks } :=
    Inv.turnedL (ch := [L]) (Inv.unpinned J) (fun c o hc e => (sb.2 c fun z => hc (by rw [z]; exact List.mem_cons_self)).trans e) fun c hc => by rw [List.mem_singleton.mp hc]; exact ⟨hK.2, fL.2⟩
  refine listUpdate_at hK.1 rfl (done _ H2 ⟨J2, fun c o e => gr c o (M.up c o e), ⟨_, n2, e2, ?_⟩, (sb.2 D LD.symm).trans hD.1, (sb.2 f fL').trans hF.1, hK.2, hD.2, hF.2⟩) (by omega) (by rw [Array.size_push]; omega)
  rw [Array.toList_push]
  exact each_snoc (R := fun (v : Value) (m : Int) => ∃ t, v = Value.int m t) ⟨t, rfl⟩ an
/-- the keys are all made: the sort goes to its end -/
theorem Mid.last (M : Mid X σ pins H0 fo D L f e1 (xs.map key) H s) (fD : FpOk X pins H0 D) (fL : FpOk X pins H0 L) (LD : L ≠ D) (hu : A.units < cLine) (rv : EachIs (fun v x => RelV x v) us xs) (few : us.length ≤ sizeLine) {E : Value → Shared → Prop} {R : PySem.Fin → Shared → Prop}
    (fin : ∀ (g : Shared) (out : List Value) (m : Nat), Inv X pins σ H g → g.heap.get? D = some (seqObj "list" (List.toArray out) m) → EachIs (fun v x => RelV x v) out (xs.mergeSort (dataLe b (keyN key))) → R (.done (.ret .none)) g) :
    wpAny (model X.prog X.w) A (Builtin.List.listItems (.ref L) >>= fun keys => ksk_end D b us.toArray e1 (.ref L) keys) R E s := by
  obtain ⟨made, n, eL, an⟩ := M.items
  have rd := areN_reads (g := s.heap) an
  have al : AllAlike (xs.map (keyN key)) := AllAlike.of fun _ _ => by simp [keyN, alike]
  have so : Sortable (xs.map (keyN key)) := .inr fun d hd => by
    obtain ⟨x, _, rfl⟩ := List.mem_map.mp hd
    exact ⟨(fun z => by cases z), (fun ys z => by cases z)⟩
  have ml : made.size = us.length := by rw [rv.length, ← Array.length_toList, an.length, List.length_map]
  obtain ⟨G, g1, g2⟩ := restrict s.heap fun c => decide (c ≠ L)
  have gL : G.get? L = none := g2 L (decide_eq_false fun z => z rfl)
  have go : ∀ {c : Addr}, c ≠ L → G.get? c = s.heap.get? c := fun z => g1 _ (decide_eq_true z)
  have GS : KeepsBut D G s.heap := fun c o _ e => by
    rcases Decidable.em (c = L) with z | z
    · rw [z, gL] at e; cases e
    · rw [go z] at e; exact e
  refine wpAny_bind (listItems_at eL rfl (keyH_end (κ := dataKind s.heap (xs.map (keyN key))) GS gL eL M.bare LD (SortsAt.data rd al so fun d hd => ?_) ml few fun g tk m kb eD => ?_))
  · obtain ⟨x, _, rfl⟩ := List.mem_map.mp hd
    rw [show (keyN key x).depth = 0 by simp [keyN, PyData.depth], Nat.add_zero]
    exact hu
  · refine fin _ _ m (M.inv.turnedL (ch := [L, D]) (fun c o hc e => ?_) fun c hc => ?_) eD (keyedOut_each (keyN key) ⟨s.heap, made.toList, al, rfl, rd⟩ rv)
    · rw [List.mem_cons, List.mem_singleton, not_or] at hc
      exact kb c o hc.2 ((go hc.1).trans e)
    · rw [List.mem_cons, List.mem_singleton] at hc
      rcases hc with rfl | rfl
      · exact ⟨M.noL, fL.2⟩
      · exact ⟨M.noD, fD.2⟩
theorem vals_each : ∀ {xs : List V} {us : List Value}, Vals xs us → EachIs (fun v x => RelV x v) us xs
  | _, _, .nil => .nil
  | _, _, .cons r t => .cons r (vals_each t)
theorem each_vals : ∀ {xs : List V} {us : List Value}, EachIs (fun v x => RelV x v) us xs → Vals xs us
  | _, _, .nil => .nil
  | _, _, .cons r t => .cons r (each_vals t)
/-- all of an older heap stands in the heap that the sort begins with -/
theorem begin_old {h : Heap} {c : Addr} {o : Obj} {g : Array Value → Array Value} {o1 o2 : Obj} (e : h.get? c = some o) : (((((copyHeap h us).update (h.objs.size + 1) (Obj.mapSeq g)).push o1).push o2).get? c) = some o :=
  Heap.get?_push_of_some _ (Heap.get?_push_of_some _ ((Heap.get?_update_ne _ _ _ _ (Nat.ne_of_lt (Nat.lt_succ_of_lt (Heap.lt_size e)))).trans (copyHeap_old e)))
/-- sorted(xs, key=f, ..) -/
theorem key_sorted {a : Addr} {kw : List (Str × Value)} {Q : VK} {E : Value → Shared → Prop} (I : Inv X pins σ H s) (hs : SqL X.K H a xs) (eF : s.heap.get? f = some fo) (nF : ∀ v, fo.data ≠ .cell v) (hF : H f = none) (hL : f ≠ X.env.locals ∧ f ∉ X.fs) (hu : X.A.units + 2 < cLine)
    (a1 : argsOk "sorted" ⟨[.ref a], kw⟩) (a2 : ∀ z, argsOk "list.sort" ⟨[.ref z], kw⟩) (tr : ∀ z, Builtin.«list.sort» ⟨[.ref z], kw⟩ = ksk_tree z (.ref f) b)
    (turn : ∀ (x : V) (u : Value) (pl : List (Addr × Obj)) (g : Shared) (G : Hp), x ∈ xs → RelV x u → Inv X pl σ G g → Grown H G → g.heap.get? f = some fo →
      wpAny (model X.prog X.w) X.A.in1.in1 (call (.ref f) [u]) (EP X pl σ fun y G2 => y = .int (key x) ∧ Grown G G2) (fun _ _ => False) g)
    (q : ∀ p G, Grown H G → H p = none → G p = some (.lst (xs.mergeSort (dataLe b (keyN key)))) → Q (.ref p) G) :
    wpAny (model X.prog X.w) X.A (call (.builtin "sorted") [.ref a] kw) (EP X pins σ Q) E s := by
  obtain ⟨its, rv, hl, few⟩ := I.list hs
  have rx := vals_each rv
  have il : its.length ≤ sizeLine := by rw [rx.length]; exact few
  refine sorted_of_sort hl.isList il a1 a2 fun E' => ?_
  rw [tr]
  have eD := copyHeap_at s.heap its
  obtain ⟨e1, eD1⟩ : ∃ m, ((copyHeap s.heap its).update (s.heap.objs.size + 1) (Obj.mapSeq fun _ => (#[] : Array Value))).get? (s.heap.objs.size + 1) = some (seqObj "list" #[] m) := ⟨_, get?_update_seq eD fun _ => #[]⟩
  unfold ksk_tree
  refine wpAny_bind (listItems_at eD rfl (wpAny_bind (listUpdate_at eD rfl (wpAny_bind (seqEpoch_at eD1 rfl (wpAny_bind (wpAny_newTuple (wpAny_bind (wpAny_newList (wpAny_holding ?_) (Nat.zero_le _))) (by show its.length ≤ _; exact il))))) (by rw [List.size_toArray]; exact il) (Nat.zero_le _))))
  obtain ⟨L, hLe⟩ : ∃ L, L = (((copyHeap s.heap its).update (s.heap.objs.size + 1) (Obj.mapSeq fun _ => (#[] : Array Value))).push (seqObj "tuple" its.toArray 0)).objs.size := ⟨_, rfl⟩
  have cz : s.heap.objs.size + 1 < (copyHeap s.heap its).objs.size := Heap.lt_size eD
  have Lz : s.heap.objs.size + 1 < L := by
    rw [hLe, size_push', Heap.size_update]
    omega
  obtain ⟨h4, eh⟩ : ∃ h4, h4 = (((copyHeap s.heap its).update (s.heap.objs.size + 1) (Obj.mapSeq fun _ => (#[] : Array Value))).push (seqObj "tuple" its.toArray 0)).push (seqObj "list" #[] 0) := ⟨_, rfl⟩
  have old : ∀ c o, s.heap.get? c = some o → h4.get? c = some o := fun c o e => by rw [eh]; exact begin_old e
  have fD : FpOk X pins H (s.heap.objs.size + 1) := I.fpOk (Nat.le_succ _) (I.hok.fresh (Nat.le_succ _))
  have fL : FpOk X pins H L := I.fpOk (by omega) (I.hok.fresh (by omega))
  have M0 : Mid X σ pins H fo (s.heap.objs.size + 1) L f e1 ((xs.map key).take 0) H { s with heap := h4 } := by
    refine ⟨I.kept (t' := s.toks) old, fun _ _ e => e, ⟨#[], 0, ?_, by rw [List.take_zero]; exact .nil⟩, ?_, old _ _ eF, fL.1, fD.1, hF⟩
    · show h4.get? L = _
      rw [eh, hLe]
      exact Heap.get?_push_size _ rfl
    · show h4.get? _ = _
      rw [eh]
      exact Heap.get?_push_of_some _ (Heap.get?_push_of_some _ eD1)
  have fL' : f ≠ L := fun z => by
    have h1 : f < s.heap.objs.size := Heap.lt_size eF
    rw [z] at h1
    omega
  rw [← hLe, ← eh]
  unfold ksk_rest
  refine wpAny_bind (wpAny_rule ?_)
  rw [List.forIn_toArray]
  refine wpAny_bind (ksk_fold (fun i g => ∃ G, Mid X σ pins H fo (s.heap.objs.size + 1) L f e1 ((xs.map key).take i) G g) its 0 _ ⟨H, M0⟩ (fun j u g hj hM => ?_) fun g hM => ?_)
  · obtain ⟨G, M⟩ := hM
    rw [Nat.zero_add] at M ⊢
    have jl := (List.getElem?_eq_some_iff.mp hj).1
    obtain ⟨x, hx⟩ : ∃ x, xs[j]? = some x := ⟨_, List.getElem?_eq_getElem (by rw [← rx.length]; exact jl)⟩
    have rel : RelV x u := rx.zip (u, x) (List.mem_of_getElem? (i := j) (by rw [List.getElem?_zip_eq_some]; exact ⟨hj, hx⟩))
    have nx : (xs.map key).take (j + 1) = (xs.map key).take j ++ [key x] := by rw [List.take_succ, List.getElem?_map, hx] <;> rfl
    refine wpAny_bind (M.more fD fL hL nF (by omega) fL' (by rw [List.length_take, List.length_map]; omega) (fun pl J => turn x u pl g G (List.mem_of_getElem? hx) rel J M.up M.fn) fun v g2 push => ?_)
    dsimp only
    exact wpAny_bind (push fun g3 G2 M2 => wpAny_pure ⟨rfl, G2, by rw [nx]; exact M2⟩)
  · obtain ⟨G, M⟩ := hM
    rw [Nat.zero_add, rx.length, List.take_of_length_le (by rw [List.length_map]; exact Nat.le_refl _)] at M
    refine M.last fD fL (by omega) hu rx il fun g2 out m J eO ro => ⟨rfl, ?_⟩
    have len : (xs.mergeSort (dataLe b (keyN key))).length ≤ sizeLine := by rw [(List.mergeSort_perm _ _).length_eq]; exact few
    have nD := fD.1
    refine ⟨.ref _, upd G (s.heap.objs.size + 1) (.lst (xs.mergeSort (dataLe b (keyN key)))), J.take (h' := g2.heap) (t' := g2.toks) (fun _ _ _ e => e) ⟨M.noD, fD.2⟩ ⟨len, out, m, each_vals ro, eO⟩, rfl, q _ _ (fun c o e => ?_) nD upd_same⟩
    rw [upd_ne (ne_of_none e nD)]
    exact M.up c o e
end
end LamK
end

section
set_option maxRecDepth 100000
set_option maxHeartbeats 4000000
/-! the expression sorted(xs, key=lambda p: ..) -/
namespace LamK
open PySem PySem.Spec PyProof.Rows L2 LamX NdefX PySem.W
section
variable {X : Cx} {pins : List (Addr × Obj)} {σ : L2.St} {H : Hp} {s : Shared}
theorem seqL_ext {K : PySem.W.Frag} {G G' : Hp} {a : Addr} {xs : List V} (h : SqL K G a xs) (e : ExtN G G') : SqL K G' a xs := by
  rcases h with (h | ⟨o, h⟩) | h
  · exact .inl (.inl (e _ _ h fun ps z => by cases z))
  · exact .inl (.inr ⟨o, e _ _ h fun ps z => by cases z⟩)
  · exact .inr h
/-- what it asks and gives: the keys of the things, and a list of them in their order -/
def tSortK (T : List (Addr × Str)) (ta : TA) (tb : TE) (N : List Str) (js : List Nat) (rev : Bool) : TE := fun σ H Q => ta σ H fun vs H1 => ∃ (a : Addr) (xs : List V), vs = [.ref a] ∧ H1 a = some (.lst xs) ∧ Tabs T H1 ∧
  ∀ H2, ExtN H1 H2 → Tabs T H2 → ∃ key : V → Int, (∀ x ∈ xs, ∀ G, Grown H2 G → tb (startF N [x] (js.map (slotAt σ))) G fun y G2 => y = .int (key x) ∧ Grown G G2) ∧
    ∀ p G, Grown H2 G → H2 p = none → G p = some (.lst (xs.mergeSort (dataLe rev (keyN key)))) → Q (.ref p) G
theorem pe_sortK {T : List (Addr × Str)} {ta : TA} {tb : TE} {N : List Str} {p : Str} {fr : List Str} {js : List Nat} {c P : Addr} {params : Arguments} {body : Expr} {scope : Scope} {k : Nat} {e : Expr} {p1 lpos kpos pos : Pos}
    (hg : Gl X "sorted") (hm : X.mg "sorted" = none) (ha : PA X [e] ta) (TB : TabB X.base X.mg c P) (hcode : X.env.code = .ref c) (hmT : (P, X.env.qual ++ "<lambda>") ∈ T) (hu : ∀ z ∈ T, z.1 = P → z.2 = X.env.qual ++ "<lambda>") (hr : Room (k + 3) X.A)
    (hB : ndefB X.env.scope scope fr = true) (S : NScope N [p] fr scope) (hdef : defaultsOf params X.env = ([], [])) (hjs : js.map (fun j => X.N[j]?) = fr.map some) (hst : ∀ b, b = X.env.locals ∨ b ∈ X.fs → b ∈ frs X.stack)
    (hbind : ∀ (q : Str) (cl : List (Str × Addr)) (pm cv ctv u : Value), bindArgs (PySem.W.kla_fn "<lambda>" q params body scope cl pm cv ctv) ⟨[u], []⟩ = pure [(p, u)])
    (hbody : ∀ (q : Str) (cl : List (Str × Addr)) (c' f : Addr) (B : Around) (g : Shared) (G : Hp), Room k (B.deeper (envF (lamF q params scope cl c') f g.heap.objs.size)) → PE (ncx CX0 X.prog X.w X.K X.mg X.base N (lamF q params scope cl c') f B X.stack g G noXK) body tb)
    (h1 : backTo pos (starEach [e] X.env) = (false, eval e X.env) :: backTo pos (starEach [] X.env) := by rfl) (h2 : (backTo pos (starEach [e] X.env)).any (·.1) = false := by rfl) :
    PE X (.Call (.Name "sorted" p1) [e] [⟨some "key", .Lambda params body scope lpos, kpos⟩] pos) (tSortK T ta tb N js false) := by
  refine ⟨fun pins s σ H Q I h => ?_⟩
  refine wpAny_Call_Name_kw (ld_blt I hg hm PyProof.Rows.boot_sorted (PyProof.Rows.callWith_kw (thn (ha.run pos pins s σ H _ I h) fun us s1 ⟨vs, H1, I1, r1, q1⟩ => ?_) h1 h2 (by rfl) (by rfl)))
  obtain ⟨a, xs, rfl, hs, hT, q1⟩ := q1
  rw [Vals.ref1 r1]
  have free := ndef_free hB
  have caps := Caps.made I.ok free (ndef_fr hB) hjs
  refine wpAny_evalAll_cons (wpAny_bind (lam_make2 I1 TB hcode hmT hu hT hdef (fun y hy z => (free y hy z).elim (fun w => I.ok.has _ (.inl w)) fun w => I.ok.has _ (.inr w)) fun f c' pm ctv H2 s2 I2 eN T2 hf hfn hfr hco => wpAny_bind (wpAny_standAt (wpAny_pure (wpAny_evalAll_nil ?_)))))
  obtain ⟨key, keys, done⟩ := q1 H2 eN T2
  have e1 := I2.env0
  show wpAny _ _ (call (.builtin "sorted") [.ref a] [(Str.ofString "key", .ref f)]) _ _ s2
  refine key_sorted (b := false) (key := key) (f := f) I2 (SqL.of (eN _ _ hs fun ps z => by cases z)) hf (fun v z => by cases z) hfn ⟨fun z => hfr (hst _ (.inl z)), fun z => hfr (hst _ (.inr z))⟩ ?_ (PyProof.Rows.ksk_s1 _ _) (fun z => PyProof.Rows.ksk_l1 _ _) (fun z => PyProof.Rows.ksk_t1 _ _) (fun x u pl g G hx rx J gr eF => ?_) done
  · have := hr.units
    omega
  · exact lam_do (N := N) (ps := [p]) (fr := fr) (ws := js.map (slotAt σ)) (xs := [x]) (us := [u]) J S (cells_of J caps) J.env0.in1.in1 (hr.mono (by omega)).in1.in1 eF (gr _ _ hco) (hbind _ _ _ _ _ _) rfl (.cons rx .nil) (fun B g' G' room => hbody _ _ _ _ B g' G' room) (keys x hx G gr)
theorem pe_sortKR {T : List (Addr × Str)} {ta : TA} {tb : TE} {N : List Str} {p : Str} {fr : List Str} {js : List Nat} {c P : Addr} {params : Arguments} {body : Expr} {scope : Scope} {k : Nat} {e : Expr} {p1 lpos kpos pos k2 c2 : Pos} {kk : Nat}
    (hg : Gl X "sorted") (hm : X.mg "sorted" = none) (ha : PA X [e] ta) (TB : TabB X.base X.mg c P) (hcode : X.env.code = .ref c) (hmT : (P, X.env.qual ++ "<lambda>") ∈ T) (hu : ∀ z ∈ T, z.1 = P → z.2 = X.env.qual ++ "<lambda>") (hr : Room (k + 3) X.A)
    (hB : ndefB X.env.scope scope fr = true) (S : NScope N [p] fr scope) (hdef : defaultsOf params X.env = ([], [])) (hjs : js.map (fun j => X.N[j]?) = fr.map some) (hst : ∀ b, b = X.env.locals ∨ b ∈ X.fs → b ∈ frs X.stack)
    (hbind : ∀ (q : Str) (cl : List (Str × Addr)) (pm cv ctv u : Value), bindArgs (PySem.W.kla_fn "<lambda>" q params body scope cl pm cv ctv) ⟨[u], []⟩ = pure [(p, u)])
    (hbody : ∀ (q : Str) (cl : List (Str × Addr)) (c' f : Addr) (B : Around) (g : Shared) (G : Hp), Room k (B.deeper (envF (lamF q params scope cl c') f g.heap.objs.size)) → PE (ncx CX0 X.prog X.w X.K X.mg X.base N (lamF q params scope cl c') f B X.stack g G noXK) body tb)
    (h1 : backTo pos (starEach [e] X.env) = (false, eval e X.env) :: backTo pos (starEach [] X.env) := by rfl) (h2 : (backTo pos (starEach [e] X.env)).any (·.1) = false := by rfl) :
    PE X (.Call (.Name "sorted" p1) [e] [⟨some "key", .Lambda params body scope lpos, kpos⟩, ⟨some "reverse", .Constant (.bool true) kk c2, k2⟩] pos) (tSortK T ta tb N js true) := by
  refine ⟨fun pins s σ H Q I h => ?_⟩
  refine wpAny_Call_Name_kw (ld_blt I hg hm PyProof.Rows.boot_sorted (PyProof.Rows.callWith_kw (thn (ha.run pos pins s σ H _ I h) fun us s1 ⟨vs, H1, I1, r1, q1⟩ => ?_) h1 h2 (by rfl) (by rfl)))
  obtain ⟨a, xs, rfl, hs, hT, q1⟩ := q1
  rw [Vals.ref1 r1]
  have free := ndef_free hB
  have caps := Caps.made I.ok free (ndef_fr hB) hjs
  refine wpAny_evalAll_cons (wpAny_bind (lam_make2 I1 TB hcode hmT hu hT hdef (fun y hy z => (free y hy z).elim (fun w => I.ok.has _ (.inl w)) fun w => I.ok.has _ (.inr w)) fun f c' pm ctv H2 s2 I2 eN T2 hf hfn hfr hco => wpAny_bind (wpAny_standAt (wpAny_pure (wpAny_evalAll_cons (wpAny_bind (wpAny_Constant_bool (wpAny_bind (wpAny_standAt (wpAny_pure (wpAny_evalAll_nil ?_)))))))))))
  obtain ⟨key, keys, done⟩ := q1 H2 eN T2
  have e1 := I2.env0
  show wpAny _ _ (call (.builtin "sorted") [.ref a] [(Str.ofString "key", .ref f), (Str.ofString "reverse", .bool true)]) _ _ s2
  refine key_sorted (b := true) (key := key) (f := f) I2 (SqL.of (eN _ _ hs fun ps z => by cases z)) hf (fun v z => by cases z) hfn ⟨fun z => hfr (hst _ (.inl z)), fun z => hfr (hst _ (.inr z))⟩ ?_ (PyProof.Rows.ksk_s2 _ _ _) (fun z => PyProof.Rows.ksk_l2 _ _ _) (fun z => PyProof.Rows.ksk_t2 _ _ _) (fun x u pl g G hx rx J gr eF => ?_) done
  · have := hr.units
    omega
  · exact lam_do (N := N) (ps := [p]) (fr := fr) (ws := js.map (slotAt σ)) (xs := [x]) (us := [u]) J S (cells_of J caps) J.env0.in1.in1 (hr.mono (by omega)).in1.in1 eF (gr _ _ hco) (hbind _ _ _ _ _ _) rfl (.cons rx .nil) (fun B g' G' room => hbody _ _ _ _ B g' G' room) (keys x hx G gr)
end
end LamK
end

section
set_option maxRecDepth 100000
set_option maxHeartbeats 4000000
/-! a, b, c = a text; sets of texts from tuples and lists -/
namespace L2.Cal
open PySem PySem.Spec PyProof.Rows PySem.Froz L2
section
variable {prog : Program} {w : World} {A : Around} {E : Value → Shared → Prop}
theorem draw_walk {I : Addr} {fp wr : List Addr} {n : Nat} {P : Nat → Value → Prop} {St : Nat → Heap → Prop} (W : Walks prog w A I fp wr n P St) : ∀ (m i : Nat) (s : Shared) (Q : List Value → Shared → Prop), St i s.heap → i + m ≤ n →
    (∀ (vs : List Value) h' tk, vs.length = m → (∀ (j : Nat) v, vs[j]? = some v → P (i + j) v) → St (i + m) h' → (∀ b o, b ∉ wr → s.heap.get? b = some o → h'.get? b = some o) → Q vs { s with heap := h', toks := tk }) → wpAny (model prog w) A (draw (.ref I) m) Q E s
  | 0, i, s, Q, st, _, q => wpAny_pure (q [] s.heap s.toks rfl (fun j v h => by simp at h) st fun _ _ _ e => e)
  | m + 1, i, s, Q, st, hm, q => by
    show wpAny _ _ (pyNext (.ref I) >>= _) Q E s
    refine wpAny_bind (W.item i s _ _ (by omega) st fun v h1 t1 p st1 k1 => ?_)
    refine wpAny_bind (wpAny_holding (draw_walk W m (i + 1) _ _ st1 (by omega) fun vs h2 t2 l p2 st2 k2 => wpAny_pure ?_))
    refine q (v :: vs) h2 t2 (by rw [List.length_cons, l]) (fun j u e => ?_) (by rw [show i + (m + 1) = i + 1 + m by omega]; exact st2) fun b o n e => k2 b o n (k1 b o n e)
    cases j with
    | zero =>
      cases e
      exact p
    | succ j =>
      rw [show i + (j + 1) = i + 1 + j by omega]
      exact p2 j u e
theorem unpack_text {s : Shared} {x : Str} {t : Tok} {Q : List Value → Shared → Prop} (hh : A.handled = none)
    (q : ∀ vs h' tk, StrsAre vs (signs x) → (∀ b o, s.heap.get? b = some o → h'.get? b = some o) → Q vs { s with heap := h', toks := tk }) : wpAny (model prog w) A (unpackItems (.str x t) x.cps.size none) Q E s := by
  unfold unpackItems
  refine wpAny_bind ?_
  unfold notIterableAtAll
  refine wpAny_bind (wpAny_specialOf (typeIs_str s x t) F.slot_str_iter.lookup ?_)
  refine wpAny_pure ?_
  simp only [Bool.false_eq_true, if_false]
  have go : ∀ (ty : String) (W : Walks prog w A s.heap.objs.size [s.heap.objs.size] [s.heap.objs.size] x.cps.size (SignAt x) (fun i h => h.IsStrIter s.heap.objs.size ty x t i)),
      wpAny (model prog w) A (do
        let items ← holding [.ref s.heap.objs.size] (draw (.ref s.heap.objs.size) x.cps.size)
        if items.length < x.cps.size then
          rule "unpack.too-few"; raiseError "ValueError" s!"not enough values to unpack (expected {x.cps.size}, got {items.length})"
        if (← holding items (pyNext (.ref s.heap.objs.size))).isSome then
          rule "unpack.too-many"; raiseError "ValueError" s!"too many values to unpack (expected {x.cps.size})"
        return items) Q E { s with heap := s.heap.push { cls := .type ty, data := .fields #[.str x t, .int 0 0] } } := fun ty W => by
    refine wpAny_bind (wpAny_holding (draw_walk W x.cps.size 0 _ _ ⟨_, Heap.get?_push_size _ rfl, rfl, rfl⟩ (by omega) fun vs h1 t1 l p st k => ?_))
    rw [if_neg (by omega)]
    rw [Nat.zero_add] at st
    refine wpAny_bind (wpAny_holding (W.done _ _ _ st fun h2 t2 k2 => ?_))
    simp only [Option.isSome_none, Bool.false_eq_true, if_false]
    have are : StrsAre vs (signs x) := by
      have z : vs.map txtOf = signs x := by
        apply List.ext_getElem?
        intro i
        unfold signs
        rw [List.getElem?_map, List.getElem?_map, Array.getElem?_toList (xs := x.cps)]
        cases e : vs[i]? with
        | none =>
          rw [List.getElem?_eq_none_iff, l] at e
          rw [Array.getElem?_eq_none_iff.mpr e] <;> rfl
        | some v =>
          obtain ⟨c, u, hc, rfl⟩ := p i v e
          rw [Nat.zero_add] at hc
          rw [hc] <;> rfl
      rw [← z]
      refine are_of _ fun v hv => ?_
      obtain ⟨i, hi, e⟩ := List.getElem_of_mem hv
      obtain ⟨c, u, _, z⟩ := p i v (by rw [List.getElem?_eq_getElem hi, e])
      exact ⟨_, u, z⟩
    refine wpAny_pure (q vs h2 t2 are fun b o e => ?_)
    have nb : b ∉ [s.heap.objs.size] := fun z => Nat.ne_of_lt (Heap.lt_size e) (List.mem_singleton.mp z)
    exact k2 b o nb (k b o nb (Heap.get?_push_of_some _ e))
  cases ha : x.cps.all (· < 128) with
  | true => exact wpAny_bind (wpAny_holding (wpAny_pyIter_ascii ha (go _ (Walks.strAscii hh _ x t))))
  | false => exact wpAny_bind (wpAny_holding (wpAny_pyIter_wide ha (go _ (Walks.strWide hh _ x t))))
end
section
variable {X : Cx} {pos : Pos}
/-- a, b, .. = a text of that length -/
def gTxt (n : Nat) (t : TGs) : TG := fun v σ H Q => ∃ x, v = .str x ∧ x.cps.size = n ∧ t ((signs x).map V.str) σ H Q
theorem pg_txt {es : List Expr} {k : Nat} {t : TGs} {n : Nat} (hc : X.calm = true) (h : PGs X es t)
    (hn : (assignEach es X.env).length = n := by rfl) (hst : (assignEach es X.env).findIdx? (·.1) = none := by rfl) : PG X (.Tuple es k pos) (gTxt n t) := by
  refine ⟨fun pins s σ H v u Q I r hw => ?_⟩
  obtain ⟨x, rfl, hl, hw⟩ := hw
  obtain ⟨tk, rfl⟩ := r
  rw [assign_Tuple]
  refine wpAny_bind (wpAny_standAt ?_)
  unfold unpack
  rw [hn, hst, ← hl]
  refine wpAny_bind (wpAny_holding (unpack_text (I.ok.hd hc) fun vs h' tk' are kk => ?_))
  exact h.run pins _ σ H _ _ Q (I.kept kk) (vals_of_strs are) hw
end
section
variable {P : Program} {w : World} {A : Around} {E : Value → Shared → Prop} {s : Shared}
/-- set(xs), xs a tuple of texts -/
theorem set_tup {b : Addr} {items : Array Value} {ss : List Str} {Q : Value → Shared → Prop} (hh : A.handled = none) (at_ : s.heap.IsTuple b items) (are : StrsAre items.toList ss) (few : ss.length + 1 < scanBound)
    (q : ∀ (h' : Heap) (tk : Nat) (D : SD) (l : List Str), (∀ b o, s.heap.get? b = some o → h'.get? b = some o) → h'.get? s.heap.objs.size = some (sObj "set" D) → Has P w D l → (∀ x, x ∈ l ↔ x ∈ ss) → Q (.ref s.heap.objs.size) { s with heap := h', toks := tk }) :
    wpAny (model P w) A (call (.type "set") [.ref b]) Q E s := by
  refine fresh_set (mem := fun x => x ∈ ss) (fun A' E' Q' hA k => ?_) q
  have h2 : A'.handled = none := hA.trans hh
  obtain ⟨ol, hol, hcl, nl, hdl⟩ := at_
  have lt : b < s.heap.objs.size := Heap.lt_size hol
  obtain ⟨ocls, odict, odata, oslots⟩ := ol
  simp only at hcl hdl
  subst hcl; subst hdl
  have there : (s.heap.push (sObj "set" (#[], 0, .fresh 0 0 (!w.params.followText "set-order")))).get? b = some { cls := .type "tuple", dict := odict, data := .seq items nl, slots := oslots } := Heap.get?_push_of_some _ hol
  have no1 := PySem.F.sub_tuple_set
  have no2 := PySem.F.sub_tuple_frozenset
  have no3 : (Value.type "tuple" == Value.type "dict") = false := by decide
  have isl : (s.heap.push (sObj "set" (#[], 0, .fresh 0 0 (!w.params.followText "set-order")))).IsTuple b items := ⟨_, there, rfl, nl, rfl⟩
  unfold Builtin.Frozenset.updateFrom
  generalize hI : pyIter = it
  wp_walk
  subst hI
  refine wpAny_pyIter_tuple isl (wpAny_bind (wpAny_runValue ?_))
  have sz : (s.heap.push (sObj "set" (#[], 0, .fresh 0 0 (!w.params.followText "set-order")))).objs.size = s.heap.objs.size + 1 := Heap.size_push ..
  have off : b ≠ (s.heap.push (sObj "set" (#[], 0, .fresh 0 0 (!w.params.followText "set-order")))).objs.size := by rw [sz]; exact Nat.ne_of_lt (Nat.lt_succ_of_lt lt)
  have n : items.size = ss.length := by rw [← Array.length_toList]; exact are_length are
  refine fill (s := s) (T := "set") (val := fun i => ss.getD i ⟨#[]⟩) (Walks.tuple (by simp [h2]) _ b off items) (S := s.heap.objs.size) ?_ (fun i v hv => ?_) (by omega) (fun h' tk D l keep at1 H mem => wpAny_pure (k h' tk D l (fun c o z => keep c o (Nat.ne_of_lt (Heap.lt_size z)) (fun m => ?_) z) at1 H fun x => (mem x).trans ?_))
    (items.size - 0) 0 _ _ _ [] rfl (Nat.zero_le _) ⟨⟨_, Heap.get?_push_size _ rfl, rfl, rfl⟩, isl.push _⟩ (fun c o _ _ z => Heap.get?_push_of_some _ (Heap.get?_push_of_some _ z)) (Heap.get?_push_of_some _ (Heap.get?_push_size _ rfl)) (Has.none 0) (fun x => by simp) (Nat.zero_le _)
  · rw [sz]
    intro z
    rcases List.mem_cons.mp z with z | z
    · exact absurd z (Nat.ne_of_lt (Nat.lt_succ_self _))
    · exact absurd (List.mem_singleton.mp z) (Nat.ne_of_gt lt)
  · exact are_at are i v (by rw [Array.getElem?_toList]; exact hv)
  · rw [List.mem_singleton.mp m, sz] at z
    exact absurd (Heap.lt_size z) (Nat.not_lt.mpr (Nat.le_succ _))
  · rw [n]
    constructor
    · rintro ⟨j, hj, e⟩
      rw [List.getD_eq_getElem?_getD, List.getElem?_eq_getElem hj] at e
      exact e ▸ List.getElem_mem hj
    · intro hx
      obtain ⟨j, hj, e⟩ := List.getElem_of_mem hx
      exact ⟨j, hj, by rw [List.getD_eq_getElem?_getD, List.getElem?_eq_getElem hj]; exact e⟩
end
section
variable {X : Cx}
/-- sorted(set(xs)), xs a tuple of texts -/
def tSortedSetT (K : PySem.W.Frag) (ta : TE) : TE := fun σ H Q => ta σ H fun x H1 => ∃ (l : Addr) (xs : List Str), x = V.ref l ∧ SqT K H1 l (xs.map V.str) ∧ xs.length < 64 ∧
  ∀ (ys : List Str) (p : Addr), Climbs ys → ys.Nodup → (∀ x, x ∈ ys ↔ x ∈ xs) → H1 p = none → Q (.ref p) (upd H1 p (.lst (ys.map V.str)))
theorem pe_sortedSetT {a : Expr} {ta : TE} {p p2 q pos : Pos} (hc : X.calm = true) (hg : Gl X "sorted") (hm : X.mg "sorted" = none) (hg2 : Gl X "set") (hm2 : X.mg "set" = none) (ha : PE X a ta)
    (na : starEach [a] X.env = (false, eval a X.env) :: starEach [] X.env := by rfl) : PE X (.Call (.Name "sorted" p) [.Call (.Name "set" p2) [a] [] q] [] pos) (tSortedSetT X.K ta) := by
  refine ⟨fun pins s σ H Q I h => Call_ (ld_blt I hg hm PyProof.Rows.boot_sorted (PyProof.Rows.callWith_builtin1 (PyProof.Rows.args_cons ?_ rfl) rfl rfl))⟩
  refine Call_ (ld_blt I hg2 hm2 PyProof.Rows.boot_set (PyProof.Rows.callWith_type1 (PyProof.Rows.args_cons (thn (ha.run pins s σ H _ I h) fun v s1 ⟨x, H1, I1, r1, q1⟩ => PyProof.Rows.args_nil ?_) na) na rfl))
  obtain ⟨l, xs, rfl, hq, few, fin⟩ := q1
  cases r1
  obtain ⟨its, r, pl, _⟩ := I1.tuple hq
  refine set_tup (I1.ok.hd hc) pl (by simpa using r.strs) (by unfold scanBound; omega) fun h' tk D L k1 at1 S mem => PyProof.Rows.args_nil ?_
  have I2 : Inv X pins σ H1 { s1 with heap := h', toks := tk } := I1.kept k1
  have short : L.length < 64 := Nat.lt_of_le_of_lt (List.Nodup.length_le_of_subset S.one fun x hx => (mem x).mp hx) few
  refine sort_set (I2.ok.hd hc) at1 S short fun s' b out c ys k g o z at2 are pm cl => ?_
  obtain ⟨J, n⟩ := inv_list I2 k g o z at2 are (by rw [pm.length_eq]; exact short)
  exact ⟨.ref b, _, J, rfl, fin ys b cl (pm.nodup_iff.mpr S.one) (fun x => pm.mem_iff.trans (mem x)) n⟩
/-- len(set(xs)), xs a list of texts -/
def tLenSetL (K : PySem.W.Frag) (ta : TE) : TE := fun σ H Q => ta σ H fun x H1 => ∃ (l : Addr) (xs : List Str), x = V.ref l ∧ SqL K H1 l (xs.map V.str) ∧ xs.length < 64 ∧ ∀ ys : List Str, ys.Nodup → (∀ x, x ∈ ys ↔ x ∈ xs) → Q (.int ys.length) H1
theorem pe_lenSetL {a : Expr} {ta : TE} {p p2 q pos : Pos} (hc : X.calm = true) (hg : Gl X "len") (hm : X.mg "len" = none) (hg2 : Gl X "set") (hm2 : X.mg "set" = none) (ha : PE X a ta)
    (na : starEach [a] X.env = (false, eval a X.env) :: starEach [] X.env := by rfl) : PE X (.Call (.Name "len" p) [.Call (.Name "set" p2) [a] [] q] [] pos) (tLenSetL X.K ta) := by
  refine ⟨fun pins s σ H Q I h => Call_ (ld_blt I hg hm PySem.boot_len (PyProof.Rows.callWith_builtin1 (PyProof.Rows.args_cons ?_ rfl) rfl rfl))⟩
  refine Call_ (ld_blt I hg2 hm2 PyProof.Rows.boot_set (PyProof.Rows.callWith_type1 (PyProof.Rows.args_cons (thn (ha.run pins s σ H _ I h) fun v s1 ⟨x, H1, I1, r1, q1⟩ => PyProof.Rows.args_nil ?_) na) na rfl))
  obtain ⟨l, xs, rfl, hq, few, fin⟩ := q1
  cases r1
  obtain ⟨its, r, pl, _⟩ := I1.list hq
  refine set_list (I1.ok.hd hc) pl.isList (by simpa using r.strs) (by unfold scanBound; omega) fun h' tk D L k1 at1 S mem => PyProof.Rows.args_nil ?_
  have I2 : Inv X pins σ H1 { s1 with heap := h', toks := tk } := I1.kept k1
  have short : D.1.size = L.length := S.ok.sz
  have le : L.length ≤ xs.length := List.Nodup.length_le_of_subset S.one fun x hx => (mem x).mp hx
  refine call_len_set at1 ⟨rfl, rfl, rfl⟩ rfl S.ok.fit (by rw [short] <;> omega) ⟨.int L.length, H1, I2.tok _, ⟨_, by rw [short]⟩, fin L S.one mem⟩
end
end L2.Cal
end

section
set_option maxRecDepth 100000
set_option maxHeartbeats 4000000
/-! a list or tuple gathered; the heap grows -/
namespace CpComb
open PySem PySem.Spec
section
variable {prog : Program} {w : World} {A : Around} {E : Value → Shared → Prop} {s : Shared}
theorem collect_seq {Q : List Value → Shared → Prop} (it : Addr) {T : String} {o : Obj} {items : Array Value} {n : Nat} (hT : T = "list" ∨ T = "tuple") (ho : s.heap.get? it = some o) (hc : o.cls = .type T) (hd : o.data = .seq items n) (hsz : items.size ≤ sizeLine)
    (q : ∀ h' : Heap, s.heap.objs.size ≤ h'.objs.size → (∀ b o', s.heap.get? b = some o' → h'.get? b = some o') → Q items.toList { s with heap := h' }) : wpAny (model prog w) A (collect (.ref it)) Q E s := by
  have key : ∀ Q0 : Value → Shared → Prop, (∀ h' : Heap, (∀ b o', s.heap.get? b = some o' → h'.get? b = some o') → (∃ c', h'.get? s.heap.objs.size = some { cls := .type "list", data := .seq items c' }) → Q0 (.ref s.heap.objs.size) { s with heap := h' }) →
      wpAny (model prog w) A (runValue (Code.builtin "proto.collect" { pos := [.ref it] })) Q0 E s := fun Q0 q0 => by
    refine wpAny_runValue (codeAny_builtin F.entry_proto_collect ?_)
    rw [Around.under_plainId F.plain_proto_collect { pos := [.ref it] }]
    show wpAny _ _ (newList [] >>= _) _ _ _
    refine wpAny_bind (wpAny_newList ?_)
    refine wpAny_pure ⟨plainId_quiet F.plain_list_iadd _, codeAny_builtin F.entry_list_iadd ?_⟩
    rw [Around.under_plainId F.plain_list_iadd]
    show wpAny _ _ (Builtin.List.listExtendWith (.ref s.heap.objs.size) (.ref it) (.ref s.heap.objs.size)) _ _ _
    have hS : (s.heap.push { cls := .type "list", data := .seq ([] : List Value).toArray }).get? s.heap.objs.size = some { cls := .type "list", data := .seq #[] 0 } := Heap.get?_push_size _ rfl
    have hS2 := Heap.get?_update_self (Obj.mapSeq (· ++ items)) hS rfl
    refine wpAny_extend_seq (hsz := hsz) (R := fun r s' => match r with | .ok (.ret v) => Q0 v s' | .ok _ => False | .error e => E e s') (s := { s with heap := s.heap.push { cls := .type "list", data := .seq ([] : List Value).toArray } }) _ it _ 0 hT hS (Heap.get?_push_of_some _ ho) hc hd ?_
    refine q0 _ (fun b o' hb => (Heap.get?_update_other _ _ (Nat.ne_of_gt (Heap.lt_size hb))).trans (Heap.get?_push_of_some _ hb)) ?_
    have sh : ∃ c', Obj.mapSeq (· ++ items) { cls := .type "list", data := .seq #[] 0 } = { cls := .type "list", data := .seq items c' } := by
      unfold Obj.mapSeq
      dsimp only
      rw [Array.empty_append]
      exact ⟨_, rfl⟩
    obtain ⟨c', e⟩ := sh
    exact ⟨c', hS2.trans (congrArg some e)⟩
  unfold collect
  refine wpAny_bind (key _ fun h' k1 ⟨c', k2⟩ => wpAny_bind (wpAny_load k2 (wpAny_pure (q h' (Nat.le_of_lt (Heap.lt_size k2)) k1))))
end
end CpComb
end

section
set_option maxRecDepth 100000
set_option maxHeartbeats 4000000
/-! sorted(a tuple of texts); x not in o; one order of texts alone -/
namespace L2.Cal
open PySem PySem.Spec PyProof.Rows PySem.Froz L2
theorem below_lt {a b : Str} : Below a b ↔ a.cps.toList < b.cps.toList := by
  unfold Below
  rw [ltCps_eq, decide_eq_true_iff]
theorem below_trans {a b c : Str} (h : Below a b) (k : Below b c) : Below a c := below_lt.mpr (List.lt_trans (below_lt.mp h) (below_lt.mp k))
theorem below_irr {a : Str} (h : Below a a) : False := List.lt_irrefl _ (below_lt.mp h)
theorem climbs_all : ∀ {ys : List Str}, Climbs ys → ys.Pairwise Below
  | [], _ => .nil
  | [_], _ => List.pairwise_singleton _ _
  | a :: b :: r, h => by
    have ih := climbs_all (ys := b :: r) h.2
    refine List.Pairwise.cons (fun x hx => ?_) ih
    rcases List.mem_cons.mp hx with e | hx
    · exact e ▸ h.1
    · exact below_trans h.1 ((List.pairwise_cons.mp ih).1 x hx)
theorem climbs_of : ∀ {ys : List Str}, ys.Pairwise Below → Climbs ys
  | [], _ => trivial
  | [_], _ => trivial
  | a :: b :: r, h => ⟨(List.pairwise_cons.mp h).1 b List.mem_cons_self, climbs_of (List.pairwise_cons.mp h).2⟩
theorem climbs_nodup {ys : List Str} (h : Climbs ys) : ys.Nodup := by
  refine List.Pairwise.imp (R := Below) (fun {a b} k => ?_) (climbs_all h)
  intro e
  subst e
  exact below_irr k
theorem only_order : ∀ {xs ys : List Str}, xs.Pairwise Below → ys.Pairwise Below → (∀ z, z ∈ xs ↔ z ∈ ys) → xs = ys
  | [], [], _, _, _ => rfl
  | [], y :: ys, _, _, m => absurd ((m y).mpr List.mem_cons_self) (by simp)
  | x :: xs, [], _, _, m => absurd ((m x).mp List.mem_cons_self) (by simp)
  | x :: xs, y :: ys, hx, hy, m => by
    obtain ⟨h1, h2⟩ := List.pairwise_cons.mp hx
    obtain ⟨k1, k2⟩ := List.pairwise_cons.mp hy
    have e : x = y := by
      rcases List.mem_cons.mp ((m x).mp List.mem_cons_self) with e | h
      · exact e
      rcases List.mem_cons.mp ((m y).mpr List.mem_cons_self) with e | k
      · exact e.symm
      exact (below_irr (below_trans (h1 y k) (k1 x h))).elim
    subst e
    rw [only_order h2 k2 fun z => ⟨fun h => ?_, fun h => ?_⟩]
    · rcases List.mem_cons.mp ((m z).mp (List.mem_cons_of_mem _ h)) with e | k
      · exact (below_irr (e ▸ h1 z h)).elim
      · exact k
    · rcases List.mem_cons.mp ((m z).mpr (List.mem_cons_of_mem _ h)) with e | k
      · exact (below_irr (e ▸ k1 z h)).elim
      · exact k
theorem climbs_only {xs ys : List Str} (hx : Climbs xs) (hy : Climbs ys) (m : ∀ z, z ∈ xs ↔ z ∈ ys) : xs = ys := only_order (climbs_all hx) (climbs_all hy) m
theorem climbs_filter {ys : List Str} (p : Str → Bool) (h : Climbs ys) : Climbs (ys.filter p) := climbs_of ((climbs_all h).filter p)
section
variable {X : Cx} {CX : CXT} {k : Nat} {C f : Addr} {fd : FuncData} {ps : List Str} {sp : Sp} {E : XK}
/-- x not in o -/
def rNotInO (C : Addr) (sp : Sp) (E : XK) : V → V → Hp → VK → Prop := fun x y H Q => ∃ (a dx : Addr) (fs : List (Str × V)), y = .ref a ∧ H a = some (.ins C dx fs) ∧ sp [.ref a, x] H (fun v H' => ∃ b : Bool, v = .bl b ∧ Q (.bl (!b)) H') E
theorem op_notInO (o : Own X.K C "__contains__" f) (F : FnOk X.prog X.w X.K X.mg X.base CX k f fd ps sp) (hr : Room k X.A) (hb : Binds X.K fd ps []) (hx : Passes CX X.nox E) : OpR X (compareOp .NotIn) (rNotInO C sp E) := by
  rintro pins s σ H x _ v u Q I rx ry ⟨a, dx, fs, rfl, ea, h⟩
  cases ry
  obtain ⟨ox, od, J⟩ := ins_at I ea
  refine wpAny_bind (m := contains _ _) ?_
  unfold contains
  refine wpAny_holding (wpAny_bind (wpAny_bind (J.type.here ((PySem.W.looks_findIn I.kIn o.at_).here ?_))))
  rw [if_neg (by simp)]
  refine wpAny_bind (PySem.W.unlessNone_K I.kIn J o.at_ o.isFn (wpAny_mono (run_at (vs := [.ref a, x]) I.env0 hr I F hb (.cons rfl (.cons rx .nil)) hx h) (fun u s' hq => ?_) fun _ _ z => z))
  obtain ⟨v', H', I', rv, b, rfl, q⟩ := hq
  cases rv
  exact wpAny_pure (wpAny_pure ⟨.bl (!b), H', I', rfl, q⟩)
/-- sorted(t), t a tuple of texts -/
def rSortedT (K : PySem.W.Frag) : List V → Hp → VK → Prop := fun vs H Q => ∃ (a : Addr) (xs : List Str), vs = [.ref a] ∧ SqT K H a (xs.map V.str) ∧ xs.length < 64 ∧
  ∀ (ys : List Str) (p : Addr), ys.Perm xs → sortedS ys = true → H p = none → Q (.ref p) (upd H p (.lst (ys.map V.str)))
theorem cr_sortedT : CallR X (.builtin "sorted") (rSortedT X.K) := by
  rintro pins s σ H vs us Q I r ⟨a, xs, rfl, hs, few, q⟩
  rw [Vals.ref1 r]
  obtain ⟨its, rv, ⟨o, ho, hc, n, hd⟩, hl⟩ := I.tuple hs
  have len := rv.length
  rw [List.length_map] at len
  refine sort_texts (good := fun s1 ss => ss = xs ∧ (∀ b o, s.heap.get? b = some o → s1.heap.get? b = some o) ∧ s1.gens = s.gens ∧ s1.drawn = s.drawn ∧ s1.os = s.os ∧ s1.toks = s.toks ∧ s.heap.objs.size ≤ s1.heap.objs.size) (fun s1 ss h => by rw [h.1]; exact few) (fun E' Q' k => ?_)
    fun s1 s' out c ys ss ⟨e, k1, g1, d1, o1, t1, z1⟩ k g o at1 are pm so => ?_
  · refine CpComb.collect_seq a (T := "tuple") (.inr rfl) ho hc hd (by rw [List.size_toArray, ← len, sizeLine_eq]; omega) fun h' z kk => ?_
    exact k { s with heap := h' } _ xs ⟨rfl, kk, rfl, rfl, rfl, rfl, z⟩ (by simpa using rv.strs)
  · subst e
    have I1 : Inv X pins σ H s1 := by
      have z : s1 = { s with heap := s1.heap, toks := s1.toks } := by
        cases s1
        cases s
        cases g1
        cases d1
        cases o1
        rfl
      rw [z]
      exact I.kept k1
    obtain ⟨J, n⟩ := inv_list I1 k g o (Nat.le_refl _) at1 are (by rw [pm.length_eq]; exact few)
    exact ⟨.ref _, _, J, rfl, q ys _ pm so n⟩
end
end L2.Cal
end

section
set_option maxRecDepth 100000
set_option maxHeartbeats 4000000
/-! where a letter stands in a text -/
namespace L2.Cal
open PySem PySem.Spec PyProof.Rows L2
theorem occ_sub (s sub : Str) (lo hi limit : Nat) : ∀ i ∈ Builtin.Str.occurrences s sub lo hi limit, i + sub.length ≤ hi ∧ Builtin.Str.subAt s sub i = true := by
  have key : ∀ (l : List Nat) (f0 : Array Nat) (r : Nat), (∀ i ∈ f0.toList, i + sub.length ≤ hi ∧ Builtin.Str.subAt s sub i = true) →
      ∀ i ∈ (Id.run (forIn (m := Id) l (f0, r) fun i (__s : Array Nat × Nat) =>
          if (decide (__s.fst.size < limit) && decide (__s.snd ≤ i) && decide (i + sub.length ≤ hi) && Builtin.Str.subAt s sub i) = true then pure (ForInStep.yield (__s.fst.push i, i + sub.length)) else pure (ForInStep.yield (__s.fst, __s.snd)))).1.toList, i + sub.length ≤ hi ∧ Builtin.Str.subAt s sub i = true := by
    intro l
    induction l with
    | nil => intro f0 r h; simpa using h
    | cons a l ih =>
      intro f0 r h
      rw [List.forIn_cons]
      by_cases c : (decide (f0.size < limit) && decide (r ≤ a) && decide (a + sub.length ≤ hi) && Builtin.Str.subAt s sub a) = true
      · simp only [c, if_true]
        refine ih (f0.push a) (a + sub.length) fun i hi => ?_
        rw [Array.toList_push, List.mem_append, List.mem_singleton] at hi
        rcases hi with hi | rfl
        · exact h i hi
        · simp only [Bool.and_eq_true, decide_eq_true_eq] at c
          exact ⟨c.1.2, c.2⟩
      · simp only [c, if_false]
        exact ih f0 r h
  unfold Builtin.Str.occurrences
  simp only [Std.Legacy.Range.forIn_eq_forIn_range']
  exact key _ #[] lo (by simp)
theorem index0_at {y : Str} {c i : Nat} (h : Txt.index0 y ⟨#[c]⟩ = some i) : y.cps.toList[i]? = some c := by
  unfold Txt.index0 at h
  exact (PySem.StrLaws.subAt_one y c i).mp (occ_sub _ _ _ _ _ i (List.mem_of_head? h))
theorem index0_in {y : Str} {c : Nat} (h : c ∈ y.cps.toList) : ∃ i, Txt.index0 y ⟨#[c]⟩ = some i := by
  have f := PySem.StrLaws.found_one y c
  rw [decide_eq_true h] at f
  unfold Txt.index0
  cases e : Builtin.Str.occurrences y ⟨#[c]⟩ 0 y.length 1 with
  | nil => rw [e] at f; simp at f
  | cons a l => exact ⟨a, rfl⟩
end L2.Cal
end

section
set_option maxRecDepth 100000
set_option maxHeartbeats 4000000
set_option synthInstance.maxHeartbeats 400000
/-! the order of the most -/
namespace L2.Cal
open PySem PySem.Spec PyProof.Rows L2 LamX LamK
abbrev sOdr : Stmt := crS 10
abbrev nOdr : List Str := ["self", "beaten", "ranked", "at", "thing", "other"]
theorem scOdr : FnScope nOdr ["self"] (defScope sOdr) := ⟨rfl, rfl, rfl, by decide +kernel, rfl, by decide +kernel, by decide +kernel⟩
abbrev ordQ : Str := (envOfC "Crowd.order" (defScope sOdr) 0 0 .none).qual ++ "<lambda>"
/-- a method whose code object is known -/
theorem Fun_okT {P : Program} {w : World} {K : PySem.W.Frag} {mg : Str → Option Value} {base : Heap} {x qual : Str} {st : Stmt} {f c : Addr} {fd : FuncData} {N ps : List Str} {k : Nat} {sp : Sp} (F : Fun K x qual st f fd) (hc : fd.code = .ref c) (S : FnScope N ps (defScope st)) (many : ∀ us H Q E, sp us H Q E → us.length = ps.length)
    (body : ∀ (A : Around) (outer : List Env) (s : Shared) (H : Hp) (us : List V) (Q : VK) (E : XK), Room k (A.deeper (envOfC qual (defScope st) s.heap.objs.size f (.ref c))) → sp us H Q E →
      ∃ t, PSs (cxOf CX0 P w K mg base N qual (defScope st) f (.ref c) A outer s H E).nox (defBody st) t ∧ t { nx := fun _ H' => Q .non H', rt := Q } (start N us) H) : FnOk P w K mg base CX0 (k + 1) f fd ps sp := by
  obtain ⟨c1, c2, c3, c4, c5, c6, c7, c8, c9, rfl, look, code⟩ := F.ex
  obtain rfl : c7 = .ref c := hc
  refine fn_of look code S many fun A outer s H us Q E room promise => ?_
  obtain ⟨t, walks, asked⟩ := body A outer s H us Q E room promise
  exact ⟨t, walks.nox, asked⟩
/-- how many a thing beats -/
def nbt (z : Str) (ys : List Str) (ns : List Int) (a : Nat) : Nat := (btS z ys ns a).cps.size
def nbK (z : Str) (ys : List Str) (ns : List Int) : V → Int
  | .str s => (nbt z ys ns (s.cps.getD 0 0) : Nat)
  | _ => 0
/-- the things, those that beat more ahead -/
def rkd (z : Str) (ys : List Str) (ns : List Int) : List Nat := z.cps.toList.mergeSort fun a b => decide (nbt z ys ns b ≤ nbt z ys ns a)
theorem rkd_vals (z : Str) (ys : List Str) (ns : List Int) (l : List Nat) : (l.map fun a => V.str (chS a)).mergeSort (PySem.W.dataLe true (keyN (nbK z ys ns))) = (l.mergeSort fun a b => decide (nbt z ys ns b ≤ nbt z ys ns a)).map fun a => V.str (chS a) := by
  rw [List.map_mergeSort]
  intro a _ b _
  show decide (nbt z ys ns b ≤ nbt z ys ns a) = !PySem.W.dataLt (.int (nbt z ys ns a : Nat)) (.int (nbt z ys ns b : Nat))
  rw [PySem.W.dataLt_int]
  by_cases h : nbt z ys ns b ≤ nbt z ys ns a
  · rw [decide_eq_true h, decide_eq_false (by omega)] <;> rfl
  · rw [decide_eq_false h, decide_eq_true (by omega)] <;> rfl
theorem rkd_perm (z : Str) (ys : List Str) (ns : List Int) : (rkd z ys ns).Perm z.cps.toList := List.mergeSort_perm _ _
theorem in_btO {z : Str} {ys : List Str} {ns : List Int} {a b : Nat} (h : b ∈ z.cps.toList) : decide (b ∈ (btS z ys ns a).cps.toList) = btB ys ns a b := by
  have : b ∈ (btS z ys ns a).cps.toList ↔ btB ys ns a b = true := by
    show b ∈ z.cps.toList.filter (fun b => btB ys ns a b) ↔ _
    rw [List.mem_filter]
    exact ⟨fun h => h.2, fun g => ⟨h, g⟩⟩
  rw [Bool.eq_iff_iff, decide_eq_true_eq]
  exact this
theorem cutV_from (xs : List V) (k : Nat) : cutV xs (some (k : Int)) none = xs.drop k := by
  unfold cutV
  rw [HT.sIx_none, HT.sIx_nat]
  refine (List.take_of_length_le ?_).trans ?_
  · rw [List.length_drop]; exact Nat.le_refl _
  · rcases Nat.le_total k xs.length with h | h
    · rw [Nat.min_eq_left h]
    · rw [Nat.min_eq_right h, List.drop_of_length_le (by omega), List.drop_of_length_le (by omega)]
def okAt (z : Str) (ys : List Str) (ns : List Int) (i : Nat) : Bool := ((rkd z ys ns).drop (i + 1)).all fun b => btB ys ns ((rkd z ys ns).getD i 0) b
def ordB_ (z : Str) (ys : List Str) (ns : List Int) : Bool := (List.range z.cps.size).all (okAt z ys ns)
def OdrV (z : Str) (ys : List Str) (ns : List Int) : V := if ordB_ z ys ns = true then .str ⟨(rkd z ys ns).toArray⟩ else .non
def spOdr (T : List (Addr × Str)) (C Cr : Addr) : Sp := fun vs H Q _ => ∃ (c : Addr) (z : Str) (ys : List Str) (ns : List Int), vs = [.ref c] ∧ CrdZ C Cr H c z ys ns ∧ AskAll z ys ns ∧ Tabs T H ∧ ∀ H', ExtN H H' → Tabs T H' → Q (OdrV z ys ns) H'
section
variable {P : Program} {w : World} {K : PySem.W.Frag} {mg : Str → Option Value} {base : Heap} {C Cr : Addr}
theorem ok_odr {f c Pt fN fB fO fA fT fK : Addr} {fd fdN fdB fdO fdA fdT fdK : FuncData} {pO pT : Addr} {TT : List (Addr × Str)} (F : Fun K "order" "Crowd.order" sOdr f fd) (hc : fd.code = .ref c) (TB : TabB base mg c Pt) (hmT : (Pt, ordQ) ∈ TT) (hu : ∀ z ∈ TT, z.1 = Pt → z.2 = ordQ) (FN : Fun K "_beaten" "Crowd._beaten" sBtn fN fdN) (mN : Meth K Cr "_beaten" fN) (bN : Binds K fdN ["self"] []) (FB : Fun K "beats" "Crowd.beats" sBts fB fdB) (mB : Meth K Cr "beats" fB) (bB : Binds K fdB ["self", "thing", "other"] []) (FA : Fun K "_above" "Crowd._above" sAb_ fA fdA) (mA : Meth K Cr "_above" fA) (bA : Binds K fdA ["self", "thing", "other"] []) (DK : DefAt K mg "check_thing" sChT ["things", "thing"] fK fdK)
    (PT : PropOf K C "things" pT fT) (FT : Fun K "things" "Roll.things" sThi fT fdT) (bT : Binds K fdT ["self"] []) (PO : PropOf K C "orders" pO fO) (FO : Fun K "orders" "Roll.orders" sOrd fO fdO) (bO : Binds K fdO ["self"] []) (bsum : mg "sum" = none) (bzip : mg "zip" = none) (T : Txt mg) (R : RollC K mg C) (RC : CrC K mg Cr) :
    FnOk P w K mg base CX0 6 f fd ["self"] (spOdr TT C Cr) := by
  have GN : FnOk P w K mg base CX0 5 fN fdN ["self"] (spBtn C Cr) := ok_btn FN FB mB bB FA mA bA DK PT FT bT PO FO bO bsum bzip T R RC
  refine Fun_okT F hc scOdr (fun vs H Q E h => ?_) (fun A outer s H vs Q E hr h => ?_)
  · obtain ⟨c, z, ys, ns, rfl, _⟩ := h
    rfl
  · obtain ⟨cw, z, ys, ns, rfl, hz, as, tb, q⟩ := h
    have hu1 : (A.deeper (envOfC (Str.ofString "Crowd.order") (defScope sOdr) s.heap.objs.size f (.ref c))).units + 1 < cLine := by
      have := hr.units
      omega
    refine ⟨_, (pss_cons (ps_set (i := 1) scOdr.nd rfl (.inr rfl) (pe_meth0 (pv 0) RC.cls mN GN (hr.mono (by decide)) bN .nil pass0))
      (pss_cons (ps_set (i := 2) scOdr.nd rfl (.inl rfl) (pe_sortKR (T := TT) (N := ["each", "beaten"]) (p := "each") (fr := ["beaten"]) (js := [1]) (k := 2) (tb := tCB (fun xs H Q => ∃ z, xs = [V.str z] ∧ z.length ≤ sizeLine ∧ Q (V.int z.length) H) (tCons (tDGet (tVar 1) (tVar 0)) tNil)) (by rfl) T.b_sorted (pa_cons (pe_callTy (call_listD rfl) (by rfl) T.b_list (by decide +kernel) (pa_cons (pv 1) pa_nil)) pa_nil) TB rfl hmT hu hr
        (show NdefX.ndefB (defScope sOdr) {kind := .function, names := [("each",.local),("beaten",.free),("len",.globalImplicit)], isGenerator := false, isCoroutine := false} ["beaten"] = true from by decide +kernel) (NdefX.nscope_by (by decide +kernel)) rfl rfl (fun b hb => hb.elim (fun e => e ▸ List.mem_cons_self) fun e => List.mem_cons.mpr (.inr e)) (fun _ _ _ _ _ _ => rfl)
        (fun q cl c' f B g G room => pe_callB call_len_str (by rfl) T.b_len (by decide +kernel) (pa_cons (pe_dget (Nat.lt_of_le_of_lt (Nat.add_le_add_left (by decide : 1 ≤ 64) _) room.units) (pv 1) (pv 0) (fun _ _ => rfl)) pa_nil))))
      (pss_cons (ps_for PassesOwn.never rfl (pi_enum (by rfl) T.b_enumerate (pa_cons (pv 2) pa_nil)) (pg_tup rfl (pgs_cons (pg_name (i := 3) scOdr.nd rfl (.inl rfl)) (pgs_cons (pg_name (i := 4) scOdr.nd rfl (.inr rfl)) pgs_nil)))
        (pss_one (ps_if (pt_not (pt_val (pe_callB (cr_all rfl) (by rfl) T.b_all (by decide +kernel) (pa_cons (pe_lc (own := [("other", 5)]) (g := gName 5) (tt := tYes) rfl scOdr.nd (pi_list (pe_slice sl_list (pv 2) (po_some (pe_op op_add (pv 3) pe_int)) po_none)) (blkOk_by (own := [("other", 5)]) (N := nOdr) (sc := defScope sOdr) (by decide +kernel))
            (fun _ _ _ _ _ => pg_name (i := 5) scOdr.nd rfl (Or.inl rfl)) (fun _ _ _ _ _ => pts_nil) (fun _ _ _ _ _ => pe_cmpR op_in_str (pv 5) (pe_dget hu1 (pv 1) (pv 4) (fun _ _ => rfl)) (by rfl))) pa_nil)))) (pss_one (ps_ret pe_non)) pss_nil)))
      (pss_one (ps_ret (pe_join pe_str (pv 2))))))), ?_⟩
    obtain ⟨hcr, dx, fs, r, t, e, l, no, ra⟩ := id hz
    have zl : z.cps.toList.length = z.cps.size := Array.length_toList
    have z6 := as.z6
    have lim : ∀ {n : Nat}, n ≤ 1000 → n ≤ sizeLine := fun h => by rw [sizeLine_eq]; omega
    refine ⟨_, rfl, cw, dx, fs, rfl, e, no _ (by decide) (by decide) (by decide), cw, z, ys, ns, rfl, hz, as, fun d H1 s1 n1 e1 => ?_⟩
    have kv : (bkv z ys ns z.cps.toList).map (fun kv => kV kv.1) = z.cps.toList.map fun a => V.str (chS a) := by
      unfold bkv
      rw [List.map_map] <;> rfl
    have dg : ∀ u H', H' d = some (.dK (bkv z ys ns z.cps.toList)) → u ∈ z.cps.toList → DGet H' d (.str (chS u)) (some (.str (btS z ys ns u))) := fun u H' s hu => .inl ⟨_, .inr (chS u), .inl s, rfl, (bkv_val hu).symm⟩
    have bl : ∀ a, (btS z ys ns a).length ≤ 6 := fun a => by
      show ((z.cps.toList.filter fun b => btB ys ns a b).toArray).size ≤ 6
      rw [List.size_toArray]
      exact Nat.le_trans (List.length_filter_le _ _) (by omega)
    refine ⟨_, rfl, d, _, rfl, .inl e1, fun l0 n0 => ⟨l0, _, rfl, upd_same, (tb.ext s1).ext (same_new n0), fun H2 e2 T2 => ⟨nbK z ys ns, fun x hx G1 g1 => ?_, fun p G1 g1 hp hG => ?_⟩⟩⟩
    · rw [kv] at hx
      obtain ⟨a, ha, rfl⟩ := List.mem_map.mp hx
      have ed : G1 d = some (.dK (bkv z ys ns z.cps.toList)) := g1 _ _ (e2 _ _ (same_new n0 _ _ e1) (fun ps z => by cases z))
      exact ⟨_, rfl, _, rfl, d, _, rfl, dg a _ ed ha, _, rfl, lim (Nat.le_trans (bl a) (by decide)), rfl, fun _ _ e => e⟩
    · rw [kv, rkd_vals] at hG
      have hG : G1 p = some (.lst ((rkd z ys ns).map fun a => V.str (chS a))) := hG
      have X1 : ExtN H G1 := (ExtN.of s1).trans ((ExtN.of (same_new n0)).trans (e2.trans (ExtN.of g1)))
      have T3 := T2.ext g1
      have ed : G1 d = some (.dK (bkv z ys ns z.cps.toList)) := g1 _ _ (e2 _ _ (same_new n0 _ _ e1) (fun ps z => by cases z))
      obtain ⟨rk, hrk⟩ : ∃ rk, rk = rkd z ys ns := ⟨_, rfl⟩
      have rp : rk.Perm z.cps.toList := hrk ▸ rkd_perm z ys ns
      have rl := rp.length_eq
      rw [← hrk] at hG
      have ml : (rk.map fun a => V.str (chS a)).length = rk.length := List.length_map ..
      refine ⟨_, rfl, p, _, rfl, SqL.of hG, for_it (walk_enum (K := K) (a := p) (xs := rk.map fun a => V.str (chS a))) (fun i σ H' => ∃ v3 v4 v5, σ = [some (.ref cw), some (.ref d), some (.ref p), v3, v4, v5] ∧ Same G1 H' ∧ ∀ i' < i, okAt z ys ns i' = true) ⟨_, _, _, rfl, fun _ _ e => e, fun i' h => absurd h (Nat.not_lt_zero _)⟩ (fun i σ H' _ hP => ?_) (fun i x σ H3 H4 hi hP hY => ?_) (fun σ H3 hP => ?_)⟩
      · obtain ⟨_, _, _, _, s, _⟩ := hP
        exact SqL.of (s _ _ hG)
      · obtain ⟨v3, v4, v5, rfl, s3, ok⟩ := hP
        obtain ⟨T', a', b', rfl, nT, rfl, f1, f2⟩ := hY
        cases f1
        rw [ml] at hi
        have f2 : (rk.map fun a => V.str (chS a))[i]? = some b' := f2
        rw [List.getElem?_map, List.getElem?_eq_getElem hi] at f2
        cases f2
        have s4 : Same G1 (upd H3 T' (.tup [.int (i : Nat), .str (chS rk[i])])) := s3.trans (same_new nT)
        refine ⟨T', _, rfl, SqT.of upd_same, rfl, _, _, rfl, _, _, rfl, rfl, ?_⟩
        generalize upd H3 T' (.tup [.int (i : Nat), .str (chS rk[i])]) = H4 at s4 ⊢
        clear nT s3 H3
        have ct : cutV (rk.map fun a => V.str (chS a)) (some ((i : Int) + 1)) none = (rk.drop (i + 1)).map fun a => V.str (chS a) := by
          rw [show (i : Int) + 1 = ((i + 1 : Nat) : Int) by omega, cutV_from, List.map_drop]
        refine ⟨_, rfl, _, rfl, _, _, rfl, rfl, _, rfl, p, _, rfl, SqL.of (s4 _ _ hG), fun F nF => ?_⟩
        rw [ct]
        have dl : ((rk.drop (i + 1)).map fun a => V.str (chS a)).length = (rk.drop (i + 1)).length := List.length_map ..
        refine ⟨F, rfl, ⟨_, SqL.of upd_same⟩, fun D nD => lc_list (K := K) (a := F) (xs := (rk.drop (i + 1)).map fun a => V.str (chS a)) (fun m H' => Same (upd H4 F (.lst ((rk.drop (i + 1)).map fun a => V.str (chS a)))) H' ∧ H' D = some (.lst ((((rk.drop (i + 1)).take m).map fun b => btB ys ns rk[i] b).map V.bl))) ⟨same_new nD, upd_same⟩ (fun m H' _ hP => SqL.of (hP.1 _ _ upd_same)) (fun m v H5 hv hP => ?_) (fun H5 hP => ?_)⟩
        · obtain ⟨s5, e5⟩ := hP
          rw [List.getElem?_map] at hv
          obtain ⟨o, ho, rfl⟩ := Option.map_eq_some_iff.mp hv
          have S5 := s4.trans ((same_new nF).trans s5)
          have oin : o ∈ z.cps.toList := rp.mem_iff.mp (List.mem_of_mem_drop (List.mem_of_getElem? ho))
          have iin : rk[i] ∈ z.cps.toList := rp.mem_iff.mp (List.getElem_mem hi)
          refine ⟨rfl, _, rfl, _, rfl, _, rfl, d, _, rfl, dg _ _ (S5 _ _ ed) iin, _, _, rfl, rfl, ?_⟩
          have fo := (PySem.StrLaws.found_one (btS z ys ns rk[i]) o).trans (in_btO oin)
          refine ⟨_, e5, by rw [List.length_map, List.length_map, List.length_take, List.length_drop, sizeLine_eq]; omega, fun b o' h => ?_, ?_⟩
          · rw [upd_ne (ne_of_none h nD)]
            exact s5 _ _ h
          · rw [upd_same, List.take_succ, ho, Option.toList_some, List.map_append, List.map_append]
            exact congrArg (fun b => some (HO.lst (((((rk.drop (i + 1)).take m).map fun b => btB ys ns rk[i] b).map V.bl) ++ [V.bl b]))) fo
        · obtain ⟨s5, e5⟩ := hP
          rw [dl, List.take_length] at e5
          refine ⟨D, _, rfl, SqL.of e5, ?_⟩
          have oa : ((rk.drop (i + 1)).map fun b => btB ys ns rk[i] b).all id = okAt z ys ns i := by
            unfold okAt
            rw [← hrk, List.all_map, List.getD_eq_getElem?_getD, List.getElem?_eq_getElem hi] <;> rfl
          rw [oa]
          refine ⟨_, rfl, ?_⟩
          have S5 := s4.trans ((same_new nF).trans s5)
          show if (!okAt z ys ns i) = true then _ else _
          cases c : okAt z ys ns i with
          | true =>
            refine iteF ⟨_, _, _, rfl, S5, fun i' h => ?_⟩
            rcases Nat.lt_succ_iff_lt_or_eq.mp h with h | rfl
            · exact ok i' h
            · exact c
          | false =>
            refine iteT ?_
            have nb : ordB_ z ys ns = false := by
              refine Bool.eq_false_iff.mpr fun all => ?_
              have := List.all_eq_true.mp all i (List.mem_range.mpr (by omega))
              rw [c] at this
              cases this
            have := q _ (X1.trans (ExtN.of S5)) (T3.ext S5)
            unfold OdrV at this
            rw [nb, if_neg Bool.false_ne_true] at this
            exact this
      · obtain ⟨v3, v4, v5, rfl, s3, ok⟩ := hP
        rw [ml] at ok
        have all : ordB_ z ys ns = true := List.all_eq_true.mpr fun i hi => ok i (by have := List.mem_range.mp hi; omega)
        have sg : (rk.map fun a => V.str (chS a)) = (signs ⟨rk.toArray⟩).map V.str := by
          unfold signs
          rw [List.map_map] <;> rfl
        have := q _ (X1.trans (ExtN.of s3)) (T3.ext s3)
        unfold OdrV at this
        rw [all, if_pos rfl, ← hrk] at this
        refine ⟨⟨_, rfl⟩, _, rfl, _, p, signs ⟨rk.toArray⟩, rfl, rfl, .inl (SqL.of (by rw [← sg]; exact s3 _ _ hG)), ?_, ?_⟩
        · rw [sign_sum, signs_length, show (PySem.Str.ofString "").length = 0 by decide +kernel]
          show rk.toArray.size + _ ≤ _
          rw [List.size_toArray]
          omega
        · rw [join_signs]
          exact this
end
end L2.Cal
end

section
set_option maxRecDepth 100000
set_option maxHeartbeats 4000000
/-! comprehensions of three clauses -/
namespace L2.C3
open PySem PySem.Spec PyProof.Rows L2
abbrev TB := St → Hp → (Hp → Prop) → Prop
/-- a later clause: its own walk in each turn of the one ahead, Nx behind it -/
def tCl (wi : TI) (g : TG) (tt : TT) (vs : List Nat) (body : TB) : TB := fun σ H Nx => wi σ H fun J H1 => ∃ W : Nat → Nat → Hp → Prop, (∃ m, W 0 m H1) ∧ ∀ i m H, W i m H →
  (J.stop i H ∧ Nx H) ∨ (J.go i H ∧ ∃ N1 : Hp → Prop, (∀ H', N1 H' → ∃ m', m' < m ∧ W (i + 1) m' H') ∧ ∀ x H', J.yld i H x H' → g x (wipe σ vs) H' fun σ2 H2 => wipe σ2 vs = wipe σ vs ∧ tt σ2 H2 fun b H3 => if b = true then body σ2 H3 N1 else N1 H3)
/-- the element is put behind the others -/
def tPut (te : TE) (D : Addr) : TB := fun σ H Nx => te σ H fun y H' => ∃ acc, H' D = some (.lst acc) ∧ acc.length < sizeLine ∧ Nx (upd H' D (.lst (acc ++ [y])))
/-- the first clause -/
def tTop (wi : TI) (g : TG) (tt : TT) (vs : List Nat) (body : Addr → TB) : TE := fun σ H Q => wi σ H fun J H1 => ∀ D, H1 D = none → ∃ W : Nat → Nat → Hp → Prop, (∃ m, W 0 m (upd H1 D (.lst []))) ∧ ∀ i m H, W i m H →
  (J.stop i H ∧ Q (.ref D) H) ∨ (J.go i H ∧ ∃ N1 : Hp → Prop, (∀ H', N1 H' → ∃ m', m' < m ∧ W (i + 1) m' H') ∧ ∀ x H', J.yld i H x H' → g x (wipe σ vs) H' fun σ2 H2 => wipe σ2 vs = wipe σ vs ∧ tt σ2 H2 fun b H3 => if b = true then body D σ2 H3 N1 else N1 H3)
abbrev No : Value → Shared → Prop := fun _ _ => False
section
variable {prog : Program} {w : World} {A : Around} {R : Result → Shared → Prop} {s : Shared} {elt t i1 : Expr} {gs : List Comprehension} {ifs : List Expr} {scope : Scope} {pos p : Pos} {it acc : Value} {env : Env} {k : Nat}
/-- what all turns share -/
abbrev TurnW (prog : Program) (w : World) (A : Around) (env : Env) (t : Expr) (ifs : List Expr) (it : Value) (stop : Shared → Prop) (body next : Shared → Prop) (E : Value → Shared → Prop) (s : Shared) : Prop :=
  wpAny (model prog w) A (pyNext it) (fun r s1 => match r with
    | none => stop s1
    | some v => wpAny (model prog w) A (letOwnedTupleGo t it v) (fun _ s2 => wpAny (model prog w) A (assign t env v) (fun _ s3 =>
        wpAny (model prog w) A (forIn ifs true fun c r => if r = true then do let y ← isTrue c env (eval c env); pure (ForInStep.yield y) else pure (ForInStep.yield r)) (fun y s4 => if y = true then body s4 else next s4) E s3) E s2) E s1) E s
abbrev MidW (prog : Program) (w : World) (A : Around) (e i1 : Expr) (k : Nat) (acc : Value) (env : Env) (E : Value → Shared → Prop) (R : Shared → Prop) (s : Shared) : Prop :=
  wpAny (model prog w) A (eval i1 env) (fun x s1 => wpAny (model prog w) A (pyIter x) (fun j s2 => codeAny (model prog w) A (.compStart e k j acc env) (fun r s3 => match r with | .ok _ => R s3 | .error _ => False) s2) E s1) E s
abbrev EndW (prog : Program) (w : World) (A : Around) (elt : Expr) (acc : Value) (env : Env) (E : Value → Shared → Prop) (R : Shared → Prop) (s : Shared) : Prop :=
  wpAny (model prog w) A (eval elt env) (fun x s1 => wpAny (model prog w) A (call (.builtin "list.append") [acc, x]) (fun _ s2 => R s2) E s1) E s
theorem loop_mid (ht : compTurn (.ListComp elt gs scope pos) k it acc env = (do
      standAt p
      match ← pyNext it with
      | none => pure (.done .next)
      | some v =>
        letOwnedTupleGo t it v
        assign t env v
        let mut ok := true
        for c in ifs do
          if ok then ok ← isTrue c env (eval c env)
        if ok then
          let x ← eval i1 env
          standAt i1.pos
          let x ← foldedSetIterable i1 env x
          let _ ← runOwn (.compStart (.ListComp elt gs scope pos) (k + 1) (← holding [x] (pyIter x)) acc env) env
        again (.compLoop (.ListComp elt gs scope pos) k it acc env)))
    (hs : ∀ x, foldedSetIterable i1 env x = pure x) (I : Nat → Shared → Prop)
    (turn : ∀ n s, I n s → TurnW prog w A env t ifs it (R (.ok .next)) (MidW prog w A (.ListComp elt gs scope pos) i1 (k + 1) acc env (notedBy (model prog w) A env fun e z => R (.error e) z) fun z => ∃ m, m < n ∧ I m z) (fun z => ∃ m, m < n ∧ I m z) (notedBy (model prog w) A env fun e z => R (.error e) z) s)
    (n : Nat) (h : I n s) : codeAny (model prog w) A (.compLoop (.ListComp elt gs scope pos) k it acc env) R s := by
  refine codeAny_loop rfl I (fun n s hI => ?_) n h
  show wpAny _ A (Sem.onRaise (compTurn (.ListComp elt gs scope pos) k it acc env) fun x => do noteFrame x env; theTreesLotGoes x) _ _ s
  refine wpAny_noted ?_
  rw [ht]
  refine wpAny_bind (wpAny_standAt (wpAny_bind (wpAny_mono (turn n s hI) (fun r z1 h1 => ?_) fun _ _ q => q)))
  cases r with
  | none => exact wpAny_pure h1
  | some v =>
    refine wpAny_bind (wpAny_mono h1 (fun _ z2 h2 => wpAny_bind (wpAny_mono h2 (fun _ z3 h3 => wpAny_bind (wpAny_mono h3 (fun y z4 h4 => ?_) fun _ _ q => q)) fun _ _ q => q)) fun _ _ q => q)
    cases y with
    | false => exact wpAny_pure ⟨rfl, h4⟩
    | true =>
      refine wpAny_bind (wpAny_mono h4 (fun x z5 h5 => wpAny_bind (wpAny_standAt (wpAny_bind (wpAny_of_eq (hs x) (wpAny_bind (wpAny_holding (wpAny_mono h5 (fun j z6 h6 => ?_) fun _ _ q => q))))))) fun _ _ q => q)
      refine wpAny_bind (wpAny_runOwn ?_)
      rw [Around.mark_none]
      refine codeAny_mono h6 fun r z7 hr => ?_
      cases r with
      | error e => exact hr.elim
      | ok f => first | exact wpAny_pure ⟨rfl, hr⟩ | exact wpAny_bind (wpAny_pure (wpAny_pure ⟨rfl, hr⟩))
theorem loop_end (ht : compTurn (.ListComp elt gs scope pos) k it acc env = (do
      standAt p
      match ← pyNext it with
      | none => pure (.done .next)
      | some v =>
        letOwnedTupleGo t it v
        assign t env v
        let mut ok := true
        for c in ifs do
          if ok then ok ← isTrue c env (eval c env)
        if ok then
          (do let _ ← call (.builtin "list.append") [acc, ← eval elt env])
        again (.compLoop (.ListComp elt gs scope pos) k it acc env)))
    (I : Nat → Shared → Prop)
    (turn : ∀ n s, I n s → TurnW prog w A env t ifs it (R (.ok .next)) (EndW prog w A elt acc env (notedBy (model prog w) A env fun e z => R (.error e) z) fun z => ∃ m, m < n ∧ I m z) (fun z => ∃ m, m < n ∧ I m z) (notedBy (model prog w) A env fun e z => R (.error e) z) s)
    (n : Nat) (h : I n s) : codeAny (model prog w) A (.compLoop (.ListComp elt gs scope pos) k it acc env) R s := by
  refine codeAny_loop rfl I (fun n s hI => ?_) n h
  show wpAny _ A (Sem.onRaise (compTurn (.ListComp elt gs scope pos) k it acc env) fun x => do noteFrame x env; theTreesLotGoes x) _ _ s
  refine wpAny_noted ?_
  rw [ht]
  refine wpAny_bind (wpAny_standAt (wpAny_bind (wpAny_mono (turn n s hI) (fun r z1 h1 => ?_) fun _ _ q => q)))
  cases r with
  | none => exact wpAny_pure h1
  | some v =>
    refine wpAny_bind (wpAny_mono h1 (fun _ z2 h2 => wpAny_bind (wpAny_mono h2 (fun _ z3 h3 => wpAny_bind (wpAny_mono h3 (fun y z4 h4 => ?_) fun _ _ q => q)) fun _ _ q => q)) fun _ _ q => q)
    cases y with
    | false => exact wpAny_pure ⟨rfl, h4⟩
    | true => exact wpAny_bind (wpAny_bind (wpAny_mono h4 (fun x z5 h5 => wpAny_bind (wpAny_mono h5 (fun _ z6 h6 => wpAny_pure (wpAny_pure ⟨rfl, h6⟩)) fun _ _ q => q)) fun _ _ q => q))
/-- a later clause begins -/
theorem start_by {c : Comprehension} (hk : gs[k]? = some c) (hna : c.is_async = 0) (h0 : codeAny (model prog w) A (.compLoop (.ListComp elt gs scope pos) k it acc env) R s)
    (h : wpAny (model prog w) A (pyIter it) (fun j z => codeAny (model prog w) A (.compLoop (.ListComp elt gs scope pos) k j acc env) R z) (notedBy (model prog w) A env fun x z => R (.error x) z) s) :
    codeAny (model prog w) A (.compStart (.ListComp elt gs scope pos) k it acc env) R s := by
  refine codeAny_of_tree ?_
  show wpAny _ _ (Sem.onRaise (compStart (.ListComp elt gs scope pos) k it acc env) fun x => do noteFrame x env; standAt theWindowsPlace) _ _ s
  refine wpAny_notedAt ?_
  have hcl : (clausesOf (.ListComp elt gs scope pos))[k]? = some c := hk
  unfold compStart
  rw [hcl]
  have ha : (Option.elim (some c) false fun x => x.is_async != 0) = false := by show (c.is_async != 0) = false; rw [hna]; rfl
  simp only [ha, Bool.false_eq_true, if_false]
  show wpAny _ _ (ask >>= _) _ _ s
  refine wpAny_bind (wpAny_askSetting (wpAny_ite ?_))
  split
  · first | exact wpAny_bind (wpAny_pure (wpAny_pure (And.intro rfl h0))) | exact wpAny_pure (And.intro rfl h0)
  · refine wpAny_bind (wpAny_rule ?_)
    show wpAny _ _ (standAt c.iter.pos >>= _) _ _ s
    exact wpAny_bind (wpAny_standAt (wpAny_bind (wpAny_mono h (fun j z q => wpAny_pure (And.intro rfl q)) fun _ _ x => x)))
end

theorem noX {α : Type} {t : Sem α} {Q Q' : α → Shared → Prop} {M : Model} {A : Around} {E : Value → Shared → Prop} {s : Shared} (hx : E = No) (h : wpAny M A t Q E s) (hQ : ∀ a s, Q a s → Q' a s) : wpAny M A t Q' No s := by
  rw [hx] at h
  exact wpAny_mono h hQ fun _ _ z => z
section
variable {prog : Program} {w : World} {A : Around} {E : Value → Shared → Prop}
theorem TurnW.any {env : Env} {t : Expr} {ifs : List Expr} {it : Value} {stop body body' next : Shared → Prop} {s : Shared} (h : TurnW prog w A env t ifs it stop body next No s) (hb : ∀ s, body s → body' s) : TurnW prog w A env t ifs it stop body' next E s := by
  refine wpAny_mono h (fun r s1 h1 => ?_) fun _ _ z => z.elim
  cases r with
  | none => exact h1
  | some v =>
    refine wpAny_mono h1 (fun _ s2 h2 => wpAny_mono h2 (fun _ s3 h3 => wpAny_mono h3 (fun y s4 h4 => ?_) fun _ _ z => z.elim) fun _ _ z => z.elim) fun _ _ z => z.elim
    cases y with
    | false => exact h4
    | true => exact hb _ h4
theorem MidW.any {e i1 : Expr} {k : Nat} {acc : Value} {env : Env} {R : Shared → Prop} {s : Shared} (h : MidW prog w A e i1 k acc env No R s) : MidW prog w A e i1 k acc env E R s :=
  wpAny_mono h (fun _ s1 h1 => wpAny_mono h1 (fun _ _ h2 => h2) fun _ _ z => z.elim) fun _ _ z => z.elim
theorem EndW.any {elt : Expr} {acc : Value} {env : Env} {R : Shared → Prop} {s : Shared} (h : EndW prog w A elt acc env No R s) : EndW prog w A elt acc env E R s :=
  wpAny_mono h (fun _ s1 h1 => wpAny_mono h1 (fun _ _ h2 => h2) fun _ _ z => z.elim) fun _ _ z => z.elim
end
/-- what a turn does behind its tests: slots beyond vs stay -/
def PB (X : Cx) (run : (Shared → Prop) → Shared → Prop) (vs : List Nat) (t : TB) : Prop :=
  ∀ (pins : List (Addr × Obj)) (s : Shared) (σ : St) (H : Hp) (Nx : Hp → Prop) (R : Shared → Prop), Inv X pins σ H s → t σ H Nx →
    (∀ z σ' H', Inv X pins σ' H' z → σ'.length = σ.length → (∀ (j : Nat) v, j ∉ vs → σ[j]? = some (some v) → σ'[j]? = some (some v)) → Nx H' → R z) → run R s
theorem pb_end {X : Cx} {elt : Expr} {te : TE} {D : Addr} (hx : X.xe = No) (he : PE X elt te) : PB X (EndW X.prog X.w X.A elt (.ref D) X.env No) [] (tPut te D) := by
  intro pins s σ H Nx R I h q
  refine noX hx (he.run pins s σ H _ I h) fun u z ⟨y, H', I', r, acc, hD, hz, nx⟩ => ?_
  exact app_ok I' hD hz r fun z2 I2 => q z2 σ _ I2 rfl (fun _ _ _ e => e) nx
/-- how the loop of a clause runs -/
def LoopBy (X : Cx) (e : Expr) (k : Nat) (t : Expr) (ifs : List Expr) (D : Addr) (run : (Shared → Prop) → Shared → Prop) : Prop :=
  ∀ (it : Addr) (R : Result → Shared → Prop) (I : Nat → Shared → Prop) (turn : ∀ n s, I n s → TurnW X.prog X.w X.A X.env t ifs (.ref it) (R (.ok .next)) (run fun z => ∃ m, m < n ∧ I m z) (fun z => ∃ m, m < n ∧ I m z) No s) (n : Nat) (s : Shared), I n s →
    codeAny (model X.prog X.w) X.A (.compLoop e k (.ref it) (.ref D) X.env) R s
theorem turn_go {X : Cx} {t1 : Expr} {ifs : List Expr} {g : TG} {tt : TT} {run : (Shared → Prop) → Shared → Prop} {vs vs1 : List Nat} {t : TB} {it : Addr} {fp : List Addr} {tn : Nat → Heap → Prop} {J : It} {W : Nat → Nat → Hp → Prop} {σ : St} {pins : List (Addr × Obj)} {stop : Shared → Prop} {End : Hp → Prop}
    (hx : X.xe = No) (hc : X.calm = true) (hg : PG X t1 g) (htt : PTs X ifs tt) (pb : PB X run vs1 t) (sub : ∀ j ∈ vs1, j ∈ vs)
    (T : Turn X.prog X.w X.K t1 J fp it tn) (hf : ∀ b ∈ fp, ∀ H', H' b = none → FpOk X pins H' b)
    (turn : ∀ i m H, W i m H → (J.stop i H ∧ End H) ∨ (J.go i H ∧ ∃ N1 : Hp → Prop, (∀ H', N1 H' → ∃ m', m' < m ∧ W (i + 1) m' H') ∧ ∀ x H', J.yld i H x H' → g x (wipe σ vs) H' fun σ2 H2 => wipe σ2 vs = wipe σ vs ∧ tt σ2 H2 fun b H3 => if b = true then t σ2 H3 N1 else N1 H3))
    (q : ∀ z H', Inv X pins (wipe σ vs) H' z → End H' → stop z) (n : Nat) (z : Shared)
    (h : ∃ i H', Inv X pins (wipe σ vs) H' z ∧ tn i z.heap ∧ (∀ b ∈ fp, H' b = none) ∧ W i n H') :
    TurnW X.prog X.w X.A X.env t1 ifs (.ref it) stop (run fun z => ∃ m, m < n ∧ ∃ i H', Inv X pins (wipe σ vs) H' z ∧ tn i z.heap ∧ (∀ b ∈ fp, H' b = none) ∧ W i m H') (fun z => ∃ m, m < n ∧ ∃ i H', Inv X pins (wipe σ vs) H' z ∧ tn i z.heap ∧ (∀ b ∈ fp, H' b = none) ∧ W i m H') No z := by
  obtain ⟨i, H5, I5, st5, n5, w5⟩ := h
  rcases turn i n H5 w5 with ⟨hstop, nx⟩ | ⟨hgo, N1, hN1, step⟩
  · refine thnF (T.done X rfl rfl rfl hc i pins z _ H5 No I5 (fun b hb => hf b hb _ (n5 b hb)) st5 hstop) fun r z2 ⟨hr, I6⟩ => ?_
    subst hr
    exact q z2 H5 I6 nx
  · refine thnF (T.item X rfl rfl rfl hc i pins z _ H5 No I5 (fun b hb => hf b hb _ (n5 b hb)) st5 hgo) fun r z2 ⟨u, hr, h6⟩ => ?_
    subst hr
    refine thnF h6 fun _ z3 ⟨x, H7, I7, r7, y7, st7, n7⟩ => ?_
    have I7' := I7.pinned (fun b hb => hf b hb _ (n7 b hb)) (T.obj _ _ st7)
    refine noX hx (hg.run _ z3 (wipe σ vs) H7 x u _ I7' r7 (step x H7 y7)) fun _ z4 ⟨σ8, H8, I8, hw8, q8⟩ => ?_
    refine noX hx (htt.run _ z4 σ8 H8 _ I8 q8) fun b z5 ⟨H9, I9, q9⟩ => ?_
    have fin : ∀ {z6 : Shared} {σ9 : St} {H' : Hp}, Inv X (pins ++ pinsAt fp z3.heap) σ9 H' z6 → σ9.length = σ8.length → (∀ (j : Nat) v, j ∉ vs1 → σ8[j]? = some (some v) → σ9[j]? = some (some v)) → N1 H' →
        ∃ m, m < n ∧ ∃ i H', Inv X pins (wipe σ vs) H' z6 ∧ tn i z6.heap ∧ (∀ b ∈ fp, H' b = none) ∧ W i m H' := fun {z6 σ9 H'} I' hl hk nx => by
      obtain ⟨m', hm, w'⟩ := hN1 H' nx
      have pin' : ∀ b ∈ fp, ∀ o, z3.heap.get? b = some o → z6.heap.get? b = some o ∧ H' b = none := fun b hb o e => by
        have y := I'.pin (b, o) (List.mem_append_right _ (List.mem_append_right _ (mem_pinsAt hb e)))
        exact ⟨y.1, y.2.1⟩
      refine ⟨m', hm, i + 1, H', I'.unpinned.weak ?_ (fun j v e => ?_), T.keep _ _ _ st7 fun b hb o e => (pin' b hb o e).1, fun b hb => ?_, w'⟩
      · rw [← hw8, wipe_length, hl]
      · rw [← hw8] at e
        obtain ⟨e1, e2⟩ := wipe_some e
        exact hk j v (fun z => e2 (sub j z)) e1
      · obtain ⟨o, e, _⟩ := T.obj _ _ st7 b hb
        exact (pin' b hb o e).2
    cases b with
    | false =>
      simp only [Bool.false_eq_true, if_false] at q9 ⊢
      exact fin I9 rfl (fun _ _ _ e => e) q9
    | true =>
      simp only [if_true] at q9 ⊢
      exact pb _ z5 σ8 H9 N1 _ I9 q9 fun z6 σ' H' I' hl hk nx => fin I' hl hk nx
theorem pb_cl {X : Cx} {elt t1 i1 : Expr} {gs : List Comprehension} {ifs : List Expr} {scope : Scope} {pos : Pos} {k : Nat} {D : Addr} {wi : TI} {g : TG} {tt : TT} {run : (Shared → Prop) → Shared → Prop} {vs vs1 : List Nat} {t : TB} (hx : X.xe = No) (hc : X.calm = true)
    (hk : gs[k]? = some ⟨t1, i1, ifs, 0⟩) (hi : PI X t1 i1 wi) (hg : PG X t1 g) (htt : PTs X ifs tt) (lp : LoopBy X (.ListComp elt gs scope pos) k t1 ifs D run) (pb : PB X run vs1 t) (sub : ∀ j ∈ vs1, j ∈ vs) :
    PB X (MidW X.prog X.w X.A (.ListComp elt gs scope pos) i1 k (.ref D) X.env No) vs (tCl wi g tt vs t) := by
  intro pins s σ H Nx R I h q
  refine noX hx (hi.run pins s σ H _ I h) fun v z1 h1 => noX hx h1 fun j z2 h2 => ?_
  obtain ⟨it, fp, tn, J, H2, e, I2, T, st2, f2, W, ⟨m0, w0⟩, turn⟩ := h2
  subst e
  have loop : codeAny (model X.prog X.w) X.A (.compLoop (.ListComp elt gs scope pos) k (.ref it) (.ref D) X.env) (fun r z => match r with | .ok _ => R z | .error _ => False) z2 := by
    refine lp it _ (fun n z => ∃ i H', Inv X pins (wipe σ vs) H' z ∧ tn i z.heap ∧ (∀ b ∈ fp, H' b = none) ∧ W i n H') (fun n z hh => ?_) m0 z2 ⟨0, H2, I2.weak (wipe_length _ _) (fun j v e => (wipe_some e).1), st2, fun b hb => (f2 b hb).1, w0⟩
    exact turn_go hx hc hg htt pb sub T (fun b hb H' hn => ⟨hn, (f2 b hb).2⟩) turn (fun z3 H' I' nx => q z3 _ H' I' (wipe_length _ _) (fun j v hj e => by rw [wipe_out hj]; exact e) nx) n z hh
  exact start_by hk rfl loop (T.self X.A 0 _ _ _ st2 loop)

section
variable {X : Cx}
/-- a rule for whatever block a comprehension makes -/
abbrev InBlk (X : Cx) (scope : Scope) (p : Cx → Prop) : Prop := ∀ (s : Shared) (H : Hp) (C : Addr) (cl : List (Str × Addr)) (fp : List Addr), p (X.blk s H scope (compEnvC scope cl C X.env) fp)
theorem top_core {pins : List (Addr × Obj)} {s : Shared} {σ : St} {H : Hp} {Q : VK} {elt tg iter : Expr} {ifs : List Expr} {gs : List Comprehension} {scope : Scope} {own : List (Str × Nat)} {vs1 : List Nat} {pos pos' : Pos} {wi : TI} {g : TG} {tt : TT} {t : Addr → TB} {use : Option (Value → Sem Unit)} {Qf : Value → Shared → Prop} {run : Cx → Addr → (Shared → Prop) → Shared → Prop}
    (hc : X.calm = true) (hN : X.N.Nodup) (I : Inv X pins σ H s) (hi : PI X tg iter wi) (ok : BlkOk X.N X.env.scope scope own) (sub : ∀ j ∈ vs1, j ∈ own.map (·.2)) (hs : ∀ x, foldedSetIterable iter X.env x = pure x)
    (hg : InBlk X scope fun Y => PG Y tg g) (ht : InBlk X scope fun Y => PTs Y ifs tt) (hp : InBlk X scope fun Y => ∀ D, PB Y (run Y D) vs1 (t D)) (lp : InBlk X scope fun Y => ∀ D, LoopBy Y (.ListComp elt (⟨tg, iter, ifs, 0⟩ :: gs) scope pos) 0 tg ifs D (run Y D))
    (h : tTop wi g tt (own.map (·.2)) t σ H Q)
    (last : ∀ D C z m H', Inv X pins σ H' z → Q (.ref D) H' → z.heap.Ns C m → FpOk X pins H' C → compPost (model X.prog X.w) X.A X.xe use Qf (.ref D) C (.ok .next) z) :
    wpAny (model X.prog X.w) X.A (comprehension (.ListComp elt (⟨tg, iter, ifs, 0⟩ :: gs) scope pos) scope X.env pos' (newList []) false (eval iter X.env) use) Qf X.xe s := by
  refine wpAny_comprehension_free (use := use) rfl hs (closure_ok fun y hy e => (ok.free y hy e).elim (fun k => I.ok.has _ (.inl k)) fun k => I.ok.has _ (.inr k)) ok.kind (fun y hy e => by rw [ok.uniq y hy, e])
    (thn (hi.run pins s σ H _ I h) fun _ z1 hx => thn hx fun itv z2 h2 => ?_)
  obtain ⟨it, fp, tn, J, H2, e, I2, T, st2, f2, q⟩ := h2
  subst e
  refine wpAny_newObj_type (newEnv_comp ?_) (by show 0 ≤ sizeLine; decide)
  generalize hD : z2.heap.objs.size = D
  obtain ⟨W, ⟨m0, w0⟩, turn⟩ := q D (I2.hok.fresh (Nat.le_of_eq hD))
  generalize hz3 : ({ z2 with heap := z2.heap.push { cls := .type "list", data := .seq ([] : List Value).toArray } } : Shared) = z3
  have kz : ∀ b o, z2.heap.get? b = some o → z3.heap.get? b = some o := fun b o e => by rw [← hz3]; exact Heap.get?_push_of_some _ e
  have I3 : Inv X pins σ (upd H2 D (.lst [])) z3 := by
    rw [← hz3]
    refine I2.laid (t' := z2.toks) (fun b o e => Heap.get?_push_of_some _ e) (Nat.le_of_eq hD) ⟨Nat.zero_le _, [], 0, .nil, ?_⟩
    rw [← hD]; exact Heap.get?_push_size _ rfl
  have f3 : ∀ b ∈ fp, FpOk X pins (upd H2 D (.lst [])) b ∧ b < z3.heap.objs.size := fun b hb => by
    obtain ⟨o, e, _⟩ := T.obj _ _ st2 b hb
    refine ⟨⟨?_, (f2 b hb).2⟩, Heap.lt_size (kz b o e)⟩
    rw [upd_ne (by rw [← hD]; exact Nat.ne_of_lt (Heap.lt_size e))]; exact (f2 b hb).1
  have st3 : tn 0 z3.heap := T.keep _ _ _ st2 fun b _ o e => kz b o e
  have I4 := block_start I3 ok hN f3
  have pg := hg z3 (upd H2 D (.lst [])) z3.heap.objs.size (cellsFrom (z3.heap.objs.size + 1) scope.names (cloFrom X.env.cells scope.names [])) fp
  have pt := ht z3 (upd H2 D (.lst [])) z3.heap.objs.size (cellsFrom (z3.heap.objs.size + 1) scope.names (cloFrom X.env.cells scope.names [])) fp
  have pb := hp z3 (upd H2 D (.lst [])) z3.heap.objs.size (cellsFrom (z3.heap.objs.size + 1) scope.names (cloFrom X.env.cells scope.names [])) fp D
  have pl := lp z3 (upd H2 D (.lst [])) z3.heap.objs.size (cellsFrom (z3.heap.objs.size + 1) scope.names (cloFrom X.env.cells scope.names [])) fp D
  show codeAny _ _ (.compStart (.ListComp elt (⟨tg, iter, ifs, 0⟩ :: gs) scope pos) 0 (.ref it) (.ref D) (compEnvC scope (cellsFrom (z3.heap.objs.size + 1) scope.names (cloFrom X.env.cells scope.names [])) z3.heap.objs.size X.env)) (compPost (model X.prog X.w) X.A X.xe use Qf (.ref D) z3.heap.objs.size) { z3 with heap := pushCells (z3.heap.push { cls := .type "dict", data := .dict #[] }) scope.names }
  generalize hce : compEnvC scope (cellsFrom (z3.heap.objs.size + 1) scope.names (cloFrom X.env.cells scope.names [])) z3.heap.objs.size X.env = ce at I4 pg pt pb pl ⊢
  have cL : ce.locals = z3.heap.objs.size := by subst hce; rfl
  generalize hH3 : upd H2 D (.lst []) = H3 at I3 I4 pg pt pb pl w0 f3
  generalize hz4 : ({ z3 with heap := pushCells (z3.heap.push { cls := .type "dict", data := .dict #[] }) scope.names } : Shared) = z4 at I4 ⊢
  have st4 : tn 0 z4.heap := T.keep _ _ _ st3 fun b _ o e => by rw [← hz4]; exact pushCells_keeps _ _ _ _ (Heap.get?_push_of_some _ e)
  have loop : codeAny (model X.prog X.w) X.A (.compLoop (.ListComp elt (⟨tg, iter, ifs, 0⟩ :: gs) scope pos) 0 (.ref it) (.ref D) ce) (compPost (model X.prog X.w) X.A X.xe use Qf (.ref D) z3.heap.objs.size) z4 := by
    refine pl it _ (fun n z => ∃ i H', Inv (X.blk z3 H3 scope ce fp) [] (wipe σ (own.map (·.2))) H' z ∧ tn i z.heap ∧ (∀ b ∈ fp, H' b = none) ∧ W i n H') (fun n z hh => ?_) m0 z4 ⟨0, H3, I4, st4, fun b hb => (f3 b hb).1.1, w0⟩
    refine turn_go (X := X.blk z3 H3 scope ce fp) rfl hc pg pt pb sub T (fun b hb H' hn => ⟨hn, (I4.ok.exf b hb).1, I4.ok.exfs b hb, .inl hb, fun x c e => (I4.ok.exf b hb).2 x c e, fun p hp => absurd (show p ∈ ([] : List (Addr × Obj)) ++ [] from hp) (by simp)⟩) turn (fun z6 H5 I6 qq => ?_) n z hh
    have I7 : Inv X pins σ H5 z6 := I3.call' (ch := fp) I6.os I6.base I6.hok I6.bare fun b hb => ⟨(f3 b hb).1.2.2.2.1, (f3 b hb).1.2.1, (f3 b hb).1.2.2.2.2.1, (f3 b hb).1.2.2.2.2.2⟩
    have nC : H5 z3.heap.objs.size = none := by
      have y : H5 ce.locals = none := I6.free
      rw [cL] at y; exact y
    obtain ⟨m, hn, _⟩ := I6.loc
    have hn : z6.heap.Ns ce.locals m := hn
    rw [cL] at hn
    exact last D z3.heap.objs.size z6 m H5 I7 qq hn (I3.fpOk (Nat.le_refl _) nC)
  exact codeAny_compStart_list loop (T.self X.A 0 _ _ _ st4 loop)
theorem pe_top {elt tg iter : Expr} {ifs : List Expr} {gs : List Comprehension} {scope : Scope} {own : List (Str × Nat)} {vs1 : List Nat} {pos : Pos} {wi : TI} {g : TG} {tt : TT} {t : Addr → TB} {run : Cx → Addr → (Shared → Prop) → Shared → Prop}
    (hc : X.calm = true) (hN : X.N.Nodup) (hi : PI X tg iter wi) (ok : BlkOk X.N X.env.scope scope own) (sub : ∀ j ∈ vs1, j ∈ own.map (·.2))
    (hg : InBlk X scope fun Y => PG Y tg g) (ht : InBlk X scope fun Y => PTs Y ifs tt) (hp : InBlk X scope fun Y => ∀ D, PB Y (run Y D) vs1 (t D)) (lp : InBlk X scope fun Y => ∀ D, LoopBy Y (.ListComp elt (⟨tg, iter, ifs, 0⟩ :: gs) scope pos) 0 tg ifs D (run Y D)) (hs : ∀ x, foldedSetIterable iter X.env x = pure x := by intro _; rfl) :
    PE X (.ListComp elt (⟨tg, iter, ifs, 0⟩ :: gs) scope pos) (tTop wi g tt (own.map (·.2)) t) := by
  refine ⟨fun pins s σ H Q I h => ?_⟩
  rw [eval_ListComp]
  refine top_core hc hN I hi ok sub hs hg ht hp lp h fun D C z m H' I' q hn f => ⟨m, hn, fun h'' sb => ?_⟩
  obtain ⟨f0, f1, f2, f3, f4, f5⟩ := f
  exact ⟨.ref D, H', I'.turned (t' := z.toks) (fun b o hb e => (sb.2 b hb).trans e) f0 f1 f3 f4 f5, rfl, q⟩
/-- three clauses -/
theorem pe_lc3 {elt t0 i0 t1 i1 t2 i2 : Expr} {f0 f1 f2 : List Expr} {scope : Scope} {own : List (Str × Nat)} {vs1 vs2 : List Nat} {pos : Pos} {w0 w1 w2 : TI} {g0 g1 g2 : TG} {tt0 tt1 tt2 : TT} {te : TE}
    (hc : X.calm = true) (hN : X.N.Nodup) (h0 : PI X t0 i0 w0) (ok : BlkOk X.N X.env.scope scope own) (sub : ∀ j ∈ vs1, j ∈ own.map (·.2)) (sub2 : ∀ j ∈ vs2, j ∈ vs1)
    (hg0 : InBlk X scope fun Y => PG Y t0 g0) (ht0 : InBlk X scope fun Y => PTs Y f0 tt0) (h1 : InBlk X scope fun Y => PI Y t1 i1 w1) (hg1 : InBlk X scope fun Y => PG Y t1 g1) (ht1 : InBlk X scope fun Y => PTs Y f1 tt1)
    (h2 : InBlk X scope fun Y => PI Y t2 i2 w2) (hg2 : InBlk X scope fun Y => PG Y t2 g2) (ht2 : InBlk X scope fun Y => PTs Y f2 tt2) (he : InBlk X scope fun Y => PE Y elt te)
    (hs : ∀ x, foldedSetIterable i0 X.env x = pure x := by intro _; rfl) (hs1 : ∀ env x, foldedSetIterable i1 env x = pure x := by intro _ _; rfl) (hs2 : ∀ env x, foldedSetIterable i2 env x = pure x := by intro _ _; rfl) :
    PE X (.ListComp elt [⟨t0, i0, f0, 0⟩, ⟨t1, i1, f1, 0⟩, ⟨t2, i2, f2, 0⟩] scope pos) (tTop w0 g0 tt0 (own.map (·.2)) fun D => tCl w1 g1 tt1 vs1 (tCl w2 g2 tt2 vs2 (tPut te D))) := by
  refine pe_top (run := fun Y D => MidW Y.prog Y.w Y.A (.ListComp elt [⟨t0, i0, f0, 0⟩, ⟨t1, i1, f1, 0⟩, ⟨t2, i2, f2, 0⟩] scope pos) i1 1 (.ref D) Y.env No) (vs1 := vs1) hc hN h0 ok sub hg0 ht0 (fun s H C cl fp D => ?_) (fun s H C cl fp D it R I turn n z hI => ?_) hs
  · refine pb_cl rfl hc rfl (h1 s H C cl fp) (hg1 s H C cl fp) (ht1 s H C cl fp) (fun it R I turn n z hI => ?_) (pb_cl (elt := elt) (gs := [⟨t0, i0, f0, 0⟩, ⟨t1, i1, f1, 0⟩, ⟨t2, i2, f2, 0⟩]) (scope := scope) (pos := pos) (k := 2) (D := D) rfl hc rfl (h2 s H C cl fp) (hg2 s H C cl fp) (ht2 s H C cl fp) (fun it R I turn n z hI => ?_) (pb_end rfl (he s H C cl fp)) (fun j hj => by cases hj)) sub2
    · exact loop_mid rfl (hs2 _) I (fun n s h => (turn n s h).any fun z y => y.any) n hI
    · exact loop_end rfl I (fun n s h => (turn n s h).any fun z y => y.any) n hI
  · exact loop_mid rfl (hs1 _) I (fun n s h => (turn n s h).any fun z y => y.any) n hI
end
/-- a walk with its places: Pv by the turn and the heap -/
theorem walk_by {J : It} {n : Nat} {G : Hp → Prop} {Y : Nat → Hp → V → Hp → Prop} (w : Walk J n G Y) {g : TG} {tt : TT} {body : TB} {vs : List Nat} {σ : St} {H0 : Hp} {Qd : Hp → Prop} (Pv : Nat → Hp → Prop) (h0 : Pv 0 H0) (hG : ∀ i H, i ≤ n → Pv i H → G H)
    (hs : ∀ i x H H', i < n → Pv i H → Y i H x H' → g x (wipe σ vs) H' fun σ2 H2 => wipe σ2 vs = wipe σ vs ∧ tt σ2 H2 fun b H3 => if b = true then body σ2 H3 (Pv (i + 1)) else Pv (i + 1) H3) (hd : ∀ H, Pv n H → Qd H) :
    ∃ W : Nat → Nat → Hp → Prop, (∃ m, W 0 m H0) ∧ ∀ i m H, W i m H → (J.stop i H ∧ Qd H) ∨ (J.go i H ∧ ∃ N1 : Hp → Prop, (∀ H', N1 H' → ∃ m', m' < m ∧ W (i + 1) m' H') ∧ ∀ x H', J.yld i H x H' → g x (wipe σ vs) H' fun σ2 H2 => wipe σ2 vs = wipe σ vs ∧ tt σ2 H2 fun b H3 => if b = true then body σ2 H3 N1 else N1 H3) := by
  refine ⟨fun i m H => m = n - i ∧ i ≤ n ∧ Pv i H, ⟨n, by simp, Nat.zero_le _, h0⟩, ?_⟩
  rintro i m H ⟨rfl, hi, p⟩
  have q := hG i H hi p
  rcases Nat.lt_or_ge i n with lt | ge
  · exact .inr ⟨w.goes i H lt q, Pv (i + 1), fun H' p' => ⟨n - (i + 1), by omega, rfl, lt, p'⟩, fun x H' y => hs i x H H' lt p (w.yields i H x H' lt q y)⟩
  · cases Nat.le_antisymm hi ge
    exact .inl ⟨w.stops H q, hd H p⟩
end L2.C3
end

section
set_option maxRecDepth 100000
set_option maxHeartbeats 4000000
/-! `for i, c in enumerate(x)`, x a text -/
namespace L2.Cal
open PySem PySem.Spec PyProof.Rows L2
/-- the signs of x, each in a new pair with its place -/
def IteS (x : Str) : It :=
  ⟨fun i _ => i < x.cps.size, fun i H v H' => ∃ T c, v = .ref T ∧ H T = none ∧ H' = upd H T (.tup [.int (i : Nat), .str ⟨#[c]⟩]) ∧ x.cps[i]? = some c, fun i _ => x.cps.size ≤ i⟩
theorem turn_enumS {P : Program} {w : World} {K : PySem.W.Frag} {elts : List Expr} {kk : Nat} {tpos : Pos} (x : Str) (t : Tok) (ty : String) (hty : ty = "str_ascii_iterator" ∨ ty = "str_iterator") (e it : Addr) :
    Turn P w K (.Tuple elts kk tpos) (IteS x) [e, it] e (fun i h => (∃ old, IsEnum h e it ((i : Nat) : Int) old) ∧ h.IsStrIter it ty x t i ∧ e ≠ it) where
  mem := by simp
  obj := fun i h st b hb => by
    obtain ⟨⟨old, he⟩, ⟨o, ho, hc, hd⟩, _⟩ := st
    rcases List.mem_cons.mp hb with z | z
    · rw [z]
      exact ⟨_, he, fun v q => nomatch q⟩
    · rw [List.mem_singleton.mp z]
      exact ⟨o, ho, fun v q => by rw [hd] at q; cases q⟩
  keep := fun i h h' st k => by
    obtain ⟨⟨old, he⟩, ⟨o, ho, hc, hd⟩, hne⟩ := st
    exact ⟨⟨old, k e (by simp) _ he⟩, ⟨o, k it (by simp) o ho, hc, hd⟩, hne⟩
  item := by
    intro X hP hw hK hc i pins s σ H E I hf st hg
    subst hP hw hK
    obtain ⟨⟨old, he⟩, hit, hne⟩ := st
    have lt1 : e < s.heap.objs.size := Heap.lt_size he
    have lt2 : it < s.heap.objs.size := by obtain ⟨_, q, _⟩ := hit; exact Heap.lt_size q
    have D : Draws X.prog X.w X.A.in1 it [it] x.cps.size (fun i v => ∃ c u, x.cps[i]? = some c ∧ v = .str ⟨#[c]⟩ u) (fun i h => h.IsStrIter it ty x t i) := by
      rcases hty with q | q
      · rw [q]; exact Draws.strAscii (by simpa using I.ok.hd hc) it x t
      · rw [q]; exact Draws.strWide (by simpa using I.ok.hd hc) it x t
    refine wpAny_pyNext_enum_itemD D he hit hg hne (by simpa using hne) fun x' h' tk hx' ho hit' hT hsz hk => ?_
    obtain ⟨c, u, hcx, rfl⟩ := hx'
    refine ⟨_, rfl, wpAny_letOwnedTupleGo_enum (s := { s with heap := h', toks := tk + 1 }) ho fun h'' he' sb => ?_⟩
    have hT2 : h''.get? s.heap.objs.size = some { cls := .type "tuple", data := .seq #[.int i tk, .str ⟨#[c]⟩ u] } := (sb.2 _ (Nat.ne_of_gt lt1)).trans hT
    have new : ObjOk X.prog X.w (upd H s.heap.objs.size (.tup [.int (i : Nat), .str ⟨#[c]⟩])) h'' s.heap.objs.size (.tup [.int (i : Nat), .str ⟨#[c]⟩]) := ⟨by show 2 ≤ sizeLine; decide, [.int i tk, .str ⟨#[c]⟩ u], .cons ⟨_, rfl⟩ (.cons ⟨_, rfl⟩ .nil), ⟨_, hT2, rfl, _, rfl⟩⟩
    have J : Inv X pins σ (upd H s.heap.objs.size (.tup [.int (i : Nat), .str ⟨#[c]⟩])) { s with heap := h'', toks := tk + 1 } :=
      I.turnedNew (ch := [e, it]) (fun b ob hb q => (sb.2 b (fun z => hb (by simp [z]))).trans (hk b ob (fun z => hb (by simp [z])) (fun z => hb (by simp [z])) q)) hf (Nat.le_refl _) new
    refine ⟨.ref s.heap.objs.size, _, J, rfl, ⟨_, c, rfl, I.hok.fresh (Nat.le_refl _), rfl, hcx⟩, ⟨⟨.str ⟨#[c]⟩ u, ?_⟩, ?_, hne⟩, fun b hb => ?_⟩
    · rw [show ((i + 1 : Nat) : Int) = (i : Int) + 1 by omega]
      exact he'
    · obtain ⟨o, q, r⟩ := hit'
      exact ⟨o, (sb.2 it (Ne.symm hne)).trans q, r⟩
    · have lt : b < s.heap.objs.size := by
        rcases List.mem_cons.mp hb with z | z
        · rw [z]; exact lt1
        · rw [List.mem_singleton.mp z]; exact lt2
      rw [upd_ne (Nat.ne_of_lt lt)]
      exact (hf b hb).1
  done := by
    intro X hP hw hK hc i pins s σ H E I hf st hg
    subst hP hw hK
    obtain ⟨⟨old, he⟩, hit, hne⟩ := st
    obtain ⟨f0, f1, f2, f3, f4, f5⟩ := hf it (by simp)
    have kind : s.TypeIs (.ref e) "enumerate" := ⟨_, he, rfl⟩
    have hx : x.cps[i]? = none := Array.getElem?_eq_none hg
    unfold pyNext
    refine wpAny_bind (wpAny_attempt (wpAny_callSpecial?_slot (name := Str.ofString "__next__") kind PySem.F.slot_enumerate_next (wpAny_call_entry PySem.F.slot_enumerate_next kind PySem.F.entry_enumerate_next ?_ (PySem.F.args_enumerate_next_1 _))))
    show wpAny _ _ (field (.ref e) 2 >>= _) _ _ _
    refine wpAny_bind (wpAny_field he rfl (x := .ref it) rfl (wpAny_bind ?_))
    rcases hty with q | q
    · rw [q] at hit
      exact wpAny_nextOf_ascii_end (by simpa using I.ok.hd hc) hit hx fun h' x he' ⟨o, ho, hc'⟩ => wpAny_bind (wpAny_isInstance (T := "StopIteration") (b := true) ⟨o, ho, hc'⟩ isSubtype_stop (wpAny_pure ⟨rfl, I.turned (t' := s.toks) (fun b o hb q => he' b o hb q) f0 f1 f3 f4 f5⟩))
    · rw [q] at hit
      exact wpAny_nextOf_wide_end (by simpa using I.ok.hd hc) hit hx fun h' x he' ⟨o, ho, hc'⟩ => wpAny_bind (wpAny_isInstance (T := "StopIteration") (b := true) ⟨o, ho, hc'⟩ isSubtype_stop (wpAny_pure ⟨rfl, I.turned (t' := s.toks) (fun b o hb q => he' b o hb q) f0 f1 f3 f4 f5⟩))
  self := fun A i s Q E st h => let ⟨⟨_, he⟩, _⟩ := st; wpAny_pyIter_enum he h
def iEnumS (ta : TA) : TI := fun σ H R => ta σ H fun vs H1 => ∃ x, vs = [.str x] ∧ R (IteS x) H1
theorem pi_enumS {X : Cx} {e : Expr} {ta : TA} {p pos tpos : Pos} {elts : List Expr} {kk : Nat} (hg : Gl X "enumerate") (hm : X.mg "enumerate" = none) (ha : PA X [e] ta) (hs : starEach [e] X.env = [(false, eval e X.env)] := by rfl) :
    PI X (.Tuple elts kk tpos) (.Call (.Name "enumerate" p) [e] [] pos) (iEnumS ta) := by
  refine ⟨fun pins s σ H R I h => Call_ (ld_blt I hg hm boot_enumerate (PyProof.Rows.callWith_type1 (thn (ha.run pos pins s σ H _ I h) fun us s1 ⟨vs, H1, I1, r1, q1⟩ => ?_) hs rfl))⟩
  obtain ⟨x, rfl, q⟩ := q1
  match us, r1 with
  | _, .cons r .nil =>
    obtain ⟨t, rfl⟩ := r
    have hty : strIterType x = "str_ascii_iterator" ∨ strIterType x = "str_iterator" := by
      unfold strIterType
      split
      · exact .inl rfl
      · exact .inr rfl
    refine enum_one (begins_text x t) trivial fun h' he hit k => wpAny_pyIter_enum he ?_
    have I2 : Inv X pins σ H1 { s1 with heap := h' } := I1.kept (t' := s1.toks) k
    refine ⟨s1.heap.objs.size + 1, [s1.heap.objs.size + 1, s1.heap.objs.size], _, _, H1, rfl, I2, turn_enumS x t (strIterType x) hty (s1.heap.objs.size + 1) s1.heap.objs.size, ⟨⟨.none, he⟩, ⟨_, hit, rfl, rfl⟩, Nat.succ_ne_self _⟩, fun b hb => ?_, q⟩
    have le : s1.heap.objs.size ≤ b := by
      rcases List.mem_cons.mp hb with z | z
      · rw [z]; exact Nat.le_add_right _ _
      · rw [List.mem_singleton.mp z]; exact Nat.le_refl _
    exact I1.fpOk le (I1.hok.fresh le)
theorem walk_enumS {x : Str} : Walk (IteS x) x.cps.size (fun _ => True) (YPair (fun i => some (.int (i : Nat))) (fun i => (x.cps[i]?).map fun c => V.str ⟨#[c]⟩)) :=
  ⟨fun i H hi _ => hi, fun H _ => Nat.le_refl _, fun i H v H' hi _ ⟨T, c, e1, e2, e3, e4⟩ => ⟨T, _, _, e1, e2, e3, rfl, by dsimp only; rw [e4] <;> rfl⟩⟩
end L2.Cal
end

section
set_option maxRecDepth 100000
set_option maxHeartbeats 4000000
set_option synthInstance.maxHeartbeats 400000
/-! the orders of a roll that go against none -/
namespace L2.Cal
open PySem PySem.Spec PyProof.Rows L2 LamX LamK
abbrev sGan : Stmt := topS 43
abbrev nGan : List Str := ["order", "beaten", "at", "thing", "other"]
theorem scGan : FnScope nGan ["order", "beaten"] (defScope sGan) := ⟨rfl, rfl, rfl, by decide +kernel, rfl, by decide +kernel, by decide +kernel⟩
abbrev sAgr : Stmt := crS 11
abbrev nAgr : List Str := ["self", "beaten", "order"]
theorem scAgr : FnScope nAgr ["self"] (defScope sAgr) := ⟨rfl, rfl, rfl, by decide +kernel, rfl, by decide +kernel, by decide +kernel⟩
abbrev rNotInS : V → V → Hp → VK → Prop := fun x y H Q => ∃ i j, x = V.str i ∧ y = V.str j ∧ Q (V.bl (!(!(Builtin.Str.occurrences j i 0 j.length 1).isEmpty))) H
theorem cutS_to (z : Str) (k : Nat) : (cutS z none (some (k : Int))).cps.toList = z.cps.toList.take k := by
  have l : z.cps.toList.length = z.length := Array.length_toList
  unfold cutS
  rw [HT.sIx_none, HT.sIx_nat, List.toList_toArray, List.drop_zero, Nat.sub_zero]
  rcases Nat.le_total k z.length with h | h
  · rw [Nat.min_eq_left h]
  · rw [Nat.min_eq_right h, List.take_of_length_le (by omega), List.take_of_length_le (by omega)]
/-- whether what stands at i beats none of those ahead -/
def ganL (ys : List Str) (ns : List Int) (l : List Nat) (i : Nat) : List Bool := (l.take i).map fun o => !btB ys ns (l.getD i 0) o
def ganB (ys : List Str) (ns : List Int) (w : Str) : Bool := ((List.range w.cps.size).flatMap (ganL ys ns w.cps.toList)).all id
def spGan : Sp := fun vs H Q _ => ∃ (w : Str) (d : Addr) (z : Str) (ys : List Str) (ns : List Int), vs = [.str w, .ref d] ∧ H d = some (.dK (bkv z ys ns z.cps.toList)) ∧ w.cps.toList.Perm z.cps.toList ∧ z.cps.size ≤ 6 ∧ ∀ H', Same H H' → Q (.bl (ganB ys ns w)) H'
section
variable {P : Program} {w : World} {K : PySem.W.Frag} {mg : Str → Option Value} {base : Heap} {C Cr : Addr}
theorem ok_gan {f : Addr} {fd : FuncData} (D : DefAt K mg "goes_against_none" sGan ["order", "beaten"] f fd) (T : Txt mg) : FnOk P w K mg base CX0 1 f fd ["order", "beaten"] spGan := by
  refine D.F.ok scGan (fun vs H Q E h => ?_) (fun cdv A outer sh H vs Q E hr h => ?_)
  · obtain ⟨o, d, z, ys, ns, rfl, _⟩ := h
    rfl
  · obtain ⟨o, d, z, ys, ns, rfl, ed, pm, z6, q⟩ := h
    have hu := hr.units
    have hu1 : (A.deeper (envOfC (Str.ofString "goes_against_none") (defScope sGan) sh.heap.objs.size f cdv)).units + 1 < cLine := by omega
    refine ⟨_, (pss_one (ps_ret (pe_callB (cr_all rfl) (by rfl) T.b_all (by decide +kernel) (pa_cons (pe_lc2 (own := [("at", 2), ("thing", 3), ("other", 4)]) (vs1 := [4]) (g := gTup K 2 (gCons (gName 2) (gCons (gName 3) gNil))) (g1 := gName 4) (tt := tYes) (tt1 := tYes) (wi1 := iStr (tSl rSlS (tVar 0) tNoPart (tPart (tVar 2)))) (te := tOp rNotInS (tVar 4) (tDGet (tVar 1) (tVar 3))) rfl scGan.nd (pi_enumS (by rfl) T.b_enumerate (pa_cons (pv 0) pa_nil)) (blkOk_by (own := [("at", 2), ("thing", 3), ("other", 4)]) (N := nGan) (sc := defScope sGan) (by decide +kernel)) (by decide)
        (fun _ _ _ _ _ => pg_tup rfl (pgs_cons (pg_name (i := 2) scGan.nd rfl (Or.inl rfl)) (pgs_cons (pg_name (i := 3) scGan.nd rfl (Or.inl rfl)) pgs_nil))) (fun _ _ _ _ _ => pts_nil) (fun _ _ _ _ _ => pi_str (pe_slice sl_str (pv 0) po_none (po_some (pv 2)))) (fun _ _ _ _ _ => pg_name (i := 4) scGan.nd rfl (Or.inl rfl)) (fun _ _ _ _ _ => pts_nil)
        (fun _ _ _ _ _ => pe_cmpR op_notin_str (pv 4) (pe_dget hu1 (pv 1) (pv 3) (fun _ _ => rfl)) (by rfl))) pa_nil)))), ?_⟩
    have lim : ∀ {n : Nat}, n ≤ 1000 → n ≤ sizeLine := fun h => by rw [sizeLine_eq]; omega
    have ol : o.cps.toList.length = o.cps.size := Array.length_toList
    have zl : z.cps.toList.length = z.cps.size := Array.length_toList
    have pl := pm.length_eq
    have o6 : o.cps.size ≤ 6 := by omega
    have dg : ∀ u H', H' d = some (.dK (bkv z ys ns z.cps.toList)) → u ∈ z.cps.toList → DGet H' d (.str (chS u)) (some (.str (btS z ys ns u))) := fun u H' s hu => .inl ⟨_, .inr (chS u), .inl s, rfl, (bkv_val hu).symm⟩
    have few : ∀ i j, i ≤ 6 → j ≤ 6 → ((List.range i).flatMap (ganL ys ns o.cps.toList) ++ ((o.cps.toList.take j).map fun b => !btB ys ns (o.cps.toList.getD i 0) b)).length ≤ 100 := fun i j hi hj => by
      have h1 : ∀ n, n ≤ 6 → ((List.range n).flatMap (ganL ys ns o.cps.toList)).length ≤ n * 6 := fun n => by
        induction n with
        | zero => intro _; exact Nat.le_refl _
        | succ n ih =>
          intro hn
          rw [List.range_succ, List.flatMap_append, List.length_append, List.flatMap_singleton]
          have := ih (by omega)
          have : (ganL ys ns o.cps.toList n).length ≤ 6 := by
            unfold ganL
            rw [List.length_map, List.length_take]
            omega
          omega
      have := h1 i hi
      rw [List.length_append, List.length_map, List.length_take]
      omega
    refine ⟨_, rfl, o, rfl, fun D nD => C3.walk_by (g := gTup K 2 (gCons (gName 2) (gCons (gName 3) gNil))) (tt := tYes) (vs := [2, 3, 4]) (body := C3.tCl (iStr (tSl rSlS (tVar 0) tNoPart (tPart (tVar 2)))) (gName 4) tYes [4] (C3.tPut (tOp rNotInS (tVar 4) (tDGet (tVar 1) (tVar 3))) D)) (walk_enumS (x := o)) (fun i H' => Same H H' ∧ H' D = some (.lst (((List.range i).flatMap (ganL ys ns o.cps.toList)).map V.bl)))
      ⟨same_new nD, upd_same⟩ (fun _ _ _ _ => trivial) (fun i x H2 H3 hi hP hY => ?_) (fun H2 hP => ?_)⟩
    · obtain ⟨sm, eD⟩ := hP
      obtain ⟨T0, x1, y1, rfl, nT, rfl, g1, g2⟩ := hY
      cases g1
      have g2 : (o.cps[i]?).map (fun c => V.str ⟨#[c]⟩) = some y1 := g2
      obtain ⟨a, ha, rfl⟩ := Option.map_eq_some_iff.mp g2
      have ea : o.cps.toList[i]? = some a := by rw [Array.getElem?_toList]; exact ha
      have am : a ∈ z.cps.toList := pm.mem_iff.mp (List.mem_of_getElem? ea)
      have ga : o.cps.toList.getD i 0 = a := by rw [List.getD_eq_getElem?_getD, ea] <;> rfl
      have DT : D ≠ T0 := fun q => by rw [q, nT] at eD; cases eD
      have s3 : Same H (upd H2 T0 (.tup [.int (i : Nat), .str ⟨#[a]⟩])) := sm.trans (same_new nT)
      have eD3 : (upd H2 T0 (.tup [.int (i : Nat), .str ⟨#[a]⟩])) D = some (.lst (((List.range i).flatMap (ganL ys ns o.cps.toList)).map V.bl)) := by rw [upd_ne DT]; exact eD
      refine ⟨T0, _, rfl, SqT.of upd_same, rfl, _, _, rfl, _, _, rfl, rfl, ?_⟩
      generalize upd H2 T0 (.tup [.int (i : Nat), .str ⟨#[a]⟩]) = H3 at s3 eD3 ⊢
      clear nT DT eD sm
      refine ⟨rfl, _, rfl, _, rfl, _, rfl, o, rfl, lim (show o.cps.size ≤ 1000 by omega), _, rfl, C3.walk_by (g := gName 4) (tt := tYes) (vs := [4]) (body := C3.tPut (tOp rNotInS (tVar 4) (tDGet (tVar 1) (tVar 3))) D) (walk_str (z := cutS o none (some (i : Int)))) (fun j H' => Same H H' ∧ H' D = some (.lst (((List.range i).flatMap (ganL ys ns o.cps.toList) ++ ((o.cps.toList.take j).map fun b => !btB ys ns (o.cps.toList.getD i 0) b)).map V.bl)))
        ⟨s3, by rw [List.take_zero, List.map_nil, List.append_nil]; exact eD3⟩ (fun _ _ _ _ => trivial) (fun j x H4 H5 hj hP hY => ?_) (fun H4 hP => ?_)⟩
      · obtain ⟨s4, e4⟩ := hP
        obtain ⟨rfl, b, hb, rfl⟩ := hY
        have eb : ((cutS o none (some (i : Int))).cps.toList)[j]? = some b := by rw [Array.getElem?_toList]; exact hb
        rw [cutS_to, List.getElem?_take] at eb
        have eb : o.cps.toList[j]? = some b := by
          by_cases h : j < i
          · rw [if_pos h] at eb
            exact eb
          · rw [if_neg h] at eb
            cases eb
        have bm : b ∈ z.cps.toList := pm.mem_iff.mp (List.mem_of_getElem? eb)
        have jl := (List.getElem?_eq_some_iff.mp eb).1
        have fo := (PySem.StrLaws.found_one (btS z ys ns a) b).trans (in_btO bm)
        refine ⟨rfl, _, rfl, _, rfl, _, rfl, d, _, rfl, dg a _ (s4 _ _ ed) am, _, _, rfl, rfl, ?_⟩
        have fw := few i j (by omega) (by omega)
        refine ⟨_, e4, by rw [List.length_map, sizeLine_eq]; omega, fun c o' h => by rw [upd_ne (ne_of_none h nD)]; exact s4 _ _ h, ?_⟩
        rw [upd_same, List.take_succ, eb, Option.toList_some, List.map_append (l₂ := [b]), ← List.append_assoc, List.map_append (l₂ := List.map _ [b]), ga]
        exact congrArg (fun t => some (HO.lst (_ ++ [V.bl (!t)]))) fo
      · obtain ⟨s4, e4⟩ := hP
        refine ⟨s4, ?_⟩
        rw [e4, List.range_succ, List.flatMap_append, List.flatMap_singleton]
        have sz : (cutS o none (some (i : Int))).cps.size = i := by
          rw [← Array.length_toList, cutS_to, List.length_take]
          omega
        rw [sz] <;> rfl
    · obtain ⟨sm, eD⟩ := hP
      exact ⟨D, _, rfl, SqL.of eD, q _ sm⟩
def spAgr (C Cr : Addr) : Sp := fun vs H Q _ => ∃ (c : Addr) (z : Str) (ys : List Str) (ns : List Int), vs = [.ref c] ∧ CrdZ C Cr H c z ys ns ∧ AskAll z ys ns ∧ (∀ y ∈ ys, y.cps.toList.Perm z.cps.toList) ∧ ys.length ≤ 48 ∧ ∀ (p : Addr) (H' : Hp), Same H H' → H' p = some (.tup ((ys.filter (ganB ys ns)).map V.str)) → Q (.ref p) H'
theorem ok_agr {f fG fN fB fO fA fT fK : Addr} {fd fdG fdN fdB fdO fdA fdT fdK : FuncData} {pO pT : Addr} (F : Fun K "agreeing" "Crowd.agreeing" sAgr f fd) (DG : DefAt K mg "goes_against_none" sGan ["order", "beaten"] fG fdG) (FN : Fun K "_beaten" "Crowd._beaten" sBtn fN fdN) (mN : Meth K Cr "_beaten" fN) (bN : Binds K fdN ["self"] []) (FB : Fun K "beats" "Crowd.beats" sBts fB fdB) (mB : Meth K Cr "beats" fB) (bB : Binds K fdB ["self", "thing", "other"] []) (FA : Fun K "_above" "Crowd._above" sAb_ fA fdA) (mA : Meth K Cr "_above" fA) (bA : Binds K fdA ["self", "thing", "other"] []) (DK : DefAt K mg "check_thing" sChT ["things", "thing"] fK fdK)
    (PT : PropOf K C "things" pT fT) (FT : Fun K "things" "Roll.things" sThi fT fdT) (bT : Binds K fdT ["self"] []) (PO : PropOf K C "orders" pO fO) (FO : Fun K "orders" "Roll.orders" sOrd fO fdO) (bO : Binds K fdO ["self"] []) (bsum : mg "sum" = none) (bzip : mg "zip" = none) (T : Txt mg) (R : RollC K mg C) (RC : CrC K mg Cr) :
    FnOk P w K mg base CX0 6 f fd ["self"] (spAgr C Cr) := by
  have GN : FnOk P w K mg base CX0 5 fN fdN ["self"] (spBtn C Cr) := ok_btn FN FB mB bB FA mA bA DK PT FT bT PO FO bO bsum bzip T R RC
  have GG : FnOk P w K mg base CX0 1 fG fdG ["order", "beaten"] spGan := ok_gan DG T
  have GO : FnOk P w K mg base CX0 1 fO fdO ["self"] (spOrd C) := ok_ord FO R
  refine F.ok scAgr (fun vs H Q E h => ?_) (fun cdv A outer sh H vs Q E hr h => ?_)
  · obtain ⟨c, z, ys, ns, rfl, _⟩ := h
    rfl
  · obtain ⟨c, z, ys, ns, rfl, hz, as, pm, few, q⟩ := h
    refine ⟨_, (pss_cons (ps_set (i := 1) scAgr.nd rfl (.inr rfl) (pe_meth0 (pv 0) RC.cls mN GN (hr.mono (by decide)) bN .nil pass0))
      (pss_one (ps_ret (pe_callTy call_tuple_of (by rfl) T.b_tuple (by decide +kernel) (pa_cons (pe_lc (own := [("order", 2)]) (g := gName 2) (tt := _) rfl scAgr.nd (pi_tup (pe_prop (pe_fld (pv 0) rfl) R.cls PO GO (hr.mono (by decide)) bO .nil pass0 rfl)) (blkOk_by (own := [("order", 2)]) (N := nAgr) (sc := defScope sAgr) (by decide +kernel))
        (fun _ _ _ _ _ => pg_name (i := 2) scAgr.nd rfl (Or.inl rfl)) (fun _ _ _ _ _ => pts_one (pt_val (pe_call GG (hr.mono (by decide)) (by rfl) DG.g DG.F.kp DG.b .nil pass0 (pa_cons (pv 2) (pa_cons (pv 1) pa_nil))))) (fun _ _ _ _ _ => pv 2)) pa_nil))))), ?_⟩
    obtain ⟨hc, dx, fs, r, t, e, l, no, ra⟩ := id hz
    refine ⟨_, rfl, c, dx, fs, rfl, e, no _ (by decide) (by decide) (by decide), c, z, ys, ns, rfl, hz, as, fun d H1 s1 n1 e1 => ?_⟩
    obtain ⟨r, n, t, z', ⟨dx', fs', e1', l1, l2, l3⟩, ra, ht, hn, so⟩ := id (hc.same s1)
    obtain ⟨dr, fr, hr1, _⟩ := id ra
    refine ⟨_, rfl, c, Cr, dx', fs', _, rfl, e1', RC.cls, RC.no1, l1, r, dr, fr, rfl, hr1, r, t, z', rfl, ra, ?_⟩
    refine ⟨t, rfl, ⟨_, SqT.of ht⟩, fun D nD => lc_tup (K := K) (a := t) (xs := ys.map V.str) (fun k H' => Same H1 H' ∧ H' D = some (.lst (((ys.take k).filter (ganB ys ns)).map V.str))) ⟨same_new nD, upd_same⟩ (fun k H' _ hP => SqT.of (hP.1 _ _ ht)) (fun k v H3 hv hP => ?_) (fun H3 hP => ?_)⟩
    · obtain ⟨s3, e3⟩ := hP
      rw [List.getElem?_map] at hv
      obtain ⟨o, ho, rfl⟩ := Option.map_eq_some_iff.mp hv
      have tk : ys.take (k + 1) = ys.take k ++ [o] := by rw [List.take_succ, ho, Option.toList_some]
      have fl : ((ys.take k).filter (ganB ys ns)).length ≤ 48 := Nat.le_trans (List.length_filter_le _ _) (by rw [List.length_take]; omega)
      refine ⟨rfl, _, rfl, _, rfl, o, d, z, ys, ns, rfl, s3 _ _ e1, pm o (List.mem_of_getElem? ho), as.z6, fun H4 s4 => ⟨_, rfl, ?_⟩⟩
      rw [tk, List.filter_append, List.filter_cons]
      cases ganB ys ns o with
      | true => exact iteT ⟨_, rfl, _, s4 _ _ e3, by rw [List.length_map, sizeLine_eq]; omega, fun b o' h => by rw [upd_ne (ne_of_none h nD)]; exact s4 _ _ (s3 _ _ h), by rw [upd_same, List.map_append] <;> rfl⟩
      | false => exact iteF ⟨s3.trans s4, by rw [s4 _ _ e3]; simp⟩
    · obtain ⟨s3, e3⟩ := hP
      rw [List.length_map, List.take_length] at e3
      exact ⟨D, _, rfl, .inl ⟨SqL.of e3, fun p np => q p _ (s1.trans (s3.trans (same_new np))) upd_same⟩⟩
end
end L2.Cal
end

section
set_option maxRecDepth 100000
set_option maxHeartbeats 4000000
/-! all three of some signs, pure -/
namespace L2.Cal
open PySem PySem.Spec PyProof.Rows
theorem flat_le {α β : Type} {f : α → List β} {n : Nat} : ∀ l : List α, (∀ a ∈ l, (f a).length ≤ n) → (l.flatMap f).length ≤ l.length * n
  | [], _ => by simp
  | a :: l, h => by
    have := flat_le l fun x hx => h x (List.mem_cons_of_mem _ hx)
    have h1 := h a List.mem_cons_self
    rw [List.flatMap_cons, List.length_append, List.length_cons, Nat.succ_mul]
    omega
def s3 (a b c : Nat) : Str := ⟨#[a, b, c]⟩
/-- as the program walks: first, middle, last -/
def tri (cs : List Nat) : List Str := cs.flatMap fun a => cs.flatMap fun b => (cs.filter fun c => decide (a < b) && decide (b < c)).map fun c => s3 a b c
def row3 (cs : List Nat) (a b : Nat) : List Str := (cs.filter fun c => decide (a < b) && decide (b < c)).map fun c => s3 a b c
def row2 (cs : List Nat) (a : Nat) : List Str := cs.flatMap fun b => row3 cs a b
theorem tri_rows (cs : List Nat) : tri cs = cs.flatMap (row2 cs) := rfl
/-- as the law walks: first, last, middle -/
def tri2 (cs : List Nat) : List Str := cs.flatMap fun a => cs.flatMap fun c => (cs.filter fun b => decide (a < b) && decide (b < c)).map fun b => s3 a b c
theorem s3_inj {a b c a' b' c' : Nat} : s3 a b c = s3 a' b' c' ↔ a = a' ∧ b = b' ∧ c = c' := by simp [s3]
theorem mem_tri {cs : List Nat} {x : Str} : x ∈ tri cs ↔ ∃ a b c, a ∈ cs ∧ b ∈ cs ∧ c ∈ cs ∧ a < b ∧ b < c ∧ x = s3 a b c := by
  simp only [tri, List.mem_flatMap, List.mem_map, List.mem_filter, Bool.and_eq_true, decide_eq_true_eq]
  constructor
  · rintro ⟨a, ha, b, hb, c, ⟨hc, h1, h2⟩, rfl⟩
    exact ⟨a, b, c, ha, hb, hc, h1, h2, rfl⟩
  · rintro ⟨a, b, c, ha, hb, hc, h1, h2, rfl⟩
    exact ⟨a, ha, b, hb, c, ⟨hc, h1, h2⟩, rfl⟩
theorem mem_tri2 {cs : List Nat} {x : Str} : x ∈ tri2 cs ↔ x ∈ tri cs := by
  rw [mem_tri]
  simp only [tri2, List.mem_flatMap, List.mem_map, List.mem_filter, Bool.and_eq_true, decide_eq_true_eq]
  constructor
  · rintro ⟨a, ha, c, hc, b, ⟨hb, h1, h2⟩, rfl⟩
    exact ⟨a, b, c, ha, hb, hc, h1, h2, rfl⟩
  · rintro ⟨a, b, c, ha, hb, hc, h1, h2, rfl⟩
    exact ⟨a, ha, c, hc, b, ⟨hb, h1, h2⟩, rfl⟩
/-- x is below y -/
def Lo (x y : Str) : Prop := ltCps x.cps.toList y.cps.toList = true
theorem lo_s3 {a b c a' b' c' : Nat} : Lo (s3 a b c) (s3 a' b' c') ↔ a < a' ∨ a = a' ∧ (b < b' ∨ b = b' ∧ c < c') := by simp [Lo, s3, ltCps]
theorem tri_up {cs : List Nat} (h : cs.Pairwise (· < ·)) : (tri cs).Pairwise Lo := by
  unfold tri
  refine List.pairwise_flatMap.mpr ⟨fun a ha => List.pairwise_flatMap.mpr ⟨fun b hb => List.pairwise_map.mpr ((h.filter _).imp fun {c c'} e => lo_s3.mpr (.inr ⟨rfl, .inr ⟨rfl, e⟩⟩)), h.imp fun {b b'} e x hx y hy => ?_⟩, h.imp fun {a a'} e x hx y hy => ?_⟩
  · obtain ⟨c, _, rfl⟩ := List.mem_map.mp hx
    obtain ⟨c', _, rfl⟩ := List.mem_map.mp hy
    exact lo_s3.mpr (.inr ⟨rfl, .inl e⟩)
  · obtain ⟨b, _, hx⟩ := List.mem_flatMap.mp hx
    obtain ⟨b', _, hy⟩ := List.mem_flatMap.mp hy
    obtain ⟨c, _, rfl⟩ := List.mem_map.mp hx
    obtain ⟨c', _, rfl⟩ := List.mem_map.mp hy
    exact lo_s3.mpr (.inl e)
theorem tri2_nodup {cs : List Nat} (h : cs.Nodup) : (tri2 cs).Nodup := by
  unfold tri2
  refine List.pairwise_flatMap.mpr ⟨fun a ha => List.pairwise_flatMap.mpr ⟨fun b hb => List.pairwise_map.mpr ((h.filter _).imp fun {c c'} e => fun z => e (s3_inj.mp z).2.1), h.imp fun {b b'} e x hx y hy => ?_⟩, h.imp fun {a a'} e x hx y hy => ?_⟩
  · obtain ⟨c, _, rfl⟩ := List.mem_map.mp hx
    obtain ⟨c', _, rfl⟩ := List.mem_map.mp hy
    exact fun z => e (s3_inj.mp z).2.2
  · obtain ⟨b, _, hx⟩ := List.mem_flatMap.mp hx
    obtain ⟨b', _, hy⟩ := List.mem_flatMap.mp hy
    obtain ⟨c, _, rfl⟩ := List.mem_map.mp hx
    obtain ⟨c', _, rfl⟩ := List.mem_map.mp hy
    exact fun z => e (s3_inj.mp z).1
theorem lo_irrefl : ∀ l : List Nat, ltCps l l = false
  | [] => rfl
  | a :: r => by simp [ltCps, lo_irrefl r]
theorem lo_trans : ∀ a b c : List Nat, ltCps a b = true → ltCps b c = true → ltCps a c = true
  | [], [], _, h, _ => by simp [ltCps] at h
  | [], _ :: _, [], _, h => by simp [ltCps] at h
  | [], _ :: _, _ :: _, _, _ => rfl
  | _ :: _, [], _, h, _ => by simp [ltCps] at h
  | _ :: _, _ :: _, [], _, h => by simp [ltCps] at h
  | x :: r, y :: t, z :: u, h1, h2 => by
    simp only [ltCps, Bool.or_eq_true, decide_eq_true_eq, Bool.and_eq_true, beq_iff_eq] at h1 h2 ⊢
    rcases h1 with h1 | ⟨rfl, h1⟩
    · rcases h2 with h2 | ⟨rfl, h2⟩
      · exact .inl (Nat.lt_trans h1 h2)
      · exact .inl h1
    · rcases h2 with h2 | ⟨rfl, h2⟩
      · exact .inl h2
      · exact .inr ⟨rfl, lo_trans r t u h1 h2⟩
theorem lo_conn : ∀ a b : List Nat, ltCps a b = false → ltCps b a = false → a = b
  | [], [], _, _ => rfl
  | [], b :: t, h, _ => by simp [ltCps] at h
  | a :: r, [], _, h => by simp [ltCps] at h
  | a :: r, b :: t, h1, h2 => by
    simp only [ltCps, Bool.or_eq_false_iff, Bool.and_eq_false_imp, decide_eq_false_iff_not, beq_iff_eq] at h1 h2
    have e : a = b := by omega
    subst e
    rw [lo_conn r t (h1.2 rfl) (h2.2 rfl)]
/-- not above -/
def Le (x y : Str) : Prop := ltCps y.cps.toList x.cps.toList = false
theorem Lo.le {x y : Str} (h : Lo x y) : Le x y := by
  unfold Le
  cases e : ltCps y.cps.toList x.cps.toList with
  | false => rfl
  | true =>
    have := lo_trans _ _ _ h e
    rw [lo_irrefl] at this
    cases this
theorem le_trans {x y z : Str} (h1 : Le x y) (h2 : Le y z) : Le x z := by
  unfold Le at *
  cases e : ltCps z.cps.toList x.cps.toList with
  | false => rfl
  | true =>
    cases e2 : ltCps x.cps.toList y.cps.toList with
    | true =>
      have := lo_trans _ _ _ e e2
      rw [h2] at this
      cases this
    | false =>
      have := lo_conn _ _ e2 h1
      rw [this, h2] at e
      cases e
theorem le_eq {x y : Str} (h1 : Le x y) (h2 : Le y x) : x = y := by
  cases x
  cases y
  exact congrArg Str.mk (Array.toList_inj.mp (lo_conn _ _ h2 h1))
theorem up_rising : ∀ (r : List Str) (p : Str), risingS p r = true → (p :: r).Pairwise Le
  | [], p, _ => List.pairwise_singleton _ _
  | x :: r, p, h => by
    simp only [risingS, Bool.and_eq_true, Bool.not_eq_true'] at h
    have ih := up_rising r x h.2
    refine List.pairwise_cons.mpr ⟨fun y hy => ?_, ih⟩
    rcases List.mem_cons.mp hy with rfl | hy
    · exact h.1
    · exact le_trans (y := x) h.1 ((List.pairwise_cons.mp ih).1 y hy)
theorem up_sorted {ys : List Str} (h : sortedS ys = true) : ys.Pairwise Le := by
  cases ys with
  | nil => exact .nil
  | cons x r => exact up_rising r x h
/-- the one sorted row -/
theorem sorted_is {ys xs : List Str} (p : ys.Perm xs) (s : sortedS ys = true) (u : xs.Pairwise Lo) : ys = xs :=
  List.Perm.eq_of_pairwise (fun a b _ _ h1 h2 => le_eq h1 h2) (up_sorted s) (u.imp Lo.le) p
theorem tri_sorted {cs : List Nat} {ys : List Str} (h : cs.Pairwise (· < ·)) (p : ys.Perm (tri2 cs)) (s : sortedS ys = true) : ys = tri cs := by
  have n : cs.Nodup := h.imp fun e => Nat.ne_of_lt e
  have n1 : (tri cs).Nodup := (tri_up h).imp fun {x y} e z => by
    subst z
    unfold Lo at e
    rw [lo_irrefl] at e
    cases e
  exact sorted_is (p.trans ((List.perm_ext_iff_of_nodup (tri2_nodup n) n1).mpr fun x => mem_tri2)) s (tri_up h)
theorem tri2_map (f : Nat → Nat) (l : List Nat) (h : ∀ a ∈ l, ∀ b ∈ l, (f a < f b ↔ a < b)) : (tri2 (l.map f)).length = (tri2 l).length := by
  unfold tri2
  rw [List.flatMap_map, List.length_flatMap, List.length_flatMap]
  refine congrArg List.sum (List.map_congr_left fun a ha => ?_)
  rw [List.flatMap_map, List.length_flatMap, List.length_flatMap]
  refine congrArg List.sum (List.map_congr_left fun c hc => ?_)
  rw [List.length_map, List.length_map, List.filter_map, List.length_map]
  refine congrArg List.length (List.filter_congr fun b hb => ?_)
  show (decide (f a < f b) && decide (f b < f c)) = (decide (a < b) && decide (b < c))
  rw [decide_eq_decide.mpr (h a ha b hb), decide_eq_decide.mpr (h b hb c hc)]
theorem tri2_few {cs : List Nat} (h : cs.Pairwise (· < ·)) (n : cs.length ≤ 6) : (tri2 cs).length ≤ 20 := by
  have e : cs = (List.range cs.length).map fun i => cs.getD i 0 := by
    refine List.ext_getElem (by simp) fun i h1 h2 => ?_
    simp [h1]
  have mono : ∀ a ∈ List.range cs.length, ∀ b ∈ List.range cs.length, (cs.getD a 0 < cs.getD b 0 ↔ a < b) := fun a ha b hb => by
    have ha := List.mem_range.mp ha
    have hb := List.mem_range.mp hb
    have q := List.pairwise_iff_getElem.mp h
    rw [List.getD_eq_getElem?_getD, List.getD_eq_getElem?_getD, List.getElem?_eq_getElem ha, List.getElem?_eq_getElem hb]
    simp only [Option.getD_some]
    constructor
    · intro lt
      by_cases c : a < b
      · exact c
      · by_cases d : a = b
        · subst d; omega
        · have := q b a hb ha (by omega)
          omega
    · exact fun lt => q a b ha hb lt
  rw [e, tri2_map _ _ mono]
  have all : ∀ n, n ≤ 6 → (tri2 (List.range n)).length ≤ 20 := by decide +kernel
  exact all _ n
theorem row3_take {cs : List Nat} {a b c k : Nat} (h : cs[k]? = some c) : ((cs.take (k + 1)).filter fun c => decide (a < b) && decide (b < c)).map (s3 a b) = ((cs.take k).filter fun c => decide (a < b) && decide (b < c)).map (s3 a b) ++ if decide (a < b) && decide (b < c) then [s3 a b c] else [] := by
  rw [List.take_succ, h, Option.toList_some, List.filter_append, List.map_append]
  congr 1
  cases e : (decide (a < b) && decide (b < c)) <;> simp [List.filter, e]
theorem flat_take {α β : Type} {f : α → List β} {l : List α} {a : α} {k : Nat} (h : l[k]? = some a) : (l.take (k + 1)).flatMap f = (l.take k).flatMap f ++ f a := by
  rw [List.take_succ, h, Option.toList_some, List.flatMap_append]
  simp
theorem row3_len (cs : List Nat) (a b : Nat) : (row3 cs a b).length ≤ cs.length := by
  unfold row3
  rw [List.length_map]
  exact List.length_filter_le _ _
theorem row2_len (cs : List Nat) (a : Nat) : (row2 cs a).length ≤ cs.length * cs.length := flat_le _ fun b _ => row3_len cs a b
def col3 (cs : List Nat) (a c : Nat) : List Str := (cs.filter fun b => decide (a < b) && decide (b < c)).map fun b => s3 a b c
def col2 (cs : List Nat) (a : Nat) : List Str := cs.flatMap fun c => col3 cs a c
theorem tri_cols (cs : List Nat) : tri2 cs = cs.flatMap (col2 cs) := rfl
theorem col3_take {cs : List Nat} {a b c k : Nat} (h : cs[k]? = some b) : ((cs.take (k + 1)).filter fun b => decide (a < b) && decide (b < c)).map (fun b => s3 a b c) = ((cs.take k).filter fun b => decide (a < b) && decide (b < c)).map (fun b => s3 a b c) ++ if decide (a < b) && decide (b < c) then [s3 a b c] else [] := by
  rw [List.take_succ, h, Option.toList_some, List.filter_append, List.map_append]
  congr 1
  cases e : (decide (a < b) && decide (b < c)) <;> simp [List.filter, e]
theorem col3_len (cs : List Nat) (a c : Nat) : (col3 cs a c).length ≤ cs.length := by
  unfold col3
  rw [List.length_map]
  exact List.length_filter_le _ _
theorem col2_len (cs : List Nat) (a : Nat) : (col2 cs a).length ≤ cs.length * cs.length := flat_le _ fun c _ => col3_len cs a c
end L2.Cal
end

section
set_option maxRecDepth 100000
set_option maxHeartbeats 4000000
set_option synthInstance.maxHeartbeats 400000
namespace L2.Cal
open PySem PySem.Spec PyProof.Rows L2
/-- pairs of texts, each in its own tuple -/
inductive Prs (H : Hp) : List V → List (Str × Str) → Prop
  | nil : Prs H [] []
  | cons {q : Addr} {t w : Str} {vs : List V} {l : List (Str × Str)} : H q = some (.tup [.str t, .str w]) → Prs H vs l → Prs H (.ref q :: vs) ((t, w) :: l)
theorem Prs.length {H : Hp} {vs : List V} {l : List (Str × Str)} (h : Prs H vs l) : vs.length = l.length := by
  induction h with
  | nil => rfl
  | cons _ _ ih => simp [ih]
theorem Prs.keep {H H' : Hp} {vs : List V} {l : List (Str × Str)} (h : Prs H vs l) (k : ∀ b xs, H b = some (.tup xs) → H' b = some (.tup xs)) : Prs H' vs l := by
  induction h with
  | nil => exact .nil
  | cons e _ ih => exact .cons (k _ _ e) ih
theorem Prs.snoc {H : Hp} {vs : List V} {l : List (Str × Str)} {q : Addr} {t w : Str} (h : Prs H vs l) (e : H q = some (.tup [.str t, .str w])) : Prs H (vs ++ [.ref q]) (l ++ [(t, w)]) := by
  induction h with
  | nil => exact .cons e .nil
  | cons e1 _ ih => exact .cons e1 ih
def prD (l : List (Str × Str)) : List PyData := l.map fun p => .tuple [.str p.1, .str p.2]
theorem Prs.dp {K : PySem.W.Frag} {H : Hp} {vs : List V} {l : List (Str × Str)} (h : Prs H vs l) : DpAll K H vs (prD l) := by
  induction h with
  | nil => exact .nil
  | cons e _ ih => exact .cons (.tup (SqT.of e) (.cons (.str _) (.cons (.str _) .nil))) ih
end L2.Cal
end

section
set_option maxRecDepth 100000
set_option maxHeartbeats 4000000
set_option synthInstance.maxHeartbeats 400000
namespace L2.Cal
open PySem PySem.Spec PyProof.Rows L2
abbrev sTie : Stmt := crS 9
theorem scTie : FnScope ["self", "beaten", "pairs", "a", "b"] ["self"] (defScope sTie) := ⟨rfl, rfl, rfl, by decide +kernel, rfl, by decide +kernel, by decide +kernel⟩
abbrev rLtS : V → V → Hp → VK → Prop := fun x y H Q => ∃ i j : Str, x = V.str i ∧ y = V.str j ∧ Q (V.bl (decide (i.cps.toList < j.cps.toList))) H
abbrev tPairE : TE := tTupS (tCons (tVar 3) (tCons (tVar 4) tNil))
def pnL (zs : List Nat) (a : Nat) : List (Nat × Nat) := (zs.filter fun b => decide (a < b)).map fun b => (a, b)
def pnAll (zs : List Nat) : List (Nat × Nat) := zs.flatMap (pnL zs)
def spr (p : Nat × Nat) : Str × Str := (chS p.1, chS p.2)
def tieB (ys : List Str) (ns : List Int) (p : Nat × Nat) : Bool := !btB ys ns p.1 p.2 && !btB ys ns p.2 p.1
def tiesN (z : Str) (ys : List Str) (ns : List Int) : List (Nat × Nat) := (pnAll z.cps.toList).filter (tieB ys ns)
def spTie (C Cr : Addr) : Sp := fun vs H Q _ => ∃ (c : Addr) (z : Str) (ys : List Str) (ns : List Int), vs = [.ref c] ∧ CrdZ C Cr H c z ys ns ∧ AskAll z ys ns ∧ ∀ (p : Addr) (us : List V) (H' : Hp), Same H H' → H' p = some (.tup us) → Prs H' us ((tiesN z ys ns).map spr) → Q (.ref p) H'
theorem Prs.at {H : Hp} {vs : List V} {l : List (Str × Str)} (h : Prs H vs l) : ∀ {i : Nat} {x : V}, vs[i]? = some x → ∃ q t w, x = .ref q ∧ l[i]? = some (t, w) ∧ H q = some (.tup [.str t, .str w]) := by
  induction h with
  | nil => intro i x e; simp at e
  | cons e1 _ ih =>
    intro i x e
    cases i with
    | zero => cases e; exact ⟨_, _, _, rfl, rfl, e1⟩
    | succ i => exact ih e
theorem unlock {H1 H' : Hp} {d : Addr} {od : Obj} {u : HO} (e1 : H1 d = some u) (s : Same (upd H1 d (.frz od u)) H') : Same H1 (upd H' d u) ∧ H' d = some (.frz od u) := by
  refine ⟨fun b o e => ?_, s _ _ upd_same⟩
  by_cases n : b = d
  · subst n
    rw [e1] at e
    cases e
    exact upd_same
  · rw [upd_ne n]
    exact s _ _ (by rw [upd_ne n]; exact e)
theorem pn_few {zs : List Nat} (h : zs.length ≤ 6) : ∀ l : List Nat, l.length ≤ 6 → (l.flatMap (pnL zs)).length ≤ 36 := fun l hl => by
  have := flat_le l (f := pnL zs) (n := 6) fun a _ => by
    unfold pnL
    rw [List.length_map]
    exact Nat.le_trans (List.length_filter_le _ _) h
  omega
theorem in_bt {z : Str} {ys : List Str} {ns : List Int} {a b : Nat} (h : b ∈ z.cps.toList) : decide (b ∈ (btS z ys ns a).cps.toList) = btB ys ns a b := by
  have : b ∈ (btS z ys ns a).cps.toList ↔ btB ys ns a b = true := by
    show b ∈ z.cps.toList.filter (fun b => btB ys ns a b) ↔ _
    rw [List.mem_filter]
    exact ⟨fun h => h.2, fun g => ⟨h, g⟩⟩
  rw [Bool.eq_iff_iff, decide_eq_true_eq]
  exact this
section
variable {P : Program} {w : World} {K : PySem.W.Frag} {mg : Str → Option Value} {base : Heap} {C Cr : Addr}
theorem ok_tie {f fN fB fO fA fT fK : Addr} {fd fdN fdB fdO fdA fdT fdK : FuncData} {pO pT : Addr} (F : Fun K "ties" "Crowd.ties" sTie f fd) (FN : Fun K "_beaten" "Crowd._beaten" sBtn fN fdN) (mN : Meth K Cr "_beaten" fN) (bN : Binds K fdN ["self"] []) (FB : Fun K "beats" "Crowd.beats" sBts fB fdB) (mB : Meth K Cr "beats" fB) (bB : Binds K fdB ["self", "thing", "other"] []) (FA : Fun K "_above" "Crowd._above" sAb_ fA fdA) (mA : Meth K Cr "_above" fA) (bA : Binds K fdA ["self", "thing", "other"] []) (DK : DefAt K mg "check_thing" sChT ["things", "thing"] fK fdK)
    (PT : PropOf K C "things" pT fT) (FT : Fun K "things" "Roll.things" sThi fT fdT) (bT : Binds K fdT ["self"] []) (PO : PropOf K C "orders" pO fO) (FO : Fun K "orders" "Roll.orders" sOrd fO fdO) (bO : Binds K fdO ["self"] []) (bsum : mg "sum" = none) (bzip : mg "zip" = none) (T : Txt mg) (R : RollC K mg C) (RC : CrC K mg Cr) :
    FnOk P w K mg base CX0 6 f fd ["self"] (spTie C Cr) := by
  have GN : FnOk P w K mg base CX0 5 fN fdN ["self"] (spBtn C Cr) := ok_btn FN FB mB bB FA mA bA DK PT FT bT PO FO bO bsum bzip T R RC
  refine F.ok scTie (fun vs H Q E h => ?_) (fun cdv A outer sh H vs Q E hr h => ?_)
  · obtain ⟨c, z, ys, ns, rfl, _⟩ := h
    rfl
  · obtain ⟨c, z, ys, ns, rfl, hz, as, q⟩ := h
    have hu := hr.units
    have hu1 : (A.deeper (envOfC (Str.ofString "Crowd.ties") (defScope sTie) sh.heap.objs.size f cdv)).units + 1 < cLine := by omega
    refine ⟨_, (pss_cons (ps_set (i := 1) scTie.nd rfl (.inr rfl) (pe_meth0 (pv 0) RC.cls mN GN (hr.mono (by decide)) bN .nil pass0))
      (pss_cons (ps_lock (ps_setLc2 (i := 2) (own := [("a", 3), ("b", 4)]) (vs1 := [4]) (g := gName 3) (g1 := gName 4) (tt := tYes) (tt1 := _) rfl scTie.nd rfl rfl (sw_true rfl rfl rfl (by decide +kernel)) (pi_keys (pv 1)) (blkOk_by (own := [("a", 3), ("b", 4)]) (N := ["self", "beaten", "pairs", "a", "b"]) (sc := defScope sTie) (by decide +kernel)) (by decide)
        (fun _ _ _ _ _ => pg_name (i := 3) scTie.nd rfl (Or.inl rfl)) (fun _ _ _ _ _ => pts_nil) (fun _ _ _ _ _ => pi_keys (pv 1)) (fun _ _ _ _ _ => pg_name (i := 4) scTie.nd rfl (Or.inl rfl)) (fun _ _ _ _ _ => pts_one (pt_cmpR op_lt_str (pv 3) (pv 4) (nomark _))) (fun _ _ _ _ _ => pe_tupS (pa_cons (pv 3) (pa_cons (pv 4) pa_nil)))))
      (pss_one (ps_ret (pe_callTy call_tuple_of (by rfl) T.b_tuple (by decide +kernel) (pa_cons (pe_lc (own := [("a", 3), ("b", 4)]) (g := gTup K 2 (gCons (gName 3) (gCons (gName 4) gNil))) (tt := _) rfl scTie.nd (pi_list (pv 2)) (blkOk_by (own := [("a", 3), ("b", 4)]) (N := ["self", "beaten", "pairs", "a", "b"]) (sc := defScope sTie) (by decide +kernel))
        (fun _ _ _ _ _ => pg_tup rfl (pgs_cons (pg_name (i := 3) scTie.nd rfl (Or.inl rfl)) (pgs_cons (pg_name (i := 4) scTie.nd rfl (Or.inl rfl)) pgs_nil)))
        (fun _ _ _ _ _ => pts_one (PW.pt (pw_and (pt_cmpR op_notin_str (pv 4) (pe_dget hu1 (pv 1) (pv 3) (fun _ _ => rfl)) (by rfl)) (pw_and1 (pt_cmpR op_notin_str (pv 3) (pe_dget hu1 (pv 1) (pv 4) (fun _ _ => rfl)) (by rfl))))))
        (fun _ _ _ _ _ => pe_tupS (pa_cons (pv 3) (pa_cons (pv 4) pa_nil)))) pa_nil)))))), ?_⟩
    obtain ⟨hc, dx, fs, r, t, e, l, no, ra⟩ := id hz
    have zl : z.cps.toList.length = z.cps.size := Array.length_toList
    have z6 := as.z6
    refine ⟨_, rfl, c, dx, fs, rfl, e, no _ (by decide) (by decide) (by decide), c, z, ys, ns, rfl, hz, as, fun d H1 s1 n1 e1 => ?_⟩
    have kl : (bkv z ys ns z.cps.toList).length = z.cps.toList.length := by
      unfold bkv
      rw [List.length_map]
    have key : ∀ {i : Nat} {k : Key} {v : V}, (bkv z ys ns z.cps.toList)[i]? = some (k, v) → ∃ a, z.cps.toList[i]? = some a ∧ k = .inr (chS a) := fun {i k v} h => by
      unfold bkv at h
      rw [List.getElem?_map] at h
      cases ea : z.cps.toList[i]? with
      | none => rw [ea] at h; cases h
      | some a => rw [ea] at h; cases h; exact ⟨a, rfl, rfl⟩
    have z2 : 2 ≤ sizeLine := by rw [sizeLine_eq]; decide
    refine ⟨d, _, e1, trivial, fun od => ⟨_, rfl, d, od, rfl, .inl ⟨_, upd_same, fun D nD => C3.walk_by (g := gName 3) (tt := tYes) (vs := [3, 4]) (body := C3.tCl (iKeys (tVar 1)) (gName 4) (tTest (tOp rLtS (tVar 3) (tVar 4))) [4] (C3.tPut tPairE D)) walk_keys (fun i H' => Same (upd H1 d (.frz od (.dK (bkv z ys ns z.cps.toList)))) H' ∧ ∃ us, H' D = some (.lst us) ∧ Prs H' us (((z.cps.toList.take i).flatMap (pnL z.cps.toList)).map spr))
      ⟨same_new nD, [], upd_same, .nil⟩ (fun i H' _ hP => hP.1 _ _ upd_same) (fun i x H2 H3 hi hP hY => ?_) (fun H2 hP => ?_)⟩⟩⟩
    · obtain ⟨sm, us, eD, pr⟩ := hP
      obtain ⟨rfl, k, v, hk, rfl⟩ := hY
      obtain ⟨a, ea, rfl⟩ := key hk
      refine ⟨rfl, _, rfl, d, od, rfl, .inl ⟨_, sm _ _ upd_same, C3.walk_by (g := gName 4) (tt := tTest (tOp rLtS (tVar 3) (tVar 4))) (vs := [4]) (body := C3.tPut tPairE D) walk_keys (fun j H' => Same (upd H1 d (.frz od (.dK (bkv z ys ns z.cps.toList)))) H' ∧ ∃ us, H' D = some (.lst us) ∧ Prs H' us (((z.cps.toList.take i).flatMap (pnL z.cps.toList) ++ ((z.cps.toList.take j).filter fun b => decide (a < b)).map fun b => (a, b)).map spr))
        ⟨sm, us, eD, by simpa using pr⟩ (fun i H' _ hP => hP.1 _ _ upd_same) (fun j x H4 H5 hj hP hY => ?_) (fun H4 hP => ?_)⟩⟩
      · obtain ⟨sm, us, eD, pr⟩ := hP
        obtain ⟨rfl, k2, v2, hk2, rfl⟩ := hY
        obtain ⟨b, eb, rfl⟩ := key hk2
        have few : us.length ≤ 50 := by
          have h1 := pn_few (zs := z.cps.toList) (by omega) (z.cps.toList.take i) (by rw [List.length_take]; omega)
          have h2 := List.length_filter_le (fun b => decide (a < b)) (z.cps.toList.take j)
          rw [pr.length, List.length_map, List.length_append, List.length_map]
          rw [List.length_take] at h2
          omega
        refine ⟨rfl, _, rfl, _, rfl, _, _, rfl, rfl, decide (a < b), congrArg V.bl (one_lt a b), ite2 (fun h1 => ?_) (fun h1 => ?_)⟩
        · refine ⟨_, rfl, _, rfl, z2, fun p H6 s6 n6 e6 => ⟨us, s6 _ _ eD, by rw [sizeLine_eq]; omega, fun y o h => ?_, us ++ [.ref p], upd_same, ?_⟩⟩
          · rw [upd_ne (ne_of_none h nD)]
            exact s6 _ _ (sm _ _ h)
          · have eD6 := s6 _ _ eD
            have kp : ∀ y xs, H6 y = some (.tup xs) → (upd H6 D (.lst (us ++ [.ref p]))) y = some (.tup xs) := fun y xs h => by
              rw [upd_ne (fun n => by rw [n, eD6] at h; cases h)]
              exact h
            have := ((pr.keep fun y xs h => s6 _ _ h).keep kp).snoc (kp _ _ e6)
            rw [List.take_succ, eb, Option.toList_some, List.filter_append, show [b].filter (fun b => decide (a < b)) = [b] by rw [List.filter_cons, if_pos h1, List.filter_nil]]
            simpa only [List.map_append, List.map_cons, List.map_nil, List.append_assoc, spr] using this
        · refine ⟨sm, us, eD, ?_⟩
          rw [List.take_succ, eb, Option.toList_some, List.filter_append, show [b].filter (fun b => decide (a < b)) = [] by rw [List.filter_cons, if_neg h1, List.filter_nil], List.append_nil]
          exact pr
      · obtain ⟨sm, us, eD, pr⟩ := hP
        refine ⟨sm, us, eD, ?_⟩
        rw [kl, List.take_length] at pr
        rw [flat_take ea]
        exact pr
    · obtain ⟨sm, us, eD, pr⟩ := hP
      rw [kl, List.take_length] at pr
      obtain ⟨S1, fz⟩ := unlock e1 sm
      refine ⟨fz, ?_⟩
      have Dd : D ≠ d := fun n => by rw [n, upd_same] at nD; cases nD
      have eD3 : (upd H2 d (.dK (bkv z ys ns z.cps.toList))) D = some (.lst us) := by rw [upd_ne Dd]; exact eD
      have ed3 : (upd H2 d (.dK (bkv z ys ns z.cps.toList))) d = some (.dK (bkv z ys ns z.cps.toList)) := upd_same
      have pr3 : Prs (upd H2 d (.dK (bkv z ys ns z.cps.toList))) us ((pnAll z.cps.toList).map spr) := pr.keep fun y xs h => by
        rw [upd_ne (fun n => by rw [n, fz] at h; cases h)]
        exact h
      generalize upd H2 d (.dK (bkv z ys ns z.cps.toList)) = H3 at S1 eD3 ed3 pr3
      have few : (pnAll z.cps.toList).length ≤ 36 := pn_few (by omega) _ (by omega)
      have ul : us.length = (pnAll z.cps.toList).length := by rw [pr3.length, List.length_map]
      refine ⟨_, rfl, D, rfl, ⟨_, SqL.of eD3⟩, fun D4 nD4 => lc_list (K := K) (a := D) (xs := us) (fun i H' => Same H3 H' ∧ ∃ vs, H' D4 = some (.lst vs) ∧ Prs H' vs ((((pnAll z.cps.toList).take i).filter (tieB ys ns)).map spr))
        ⟨same_new nD4, [], upd_same, by simpa using Prs.nil⟩ (fun i H' _ hP => hP.1.seq (SqL.of eD3)) (fun i x H4 hx hP => ?_) (fun H4 hP => ?_)⟩
      · obtain ⟨s4, vs, e4, pr4⟩ := hP
        obtain ⟨q1, t1, w1, rfl, hl, eq1⟩ := pr3.at hx
        rw [List.getElem?_map] at hl
        cases ep : (pnAll z.cps.toList)[i]? with
        | none => rw [ep] at hl; cases hl
        | some p =>
          obtain ⟨a, b⟩ := p
          rw [ep] at hl
          cases hl
          have mp := List.mem_of_getElem? ep
          obtain ⟨am, bm⟩ : a ∈ z.cps.toList ∧ b ∈ z.cps.toList := by
            unfold pnAll pnL at mp
            obtain ⟨a', ha', h⟩ := List.mem_flatMap.mp mp
            obtain ⟨b', hb', h⟩ := List.mem_map.mp h
            cases h
            exact ⟨ha', (List.mem_filter.mp hb').1⟩
          have vl : vs.length ≤ 36 := by
            rw [pr4.length, List.length_map]
            refine Nat.le_trans (List.length_filter_le _ _) ?_
            rw [List.length_take]
            omega
          have dg : ∀ u H', Same H3 H' → u ∈ z.cps.toList → DGet H' d (.str (chS u)) (some (.str (btS z ys ns u))) := fun u H' s hu => .inl ⟨_, .inr (chS u), .inl (s _ _ ed3), rfl, (bkv_val hu).symm⟩
          have no_ : tieB ys ns (a, b) = false → Same H3 H4 ∧ ∃ vs, H4 D4 = some (.lst vs) ∧ Prs H4 vs ((((pnAll z.cps.toList).take (i + 1)).filter (tieB ys ns)).map spr) := fun h => by
            refine ⟨s4, vs, e4, ?_⟩
            rw [List.take_succ, ep, Option.toList_some, List.filter_append, List.filter_cons, h, if_neg Bool.false_ne_true, List.filter_nil, List.append_nil]
            exact pr4
          refine ⟨q1, _, rfl, SqT.of (s4 _ _ eq1), rfl, _, _, rfl, _, _, rfl, rfl, rfl, ?_⟩
          refine ⟨_, rfl, _, rfl, _, rfl, d, _, rfl, dg a _ s4 am, _, _, rfl, rfl, _, congrArg (fun b => V.bl (!b)) ((PySem.StrLaws.found_one _ _).trans (in_bt bm)), ite2 (fun h1 => ?_) (fun h1 => ?_)⟩
          · refine ⟨_, rfl, _, rfl, _, rfl, d, _, rfl, dg b _ s4 bm, _, _, rfl, rfl, _, congrArg (fun b => V.bl (!b)) ((PySem.StrLaws.found_one _ _).trans (in_bt am)), ite2 (fun h2 => ?_) (fun h2 => ?_)⟩
            · have tt : tieB ys ns (a, b) = true := by
                unfold tieB
                rw [h1, h2] <;> rfl
              refine ⟨_, rfl, _, rfl, z2, fun p H6 s6 n6 e6 => ⟨vs, s6 _ _ e4, by rw [sizeLine_eq]; omega, fun y o h => ?_, vs ++ [.ref p], upd_same, ?_⟩⟩
              · rw [upd_ne (ne_of_none h nD4)]
                exact s6 _ _ (s4 _ _ h)
              · have eD6 := s6 _ _ e4
                have kp : ∀ y xs, H6 y = some (.tup xs) → (upd H6 D4 (.lst (vs ++ [.ref p]))) y = some (.tup xs) := fun y xs h => by
                  rw [upd_ne (fun n => by rw [n, eD6] at h; cases h)]
                  exact h
                have := ((pr4.keep fun y xs h => s6 _ _ h).keep kp).snoc (kp _ _ e6)
                rw [List.take_succ, ep, Option.toList_some, List.filter_append, List.filter_cons, tt, if_pos rfl, List.filter_nil, List.map_append]
                exact this
            · refine no_ ?_
              unfold tieB
              rw [Bool.eq_false_iff.mpr h2, Bool.and_false]
          · refine no_ ?_
            unfold tieB
            rw [Bool.eq_false_iff.mpr h1, Bool.false_and]
      · obtain ⟨s4, vs, e4, pr4⟩ := hP
        rw [ul, List.take_length] at pr4
        refine ⟨D4, _, rfl, .inl ⟨SqL.of e4, fun p np => ?_⟩⟩
        exact q p vs _ (fun y o h => by
          have h4 := s4 _ _ (S1 _ _ (s1 _ _ h))
          rw [upd_ne (ne_of_none h4 np)]
          exact h4) upd_same (pr4.keep fun y xs h => by rw [upd_ne (ne_of_none h np)]; exact h)
end
end L2.Cal
end

section
set_option maxRecDepth 100000
set_option maxHeartbeats 4000000
/-! itertools.permutations(text, r), at the library's level -/
namespace CpPerm
open PySem
abbrev PT : String := "itertools.permutations"
theorem sub_perm : isSubtype (.type "itertools.permutations") (.type "itertools.permutations") = pure true := by rw [isSubtype_type]; exact id rfl
theorem subo_perm : isSubtype (.type "itertools.permutations") (.type "object") = pure true := by rw [isSubtype_type]; exact id rfl
theorem mro_perm : mroOf (.type "itertools.permutations") = pure [.type "itertools.permutations", .type "object"] := by rw [mroOf_type]; exact id rfl
theorem lookup_perm_new : typeLookup (.type "itertools.permutations") (Str.ofString "__new__") = pure (some (.builtin "itertools.permutations.__new__")) := by
  rw [typeLookup_type, builtinLookup_eq_fast]; exact id rfl
theorem entry_perm_new : entryFor table "itertools.permutations.__new__" = some Builtin.«itertools.permutations.__new__» := entryFor_of_tree (id rfl)
theorem entry_perm_next : entryFor table "itertools.permutations.__next__" = some Builtin.«itertools.permutations.__next__» := entryFor_of_tree (id rfl)
theorem slot_perm_next : Slot "itertools.permutations" (Str.ofString "__next__") "itertools.permutations.__next__" :=
  Slot.of (by rw [typeLookup_type, builtinLookup_eq_fast]; exact id rfl) (show splitId "itertools.permutations.__next__" = some ("itertools.permutations", "__next__") by decide +kernel) (by decide +kernel) (by decide +kernel) (Or.inl (by decide +kernel)) sub_perm (by decide +kernel)
theorem slot_perm_init : Slot "itertools.permutations" (Str.ofString "__init__") "object.__init__" :=
  Slot.of (by rw [typeLookup_type, builtinLookup_eq_fast]; exact id rfl) (show splitId "object.__init__" = some ("object", "__init__") by decide +kernel) (by decide +kernel) (by decide +kernel) (Or.inl (by decide +kernel)) subo_perm (by decide +kernel)
theorem called_perm : TypeCalled "itertools.permutations" "itertools.permutations.__new__" "object.__init__" where
  notType := by decide +kernel
  canCreate := by decide +kernel
  mro := ⟨_, _, mro_perm⟩
  made := madeBy_type mro_perm lookup_perm_new (by decide +kernel)
  plain := by decide +kernel
  sub := sub_perm
  init := slot_perm_init
theorem typeCall_perm_2 (a b : Value) : checkTypeCall "itertools.permutations" { pos := [a, b] } = pure () := by kernel_rfl
theorem newCall_perm_2 (a b : Value) : checkBuiltinCall "itertools.permutations.__new__" { pos := [.type "itertools.permutations", a, b] } = pure () := by kernel_rfl
theorem typeCall_perm_1 (a : Value) : checkTypeCall "itertools.permutations" { pos := [a] } = pure () := by kernel_rfl
theorem newCall_perm_1 (a : Value) : checkBuiltinCall "itertools.permutations.__new__" { pos := [.type "itertools.permutations", a] } = pure () := by kernel_rfl
theorem noClose_perm : typeLookup (.type "itertools.permutations") (Str.ofString "close") = pure none := by rw [typeLookup_type, builtinLookup_eq_fast]; exact id rfl
theorem noDict_perm : typeHasDict (.type "itertools.permutations") = false := by decide +kernel
theorem owner_perm : List.lookup (String.ofList ("itertools.permutations".toList)) Manifest.owners = some Manifest.sig_itertools_permutations := id rfl
theorem slot_perm_iter : Slot "itertools.permutations" (Str.ofString "__iter__") "itertools.permutations.__iter__" :=
  Slot.of (by rw [typeLookup_type, builtinLookup_eq_fast]; exact id rfl) (show splitId "itertools.permutations.__iter__" = some ("itertools.permutations", "__iter__") by decide +kernel) (by decide +kernel) (by decide +kernel) (Or.inl (by decide +kernel)) sub_perm (by decide +kernel)
theorem entry_perm_iter : entryFor table "itertools.permutations.__iter__" = some Builtin.«dict_keyiterator.__iter__» :=
  entryFor_alias (id (Eq.refl (fastTable "itertools.permutations.__iter__"))) (Eq.refl ("itertools.permutations.__iter__".cutAt '#')) (by decide +kernel) (id (Eq.refl (fastTable "dict_keyiterator.__iter__")))
theorem args_perm_next (a : Value) : argsOk "itertools.permutations.__next__" { pos := [a] } := by
  unfold argsOk
  rw [signature?_of (id (Eq.refl (List.span (fun x => x != '.') (List.map (fun c => if (c.isAlphanum || c == '_' || c == '.') = true then c else '_') "itertools.permutations.__next__".toList).reverse))) owner_perm]
  exact id rfl
theorem args_perm_iter (a : Value) : argsOk "itertools.permutations.__iter__" { pos := [a] } := by
  unfold argsOk
  rw [signature?_of (id (Eq.refl (List.span (fun x => x != '.') (List.map (fun c => if (c.isAlphanum || c == '_' || c == '.') = true then c else '_') "itertools.permutations.__iter__".toList).reverse))) owner_perm]
  exact id rfl
end CpPerm
end

section
set_option maxRecDepth 100000
set_option maxHeartbeats 4000000
/-! the numbers of itertools.permutations, at the library's level -/
namespace CpPerm
open PySem
/-! ### the numbers -/
abbrev NP := Nat → Nat → List Nat → List Nat → Option (List Nat × List Nat)
def seqOf (np : NP) (n r : Nat) : Nat → List Nat × List Nat → List (List Nat × List Nat)
  | 0, _ => []
  | k + 1, s => s :: match np n r s.1 s.2 with | none => [] | some t => seqOf np n r k t
def s0 (n r : Nat) : List Nat × List Nat := (List.range n, (List.range r).map fun i => n - i)
def picks : List Nat → List (Nat × List Nat)
  | [] => []
  | a :: l => (a, l) :: (picks l).map fun p => (p.1, a :: p.2)
/-- all arrangements of so many of these, in turn -/
def pm : Nat → List Nat → List (List Nat)
  | 0, _ => [[]]
  | r + 1, l => (picks l).flatMap fun p => (pm r p.2).map (p.1 :: ·)
def okNP (np : NP) (n r : Nat) : Bool := decide ((seqOf np n r 800 (s0 n r)).map (fun s => s.1.take r) = pm r (List.range n)) && ((seqOf np n r 800 (s0 n r)).all fun s => decide (s.1.length = n ∧ s.2.length ≤ 12)) && decide ((seqOf np n r 800 (s0 n r)).length < 800)
end CpPerm
end

section
set_option maxRecDepth 100000
set_option maxHeartbeats 4000000
/-! itertools.permutations(text, r): its turns -/
namespace CpPerm
open PySem PySem.Spec
def permO (pool : Addr) (ph : Int) (r : Nat) (old : Value) (ns : List Nat) : Obj := { cls := .type "itertools.permutations", data := .fields ([.ref pool, rawInt ph, rawInt (r : Int), old] ++ ns.map fun (n : Nat) => rawInt (n : Int)).toArray }
def toNatV : Value → Nat := fun x => match x with | .int n _ => n.toNat | _ => 0
theorem nums_back (ns : List Nat) : (ns.map fun (n : Nat) => rawInt (n : Int)).map toNatV = ns := by
  rw [List.map_map]
  exact (List.map_congr_left fun n _ => by simp [toNatV, rawInt]).trans (List.map_id _)
section
variable {prog : Program} {w : World} {A : Around} {E : Value → Shared → Prop} {s : Shared} {it pool : Addr} {r n : Nat} {old : Value} {ns : List Nat} {items : List Value} {tk0 : Nat}
theorem next_one {ph : Int} {Q : Option Value → Shared → Prop} (hit : s.heap.get? it = some (permO pool ph r old ns))
    (h : wpAny (model prog w) A.in1 (Builtin.«itertools.permutations.__next__» ⟨[.ref it], []⟩) (fun fin s' => ∃ v, fin = Fin.done (Flow.ret v) ∧ Q (some v) s') E s) : wpAny (model prog w) A (callSpecial? (.ref it) (Str.ofString "__next__")) Q E s := by
  have kind : s.TypeIs (.ref it) "itertools.permutations" := ⟨_, hit, rfl⟩
  exact wpAny_callSpecial?_slot kind slot_perm_next (wpAny_call_entry slot_perm_next kind entry_perm_next h (args_perm_next _))
theorem nums_of (pool : Addr) (ph : Int) (r : Nat) (old : Value) (ns : List Nat) : ((([.ref pool, rawInt ph, rawInt (r : Int), old] ++ ns.map fun (n : Nat) => rawInt (n : Int)).toArray.toList.drop 4).map toNatV) = ns := nums_back ns
theorem set_1 {v : Int} {ph : Int} : Obj.mapFields (fun x => x.setIfInBounds 1 (rawInt v)) (permO pool ph r old ns) = permO pool v r old ns := by
  simp [Obj.mapFields, permO]
theorem set_3 {v : Value} {ph : Int} : Obj.mapFields (fun x => x.setIfInBounds 3 v) (permO pool ph r old ns) = permO pool ph r v ns := by
  simp [Obj.mapFields, permO]
theorem next_first {F : PySem.Fin → Shared → Prop} (hit : s.heap.get? it = some (permO pool 0 r old ns)) (hl : ns.length ≤ 12) {od : Option Addr} {n0 : Nat} {osl : Array (Option Value)} (hp : s.heap.get? pool = some ⟨.type "tuple", od, .seq items.toArray n0, osl⟩)
    (q : ∀ h', (∀ b o, b ≠ it → s.heap.get? b = some o → h'.get? b = some o) → h'.get? it = some (permO pool 1 r (.ref s.heap.objs.size) ns) → h'.get? s.heap.objs.size = some { cls := .type "tuple", data := .seq ((ns.take r).map fun i => items.toArray.getD i Value.none).toArray } → F (Fin.done (Flow.ret (.ref s.heap.objs.size))) { s with heap := h' }) :
    wpAny (model prog w) A (Builtin.«itertools.permutations.__next__» ⟨[.ref it], []⟩) F E s := by
  show wpAny _ _ (field (.ref it) 0 >>= _) _ _ _
  refine wpAny_bind (wpAny_field hit rfl (x := .ref pool) rfl ?_)
  refine wpAny_bind ?_
  unfold Builtin.Itertools.itPoolItems
  refine wpAny_bind ?_
  refine wpAny_seqItems hp rfl (wpAny_pure ?_)
  refine wpAny_bind (wpAny_bind (wpAny_field hit rfl (x := rawInt (r : Int)) rfl (wpAny_pure ?_)))
  refine wpAny_bind (wpAny_bind (wpAny_load hit (wpAny_pure ?_)))
  refine wpAny_bind (wpAny_bind (wpAny_field hit rfl (x := rawInt 0) rfl (wpAny_pure ?_)))
  erw [nums_of]
  show wpAny _ _ (setField (Value.ref it) 1 _ >>= _) _ _ _
  refine wpAny_bind (wpAny_setField hit rfl (by simp [permO]) ?_)
  have h1 := Heap.get?_update_self (Obj.mapFields fun x => x.setIfInBounds 1 (rawInt 1)) hit rfl
  rw [set_1] at h1
  have out : ∀ b o, b ≠ it → s.heap.get? b = some o → (s.heap.update it (Obj.mapFields fun x => x.setIfInBounds 1 (rawInt 1))).get? b = some o := fun b o nb e => by rw [Heap.get?_update_of_ne _ nb.symm]; exact e
  have sz : (s.heap.update it (Obj.mapFields fun x => x.setIfInBounds 1 (rawInt 1))).objs.size = s.heap.objs.size := Heap.size_update ..
  generalize s.heap.update it (Obj.mapFields fun x => x.setIfInBounds 1 (rawInt 1)) = hp1 at h1 out sz ⊢
  refine wpAny_bind (wpAny_newTuple ?_ (by rw [List.length_map, List.length_take, sizeLine_eq]; omega))
  refine wpAny_bind (wpAny_field (Heap.get?_push_of_some _ h1) rfl (x := old) rfl ?_)
  refine wpAny_bind (wpAny_setField (Heap.get?_push_of_some _ h1) rfl (by simp [permO]) ?_)
  refine wpAny_bind (wpAny_letGo (wpAny_pure ?_))
  rw [Int.toNat_natCast]
  dsimp only
  rw [sz]
  refine q _ (fun b o nb e => ?_) ?_ ?_
  · rw [Heap.get?_update_of_ne _ nb.symm]
    exact Heap.get?_push_of_some _ (out b o nb e)
  · rw [Heap.get?_update_self _ (Heap.get?_push_of_some _ h1) rfl, set_3]
  · rw [Heap.get?_update_of_ne _ (Nat.ne_of_lt (by rw [← sz]; exact Heap.lt_size h1))]
    exact (congrArg _ sz.symm).trans (Heap.get?_push_size _ rfl)
theorem nums_set {ph : Int} (ms : List Nat) : Obj.mapFields (fun fs => fs.extract 0 4 ++ (ms.map fun (n : Nat) => rawInt (n : Int)).toArray) (permO pool ph r old ns) = permO pool ph r old ms := by
  simp [Obj.mapFields, permO]
theorem stop_run {α : Type} {F : α → Shared → Prop} (hh : A.handled = none) (q : ∀ e h', (∃ a o, e = Value.ref a ∧ h'.get? a = some o ∧ o.cls = .type "StopIteration") → (∀ b o, s.heap.get? b = some o → h'.get? b = some o) → E e { s with heap := h' }) :
    wpAny (model prog w) A (Builtin.Itertools.itStop (α := α)) F E s := by
  unfold Builtin.Itertools.itStop
  refine wpAny_bind ?_
  unfold newExc
  refine wpAny_bind (wpAny_newTuple ?_)
  refine wpAny_bind (wpAny_of_eq rfl ?_)
  refine wpAny_newObj_type ?_
  refine wpAny_raiseNew_none hh (q _ _ ⟨_, _, rfl, Heap.get?_push_size _ rfl, rfl⟩ fun b o e => Heap.get?_push_of_some _ (Heap.get?_push_of_some _ e))
/-- what is known of the step from one arrangement to the next one -/
structure NextOk (np : NP) : Prop where
  more : ∀ {prog : Program} {w : World} {A : Around} {E : Value → Shared → Prop} {s : Shared} {it pool : Addr} {r : Nat} {old : Value} {items : List Value} {F : PySem.Fin → Shared → Prop} {ix cy jx dy : List Nat} {od : Option Addr} {n0 : Nat} {osl : Array (Option Value)}, s.heap.get? it = some (permO pool 1 r old (ix ++ cy)) → ix.length = items.length → jx.length ≤ 12 → dy.length ≤ 12 → np items.length r ix cy = some (jx, dy) →
    s.heap.get? pool = some ⟨.type "tuple", od, .seq items.toArray n0, osl⟩ →
    (∀ h', (∀ b o, b ≠ it → s.heap.get? b = some o → h'.get? b = some o) → h'.get? it = some (permO pool 1 r (.ref s.heap.objs.size) (jx ++ dy)) → h'.get? s.heap.objs.size = some { cls := .type "tuple", data := .seq ((jx.take r).map fun i => items.toArray.getD i Value.none).toArray } → F (Fin.done (Flow.ret (.ref s.heap.objs.size))) { s with heap := h' }) →
    wpAny (model prog w) A (Builtin.«itertools.permutations.__next__» ⟨[.ref it], []⟩) F E s
  done : ∀ {prog : Program} {w : World} {A : Around} {E : Value → Shared → Prop} {s : Shared} {it pool : Addr} {r : Nat} {old : Value} {items : List Value} {F : PySem.Fin → Shared → Prop} {ix cy : List Nat} {od : Option Addr} {n0 : Nat} {osl : Array (Option Value)}, A.handled = none → s.heap.get? it = some (permO pool 1 r old (ix ++ cy)) → ix.length = items.length → np items.length r ix cy = none →
    s.heap.get? pool = some ⟨.type "tuple", od, .seq items.toArray n0, osl⟩ →
    (∀ e h', (∃ a o, e = Value.ref a ∧ h'.get? a = some o ∧ o.cls = .type "StopIteration") → (∀ b o, b ≠ it → s.heap.get? b = some o → h'.get? b = some o) → E e { s with heap := h' }) →
    wpAny (model prog w) A (Builtin.«itertools.permutations.__next__» ⟨[.ref it], []⟩) F E s
theorem next_is : ∃ np : NP, NextOk np ∧ ∀ n, n ≤ 6 → ∀ r, r ≤ n → okNP np n r = true := by
  refine' ⟨_, ⟨?more, ?done⟩, ?ok⟩
  case more =>
    intro prog w A E s it pool r old items F ix cy jx dy od n0 osl hit hi hl hd hs hp q
    show wpAny _ _ (field (.ref it) 0 >>= _) _ _ _
    refine wpAny_bind (wpAny_field hit rfl (x := .ref pool) rfl ?_)
    refine wpAny_bind ?_
    unfold Builtin.Itertools.itPoolItems
    refine wpAny_bind ?_
    refine wpAny_seqItems hp rfl (wpAny_pure ?_)
    refine wpAny_bind (wpAny_bind (wpAny_field hit rfl (x := rawInt (r : Int)) rfl (wpAny_pure ?_)))
    refine wpAny_bind (wpAny_bind (wpAny_load hit (wpAny_pure ?_)))
    refine wpAny_bind (wpAny_bind (wpAny_field hit rfl (x := rawInt 1) rfl (wpAny_pure ?_)))
    erw [nums_of]
    split
    case h_1 h => exact absurd h (by decide)
    case h_3 _ h => exact absurd rfl h
    dsimp only
    rw [List.size_toArray, ← hi, List.take_left, List.drop_left, hi]
    split
    case h_2 h => cases h.symm.trans hs
    case h_1 jx' dy' h =>
      cases h.symm.trans hs
      refine wpAny_bind ?_
      unfold Builtin.Itertools.itSetNumbersFrom
      refine wpAny_updateFields hit rfl ?_ (by rw [sizeLine_eq]; simp; omega)
      have h1 := Heap.get?_update_self (Obj.mapFields fun fs => fs.extract 0 4 ++ ((jx ++ dy).map fun (n : Nat) => rawInt (n : Int)).toArray) hit rfl
      rw [nums_set] at h1
      have out : ∀ b o, b ≠ it → s.heap.get? b = some o → (s.heap.update it (Obj.mapFields fun fs => fs.extract 0 4 ++ ((jx ++ dy).map fun (n : Nat) => rawInt (n : Int)).toArray)).get? b = some o := fun b o nb e => by rw [Heap.get?_update_of_ne _ nb.symm]; exact e
      have sz : (s.heap.update it (Obj.mapFields fun fs => fs.extract 0 4 ++ ((jx ++ dy).map fun (n : Nat) => rawInt (n : Int)).toArray)).objs.size = s.heap.objs.size := Heap.size_update ..
      generalize s.heap.update it (Obj.mapFields fun fs => fs.extract 0 4 ++ ((jx ++ dy).map fun (n : Nat) => rawInt (n : Int)).toArray) = hp1 at h1 out sz ⊢
      refine wpAny_bind (wpAny_newTuple ?_ (by rw [List.length_map, List.length_take, sizeLine_eq]; omega))
      refine wpAny_bind (wpAny_field (Heap.get?_push_of_some _ h1) rfl (x := old) rfl ?_)
      refine wpAny_bind (wpAny_setField (Heap.get?_push_of_some _ h1) rfl (by simp [permO]) ?_)
      refine wpAny_bind (wpAny_letGo (wpAny_pure ?_))
      rw [Int.toNat_natCast]
      dsimp only
      rw [sz]
      refine q _ (fun b o nb e => ?_) ?_ ?_
      · rw [Heap.get?_update_of_ne _ nb.symm]
        exact Heap.get?_push_of_some _ (out b o nb e)
      · rw [Heap.get?_update_self _ (Heap.get?_push_of_some _ h1) rfl, set_3]
      · rw [Heap.get?_update_of_ne _ (Nat.ne_of_lt (by rw [← sz]; exact Heap.lt_size h1))]
        exact (congrArg _ sz.symm).trans (Heap.get?_push_size _ rfl)
  case done =>
    intro prog w A E s it pool r old items F ix cy od n0 osl hh hit hi hs hp q
    show wpAny _ _ (field (.ref it) 0 >>= _) _ _ _
    refine wpAny_bind (wpAny_field hit rfl (x := .ref pool) rfl ?_)
    refine wpAny_bind ?_
    unfold Builtin.Itertools.itPoolItems
    refine wpAny_bind ?_
    refine wpAny_seqItems hp rfl (wpAny_pure ?_)
    refine wpAny_bind (wpAny_bind (wpAny_field hit rfl (x := rawInt (r : Int)) rfl (wpAny_pure ?_)))
    refine wpAny_bind (wpAny_bind (wpAny_load hit (wpAny_pure ?_)))
    refine wpAny_bind (wpAny_bind (wpAny_field hit rfl (x := rawInt 1) rfl (wpAny_pure ?_)))
    erw [nums_of]
    split
    case h_1 h => exact absurd h (by decide)
    case h_3 _ h => exact absurd rfl h
    dsimp only
    rw [List.size_toArray, ← hi, List.take_left, List.drop_left, hi]
    split
    case h_1 jx dy h => cases h.symm.trans hs
    case h_2 h =>
      refine wpAny_bind (wpAny_setField hit rfl (by simp [permO]) ?_)
      refine stop_run hh fun e h' he k => q e h' he fun b o nb eb => k b o ?_
      rw [Heap.get?_update_of_ne _ nb.symm]
      exact eb
  case ok => decide +kernel
/-- pyNext: an item -/
theorem py_item {Q : Option Value → Shared → Prop} {ph : Int} {jx dy : List Nat} (hit : s.heap.get? it = some (permO pool ph r old ns))
    (h : ∀ F : PySem.Fin → Shared → Prop, ∀ E', (∀ h', (∀ b o, b ≠ it → s.heap.get? b = some o → h'.get? b = some o) → h'.get? it = some (permO pool 1 r (.ref s.heap.objs.size) (jx ++ dy)) → h'.get? s.heap.objs.size = some { cls := .type "tuple", data := .seq ((jx.take r).map fun i => items.toArray.getD i Value.none).toArray } → F (Fin.done (Flow.ret (.ref s.heap.objs.size))) { s with heap := h' }) → wpAny (model prog w) A.in1 (Builtin.«itertools.permutations.__next__» ⟨[.ref it], []⟩) F E' s)
    (q : ∀ h', (∀ b o, b ≠ it → s.heap.get? b = some o → h'.get? b = some o) → h'.get? it = some (permO pool 1 r (.ref s.heap.objs.size) (jx ++ dy)) → h'.get? s.heap.objs.size = some { cls := .type "tuple", data := .seq ((jx.take r).map fun i => items.toArray.getD i Value.none).toArray } → Q (some (.ref s.heap.objs.size)) { s with heap := h' }) :
    wpAny (model prog w) A (pyNext (.ref it)) Q E s := by
  unfold pyNext
  refine wpAny_bind (wpAny_attempt (next_one hit (h _ _ fun h' k1 k2 k3 => ⟨_, rfl, ?_⟩)))
  exact wpAny_pure (q h' k1 k2 k3)
theorem py_done {np : NP} (ok : NextOk np) {Q : Option Value → Shared → Prop} {ix cy : List Nat} (hh : A.handled = none) (hit : s.heap.get? it = some (permO pool 1 r old (ix ++ cy))) (hi : ix.length = items.length) (hs : np items.length r ix cy = none) {od : Option Addr} {n0 : Nat} {osl : Array (Option Value)} (hp : s.heap.get? pool = some ⟨.type "tuple", od, .seq items.toArray n0, osl⟩)
    (q : ∀ h', (∀ b o, b ≠ it → s.heap.get? b = some o → h'.get? b = some o) → Q none { s with heap := h' }) : wpAny (model prog w) A (pyNext (.ref it)) Q E s := by
  unfold pyNext
  refine wpAny_bind (wpAny_attempt (next_one hit (ok.done (by simpa using hh) hit hi hs hp fun e h' he k => ?_)))
  obtain ⟨a, o, rfl, ho, hc⟩ := he
  exact wpAny_bind (wpAny_isInstance (T := "StopIteration") (b := true) ⟨o, ho, hc⟩ isSubtype_stop (wpAny_pure (q h' k)))
theorem py_iter {ph : Int} {Q : Value → Shared → Prop} (hit : s.heap.get? it = some (permO pool ph r old ns)) (h : Q (.ref it) s) : wpAny (model prog w) A (pyIter (.ref it)) Q E s := by
  have hT : s.TypeIs (.ref it) "itertools.permutations" := ⟨_, hit, rfl⟩
  exact wpAny_pyIter_slot hT slot_perm_iter (wpAny_call_entry slot_perm_iter hT entry_perm_iter (wpAny_pure ⟨.ref it, rfl, "itertools.permutations", .builtin "itertools.permutations.__next__", hT, slot_perm_next.lookup, h⟩) (args_perm_iter _))
end
end CpPerm
namespace CpPerm
open PySem PySem.Spec
section
variable {prog : Program} {w : World} {A : Around} {E : Value → Shared → Prop} {s : Shared}
theorem collect_str {Q : List Value → Shared → Prop} (hh : A.handled = none) (x : Str) (t : Tok) (small : x.cps.size ≤ 100)
    (q : ∀ (h' : Heap) (tk : Nat) (acc : Array Value), s.heap.objs.size < h'.objs.size → (∀ b o, s.heap.get? b = some o → h'.get? b = some o) → ItemsOf (SignAt x) acc x.cps.size → Q acc.toList { s with heap := h', toks := tk }) :
    wpAny (model prog w) A (collect (.str x t)) Q E s := by
  have key : ∀ Q0 : Value → Shared → Prop, (∀ (h' : Heap) (tk : Nat) (acc : Array Value) (c' : Nat), (∀ b o, s.heap.get? b = some o → h'.get? b = some o) → h'.get? s.heap.objs.size = some { cls := .type "list", data := .seq acc c' } → ItemsOf (SignAt x) acc x.cps.size → Q0 (.ref s.heap.objs.size) { s with heap := h', toks := tk }) →
      wpAny (model prog w) A (runValue (Code.builtin "proto.collect" { pos := [.str x t] })) Q0 E s := fun Q0 q0 => by
    refine wpAny_runValue (codeAny_builtin F.entry_proto_collect ?_)
    rw [Around.under_plainId F.plain_proto_collect { pos := [.str x t] }]
    show wpAny _ _ (newList [] >>= _) _ _ _
    refine wpAny_bind (wpAny_newList ?_)
    refine wpAny_pure ⟨plainId_quiet F.plain_list_iadd _, codeAny_builtin F.entry_list_iadd ?_⟩
    rw [Around.under_plainId F.plain_list_iadd]
    show wpAny _ _ (Builtin.List.listExtendWith (.ref s.heap.objs.size) (.str x t) (.ref s.heap.objs.size)) _ _ _
    refine wpAny_extend_str (R := fun r s' => match r with | .ok (.ret v) => Q0 v s' | .ok _ => False | .error e => E e s') (s := { s with heap := s.heap.push { cls := .type "list", data := .seq #[] } }) hh x t s.heap.objs.size _ 0 (Heap.get?_push_size _ rfl) (fun h' tk acc c' k1 k2 k3 => ?_) (by rw [sizeLine_eq]; omega)
    exact q0 h' tk acc c' (fun b o e => k1 b o (Nat.ne_of_lt (Heap.lt_size e)) (Heap.get?_push_of_some _ e)) k2 k3
  unfold collect
  exact wpAny_bind (key _ fun h' tk acc c' k1 k2 k3 => wpAny_bind (wpAny_load k2 (wpAny_pure (q h' tk acc (Heap.lt_size k2) k1 k3))))
theorem perm_new {F : PySem.Fin → Shared → Prop} (hh : A.handled = none) (x : Str) (t : Tok) (small : x.cps.size ≤ 6) (r : Nat) (t2 : Tok) (hr : r ≤ x.cps.size)
    (q : ∀ (h' : Heap) (tk : Nat) (items : List Value) (it pool : Addr), (∀ b o, s.heap.get? b = some o → h'.get? b = some o) → (∀ j v, items[j]? = some v → SignAt x j v) → items.length = x.cps.size → s.heap.objs.size ≤ it → s.heap.objs.size ≤ pool → it ≠ pool →
      h'.get? it = some (permO pool 0 r Value.none (List.range x.cps.size ++ (List.range r).map fun i => x.cps.size - i)) → (∃ od n0 osl, h'.get? pool = some ⟨.type "tuple", od, .seq items.toArray n0, osl⟩) → F (Fin.done (Flow.ret (.ref it))) { s with heap := h', toks := tk }) :
    wpAny (model prog w) A (Builtin.«itertools.permutations.__new__» ⟨[.type "itertools.permutations", .str x t, .int (r : Int) t2], []⟩) F E s := by
  have below := sub_perm
  unfold Builtin.«itertools.permutations.__new__»
  refine wpAny_bind ?_
  unfold Builtin.Itertools.itClassAndRest
  wp_walk
  refine wpAny_of_eq (show isSubtype (Value.type "itertools.permutations") (Value.type ("itertools." ++ "permutations")) = pure true by rw [show ("itertools." ++ "permutations" : String) = "itertools.permutations" by decide]; exact sub_perm) ?_
  refine wpAny_pure ?_
  refine wpAny_bind ?_
  unfold Builtin.Itertools.itBindNamed
  generalize hcf : collect = cf
  wp_walk
  subst hcf
  refine collect_str hh x t (by omega) fun h' tk acc k0 k1 k2 => ?_
  have hn : acc.toList.length = x.cps.size := by rw [Array.length_toList]; exact k2.1
  have c1 : (decide ((r : Int) < -2 ^ 63) || decide ((r : Int) ≥ 2 ^ 63)) = false := by
    rw [Bool.or_eq_false_iff]
    exact ⟨decide_eq_false (by omega), decide_eq_false (by omega)⟩
  have c2 : ¬ (r : Int) < 0 := by omega
  have c3 : Builtin.Itertools.itTooMany (r : Int) = false := decide_eq_false (by omega)
  refine wpAny_bind (wpAny_holding ?_)
  wp_walk
  rw [if_neg (by rw [c1]; exact Bool.false_ne_true)]
  refine wpAny_pure ?_
  dsimp only
  rw [if_neg c2, if_neg (by rw [c3]; exact Bool.false_ne_true)]
  refine wpAny_bind (wpAny_newTuple ?_ (by rw [hn, sizeLine_eq]; omega))
  have c4 : ¬ (r : Int).toNat > acc.toList.length := by rw [hn]; omega
  rw [if_neg c4, Int.toNat_natCast, hn]
  unfold Builtin.Itertools.itNewRecord
  rw [noDict_perm]
  refine wpAny_bind ?_
  rw [if_pos (show (!false) = true from rfl)]
  refine wpAny_newObj_type (wpAny_pure ?_) ?_
  · have ef : (([Value.ref h'.objs.size, rawInt 0, rawInt (r : Int), Value.none] ++ (List.range x.cps.size).map (fun (i : Nat) => rawInt (i : Int)) ++ (List.range r).map fun (i : Nat) => rawInt ((x.cps.size : Int) - (i : Int)))) = [Value.ref h'.objs.size, rawInt 0, rawInt (r : Int), Value.none] ++ (List.range x.cps.size ++ (List.range r).map fun i => x.cps.size - i).map fun (n : Nat) => rawInt (n : Int) := by
      rw [List.map_append, List.map_map, List.append_assoc]
      congr 2
      refine List.map_congr_left fun i hi => ?_
      have := List.mem_range.mp hi
      have e : (x.cps.size : Int) - (i : Int) = ((x.cps.size - i : Nat) : Int) := by omega
      exact congrArg rawInt e
    dsimp only
    rw [ef]
    have z := Heap.size_push (h := h') (o := { cls := .type "tuple", data := .seq acc.toList.toArray })
    have kk : ∀ b o, s.heap.get? b = some o → ((h'.push { cls := .type "tuple", data := .seq acc.toList.toArray }).push (permO h'.objs.size 0 r Value.none (List.range x.cps.size ++ (List.range r).map fun i => x.cps.size - i))).get? b = some o := fun b o e => Heap.get?_push_of_some _ (Heap.get?_push_of_some _ (k1 b o e))
    have le : s.heap.objs.size ≤ h'.objs.size := Nat.le_of_lt k0
    refine q _ tk acc.toList _ h'.objs.size kk (fun j v hv => k2.2 j v (by rw [← Array.getElem?_toList]; exact hv)) hn ?_ le ?_ (Heap.get?_push_size _ rfl) ⟨_, _, _, Heap.get?_push_of_some _ (Heap.get?_push_size _ rfl)⟩
    · exact Nat.le_trans (Nat.le_trans le (Nat.le_succ _)) (Nat.le_of_eq z.symm)
    · exact Nat.ne_of_gt (Nat.lt_of_lt_of_le (Nat.lt_succ_self _) (Nat.le_of_eq z.symm))
  · unfold sizeOk
    dsimp only
    rw [List.size_toArray]
    simp only [List.length_append, List.length_map, List.length_range, List.length_cons, List.length_nil, sizeLine_eq]
    omega
end
end CpPerm
end

section
set_option maxRecDepth 100000
set_option maxHeartbeats 4000000
/-! `for x in permutations(text, r)` -/
namespace CpPerm
open PySem PySem.Spec
theorem seq_next {np : NP} {n r : Nat} : ∀ (k : Nat) (a : List Nat × List Nat) (j : Nat) (s : List Nat × List Nat), (seqOf np n r k a)[j]? = some s →
    (∀ t, (seqOf np n r k a)[j + 1]? = some t → np n r s.1 s.2 = some t) ∧ ((seqOf np n r k a)[j + 1]? = none → (seqOf np n r k a).length < k → np n r s.1 s.2 = none)
  | 0, a, j, s, h => by simp [seqOf] at h
  | k + 1, a, j, s, h => by
    unfold seqOf at h ⊢
    cases e : np n r a.1 a.2 with
    | none =>
      rw [e] at h
      dsimp only at h ⊢
      cases j with
      | zero =>
        simp at h
        subst h
        exact ⟨fun t ht => by simp at ht, fun _ _ => e⟩
      | succ j => simp at h
    | some b =>
      rw [e] at h
      dsimp only at h ⊢
      cases j with
      | zero =>
        simp at h
        subst h
        cases k with
        | zero => exact ⟨fun t ht => by simp [seqOf] at ht, fun _ lt => by simp [seqOf] at lt⟩
        | succ k =>
          refine ⟨fun t ht => ?_, fun no => ?_⟩
          · unfold seqOf at ht
            simp at ht
            rw [e, ht]
          · unfold seqOf at no
            simp at no
      | succ j =>
        rw [List.getElem?_cons_succ] at h
        obtain ⟨h1, h2⟩ := seq_next k b j s h
        refine ⟨fun t ht => h1 t ?_, fun no lt => h2 ?_ ?_⟩
        · rw [List.getElem?_cons_succ] at ht
          exact ht
        · rw [List.getElem?_cons_succ] at no
          exact no
        · simp only [List.length_cons] at lt
          omega
theorem mem_picks {p : Nat × List Nat} : ∀ {l : List Nat}, p ∈ picks l → p.1 ∈ l ∧ ∀ b, b ∈ p.2 → b ∈ l
  | [], h => by simp [picks] at h
  | a :: l, h => by
    unfold picks at h
    rcases List.mem_cons.mp h with z | z
    · subst z
      exact ⟨List.mem_cons_self, fun b hb => List.mem_cons_of_mem _ hb⟩
    · obtain ⟨q, hq, rfl⟩ := List.mem_map.mp z
      obtain ⟨h1, h2⟩ := mem_picks hq
      refine ⟨List.mem_cons_of_mem _ h1, fun b hb => ?_⟩
      rcases List.mem_cons.mp hb with z | z
      · rw [z]
        exact List.mem_cons_self
      · exact List.mem_cons_of_mem _ (h2 b z)
theorem mem_pm : ∀ {r : Nat} {l m : List Nat}, m ∈ pm r l → m.length = r ∧ ∀ b, b ∈ m → b ∈ l
  | 0, l, m, h => by
    have : m = [] := by simpa [pm] using h
    subst this
    exact ⟨rfl, fun b hb => by simp at hb⟩
  | r + 1, l, m, h => by
    unfold pm at h
    obtain ⟨p, hp, hm⟩ := List.mem_flatMap.mp h
    obtain ⟨m', h', rfl⟩ := List.mem_map.mp hm
    obtain ⟨h1, h2⟩ := mem_picks hp
    obtain ⟨l1, l2⟩ := mem_pm h'
    refine ⟨by rw [List.length_cons, l1], fun b hb => ?_⟩
    rcases List.mem_cons.mp hb with z | z
    · rw [z]
      exact h1
    · exact h2 b (l2 b z)
structure NPok (np : NP) (n r : Nat) : Prop where
  eq : (seqOf np n r 800 (s0 n r)).map (fun s => s.1.take r) = pm r (List.range n)
  len : ∀ s, s ∈ seqOf np n r 800 (s0 n r) → s.1.length = n
  cyc : ∀ s, s ∈ seqOf np n r 800 (s0 n r) → s.2.length ≤ 12
  few : (seqOf np n r 800 (s0 n r)).length < 800
theorem npok {np : NP} {n r : Nat} (h : okNP np n r = true) : NPok np n r := by
  unfold okNP at h
  rw [Bool.and_eq_true, Bool.and_eq_true] at h
  exact ⟨of_decide_eq_true h.1.1, fun s hs => (of_decide_eq_true (List.all_eq_true.mp h.1.2 s hs)).1, fun s hs => (of_decide_eq_true (List.all_eq_true.mp h.1.2 s hs)).2, of_decide_eq_true h.2⟩
end CpPerm
namespace L2.Cal
open PySem PySem.Spec PyProof.Rows L2 CpPerm
/-- the letters of a text at these places, each a text -/
def ltrs (x : Str) (l : List Nat) : List V := l.map fun i => V.str ⟨#[x.cps.getD i 0]⟩
def ItPm (x : Str) (r : Nat) : It :=
  ⟨fun i _ => i < (pm r (List.range x.cps.size)).length, fun i H v H' => ∃ T l, v = .ref T ∧ H T = none ∧ (pm r (List.range x.cps.size))[i]? = some l ∧ H' = upd H T (.tup (ltrs x l)), fun i _ => (pm r (List.range x.cps.size)).length ≤ i⟩
def PoolAt (h : Heap) (pool : Addr) (x : Str) (items : List Value) : Prop := (∃ od n0 osl, h.get? pool = some ⟨.type "tuple", od, .seq items.toArray n0, osl⟩) ∧ items.length = x.cps.size ∧ ∀ j v, items[j]? = some v → SignAt x j v
def permAt (np : NP) (x : Str) (r : Nat) (e pool : Addr) : Nat → Heap → Prop
  | 0, h => h.get? e = some (permO pool 0 r .none ((s0 x.cps.size r).1 ++ (s0 x.cps.size r).2))
  | j + 1, h => ∃ s old, (seqOf np x.cps.size r 800 (s0 x.cps.size r))[j]? = some s ∧ h.get? e = some (permO pool 1 r old (s.1 ++ s.2))
def tnP (np : NP) (x : Str) (r : Nat) (e pool : Addr) (i : Nat) (h : Heap) : Prop := e ≠ pool ∧ (∃ items, PoolAt h pool x items) ∧ permAt np x r e pool i h
theorem permAt.obj {np : NP} {x : Str} {r : Nat} {e pool : Addr} {i : Nat} {h : Heap} (p : permAt np x r e pool i h) : ∃ ph old ns, h.get? e = some (permO pool ph r old ns) := by
  cases i with
  | zero => exact ⟨_, _, _, p⟩
  | succ j =>
    obtain ⟨s, old, _, g⟩ := p
    exact ⟨_, _, _, g⟩
theorem vals_ltrs {x : Str} {items : List Value} (hn : items.length = x.cps.size) (hs : ∀ j v, items[j]? = some v → SignAt x j v) : ∀ {l : List Nat}, (∀ b, b ∈ l → b < x.cps.size) → Vals (ltrs x l) (l.map fun i => items.toArray.getD i Value.none)
  | [], _ => .nil
  | a :: l, h => by
    refine .cons ?_ (vals_ltrs hn hs fun b hb => h b (List.mem_cons_of_mem _ hb))
    have lt : a < x.cps.size := h a List.mem_cons_self
    have lt2 : a < items.length := by omega
    obtain ⟨c, u, hc, hv⟩ := hs a _ (List.getElem?_eq_getElem lt2)
    have e1 : items.toArray.getD a Value.none = items[a] := by
      rw [Array.getD_eq_getD_getElem?, List.getElem?_toArray, List.getElem?_eq_getElem lt2] <;> rfl
    have e2 : x.cps.getD a 0 = c := by
      rw [Array.getD_eq_getD_getElem?, hc] <;> rfl
    dsimp only
    rw [e1, hv, e2]
    exact ⟨_, rfl⟩
theorem turn_permX {P : Program} {w : World} {K : PySem.W.Frag} {nm : Str} {tpos : Pos} {np : NP} (hnp : NextOk np) {x : Str} {r : Nat} (small : x.cps.size ≤ 6) (hr : r ≤ x.cps.size) (ok : NPok np x.cps.size r) (e pool : Addr) :
    Turn P w K (.Name nm tpos) (ItPm x r) [e, pool] e (tnP np x r e pool) where
  mem := by simp
  obj := fun i h st b hb => by
    obtain ⟨ne, ⟨items, ⟨od, n0, osl, hp⟩, _⟩, pa⟩ := st
    obtain ⟨ph, old, ns, g⟩ := pa.obj
    rcases List.mem_cons.mp hb with z | z
    · rw [z]
      exact ⟨_, g, fun v q => nomatch q⟩
    · rw [List.mem_singleton.mp z]
      exact ⟨_, hp, fun v q => nomatch q⟩
  keep := fun i h h' st k => by
    obtain ⟨ne, ⟨items, ⟨od, n0, osl, hp⟩, h2⟩, pa⟩ := st
    refine ⟨ne, ⟨items, ⟨od, n0, osl, k pool (by simp) _ hp⟩, h2⟩, ?_⟩
    cases i with
    | zero => exact k e (by simp) _ pa
    | succ j =>
      obtain ⟨s, old, h3, g⟩ := pa
      exact ⟨s, old, h3, k e (by simp) _ g⟩
  item := by
    intro X hP hw hK hc i pins s σ H E I hf st hg
    subst hP hw hK
    obtain ⟨ne, ⟨items, ⟨od, n0, osl, hp⟩, hn, hs⟩, pa⟩ := st
    have leS : (seqOf np x.cps.size r 800 (s0 x.cps.size r)).length = (pm r (List.range x.cps.size)).length := by rw [← ok.eq, List.length_map]
    have hgl : i < (pm r (List.range x.cps.size)).length := hg
    obtain ⟨t, ht⟩ : ∃ t, (seqOf np x.cps.size r 800 (s0 x.cps.size r))[i]? = some t := ⟨_, List.getElem?_eq_getElem (by omega)⟩
    have tm := List.mem_of_getElem? ht
    have tl := ok.len t tm
    have tp : (pm r (List.range x.cps.size))[i]? = some (t.1.take r) := by rw [← ok.eq, List.getElem?_map, ht] <;> rfl
    obtain ⟨ml, mb⟩ := mem_pm (List.mem_of_getElem? tp)
    have mb' : ∀ b, b ∈ t.1.take r → b < x.cps.size := fun b hb => List.mem_range.mp (mb b hb)
    obtain ⟨ph, old, ns, hit⟩ := pa.obj
    have lt1 : e < s.heap.objs.size := Heap.lt_size hit
    have lt2 : pool < s.heap.objs.size := Heap.lt_size hp
    have post : ∀ h' : Heap, (∀ b o, b ≠ e → s.heap.get? b = some o → h'.get? b = some o) → h'.get? e = some (permO pool 1 r (.ref s.heap.objs.size) (t.1 ++ t.2)) → h'.get? s.heap.objs.size = some { cls := .type "tuple", data := .seq ((t.1.take r).map fun i => items.toArray.getD i Value.none).toArray } →
        ∃ u, some (Value.ref s.heap.objs.size) = some u ∧ wpAny (model X.prog X.w) X.A (letOwnedTupleGo (.Name nm tpos) (Value.ref e) u) (fun x1 s2 => ∃ v H', L2.Inv X pins σ H' s2 ∧ L2.RelV v u ∧ (ItPm x r).yld i H v H' ∧ tnP np x r e pool (i + 1) s2.heap ∧ ∀ (b : Addr), b ∈ [e, pool] → H' b = none) E { s with heap := h' } := by
      intro h' k1 k2 k3
      refine ⟨_, rfl, wpAny_pure ?_⟩
      have new : ObjOk X.prog X.w (upd H s.heap.objs.size (.tup (ltrs x (t.1.take r)))) h' s.heap.objs.size (.tup (ltrs x (t.1.take r))) := by
        refine ⟨?_, _, vals_ltrs hn hs mb', ⟨_, k3, rfl, _, rfl⟩⟩
        unfold ltrs
        rw [List.length_map, ml, sizeLine_eq]
        omega
      have J : Inv X pins σ (upd H s.heap.objs.size (.tup (ltrs x (t.1.take r)))) { s with heap := h', toks := s.toks } :=
        I.turnedNew (ch := [e]) (fun b ob hb q => k1 b ob (by simpa using hb) q) (fun b hb => hf b (by rw [List.mem_singleton.mp hb]; simp)) (Nat.le_refl _) new
      refine ⟨.ref s.heap.objs.size, _, J, rfl, ⟨_, _, rfl, I.hok.fresh (Nat.le_refl _), tp, rfl⟩, ⟨ne, ⟨items, ⟨od, n0, osl, k1 pool _ (Ne.symm ne) hp⟩, hn, hs⟩, t, _, ht, k2⟩, fun b hb => ?_⟩
      have lt : b < s.heap.objs.size := by
        rcases List.mem_cons.mp hb with z | z
        · rw [z]; exact lt1
        · rw [List.mem_singleton.mp z]; exact lt2
      rw [upd_ne (Nat.ne_of_lt lt)]
      exact (hf b hb).1
    cases i with
    | zero =>
      have e0 : t = s0 x.cps.size r := by
        have : (seqOf np x.cps.size r 800 (s0 x.cps.size r))[0]? = some (s0 x.cps.size r) := by
          rw [show (800 : Nat) = 799 + 1 from rfl]
          unfold seqOf
          rfl
        rw [this] at ht
        exact (Option.some.inj ht).symm
      subst e0
      have pa : s.heap.get? e = some (permO pool 0 r .none ((s0 x.cps.size r).1 ++ (s0 x.cps.size r).2)) := pa
      refine py_item (items := items) (jx := (s0 x.cps.size r).1) (dy := (s0 x.cps.size r).2) pa (fun F E' k => next_first pa ?_ hp fun h' k1 k2 k3 => ?_) post
      · simp [s0]
        omega
      · rw [List.take_append_of_le_length (by rw [tl]; exact hr)] at k3
        exact k h' k1 k2 k3
    | succ j =>
      obtain ⟨s1, old1, hs1, pa⟩ := pa
      have hnx := (seq_next 800 _ j s1 hs1).1 t ht
      have l1 := ok.len s1 (List.mem_of_getElem? hs1)
      refine py_item (items := items) (jx := t.1) (dy := t.2) pa (fun F E' k => ?_) post
      refine hnp.more (items := items) (jx := t.1) (dy := t.2) pa (by omega) (by omega) (ok.cyc t tm) (by rw [hn]; exact hnx) hp fun h' k1 k2 k3 => ?_
      exact k h' k1 k2 k3
  done := by
    intro X hP hw hK hc i pins s σ H E I hf st hg
    subst hP hw hK
    obtain ⟨ne, ⟨items, ⟨od, n0, osl, hp⟩, hn, hs⟩, pa⟩ := st
    have leS : (seqOf np x.cps.size r 800 (s0 x.cps.size r)).length = (pm r (List.range x.cps.size)).length := by rw [← ok.eq, List.length_map]
    have hgl : (pm r (List.range x.cps.size)).length ≤ i := hg
    obtain ⟨f0, f1, f2, f3, f4, f5⟩ := hf e (by simp)
    cases i with
    | zero =>
      have : (seqOf np x.cps.size r 800 (s0 x.cps.size r)).length = 0 := by omega
      rw [show (800 : Nat) = 799 + 1 from rfl] at this
      unfold seqOf at this
      simp at this
    | succ j =>
      obtain ⟨s1, old1, hs1, pa⟩ := pa
      have hnx := (seq_next 800 _ j s1 hs1).2 (List.getElem?_eq_none (by omega)) ok.few
      have l1 := ok.len s1 (List.mem_of_getElem? hs1)
      refine py_done (items := items) hnp (I.ok.hd hc) pa (by omega) (by rw [hn]; exact hnx) hp fun h' k => ?_
      exact ⟨rfl, I.turned (t' := s.toks) (fun b o hb q => k b o hb q) f0 f1 f3 f4 f5⟩
  self := fun A i s Q E st h => by
    obtain ⟨ne, _, pa⟩ := st
    obtain ⟨ph, old, ns, g⟩ := pa.obj
    exact py_iter g h
def iPm (ta : TA) : TI := fun σ H R => ta σ H fun vs H1 => ∃ (x : Str) (r : Nat), vs = [.str x, .int (r : Nat)] ∧ x.cps.size ≤ 6 ∧ r ≤ x.cps.size ∧ R (ItPm x r) H1
def permSpec (x : Str) (r : Nat) : PySem.Spec := fun A R s => A.handled = none ∧ ∀ (h' : Heap) (tk : Nat) (items : List Value) (it pool : Addr), (∀ b o, s.heap.get? b = some o → h'.get? b = some o) → (∀ j v, items[j]? = some v → SignAt x j v) → items.length = x.cps.size → s.heap.objs.size ≤ it → s.heap.objs.size ≤ pool → it ≠ pool →
      h'.get? it = some (permO pool 0 r Value.none (List.range x.cps.size ++ (List.range r).map fun i => x.cps.size - i)) → (∃ od n0 osl, h'.get? pool = some ⟨.type "tuple", od, .seq items.toArray n0, osl⟩) → R (.ok (.ret (.ref it))) { s with heap := h', toks := tk }
theorem perm_meets (x : Str) (t : Tok) (small : x.cps.size ≤ 6) (r : Nat) (t2 : Tok) (hr : r ≤ x.cps.size) : Meets (Builtin.«itertools.permutations.__new__» ⟨[.type "itertools.permutations", .str x t, .int (r : Int) t2], []⟩) (permSpec x r) :=
  .of_wp fun prog w A R s h => by
    obtain ⟨hh, q⟩ := h
    exact perm_new (by simpa using hh) x t small r t2 hr fun h' tk items it pool k1 k2 k3 k4 k5 k6 k7 k8 => ⟨_, rfl, q h' tk items it pool k1 k2 k3 k4 k5 k6 k7 k8⟩
theorem perm_one {prog : Program} {w : World} {A : Around} {E : Value → Shared → Prop} {s : Shared} {Q : Value → Shared → Prop} (x : Str) (t1 : Tok) (small : x.cps.size ≤ 6) (r : Nat) (t2 : Tok) (hr : r ≤ x.cps.size)
    (h : permSpec x r A.in1 (wants (fun obj s₁ => s₁.TypeIs obj "itertools.permutations" ∧ Q obj s₁) E) s) : wpAny (model prog w) A (call (.type "itertools.permutations") [.str x t1, .int (r : Int) t2]) Q E s :=
  callType_new called_perm (by decide) (typeCall_perm_2 _ _) (newCall_perm_2 _ _) (fun obj => PySem.F.args_object_init_3 obj _ _) entry_perm_new (perm_meets x t1 small r t2 hr) h
theorem perm_it {prog : Program} {w : World} {A : Around} {E : Value → Shared → Prop} {s : Shared} {Q : Value → Shared → Prop} (hh : A.handled = none) (x : Str) (t1 : Tok) (small : x.cps.size ≤ 6) (r : Nat) (t2 : Tok) (hr : r ≤ x.cps.size)
    (q : ∀ (h' : Heap) (tk : Nat) (items : List Value) (it pool : Addr), (∀ b o, s.heap.get? b = some o → h'.get? b = some o) → (∀ j v, items[j]? = some v → SignAt x j v) → items.length = x.cps.size → s.heap.objs.size ≤ it → s.heap.objs.size ≤ pool → it ≠ pool →
      h'.get? it = some (permO pool 0 r Value.none (List.range x.cps.size ++ (List.range r).map fun i => x.cps.size - i)) → (∃ od n0 osl, h'.get? pool = some ⟨.type "tuple", od, .seq items.toArray n0, osl⟩) → Q (.ref it) { s with heap := h', toks := tk }) :
    wpAny (model prog w) A (call (.type "itertools.permutations") [.str x t1, .int (r : Int) t2]) (fun v s1 => wpAny (model prog w) A (pyIter v) Q E s1) E s := by
  refine perm_one x t1 small r t2 hr ?_
  unfold permSpec
  refine ⟨by simpa using hh, fun h' tk items it pool k1 k2 k3 k4 k5 k6 k7 k8 => ?_⟩
  show _ ∧ _
  exact ⟨⟨_, k7, rfl⟩, py_iter k7 (q h' tk items it pool k1 k2 k3 k4 k5 k6 k7 k8)⟩
end L2.Cal
end

section
set_option maxRecDepth 100000
set_option maxHeartbeats 4000000
namespace L2.Cal
open PySem PySem.Spec PyProof.Rows L2 CpPerm
theorem pi_perm {X : Cx} {e1 e2 : Expr} {nm : Str} {ta : TA} {p pos tpos : Pos} (hg : Gl X "permutations") (hm : X.mg "permutations" = some (.type "itertools.permutations")) (hc : X.calm = true) (ha : PA X [e1, e2] ta) (hs : starEach [e1, e2] X.env = (false, eval e1 X.env) :: starEach [e2] X.env := by rfl) (hs2 : ((backTo pos (starEach [e2] X.env)).any fun x => x.fst) = false := by rfl) :
    PI X (.Name nm tpos) (.Call (.Name "permutations" p) [e1, e2] [] pos) (iPm ta) := by
  refine ⟨fun pins s σ H R I h => Call_ (ld_glob I hg hm (PyProof.Rows.callWith_type1 (thn (ha.run pos pins s σ H _ I h) fun us s1 ⟨vs, H1, I1, r1, q1⟩ => ?_) hs hs2))⟩
  obtain ⟨x, r, e, small, hr, q⟩ := q1
  subst e
  cases r1 with
  | cons c1 r1 =>
  cases r1 with
  | cons c2 r1 =>
  cases r1 with
  | nil =>
    obtain ⟨t1, rfl⟩ := c1
    obtain ⟨t2, rfl⟩ := c2
    obtain ⟨np, hnp, hok⟩ := next_is
    have ok := npok (hok x.cps.size small r hr)
    refine perm_it (I1.ok.hd hc) x t1 small r t2 hr fun h' tk items it pool k1 k2 k3 k4 k5 k6 k7 k8 => ?_
    have I2 : Inv X pins σ H1 { s1 with heap := h', toks := tk } := I1.kept k1
    refine ⟨it, [it, pool], _, _, H1, rfl, I2, turn_permX hnp small hr ok it pool, ⟨k6, ⟨items, k8, k3, k2⟩, k7⟩, fun b hb => ?_, q⟩
    have le : s1.heap.objs.size ≤ b := by
      rcases List.mem_cons.mp hb with z | z
      · rw [z]; exact k4
      · rw [List.mem_singleton.mp z]; exact k5
    exact I1.fpOk le (I1.hok.fresh le)
theorem walk_perm {x : Str} {r : Nat} : Walk (ItPm x r) (pm r (List.range x.cps.size)).length (fun _ => True) (fun i H v H' => ∃ T l, v = .ref T ∧ H T = none ∧ (pm r (List.range x.cps.size))[i]? = some l ∧ H' = upd H T (.tup (ltrs x l))) :=
  ⟨fun i H hi _ => hi, fun H _ => Nat.le_refl _, fun i H v H' hi _ h => h⟩
end L2.Cal
end

section
set_option maxRecDepth 100000
set_option maxHeartbeats 4000000
set_option synthInstance.maxHeartbeats 400000
namespace L2.Cal
open PySem PySem.Spec PyProof.Rows L2 CpPerm
abbrev sRnd : Stmt := topS 42
theorem scRnd : FnScope ["things", "beaten", "many", "each", "at"] ["things", "beaten"] (defScope sRnd) := ⟨rfl, rfl, rfl, by decide +kernel, rfl, by decide +kernel, by decide +kernel⟩
/-- the letter of a text at a place -/
def ltr (z : Str) (i : Nat) : Nat := z.cps.getD i 0
/-- the place ahead of one, the last one ahead of the first one -/
def ahd (l : List Nat) : Nat → Nat
  | 0 => l.getD (l.length - 1) 0
  | k + 1 => l.getD k 0
def rgB (z : Str) (bt : Nat → Nat → Bool) (l : List Nat) (k : Nat) : Bool := bt (ltr z (ahd l k)) (ltr z (l.getD k 0))
def rgAll (z : Str) (bt : Nat → Nat → Bool) (l : List Nat) (m : Nat) : Bool := (List.range m).all (rgB z bt l)
def tryR (z : Str) (bt : Nat → Nat → Bool) (m : Nat) : Option (List Nat) := (pm m (List.range z.cps.size)).find? fun l => rgAll z bt l m
def rndR (z : Str) (bt : Nat → Nat → Bool) : Option (List Nat) := (List.range (z.cps.size - 2)).findSome? fun i => tryR z bt (3 + i)
def wordOf (z : Str) (l : List Nat) : Str := ⟨(l.map (ltr z)).toArray⟩
def rndV (z : Str) (bt : Nat → Nat → Bool) : V := match rndR z bt with | some l => .str (wordOf z l) | none => .non
def spRnd : Sp := fun vs H Q _ => ∃ (p : Addr) (z : Str) (ys : List Str) (ns : List Int), vs = [.str z, .ref p] ∧ z.cps.size ≤ 6 ∧ H p = some (.dK (bkv z ys ns z.cps.toList)) ∧ ∀ H', Same H H' → Q (rndV z (btB ys ns)) H'
theorem ltr_mem {z : Str} {i : Nat} (h : i < z.cps.size) : ltr z i ∈ z.cps.toList := by
  unfold ltr
  rw [Array.getD_eq_getD_getElem?, Array.getElem?_eq_getElem h]
  exact Array.mem_toList_iff.mpr (Array.getElem_mem h)
theorem ltrs_get {z : Str} {l : List Nat} {k : Nat} (h : k < l.length) : (ltrs z l)[k]? = some (.str (chS (ltr z (l.getD k 0)))) := by
  unfold ltrs
  rw [List.getElem?_map, List.getElem?_eq_getElem h, List.getD_eq_getElem?_getD, List.getElem?_eq_getElem h] <;> rfl
theorem ltrs_prev {z : Str} {l : List Nat} {k : Nat} (h : k < l.length) : atI (ltrs z l) ((k : Int) - 1) = some (.str (chS (ltr z (ahd l k)))) := by
  cases k with
  | zero =>
    rcases List.eq_nil_or_concat l with e | ⟨xs, a, e⟩
    · rw [e] at h
      simp at h
    · subst e
      have e1 : ahd (xs.concat a) 0 = a := by
        unfold ahd
        rw [List.concat_eq_append, List.length_append, List.length_singleton, Nat.add_sub_cancel, List.getD_eq_getElem?_getD, List.getElem?_append_right (Nat.le_refl _), Nat.sub_self] <;> rfl
      rw [e1]
      unfold ltrs
      rw [List.concat_eq_append, List.map_append]
      exact atI_last _ _
  | succ k =>
    rw [show (((k + 1 : Nat) : Int) - 1) = (k : Int) by omega]
    exact atI_nat (ltrs_get (by omega))
section
variable {P : Program} {w : World} {K : PySem.W.Frag} {mg : Str → Option Value} {base : Heap} {C Cr : Addr}
theorem ok_rnd {f : Addr} {fd : FuncData} (D : DefAt K mg "round_among" sRnd ["things", "beaten"] f fd) (mp : mg "permutations" = some (.type "itertools.permutations")) (T : Txt mg) : FnOk P w K mg base CX0 1 f fd ["things", "beaten"] spRnd := by
  refine D.F.ok scRnd (fun vs H Q E h => ?_) (fun cdv A outer sh H vs Q E hr h => ?_)
  · obtain ⟨p, z, ys, ns, rfl, _⟩ := h
    rfl
  · obtain ⟨p, z, ys, ns, rfl, z6, ed, q⟩ := h
    have hu := hr.units
    have hu1 : (A.deeper (envOfC (Str.ofString "round_among") (defScope sRnd) sh.heap.objs.size f cdv)).units + 1 < cLine := by omega
    refine ⟨_, (pss_cons (ps_for PassesOwn.never rfl (pi_range2 (by rfl) T.b_range (pa_cons pe_int (pa_cons (pe_op op_add (pe_callB call_len_str (by rfl) T.b_len (by decide +kernel) (pa_cons (pv 0) pa_nil)) pe_int) pa_nil))) (pg_name (i := 2) scRnd.nd rfl (.inl rfl))
        (pss_one (ps_for PassesOwn.never rfl (pi_perm (by rfl) mp rfl (pa_cons (pv 0) (pa_cons (pv 2) pa_nil))) (pg_name (i := 3) scRnd.nd rfl (.inr rfl))
          (pss_one (ps_if (pt_val (pe_callB (cr_all rfl) (by rfl) T.b_all (by decide +kernel) (pa_cons (pe_lc (own := [("at", 4)]) (g := gName 4) (tt := tYes) rfl scRnd.nd (pi_range1 (by rfl) T.b_range (pa_cons (pv 2) pa_nil)) (blkOk_by (own := [("at", 4)]) (N := ["things", "beaten", "many", "each", "at"]) (sc := defScope sRnd) (by decide +kernel))
              (fun _ _ _ _ _ => pg_name (i := 4) scRnd.nd rfl (Or.inl rfl)) (fun _ _ _ _ _ => pts_nil) (fun _ _ _ _ _ => pe_cmpR op_in_str (pe_ix (show IxR _ (rIxT K) from ix_tup) (pv 3) (pv 4) (fun _ _ => rfl)) (pe_dget hu1 (pv 1) (pe_ix (show IxR _ (rIxT K) from ix_tup) (pv 3) (pe_op op_sub (pv 4) pe_int) (fun _ _ => rfl)) (fun _ _ => rfl)) (by rfl))) pa_nil)))
            (pss_one (ps_ret (pe_join pe_str (pv 3)))) pss_nil)))))
      (pss_one (ps_ret pe_non))), ?_⟩
    have zl : z.length = z.cps.size := rfl
    have hsz : z.length ≤ sizeLine := by rw [sizeLine_eq]; omega
    have en : ((z.length : Int) + 1 - 3).toNat = z.cps.size - 2 := by omega
    refine ⟨_, rfl, z, rfl, hsz, _, _, rfl, rfl, 3, _, rfl, ⟨by decide, by decide, by omega, by omega⟩, ?_⟩
    rw [en]
    refine for_range (lo := 3) (n := z.cps.size - 2) (fun i σ H' => ∃ v2 v3 v4, σ = [some (.str z), some (.ref p), v2, v3, v4] ∧ Same H H' ∧ ∀ k, k < i → tryR z (btB ys ns) (3 + k) = none) ⟨_, _, _, rfl, fun _ _ h => h, fun k h => absurd h (by omega)⟩ (fun i σ H1 hi hP => ?_) (fun σ H1 hP => ?_)
    · obtain ⟨v2, v3, v4, rfl, sm, np⟩ := hP
      have em : ((3 : Int) + (i : Int)) = ((3 + i : Nat) : Int) := by omega
      rw [em]
      refine ⟨_, rfl, _, rfl, z, 3 + i, rfl, z6, by omega, for_it walk_perm (fun j σ H' => ∃ v3 v4, σ = [some (.str z), some (.ref p), some (.int ((3 + i : Nat) : Int)), v3, v4] ∧ Same H H' ∧ ∀ l, l ∈ (pm (3 + i) (List.range z.cps.size)).take j → rgAll z (btB ys ns) l (3 + i) = false) ⟨_, _, rfl, sm, fun l h => by simp at h⟩ (fun _ _ _ _ _ => trivial) (fun j x σ H2 H3 hj hP hY => ?_) (fun σ H2 hP => ?_)⟩
      · obtain ⟨v3, v4, rfl, s2, nl⟩ := hP
        obtain ⟨TT, l, rfl, nT, hl, rfl⟩ := hY
        obtain ⟨ll, lm⟩ := mem_pm (List.mem_of_getElem? hl)
        have lm' : ∀ b, b ∈ l → b < z.cps.size := fun b hb => List.mem_range.mp (lm b hb)
        have s3 : Same H (upd H2 TT (.tup (ltrs z l))) := fun v o e => by
          rw [upd_ne (ne_of_none (s2 _ _ e) nT)]
          exact s2 _ _ e
        generalize h3 : upd H2 TT (.tup (ltrs z l)) = H3 at s3
        have eT : H3 TT = some (.tup (ltrs z l)) := by rw [← h3, upd_same]
        have lz : l.length ≤ 6 := by omega
        have jl : j < (pm (3 + i) (List.range z.cps.size)).length := hj
        have ed3 : H3 p = some (.dK (bkv z ys ns z.cps.toList)) := s3 _ _ ed
        refine ⟨_, rfl, ((3 + i : Nat) : Int), rfl, by omega, by omega, fun D nD => lc_range (lo := 0) (n := 3 + i) (fun k H' => Same H3 H' ∧ H' D = some (.lst (((List.range k).map (rgB z (btB ys ns) l)).map V.bl))) ⟨same_new nD, upd_same⟩ (fun k H4 hk hP => ?_) (fun H4 hP => ?_)⟩
        · obtain ⟨s4, eD⟩ := hP
          have hkl : k < l.length := by omega
          have a1 : atI (ltrs z l) (0 + (k : Int)) = some (.str (chS (ltr z (l.getD k 0)))) := by
            rw [Int.zero_add]
            exact atI_nat (ltrs_get hkl)
          have a2 : atI (ltrs z l) (0 + (k : Int) - 1) = some (.str (chS (ltr z (ahd l k)))) := by
            rw [Int.zero_add]
            exact ltrs_prev hkl
          have m1 : ltr z (l.getD k 0) ∈ z.cps.toList := ltr_mem (lm' _ (by rw [List.getD_eq_getElem?_getD, List.getElem?_eq_getElem hkl, Option.getD_some]; exact List.getElem_mem hkl))
          have m2 : ltr z (ahd l k) ∈ z.cps.toList := by
            refine ltr_mem (lm' _ ?_)
            cases k with
            | zero =>
              have lt : l.length - 1 < l.length := by omega
              show l.getD (l.length - 1) 0 ∈ l
              rw [List.getD_eq_getElem?_getD, List.getElem?_eq_getElem lt, Option.getD_some]
              exact List.getElem_mem lt
            | succ k =>
              have lt : k < l.length := by omega
              show l.getD k 0 ∈ l
              rw [List.getD_eq_getElem?_getD, List.getElem?_eq_getElem lt, Option.getD_some]
              exact List.getElem_mem lt
          have rb : (!(Builtin.Str.occurrences (btS z ys ns (ltr z (ahd l k))) (chS (ltr z (l.getD k 0))) 0 (btS z ys ns (ltr z (ahd l k))).length 1).isEmpty) = rgB z (btB ys ns) l k := by
            refine (PySem.StrLaws.found_one _ _).trans ?_
            unfold rgB
            rw [Bool.eq_iff_iff, decide_eq_true_eq]
            unfold btS
            rw [List.mem_filter]
            exact ⟨fun h => h.2, fun h => ⟨m1, h⟩⟩
          refine ⟨rfl, _, rfl, _, rfl, TT, _, _, _, rfl, rfl, SqT.of (s4 _ _ eT), a1, _, rfl, _, rfl, _, rfl, _, _, rfl, rfl, TT, _, _, _, rfl, rfl, SqT.of (s4 _ _ eT), a2, p, _, rfl, .inl ⟨_, .inr (chS (ltr z (ahd l k))), .inl (s4 _ _ ed3), rfl, (bkv_val m2).symm⟩, _, _, rfl, rfl, ?_⟩
          rw [rb]
          refine ⟨_, eD, ?_, fun v o e => ?_, ?_⟩
          · rw [List.length_map, List.length_map, List.length_range, sizeLine_eq]
            omega
          · rw [upd_ne (ne_of_none e nD)]
            exact s4 _ _ e
          · rw [upd_same, List.range_succ, List.map_append, List.map_append] <;> rfl
        · obtain ⟨s4, eD⟩ := hP
          refine ⟨D, (List.range (3 + i)).map (rgB z (btB ys ns) l), rfl, SqL.of eD, _, rfl, ite2 (fun y => ?_) (fun n => ?_)⟩
          · have y2 : rgAll z (btB ys ns) l (3 + i) = true := by
              rw [List.all_map] at y
              exact y
            have t1 : tryR z (btB ys ns) (3 + i) = some l := by
              unfold tryR
              rw [← List.take_append_drop j (pm (3 + i) (List.range z.cps.size)), List.find?_append, List.drop_eq_getElem_cons jl]
              rw [List.find?_eq_none.mpr fun u hu => by rw [nl u hu]; exact Bool.false_ne_true, Option.none_or]
              have : (pm (3 + i) (List.range z.cps.size))[j] = l := (List.getElem?_eq_some_iff.mp hl).2
              rw [this, List.find?_cons, y2]
            have t2 : rndV z (btB ys ns) = .str (wordOf z l) := by
              unfold rndV rndR
              have lti : i < (List.range (z.cps.size - 2)).length := by rw [List.length_range]; exact hi
              rw [← List.take_append_drop i (List.range (z.cps.size - 2)), List.findSome?_append, List.drop_eq_getElem_cons lti]
              have none1 : List.findSome? (fun k => tryR z (btB ys ns) (3 + k)) (List.take i (List.range (z.cps.size - 2))) = none := by
                rw [List.findSome?_eq_none_iff]
                intro u hu
                rw [List.take_range, Nat.min_eq_left (by omega)] at hu
                exact np u (List.mem_range.mp hu)
              rw [none1, Option.none_or, List.getElem_range, List.findSome?_cons, t1]
            have lw : ltrs z l = (signs (wordOf z l)).map V.str := by
              unfold ltrs signs wordOf
              rw [List.map_map, List.map_map] <;> rfl
            have wl : (wordOf z l).cps.size = l.length := by
              show (l.map (ltr z)).length = _
              rw [List.length_map]
            refine ⟨⟨_, rfl⟩, _, rfl, _, TT, signs (wordOf z l), rfl, rfl, .inr (SqT.of (by rw [← lw]; exact s4 _ _ eT)), ?_, ?_⟩
            · rw [sign_sum, signs_length, show (PySem.Str.ofString "").length = 0 by decide +kernel]
              omega
            · rw [join_signs]
              have q1 := q _ (s3.trans s4)
              rw [t2] at q1
              exact q1
          · refine ⟨_, _, rfl, s3.trans s4, fun l' hl' => ?_⟩
            rw [List.take_succ, hl, Option.toList_some, List.mem_append, List.mem_singleton] at hl'
            rcases hl' with hl' | rfl
            · exact nl l' hl'
            · rw [Bool.eq_false_iff]
              intro y
              refine n ?_
              rw [List.all_map]
              exact y
      · obtain ⟨v3, v4, rfl, s2, nl⟩ := hP
        rw [List.take_length] at nl
        refine ⟨_, _, _, rfl, s2, fun k hk => ?_⟩
        by_cases e : k = i
        · subst e
          unfold tryR
          rw [List.find?_eq_none]
          intro l hl
          rw [nl l hl]
          exact Bool.false_ne_true
        · exact np k (by omega)
    · obtain ⟨v2, v3, v4, rfl, sm, np⟩ := hP
      have w : rndV z (btB ys ns) = .non := by
        unfold rndV rndR
        rw [List.findSome?_eq_none_iff.mpr fun k hk => np k (List.mem_range.mp hk)]
      have q1 := q _ sm
      rw [w] at q1
      exact q1
end
end L2.Cal
end

section
set_option maxRecDepth 100000
set_option maxHeartbeats 4000000
set_option synthInstance.maxHeartbeats 400000
namespace L2.Cal
open PySem PySem.Spec PyProof.Rows L2
theorem inv_chs (b : Nat) (l : List Nat) : inV (.str (chS b)) (l.map fun c => V.str (chS c)) = decide (b ∈ l) := by
  unfold inV
  rw [List.any_map, Bool.eq_iff_iff, List.any_eq_true, decide_eq_true_eq]
  constructor
  · rintro ⟨m, hm, e⟩
    have : b = m := by
      simp [eqV, chS] at e
      omega
    rw [this]
    exact hm
  · exact fun h => ⟨b, h, by simp [eqV]⟩
theorem CrdZ.keep {C Cr : Addr} {H H' : Hp} {c : Addr} {z : Str} {ys : List Str} {ns : List Int} (h : CrdZ C Cr H c z ys ns) (k : ∀ b o, (∀ xs, o ≠ HO.lst xs) → H b = some o → H' b = some o) : CrdZ C Cr H' c z ys ns := by
  obtain ⟨⟨r0, n, t0, z0, ⟨dx0, fs0, e0, l1, l2, l3⟩, ⟨dr0, fr0, er0, lr⟩, ht, hn, so⟩, dx, fs, r, t, e, l, no, ⟨dr, fr, er, lr'⟩⟩ := h
  have ki : ∀ {b C dx fs}, H b = some (.ins C dx fs) → H' b = some (.ins C dx fs) := fun h => k _ _ (fun xs z => by cases z) h
  have kt : ∀ {b xs}, H b = some (.tup xs) → H' b = some (.tup xs) := fun h => k _ _ (fun xs z => by cases z) h
  exact ⟨⟨r0, n, t0, z0, ⟨dx0, fs0, ki e0, l1, l2, l3⟩, ⟨dr0, fr0, ki er0, lr⟩, kt ht, kt hn, so⟩, dx, fs, r, t, ki e, l, no, ⟨dr, fr, ki er, lr'⟩⟩
theorem shaped_list (ys : List Str) (ok : ∀ y, y ∈ ys → PyData.strOk y = true) : SeqAt.shaped (.list (ys.map PyData.str)) = true := by
  have lay : ∀ ys : List Str, (∀ y, y ∈ ys → PyData.strOk y = true) → PyData.canLayAll0 (ys.map PyData.str) = true := fun ys => by
    induction ys with
    | nil => intro _; simp [PyData.canLayAll0]
    | cons y ys ih =>
      intro ok
      have h1 := ok y (List.mem_cons_self ..)
      simp [PyData.canLayAll0, PyData.canLay0, h1, ih fun z hz => ok z (List.mem_cons_of_mem _ hz)]
  have deep : ∀ ys : List Str, PyData.depthAll (ys.map PyData.str) = 0 := fun ys => by
    induction ys with
    | nil => simp [PyData.depthAll]
    | cons y ys ih => simp [PyData.depthAll, PyData.depth, ih]
  simp [SeqAt.shaped, PyData.canLay0, lay ys ok, PyData.depth, deep]
theorem eqv_lists (ys zs : List Str) : PyData.eqv (.list (ys.map PyData.str)) (.list (zs.map PyData.str)) = decide (ys = zs) := by
  have all : ∀ ys zs : List Str, PyData.eqvAll (ys.map PyData.str) (zs.map PyData.str) = decide (ys = zs) := fun ys => by
    induction ys with
    | nil => intro zs; cases zs <;> simp [PyData.eqvAll]
    | cons y ys ih =>
      intro zs
      cases zs with
      | nil => simp [PyData.eqvAll]
      | cons z zs =>
        simp only [List.map_cons, PyData.eqvAll, ih]
        simp [PyData.eqv, show (y == z) = decide (y = z) by rw [Bool.eq_iff_iff]; simp]
  simp [PyData.eqv, all]
abbrev sSmr : Stmt := crS 7
theorem scSmr : FnScope ["self"] ["self"] (defScope sSmr) := ⟨rfl, rfl, rfl, by decide +kernel, rfl, by decide +kernel, by decide +kernel⟩
def spSmr (C Cr : Addr) : Sp := fun vs H Q _ => ∃ (c : Addr) (z : Str) (ys : List Str) (ns : List Int), vs = [.ref c] ∧ CrdZ C Cr H c z ys ns ∧ AskAll z ys ns ∧ ∀ H', Same H H' → Q (rndV z (btB ys ns)) H'
section
variable {P : Program} {w : World} {K : PySem.W.Frag} {mg : Str → Option Value} {base : Heap} {C Cr : Addr}
theorem ok_smr {f fR fN fB fO fA fT fK : Addr} {fd fdR fdN fdB fdO fdA fdT fdK : FuncData} {pO pT : Addr} (F : Fun K "some_round" "Crowd.some_round" sSmr f fd) (DR : DefAt K mg "round_among" sRnd ["things", "beaten"] fR fdR) (mp : mg "permutations" = some (.type "itertools.permutations")) (FN : Fun K "_beaten" "Crowd._beaten" sBtn fN fdN) (mN : Meth K Cr "_beaten" fN) (bN : Binds K fdN ["self"] []) (FB : Fun K "beats" "Crowd.beats" sBts fB fdB) (mB : Meth K Cr "beats" fB) (bB : Binds K fdB ["self", "thing", "other"] []) (FA : Fun K "_above" "Crowd._above" sAb_ fA fdA) (mA : Meth K Cr "_above" fA) (bA : Binds K fdA ["self", "thing", "other"] []) (DK : DefAt K mg "check_thing" sChT ["things", "thing"] fK fdK)
    (PT : PropOf K C "things" pT fT) (FT : Fun K "things" "Roll.things" sThi fT fdT) (bT : Binds K fdT ["self"] []) (PO : PropOf K C "orders" pO fO) (FO : Fun K "orders" "Roll.orders" sOrd fO fdO) (bO : Binds K fdO ["self"] []) (bsum : mg "sum" = none) (bzip : mg "zip" = none) (T : Txt mg) (R : RollC K mg C) (RC : CrC K mg Cr) :
    FnOk P w K mg base CX0 6 f fd ["self"] (spSmr C Cr) := by
  have GN : FnOk P w K mg base CX0 5 fN fdN ["self"] (spBtn C Cr) := ok_btn FN FB mB bB FA mA bA DK PT FT bT PO FO bO bsum bzip T R RC
  have GT : FnOk P w K mg base CX0 1 fT fdT ["self"] (spThi C) := ok_thi FT R
  have GR : FnOk P w K mg base CX0 1 fR fdR ["things", "beaten"] spRnd := ok_rnd DR mp T
  refine F.ok scSmr (fun vs H Q E h => ?_) (fun cdv A outer sh H vs Q E hr h => ?_)
  · obtain ⟨c, z, ys, ns, rfl, _⟩ := h
    rfl
  · obtain ⟨c, z, ys, ns, rfl, hz, as, q⟩ := h
    refine ⟨_, (pss_one (ps_ret (pe_call GR (hr.mono (by decide)) (by rfl) DR.g DR.F.kp DR.b .nil pass0 (pa_cons (pe_prop (pe_fld (pv 0) rfl) R.cls PT GT (hr.mono (by decide)) bT .nil pass0 rfl) (pa_cons (pe_meth0 (pv 0) RC.cls mN GN (hr.mono (by decide)) bN .nil pass0) pa_nil))))), ?_⟩
    obtain ⟨hc, dx, fs, r, t, e, l, no, ra⟩ := id hz
    obtain ⟨dr, fr, hr1, _⟩ := id ra
    refine ⟨_, rfl, c, Cr, dx, fs, _, rfl, e, RC.cls, RC.no1, l, r, dr, fr, rfl, hr1, r, t, z, rfl, ra, ?_⟩
    refine ⟨_, rfl, c, dx, fs, rfl, e, no _ (by decide) (by decide) (by decide), c, z, ys, ns, rfl, hz, as, fun d H1 s1 n1 e1 => ?_⟩
    exact ⟨d, z, ys, ns, rfl, as.z6, e1, fun H2 s2 => q H2 (s1.trans s2)⟩
end
end L2.Cal
end

section
set_option maxRecDepth 100000
set_option maxHeartbeats 4000000
namespace L2.Cal
open PySem PySem.Spec PyProof.Rows L2
abbrev sThs : Stmt := topS 29
theorem scThs : FnScope ["things", "a", "b", "c"] ["things"] (defScope sThs) := ⟨rfl, rfl, rfl, by decide +kernel, rfl, by decide +kernel, by decide +kernel⟩
abbrev sSta : Stmt := topS 31
theorem scSta : FnScope ["order", "three", "thing"] ["order", "three"] (defScope sSta) := ⟨rfl, rfl, rfl, by decide +kernel, rfl, by decide +kernel, by decide +kernel⟩
/-- three things as they stand in an order -/
def press (y x : Str) : Str := ⟨(y.cps.toList.filter fun c => decide (c ∈ x.cps.toList)).toArray⟩
def spThs : Sp := fun vs H Q _ => ∃ y : Str, vs = [.str y] ∧ y.cps.size ≤ 6 ∧ ∀ (p : Addr) (H' : Hp), Same H H' → H p = none → H' p = some (.tup ((tri y.cps.toList).map V.str)) → Q (.ref p) H'
def spSta : Sp := fun vs H Q _ => ∃ y x : Str, vs = [.str y, .str x] ∧ y.cps.size ≤ 6 ∧ ∀ H', Same H H' → Q (.str (press y x)) H'
theorem s3_of (a b c : Nat) : ((⟨#[a]⟩ : Str) ++ ⟨#[b]⟩) ++ ⟨#[c]⟩ = s3 a b c := rfl
section
variable {P : Program} {w : World} {K : PySem.W.Frag} {mg : Str → Option Value} {base : Heap} {C : Addr}
theorem ok_ths {f : Addr} {fd : FuncData} (D : DefAt K mg "threes_of" sThs ["things"] f fd) (T : Txt mg) : FnOk P w K mg base CX0 1 f fd ["things"] spThs := by
  refine D.F.ok scThs (fun vs H Q E h => ?_) (fun cdv A outer sh H vs Q E hr h => ?_)
  · obtain ⟨y, rfl, _⟩ := h
    rfl
  · obtain ⟨y, rfl, hy, q⟩ := h
    refine ⟨_, pss_one (ps_ret (pe_callTy call_tuple_of (by rfl) T.b_tuple (by decide +kernel) (pa_cons (C3.pe_lc3 (own := [("a", 1), ("b", 2), ("c", 3)]) (vs1 := [2, 3]) (vs2 := [3]) (g0 := gName 1) (g1 := gName 2) (g2 := gName 3) (tt0 := tYes) (tt1 := tYes) rfl scThs.nd (pi_str (pv 0))
      (blkOk_by (own := [("a", 1), ("b", 2), ("c", 3)]) (N := ["things", "a", "b", "c"]) (sc := defScope sThs) (by decide +kernel)) (by decide) (by decide)
      (fun _ _ _ _ _ => pg_name (i := 1) scThs.nd rfl (Or.inl rfl)) (fun _ _ _ _ _ => pts_nil) (fun _ _ _ _ _ => pi_str (pv 0)) (fun _ _ _ _ _ => pg_name (i := 2) scThs.nd rfl (Or.inl rfl)) (fun _ _ _ _ _ => pts_nil) (fun _ _ _ _ _ => pi_str (pv 0)) (fun _ _ _ _ _ => pg_name (i := 3) scThs.nd rfl (Or.inl rfl))
      (fun _ _ _ _ _ => pts_one (pt_chain op_lt_str op_lt_str (pv 1) (pv 2) (pv 3))) (fun _ _ _ _ _ => pe_op op_add_str (pe_op op_add_str (pv 1) (pv 2)) (pv 3))) pa_nil))), ?_⟩
    generalize hcs : y.cps.toList = cs at q
    have len : cs.length = y.cps.size := by rw [← hcs, Array.length_toList]
    have ix : ∀ {k c : Nat}, y.cps[k]? = some c → cs[k]? = some c := fun h => by rw [← hcs, Array.getElem?_toList]; exact h
    have small : ∀ n : Nat, n ≤ 400 → n < sizeLine := fun n h => by rw [sizeLine_eq]; omega
    have l6 : cs.length ≤ 6 := by omega
    have sq : cs.length * cs.length ≤ 36 := Nat.mul_le_mul l6 l6
    have one : ∀ (X : List Str) (D : Addr) (HH H' : Hp) (v : Str), H D = none → Same H HH → HH D = some (.lst (X.map V.str)) → Same H (upd HH D (.lst (X.map V.str ++ [V.str v]))) ∧ (upd HH D (.lst (X.map V.str ++ [V.str v]))) D = some (.lst ((X ++ [v]).map V.str)) := fun X D HH H' v nD sm eD => by
      refine ⟨fun b o e => ?_, by rw [upd_same, List.map_append] <;> rfl⟩
      rw [upd_ne (ne_of_none e nD)]
      exact sm _ _ e
    refine ⟨_, rfl, y, rfl, fun D nD => C3.walk_by walk_str (fun i H' => Same H H' ∧ H' D = some (.lst (((cs.take i).flatMap (row2 cs)).map V.str))) ⟨same_new nD, upd_same⟩ (fun _ _ _ _ => trivial) (fun i x H1 H2 hi hP hY => ?_) (fun H1 hP => ?_)⟩
    · obtain ⟨sm, eD⟩ := hP
      obtain ⟨rfl, a, ha, rfl⟩ := hY
      refine ⟨rfl, _, rfl, y, rfl, C3.walk_by walk_str (fun j H' => Same H H' ∧ H' D = some (.lst (((cs.take i).flatMap (row2 cs) ++ (cs.take j).flatMap (row3 cs a)).map V.str))) ⟨sm, by rw [eD]; simp⟩ (fun _ _ _ _ => trivial) (fun j x H3 H4 hj hP hY => ?_) (fun H3 hP => ?_)⟩
      · obtain ⟨sm, eD⟩ := hP
        obtain ⟨rfl, b, hb, rfl⟩ := hY
        refine ⟨rfl, _, rfl, y, rfl, C3.walk_by walk_str (fun k H' => Same H H' ∧ H' D = some (.lst ((((cs.take i).flatMap (row2 cs) ++ (cs.take j).flatMap (row3 cs a)) ++ ((cs.take k).filter fun c => decide (a < b) && decide (b < c)).map (s3 a b)).map V.str))) ⟨sm, by rw [eD]; simp⟩ (fun _ _ _ _ => trivial) (fun k x H5 H6 hk hP hY => ?_) (fun H5 hP => ?_)⟩
        · obtain ⟨sm, eD⟩ := hP
          obtain ⟨rfl, c, hc, rfl⟩ := hY
          have st := row3_take (a := a) (b := b) (ix hc)
          have few : ((cs.take i).flatMap (row2 cs) ++ (cs.take j).flatMap (row3 cs a) ++ ((cs.take k).filter fun c => decide (a < b) && decide (b < c)).map (s3 a b)).length ≤ 400 := by
            have h1 := flat_le (cs.take i) (f := row2 cs) (n := 36) fun a _ => Nat.le_trans (row2_len cs a) sq
            have h2 := flat_le (cs.take j) (f := row3 cs a) (n := 6) fun b _ => Nat.le_trans (row3_len cs a b) l6
            have h3 := List.length_filter_le (fun c => decide (a < b) && decide (b < c)) (cs.take k)
            have i1 : (cs.take i).length ≤ 6 := by rw [List.length_take]; omega
            have i2 : (cs.take j).length ≤ 6 := by rw [List.length_take]; omega
            have i3 : (cs.take k).length ≤ 6 := by rw [List.length_take]; omega
            rw [List.length_append, List.length_append, List.length_map]
            omega
          have no : (decide (a < b) && decide (b < c)) = false → Same H H6 ∧ H6 D = some (.lst ((((cs.take i).flatMap (row2 cs) ++ (cs.take j).flatMap (row3 cs a)) ++ ((cs.take (k + 1)).filter fun c => decide (a < b) && decide (b < c)).map (s3 a b)).map V.str)) := fun e => by
            rw [st, e]
            refine ⟨sm, ?_⟩
            rw [eD]
            simp
          refine ⟨rfl, _, rfl, _, rfl, _, _, rfl, rfl, decide (a < b), congrArg V.bl (one_lt a b), ite2 (fun h1 => ⟨_, rfl, _, _, rfl, rfl, decide (b < c), congrArg V.bl (one_lt b c), ite2 (fun h2 => ?_) (fun h2 => ?_)⟩) (fun h1 => ⟨false, rfl, ?_⟩)⟩
          · have put := one _ D H6 H6 (s3 a b c) nD sm eD
            refine ⟨_, rfl, _, rfl, _, _, rfl, rfl, Nat.le_of_lt (small 2 (by omega)), _, rfl, _, _, rfl, rfl, Nat.le_of_lt (small 3 (by omega)), _, eD, by rw [List.length_map]; exact small _ few, ?_⟩
            refine ⟨put.1, put.2.trans ?_⟩
            rw [st, h1, h2, List.append_assoc] <;> rfl
          · refine no ?_
            rw [h1, Bool.true_and]
            exact Bool.eq_false_iff.mpr h2
          · refine no ?_
            rw [Bool.eq_false_iff.mpr h1, Bool.false_and]
        · obtain ⟨sm, eD⟩ := hP
          refine ⟨sm, ?_⟩
          rw [flat_take (ix hb), eD, ← len, List.take_length, List.append_assoc] <;> rfl
      · obtain ⟨sm, eD⟩ := hP
        refine ⟨sm, ?_⟩
        rw [flat_take (ix ha), eD, ← len, List.take_length] <;> rfl
    · obtain ⟨sm, eD⟩ := hP
      rw [← len, List.take_length] at eD
      refine ⟨D, _, rfl, .inl ⟨SqL.of eD, fun l nl => q l _ (fun b o e => ?_) ?_ upd_same⟩⟩
      · have e2 := sm _ _ e
        rw [upd_ne (ne_of_none e2 nl)]
        exact e2
      · cases e : H l with
        | none => rfl
        | some o =>
          rw [sm _ _ e] at nl
          cases nl
theorem ok_sta {f : Addr} {fd : FuncData} (D : DefAt K mg "standing" sSta ["order", "three"] f fd) : FnOk P w K mg base CX0 1 f fd ["order", "three"] spSta := by
  refine D.F.ok scSta (fun vs H Q E h => ?_) (fun cdv A outer sh H vs Q E hr h => ?_)
  · obtain ⟨y, x, rfl, _⟩ := h
    rfl
  · obtain ⟨y, x, rfl, hy, q⟩ := h
    refine ⟨_, pss_one (ps_ret (pe_join pe_str (pe_lc (own := [("thing", 2)]) (g := gName 2) (tt := _) rfl scSta.nd (pi_str (pv 0)) (blkOk_by (own := [("thing", 2)]) (N := ["order", "three", "thing"]) (sc := defScope sSta) (by decide +kernel))
      (fun _ _ _ _ _ => pg_name (i := 2) scSta.nd rfl (Or.inl rfl)) (fun _ _ _ _ _ => pts_one (pt_cmpR op_in_str (pv 2) (pv 1) (by rfl))) (fun _ _ _ _ _ => pv 2)))), ?_⟩
    refine ⟨⟨_, rfl⟩, _, rfl, y, rfl, fun D nD => lc_it walk_str (fun k H' => Same H H' ∧ H' D = some (.lst (((y.cps.toList.take k).filter fun c => decide (c ∈ x.cps.toList)).map fun c => V.str ⟨#[c]⟩))) ⟨same_new nD, upd_same⟩ (fun _ _ _ _ => trivial) (fun k v H1 H2 hk hP hY => ?_) (fun H1 hP => ?_)⟩
    · obtain ⟨sm, eD⟩ := hP
      obtain ⟨rfl, c, hc, rfl⟩ := hY
      have ec : y.cps.toList[k]? = some c := by rw [Array.getElem?_toList]; exact hc
      refine ⟨rfl, _, rfl, _, rfl, _, _, rfl, rfl, decide (c ∈ x.cps.toList), congrArg V.bl (PySem.StrLaws.found_one x c), ite2 (fun e => ?_) (fun e => ?_)⟩
      · refine ⟨_, rfl, _, eD, ?_, fun b o h => ?_, ?_⟩
        · rw [List.length_map]
          refine Nat.lt_of_le_of_lt (List.length_filter_le _ _) ?_
          rw [List.length_take, Array.length_toList, sizeLine_eq]
          omega
        · rw [upd_ne (ne_of_none h nD)]
          exact sm _ _ h
        · rw [upd_same, List.take_succ, ec, Option.toList_some, List.filter_append, List.map_append]
          rw [show [c].filter (fun c => decide (c ∈ x.cps.toList)) = [c] by rw [List.filter_cons, if_pos e, List.filter_nil]] <;> rfl
      · refine ⟨sm, ?_⟩
        rw [eD, List.take_succ, ec, Option.toList_some, List.filter_append]
        rw [show [c].filter (fun c => decide (c ∈ x.cps.toList)) = [] by rw [List.filter_cons, if_neg e, List.filter_nil], List.append_nil]
    · obtain ⟨sm, eD⟩ := hP
      rw [List.take_of_length_le (by rw [Array.length_toList]; exact Nat.le_refl _)] at eD
      have e2 : H1 D = some (.lst ((signs (press y x)).map V.str)) := by
        rw [eD]
        unfold signs press
        rw [List.map_map] <;> rfl
      have ps : (press y x).cps.size ≤ 6 := by
        have := List.length_filter_le (fun c => decide (c ∈ x.cps.toList)) y.cps.toList
        have h2 := Array.length_toList (xs := y.cps)
        show (y.cps.toList.filter fun c => decide (c ∈ x.cps.toList)).length ≤ 6
        omega
      refine ⟨_, D, _, rfl, rfl, .inl (SqL.of e2), ?_, ?_⟩
      · rw [sign_sum, signs_length, show (PySem.Str.ofString "").length = 0 by decide +kernel]
        omega
      · rw [join_signs]
        exact q _ sm
end
end L2.Cal
end

section
set_option maxRecDepth 100000
set_option maxHeartbeats 4000000
/-! wheels and places, pure -/
namespace L2.Cal
open PySem PySem.Spec PyProof.Rows L2
def W1 (a b c : Nat) : List Str := [s3 a b c, s3 b c a, s3 c a b]
def W2 (a b c : Nat) : List Str := [s3 c b a, s3 a c b, s3 b a c]
def six (a b c : Nat) : List Str := W1 a b c ++ W2 a b c
structure Apart (a b c : Nat) : Prop where
  ab : a ≠ b
  ac : a ≠ c
  bc : b ≠ c
theorem six_of {a b c : Nat} {z : Str} (d : Apart a b c) (p : z.cps.toList.Perm [a, b, c]) : z ∈ six a b c := by
  obtain ⟨⟨l⟩⟩ := z
  have p : l.Perm [a, b, c] := p
  obtain ⟨ab, ac, bc⟩ := d
  have n : l.Nodup := p.nodup_iff.mpr (by simp [ab, ac, bc])
  have len := p.length_eq
  match l, len with
  | [u, v, w], _ =>
    have hu := p.mem_iff.mp (show u ∈ [u, v, w] by simp)
    have hv := p.mem_iff.mp (show v ∈ [u, v, w] by simp)
    have hw := p.mem_iff.mp (show w ∈ [u, v, w] by simp)
    simp only [List.mem_cons, List.not_mem_nil, or_false] at hu hv hw
    simp only [List.nodup_cons, List.mem_cons, List.not_mem_nil, or_false, not_or, not_false_eq_true, List.nodup_nil, and_true] at n
    have e : (⟨#[u, v, w]⟩ : Str) = s3 u v w := rfl
    show (⟨#[u, v, w]⟩ : Str) ∈ _
    rw [e]
    obtain ⟨⟨n1, n2⟩, n3⟩ := n
    rcases hu with rfl | rfl | rfl <;> rcases hv with rfl | rfl | rfl <;> rcases hw with rfl | rfl | rfl <;> first | exact absurd rfl n1 | exact absurd rfl n2 | exact absurd rfl n3 | simp [six, W1, W2]
theorem all_six {a b c : Nat} {M : List Str} (h : ∀ m ∈ M, m ∈ six a b c) (f : Str → Bool) : M.all f = (six a b c).all fun s => !(decide (s ∈ M)) || f s := by
  rw [Bool.eq_iff_iff]
  simp only [List.all_eq_true, Bool.or_eq_true, Bool.not_eq_true', decide_eq_false_iff_not]
  constructor
  · intro H s hs
    by_cases m : s ∈ M
    · exact .inr (H s m)
    · exact .inl m
  · intro H m hm
    exact (H m (h m hm)).resolve_left fun z => z hm
/-- the sign at a place -/
def atP (m : Str) (p : Nat) : Str := ⟨#[m.cps.getD p 0]⟩
def posOf : List (Str × Nat) := [("first", 0), ("last", 2), ("middle", 1)]
def spotsOf (M : List Str) (t : Str) : List (Str × Str) := (posOf.filter fun q => M.all fun m => !decide (atP m q.2 = t)).map fun q => (t, q.1)
def placesL (M : List Str) (x : Str) : List (Str × Str) := (signs x).flatMap (spotsOf M)
theorem no_place {a b c : Nat} {M : List Str} (d : Apart a b c) (h : ∀ m ∈ M, m ∈ six a b c) : placesL M (s3 a b c) = [] ↔ ((W1 a b c).all fun e => decide (e ∈ M)) = true ∨ ((W2 a b c).all fun e => decide (e ∈ M)) = true := by
  have k : ∀ (t p : Nat), (M.all fun m => !decide (atP m p = ⟨#[t]⟩)) = (six a b c).all fun s => !(decide (s ∈ M)) || !decide (s.cps.getD p 0 = t) := fun t p => by
    rw [all_six h]
    refine congrArg (List.all _) (funext fun s => ?_)
    have : decide (atP s p = ⟨#[t]⟩) = decide (s.cps.getD p 0 = t) := by
      rw [decide_eq_decide]
      simp [atP]
    rw [this]
  obtain ⟨ab, ac, bc⟩ := d
  have ba := ab.symm
  have ca := ac.symm
  have cb := bc.symm
  have g0 : ∀ u v w : Nat, (s3 u v w).cps.getD 0 0 = u := fun _ _ _ => rfl
  have g1 : ∀ u v w : Nat, (s3 u v w).cps.getD 1 0 = v := fun _ _ _ => rfl
  have g2 : ∀ u v w : Nat, (s3 u v w).cps.getD 2 0 = w := fun _ _ _ => rfl
  have sg : signs (s3 a b c) = [⟨#[a]⟩, ⟨#[b]⟩, ⟨#[c]⟩] := rfl
  unfold placesL spotsOf
  rw [sg]
  simp only [List.flatMap_cons, List.flatMap_nil, List.append_eq_nil_iff, List.map_eq_nil_iff, posOf, List.filter_eq_nil_iff, List.mem_cons, List.not_mem_nil, or_false, forall_eq_or_imp, forall_eq, and_true, k, six, W1, W2, List.cons_append, List.nil_append, List.all_cons, List.all_nil, g0, g1, g2,
    decide_true, decide_eq_false ab, decide_eq_false ac, decide_eq_false bc, decide_eq_false ba, decide_eq_false ca, decide_eq_false cb, Bool.not_true, Bool.not_false, Bool.or_false, Bool.or_true, Bool.and_true, Bool.true_and]
  generalize decide (s3 a b c ∈ M) = p1
  generalize decide (s3 b c a ∈ M) = p2
  generalize decide (s3 c a b ∈ M) = p3
  generalize decide (s3 c b a ∈ M) = p4
  generalize decide (s3 a c b ∈ M) = p5
  generalize decide (s3 b a c ∈ M) = p6
  revert p1 p2 p3 p4 p5 p6
  decide
/-! ### the orders that are found -/
def has (pr : Str → Str) (ys : List Str) (e : Str) : Bool := (ys.find? fun z => decide (pr z = e)).isSome
def firstOf (pr : Str → Str) (ys : List Str) (e : Str) : Str := (ys.find? fun z => decide (pr z = e)).getD ⟨#[]⟩
theorem has_map {pr : Str → Str} {ys : List Str} {e : Str} : has pr ys e = decide (e ∈ ys.map pr) := by
  unfold has
  rw [Bool.eq_iff_iff, List.find?_isSome, decide_eq_true_eq, List.mem_map]
  simp only [decide_eq_true_eq]
theorem first_is {pr : Str → Str} {ys : List Str} {e : Str} (h : has pr ys e = true) : firstOf pr ys e ∈ ys ∧ pr (firstOf pr ys e) = e := by
  unfold has at h
  unfold firstOf
  cases q : ys.find? fun z => decide (pr z = e) with
  | none => rw [q] at h; cases h
  | some z =>
    have h2 := List.find?_some q
    exact ⟨List.mem_of_find?_eq_some q, of_decide_eq_true h2⟩
/-- in order -/
def srt (l : List Str) : List Str := l.mergeSort fun a b => !ltCps b.cps.toList a.cps.toList
theorem srt_perm (l : List Str) : (srt l).Perm l := List.mergeSort_perm _ _
theorem srt_up (l : List Str) : (srt l).Pairwise Le := by
  have := List.pairwise_mergeSort (le := fun a b : Str => !ltCps b.cps.toList a.cps.toList) (fun a b c h1 h2 => by
    rw [Bool.not_eq_true'] at h1 h2 ⊢
    exact le_trans (x := a) (y := b) (z := c) h1 h2) (fun a b => by
    cases e : ltCps b.cps.toList a.cps.toList with
    | false => simp
    | true =>
      have : ltCps a.cps.toList b.cps.toList = false := Lo.le (x := b) (y := a) e
      simp [this]) l
  exact this.imp fun h => by
    rw [Bool.not_eq_true'] at h
    exact h
theorem srt_is {ys l : List Str} (p : ys.Perm l) (s : sortedS ys = true) : ys = srt l :=
  List.Perm.eq_of_pairwise (fun a b _ _ h1 h2 => le_eq h1 h2) (up_sorted s) (srt_up l) (p.trans (srt_perm l).symm)
theorem lo_of {x y : Str} (h : Le x y) (n : x ≠ y) : Lo x y := by
  unfold Lo
  cases e : ltCps x.cps.toList y.cps.toList with
  | true => rfl
  | false => exact absurd (le_eq h e) n
theorem climbs_lo : ∀ ys : List Str, Climbs ys → ys.Pairwise Lo
  | [], _ => .nil
  | [a], _ => List.pairwise_singleton _ _
  | a :: b :: r, h => by
    have ih := climbs_lo (b :: r) h.2
    refine List.pairwise_cons.mpr ⟨fun y hy => ?_, ih⟩
    rcases List.mem_cons.mp hy with rfl | hy
    · exact h.1
    · exact lo_trans _ _ _ h.1 ((List.pairwise_cons.mp ih).1 y hy)
/-- what is told of a wheel -/
def wheelR (pr : Str → Str) (ys : List Str) (a b c : Nat) : Option (List Str) :=
  if (W1 a b c).all (has pr ys) = true then some (srt ((W1 a b c).map (firstOf pr ys))) else if (W2 a b c).all (has pr ys) = true then some (srt ((W2 a b c).map (firstOf pr ys))) else none
theorem wheel_none {pr : Str → Str} {ys : List Str} {a b c : Nat} (d : Apart a b c) (h : ∀ z ∈ ys, pr z ∈ six a b c) : wheelR pr ys a b c = none ↔ placesL (ys.map pr) (s3 a b c) ≠ [] := by
  rw [ne_eq, no_place d (fun m hm => by obtain ⟨z, hz, rfl⟩ := List.mem_map.mp hm; exact h z hz)]
  have e : ∀ W : List Str, W.all (has pr ys) = W.all fun e => decide (e ∈ ys.map pr) := fun W => congrArg (List.all W) (funext fun e => has_map)
  unfold wheelR
  rw [e, e]
  generalize ((W1 a b c).all fun e => decide (e ∈ ys.map pr)) = p
  generalize ((W2 a b c).all fun e => decide (e ∈ ys.map pr)) = q
  cases p <;> cases q <;> simp
/-- a wheel that is told is one -/
structure IsWheel (pr : Str → Str) (ys zs : List Str) : Prop where
  three : zs.length = 3
  up : zs.Pairwise Lo
  sub : ∀ z, z ∈ zs → z ∈ ys
  each : ∀ p, p < 3 → ((zs.map pr).map fun m => atP m p).Nodup
  size : ∀ z, z ∈ zs → (pr z).cps.size = 3
theorem wheel_is {pr : Str → Str} {ys zs : List Str} {a b c : Nat} (d : Apart a b c) (h : wheelR pr ys a b c = some zs) : IsWheel pr ys zs := by
  have go : ∀ W : List Str, W.length = 3 → W.Nodup → (∀ p, p < 3 → (W.map fun m => atP m p).Nodup) → (∀ e ∈ W, e.cps.size = 3) → W.all (has pr ys) = true → IsWheel pr ys (srt (W.map (firstOf pr ys))) := fun W l n nd sz all => by
    rw [List.all_eq_true] at all
    have p := srt_perm (W.map (firstOf pr ys))
    have back : (W.map (firstOf pr ys)).map pr = W := by
      rw [List.map_map]
      exact (List.map_congr_left fun e he => (first_is (all e he)).2).trans (List.map_id _)
    have nn : (W.map (firstOf pr ys)).Nodup := by
      exact List.Pairwise.of_map pr (fun x y hne e => hne (by rw [e])) (show ((W.map (firstOf pr ys)).map pr).Nodup by rw [back]; exact n)
    have pw : (((srt (W.map (firstOf pr ys))).map pr)).Perm W := by
      have := p.map pr
      rw [back] at this
      exact this
    refine ⟨?_, ?_, fun z hz => ?_, fun q hq => ?_, fun z hz => ?_⟩
    · rw [p.length_eq, List.length_map, l]
    · exact (List.Pairwise.and (srt_up _) (p.nodup_iff.mpr nn)).imp fun ⟨u, v⟩ => lo_of u v
    · obtain ⟨e, he, rfl⟩ := List.mem_map.mp (p.mem_iff.mp hz)
      exact (first_is (all e he)).1
    · exact (pw.map fun m => atP m q).nodup_iff.mpr (nd q hq)
    · exact sz _ (pw.mem_iff.mp (List.mem_map.mpr ⟨z, hz, rfl⟩))
  obtain ⟨ab, ac, bc⟩ := d
  have ba := ab.symm
  have ca := ac.symm
  have cb := bc.symm
  have at_ : ∀ u v w p : Nat, atP (s3 u v w) p = ⟨#[(s3 u v w).cps.getD p 0]⟩ := fun _ _ _ _ => rfl
  unfold wheelR at h
  split at h
  · cases h
    rename_i q
    refine go _ rfl (by simp [W1, s3, ab, ac, bc, ba, ca, cb]) (fun p hp => ?_) (by simp [W1, s3]) q
    match p, hp with
    | 0, _ => simp [W1, atP, s3, ab, ac, bc, ba, ca, cb]
    | 1, _ => simp [W1, atP, s3, ab, ac, bc, ba, ca, cb]
    | 2, _ => simp [W1, atP, s3, ab, ac, bc, ba, ca, cb]
  · split at h
    · cases h
      rename_i q
      refine go _ rfl (by simp [W2, s3, ab, ac, bc, ba, ca, cb]) (fun p hp => ?_) (by simp [W2, s3]) q
      match p, hp with
      | 0, _ => simp [W2, atP, s3, ab, ac, bc, ba, ca, cb]
      | 1, _ => simp [W2, atP, s3, ab, ac, bc, ba, ca, cb]
      | 2, _ => simp [W2, atP, s3, ab, ac, bc, ba, ca, cb]
    · cases h
end L2.Cal
end

section
set_option maxRecDepth 100000
set_option maxHeartbeats 4000000
namespace L2.Cal
open PySem PySem.Spec PyProof.Rows L2
abbrev sWup : Stmt := topS 32
theorem scWup : FnScope ["three", "a", "b", "c"] ["three"] (defScope sWup) := ⟨rfl, rfl, rfl, by decide +kernel, rfl, by decide +kernel, by decide +kernel⟩
abbrev sWam : Stmt := topS 33
theorem scWam : FnScope ["orders", "three", "found", "order", "wheel", "each"] ["orders", "three"] (defScope sWam) := ⟨rfl, rfl, rfl, by decide +kernel, rfl, by decide +kernel, by decide +kernel⟩
def spWup : Sp := fun vs H Q _ => ∃ a b c : Nat, vs = [.str (s3 a b c)] ∧ ∀ (p q1 q2 : Addr) (H' : Hp), Same H H' → H' p = some (.tup [.ref q1, .ref q2]) → H' q1 = some (.tup ((W1 a b c).map V.str)) → H' q2 = some (.tup ((W2 a b c).map V.str)) → Q (.ref p) H'
/-- orders pressed upon three things -/
abbrev prs (a b c : Nat) : Str → Str := fun z => press z (s3 a b c)
def spWam (K : PySem.W.Frag) : Sp := fun vs H Q _ => ∃ (t : Addr) (ys : List Str) (a b c : Nat), vs = [.ref t, .str (s3 a b c)] ∧ SqT K H t (ys.map V.str) ∧ (∀ z, z ∈ ys → z.cps.size ≤ 6) ∧ ys.length ≤ 60 ∧
  (wheelR (prs a b c) ys a b c = none → ∀ H', Same H H' → Q .non H') ∧ ∀ zs, wheelR (prs a b c) ys a b c = some zs → ∀ (p : Addr) (H' : Hp), Same H H' → H' p = some (.tup (zs.map V.str)) → Q (.ref p) H'
theorem find_take {α : Type} {f : α → Bool} {l : List α} {x : α} {k : Nat} (h : l[k]? = some x) : (l.take (k + 1)).find? f = ((l.take k).find? f).or (if f x = true then some x else none) := by
  rw [List.take_succ, h, Option.toList_some, List.find?_append]
  congr 1
  rw [List.find?_cons]
  cases f x <;> rfl
section
variable {P : Program} {w : World} {K : PySem.W.Frag} {mg : Str → Option Value} {base : Heap} {C : Addr}
theorem ok_wup {f : Addr} {fd : FuncData} (D : DefAt K mg "wheels_upon" sWup ["three"] f fd) : FnOk P w K mg base CX0 1 f fd ["three"] spWup := by
  refine D.F.ok scWup (fun vs H Q E h => ?_) (fun cdv A outer sh H vs Q E hr h => ?_)
  · obtain ⟨a, b, c, rfl, _⟩ := h
    rfl
  · obtain ⟨a, b, c, rfl, q⟩ := h
    refine ⟨_, pss_cons (ps_asg (pv 0) (pg_txt rfl (pgs_cons (pg_name (i := 1) scWup.nd rfl (.inl rfl)) (pgs_cons (pg_name (i := 2) scWup.nd rfl (.inl rfl)) (pgs_cons (pg_name (i := 3) scWup.nd rfl (.inl rfl)) pgs_nil)))))
      (pss_one (ps_ret (pe_tupS (pa_cons (pe_tupS (pa_cons (pe_op op_add_str (pe_op op_add_str (pv 1) (pv 2)) (pv 3)) (pa_cons (pe_op op_add_str (pe_op op_add_str (pv 2) (pv 3)) (pv 1)) (pa_cons (pe_op op_add_str (pe_op op_add_str (pv 3) (pv 1)) (pv 2)) pa_nil))))
        (pa_cons (pe_tupS (pa_cons (pe_op op_add_str (pe_op op_add_str (pv 3) (pv 2)) (pv 1)) (pa_cons (pe_op op_add_str (pe_op op_add_str (pv 1) (pv 3)) (pv 2)) (pa_cons (pe_op op_add_str (pe_op op_add_str (pv 2) (pv 1)) (pv 3)) pa_nil)))) pa_nil))))), ?_⟩
    have z : ∀ n : Nat, n ≤ 3 → n ≤ sizeLine := fun n h => by rw [sizeLine_eq]; omega
    have z2 := z 2 (by decide)
    have z3 := z 3 (by decide)
    refine ⟨_, rfl, s3 a b c, rfl, rfl, _, _, rfl, _, _, rfl, _, _, rfl, rfl, ?_⟩
    refine ⟨_, rfl, _, rfl, _, _, rfl, rfl, z2, _, rfl, _, _, rfl, rfl, z3, _, rfl, _, rfl, _, _, rfl, rfl, z2, _, rfl, _, _, rfl, rfl, z3, _, rfl, _, rfl, _, _, rfl, rfl, z2, _, rfl, _, _, rfl, rfl, z3, z3, fun q1 H1 t1 n1 e1 => ?_⟩
    refine ⟨_, rfl, _, rfl, _, _, rfl, rfl, z2, _, rfl, _, _, rfl, rfl, z3, _, rfl, _, rfl, _, _, rfl, rfl, z2, _, rfl, _, _, rfl, rfl, z3, _, rfl, _, rfl, _, _, rfl, rfl, z2, _, rfl, _, _, rfl, rfl, z3, z3, fun q2 H2 t2 n2 e2 => ⟨z2, fun p H3 t3 n3 e3 => ?_⟩⟩
    exact q p q1 q2 H3 (t1.trans (t2.trans t3)) e3 (t3 _ _ (t2 _ _ e1)) (t3 _ _ e2)
theorem ok_wam {f fS fU : Addr} {fd fdS fdU : FuncData} (D : DefAt K mg "wheel_among" sWam ["orders", "three"] f fd) (DS : DefAt K mg "standing" sSta ["order", "three"] fS fdS) (DU : DefAt K mg "wheels_upon" sWup ["three"] fU fdU) (T : Txt mg) :
    FnOk P w K mg base CX0 2 f fd ["orders", "three"] (spWam K) := by
  have GS : FnOk P w K mg base CX0 1 fS fdS ["order", "three"] spSta := ok_sta DS
  have GU : FnOk P w K mg base CX0 1 fU fdU ["three"] spWup := ok_wup DU
  refine D.F.ok scWam (fun vs H Q E h => ?_) (fun cdv A outer sh H vs Q E hr h => ?_)
  · obtain ⟨t, ys, a, b, c, rfl, _⟩ := h
    rfl
  · obtain ⟨t, ys, a, b, c, rfl, hT, h6, few, qn, qs⟩ := h
    have hu := hr.units
    have hu1 : (A.deeper (envOfC (Str.ofString "wheel_among") (defScope sWam) sh.heap.objs.size f cdv)).units + 1 < cLine := by omega
    refine ⟨_, (pss_cons (ps_set (i := 2) scWam.nd rfl (.inr rfl) pe_dnewS)
      (pss_cons (ps_for PassesOwn.never rfl (pi_tup (pv 0)) (pg_name (i := 3) scWam.nd rfl (.inl rfl)) (pss_one (ps_expr (pe_dsetd (pv 2) (pe_call GS (hr.mono (by decide)) (by rfl) DS.g DS.F.kp DS.b .nil pass0 (pa_cons (pv 3) (pa_cons (pv 1) pa_nil))) (pv 3) ⟨rfl, rfl, rfl, rfl⟩))))
      (pss_cons (ps_for PassesOwn.never rfl (pi_tup (pe_call GU (hr.mono (by decide)) (by rfl) DU.g DU.F.kp DU.b .nil pass0 (pa_cons (pv 1) pa_nil))) (pg_name (i := 4) scWam.nd rfl (.inl rfl))
        (pss_one (ps_if (pt_val (pe_callB (cr_all rfl) (by rfl) T.b_all (by decide +kernel) (pa_cons (pe_lc (own := [("each", 5)]) (g := gName 5) (tt := tYes) rfl scWam.nd (pi_tup (pv 4)) (blkOk_by (own := [("each", 5)]) (N := ["orders", "three", "found", "order", "wheel", "each"]) (sc := defScope sWam) (by decide +kernel))
            (fun _ _ _ _ _ => pg_name (i := 5) scWam.nd rfl (Or.inl rfl)) (fun _ _ _ _ _ => pts_nil) (fun _ _ _ _ _ => pe_cmp (pc_din hu1 (pv 5) (pv 2)))) pa_nil)))
          (pss_one (ps_ret (pe_callTy call_tuple_of (by rfl) T.b_tuple (by decide +kernel) (pa_cons (pe_callB cr_sortedS (by rfl) T.b_sorted (by decide +kernel) (pa_cons (pe_lc (own := [("each", 5)]) (g := gName 5) (tt := tYes) rfl scWam.nd (pi_tup (pv 4))
            (blkOk_by (own := [("each", 5)]) (N := ["orders", "three", "found", "order", "wheel", "each"]) (sc := defScope sWam) (by decide +kernel)) (fun _ _ _ _ _ => pg_name (i := 5) scWam.nd rfl (Or.inl rfl)) (fun _ _ _ _ _ => pts_nil) (fun _ _ _ _ _ => pe_dget hu1 (pv 2) (pv 5) (fun _ _ => rfl))) pa_nil)) pa_nil)))) pss_nil)))
      (pss_one (ps_ret pe_non))))), ?_⟩
    generalize hpr : prs a b c = pr at qn qs
    have pre : ∀ z, press z (s3 a b c) = pr z := fun z => by rw [← hpr]
    have small : ∀ n : Nat, n ≤ 100 → n < sizeLine := fun n h => by rw [sizeLine_eq]; omega
    refine fun d H0 s0 n0 e0 => ⟨_, rfl, t, rfl, ⟨_, same_seqT hT s0⟩, for_tup (K := K) (a := t) (xs := ys.map V.str) (fun k σ H' => ∃ v3 v4 v5 kvs, σ = [some (.ref t), some (.str (s3 a b c)), some (.ref d), v3, v4, v5] ∧ Same H H' ∧ H' d = some (.dK kvs) ∧ kvs.length ≤ k ∧
        ∀ e : Str, valV kvs (.inr e) = ((ys.take k).find? fun z => decide (pr z = e)).map V.str)
      ⟨_, _, _, [], rfl, s0, e0, Nat.le_refl _, fun e => by simp [valV]⟩ (fun k σ H' _ hP => ?_) (fun k x σ H1 hx hP => ?_) (fun σ H1 hP => ?_)⟩
    · obtain ⟨_, _, _, _, _, sm, _⟩ := hP
      exact same_seqT hT sm
    · obtain ⟨v3, v4, v5, kvs, rfl, sm, ed, kl, kv⟩ := hP
      rw [List.getElem?_map] at hx
      cases ez : ys[k]? with
      | none =>
        rw [ez] at hx
        cases hx
      | some z =>
        rw [ez] at hx
        cases hx
        have hk := (List.getElem?_eq_some_iff.mp ez).1
        have hz := h6 z (List.mem_of_getElem? ez)
        refine ⟨_, rfl, d, rfl, .inl ⟨kvs, .inl ed⟩, _, rfl, _, rfl, z, s3 a b c, rfl, hz, fun H2 s2 => ⟨_, rfl, kvs, .inr (press z (s3 a b c)), s2 _ _ ed, rfl, small _ (by omega), fun v hv => ?_, fun hn => ?_⟩⟩
        · refine ⟨_, _, _, kvs, rfl, sm.trans s2, s2 _ _ ed, by omega, fun e => ?_⟩
          rw [find_take ez, kv e]
          by_cases q : pr z = e
          · rw [pre, q, kv e] at hv
            cases w : (ys.take k).find? fun z => decide (pr z = e) with
            | none => rw [w] at hv; cases hv
            | some u => rfl
          · rw [decide_eq_false q, if_neg Bool.false_ne_true, Option.or_none]
        · have nd : ∀ y o, H y = some o → y ≠ d := fun y o e z => by rw [z, n0] at e; cases e
          refine ⟨_, _, _, putK kvs (.inr (press z (s3 a b c))) (.str z), rfl, fun y o e => ?_, upd_same, ?_, fun e => ?_⟩
          · rw [upd_ne (nd y o e)]
            exact s2 _ _ (sm _ _ e)
          · have := length_putK kvs (.inr (press z (s3 a b c))) (.str z)
            omega
          · rw [valV_put, find_take ez, kv e]
            by_cases q : pr z = e
            · rw [pre] at hn
              rw [pre, q, if_pos rfl]
              rw [q, kv e] at hn
              cases w : (ys.take k).find? fun z => decide (pr z = e) with
              | none => simp
              | some u => rw [w] at hn; cases hn
            · rw [decide_eq_false q, if_neg Bool.false_ne_true, Option.or_none, if_neg]
              intro w
              rw [pre] at w
              exact q (Sum.inr.inj w).symm
    · obtain ⟨v3, v4, v5, kvs, rfl, sm, ed, kl, kv⟩ := hP
      rw [List.length_map, List.take_length] at kv
      have hs : ∀ e, (valV kvs (.inr e)).isSome = has pr ys e := fun e => by
        rw [kv e, Option.isSome_map]
        rfl
      refine ⟨_, rfl, a, b, c, rfl, fun p q1 q2 H2 s2 ep e1 e2 => ⟨p, rfl, ⟨_, SqT.of ep⟩, for_tup (K := K) (a := p) (xs := [.ref q1, .ref q2]) (fun k σ H' => ∃ v3 v4 v5, σ = [some (.ref t), some (.str (s3 a b c)), some (.ref d), v3, v4, v5] ∧ Same H2 H' ∧
          (0 < k → (W1 a b c).all (has pr ys) = false) ∧ (1 < k → (W2 a b c).all (has pr ys) = false))
        ⟨_, _, _, rfl, fun _ _ z => z, fun z => absurd z (by omega), fun z => absurd z (by omega)⟩ (fun k σ H' _ hP => ?_) (fun k x σ H3 hx hP => ?_) (fun σ H3 hP => ?_)⟩⟩
      · obtain ⟨_, _, _, _, sk, _⟩ := hP
        exact SqT.of (sk _ _ ep)
      · obtain ⟨w3, w4, w5, rfl, sk, no1, no2⟩ := hP
        obtain ⟨qq, W, rfl, eqq, wl, yes, no⟩ : ∃ (qq : Addr) (W : List Str), x = .ref qq ∧ H3 qq = some (.tup (W.map V.str)) ∧ W.length = 3 ∧ (W.all (has pr ys) = true → wheelR pr ys a b c = some (srt (W.map (firstOf pr ys)))) ∧
            (W.all (has pr ys) = false → (0 < k + 1 → (W1 a b c).all (has pr ys) = false) ∧ (1 < k + 1 → (W2 a b c).all (has pr ys) = false)) := by
          match k, hx with
          | 0, hx =>
            cases hx
            exact ⟨q1, W1 a b c, rfl, sk _ _ e1, rfl, fun y => by unfold wheelR; rw [if_pos y], fun n => ⟨fun _ => n, fun z => absurd z (by omega)⟩⟩
          | 1, hx =>
            cases hx
            have z1 := no1 (by omega)
            exact ⟨q2, W2 a b c, rfl, sk _ _ e2, rfl, fun y => by unfold wheelR; rw [z1, if_neg Bool.false_ne_true, if_pos y], fun n => ⟨fun _ => z1, fun _ => n⟩⟩
          | n + 2, hx => simp at hx
        have ed3 : H3 d = some (.dK kvs) := sk _ _ (s2 _ _ ed)
        refine ⟨_, rfl, qq, rfl, ⟨_, SqT.of eqq⟩, fun D nD => lc_tup (K := K) (a := qq) (xs := W.map V.str) (fun j H' => Same H3 H' ∧ H' D = some (.lst (((W.take j).map (has pr ys)).map V.bl))) ⟨same_new nD, upd_same⟩ (fun j H' _ hP => SqT.of (hP.1 _ _ eqq)) (fun j x H4 hx hP => ?_) (fun H4 hP => ?_)⟩
        · obtain ⟨s4, eD⟩ := hP
          rw [List.getElem?_map] at hx
          cases ee : W[j]? with
          | none =>
            rw [ee] at hx
            cases hx
          | some e =>
            rw [ee] at hx
            cases hx
            refine ⟨rfl, _, rfl, _, rfl, d, _, rfl, DGet.k (k := .inr e) (s4 _ _ ed3), _, eD, ?_, fun y o h => ?_, ?_⟩
            · rw [List.length_map, List.length_map, List.length_take]
              exact small _ (by omega)
            · rw [upd_ne (ne_of_none h nD)]
              exact s4 _ _ h
            · rw [upd_same, List.take_succ, ee, Option.toList_some, List.map_append, List.map_append, hs e] <;> rfl
        · obtain ⟨s4, eD⟩ := hP
          rw [List.length_map, List.take_length] at eD
          refine ⟨D, W.map (has pr ys), rfl, SqL.of eD, _, rfl, ite2 (fun y => ?_) (fun n => ?_)⟩
          · have y2 : W.all (has pr ys) = true := by
              rw [List.all_map] at y
              exact y
            have all := List.all_eq_true.mp y2
            have eqq4 := s4 _ _ eqq
            refine ⟨_, rfl, qq, rfl, ⟨_, SqT.of eqq4⟩, fun D2 nD2 => lc_tup (K := K) (a := qq) (xs := W.map V.str) (fun j H' => Same H4 H' ∧ H' D2 = some (.lst (((W.take j).map (firstOf pr ys)).map V.str))) ⟨same_new nD2, upd_same⟩ (fun j H' _ hP => SqT.of (hP.1 _ _ eqq4)) (fun j x H5 hx hP => ?_) (fun H5 hP => ?_)⟩
            · obtain ⟨s5, eD2⟩ := hP
              rw [List.getElem?_map] at hx
              cases ee : W[j]? with
              | none =>
                rw [ee] at hx
                cases hx
              | some e =>
                rw [ee] at hx
                cases hx
                have hv : valV kvs (.inr e) = some (.str (firstOf pr ys e)) := by
                  have he := all e (List.mem_of_getElem? ee)
                  unfold has at he
                  unfold firstOf
                  rw [kv e]
                  cases w : ys.find? fun z => decide (pr z = e) with
                  | none => rw [w] at he; cases he
                  | some u => rfl
                refine ⟨rfl, _, rfl, _, rfl, d, _, rfl, hv ▸ DGet.k (k := .inr e) (s5 _ _ (s4 _ _ ed3)), _, eD2, ?_, fun y o h => ?_, ?_⟩
                · rw [List.length_map, List.length_map, List.length_take]
                  exact small _ (by omega)
                · rw [upd_ne (ne_of_none h nD2)]
                  exact s5 _ _ h
                · rw [upd_same, List.take_succ, ee, Option.toList_some, List.map_append, List.map_append] <;> rfl
            · obtain ⟨s5, eD2⟩ := hP
              rw [List.length_map, List.take_length] at eD2
              refine ⟨D2, W.map (firstOf pr ys), rfl, SqL.of eD2, by rw [List.length_map]; omega, fun zs p2 pm so np => ⟨p2, _, rfl, .inl ⟨SqL.of upd_same, fun l nl => ?_⟩⟩⟩
              have ez := srt_is pm so
              subst ez
              exact qs _ (yes y2) l _ ((sm.trans (s2.trans (sk.trans (s4.trans s5)))).trans ((same_new np).trans (same_new nl))) upd_same
          · have n2 : W.all (has pr ys) = false := by
              rw [List.all_map] at n
              exact Bool.eq_false_iff.mpr n
            exact ⟨_, _, _, rfl, sk.trans s4, no n2⟩
      · obtain ⟨w3, w4, w5, rfl, sk, no1, no2⟩ := hP
        refine qn ?_ _ (sm.trans (s2.trans sk))
        have z1 := no1 (by show 0 < 2; decide)
        have z2 := no2 (by show 1 < 2; decide)
        unfold wheelR
        rw [z1, z2, if_neg Bool.false_ne_true, if_neg Bool.false_ne_true]
end
end L2.Cal
end

section
set_option maxRecDepth 100000
set_option maxHeartbeats 4000000
namespace L2.Cal
open PySem PySem.Spec PyProof.Rows L2
abbrev sCkT : Stmt := topS 30
theorem scCkT : FnScope ["things", "three"] ["things", "three"] (defScope sCkT) := ⟨rfl, rfl, rfl, by decide +kernel, rfl, by decide +kernel, by decide +kernel⟩
def spCkT : Sp := fun vs H Q _ => ∃ y x : Str, vs = [.str y, .str x] ∧ y.cps.size ≤ 6 ∧ x ∈ tri y.cps.toList ∧ ∀ H', Same H H' → Q .non H'
section
variable {P : Program} {w : World} {K : PySem.W.Frag} {mg : Str → Option Value} {base : Heap} {C : Addr}
theorem ok_ckt {f fS : Addr} {fd fdS : FuncData} (D : DefAt K mg "check_three" sCkT ["things", "three"] f fd) (DS : DefAt K mg "threes_of" sThs ["things"] fS fdS) (T : Txt mg) : FnOk P w K mg base CX0 2 f fd ["things", "three"] spCkT := by
  have GS : FnOk P w K mg base CX0 1 fS fdS ["things"] spThs := ok_ths DS T
  refine D.F.ok scCkT (fun vs H Q E h => ?_) (fun cdv A outer sh H vs Q E hr h => ?_)
  · obtain ⟨y, x, rfl, _⟩ := h
    rfl
  · obtain ⟨y, x, rfl, hy, hx, q⟩ := h
    refine ⟨_, pss_one (ps_if (PW.pt (pw_or (pt_not (pt_val (pe_callB call_isi (by rfl) T.b_isinstance (by decide +kernel) (pa_cons (pv 1) (pa_cons (pe_bty (n := "str") (by rfl) T.b_str (by decide +kernel)) pa_nil))))) (pw_or1 (pt_cmpR op_notIn_seq (pv 1) (pe_call GS (hr.mono (by decide)) (by rfl) DS.g DS.F.kp DS.b .nil pass0 (pa_cons (pv 0) pa_nil)) (by rfl))))) (pss_one ps_never) pss_nil), ?_⟩
    refine ⟨_, rfl, .str x, .ty "str", .type "str", .type "str", true, rfl, .ty _, .base (.str x), rfl, true, rfl, iteF ?_⟩
    refine ⟨_, rfl, _, rfl, y, rfl, hy, fun p H' s n e => ⟨p, _, rfl, .inr (SqT.of e), rfl, by simp [List.all_eq_true, flatV], ?_⟩⟩
    have m : inV (.str x) ((tri y.cps.toList).map V.str) = true := by
      unfold inV
      rw [List.any_eq_true]
      exact ⟨.str x, List.mem_map.mpr ⟨x, hx, rfl⟩, by simp [eqV]⟩
    rw [m]
    exact ⟨false, rfl, iteF (q _ s)⟩
end
end L2.Cal
end

section
set_option maxRecDepth 100000
set_option maxHeartbeats 4000000
/-! a dict that the top has written: its walk -/
namespace L2.Cal
open PySem PySem.Spec PyProof.Rows L2
/-- the keys that stand there -/
def KeysAre (es : Array DictEntry) (ks : List Str) : Prop := es.size = ks.length ∧ ∀ (i : Nat) en, es[i]? = some en → ∃ k t, ks[i]? = some k ∧ en.key = .str k t
def Itw (ks : List Str) : It := ⟨fun i _ => i < ks.length, fun i H v H' => H' = H ∧ ∃ k, ks[i]? = some k ∧ v = .str k, fun i _ => ks.length ≤ i⟩
theorem turn_written {P : Program} {w : World} {K : PySem.W.Frag} {tg : Expr} {d it : Addr} {es : Array DictEntry} {n : Nat} {ks : List Str} (at_ : K.lookup d = some ⟨.type "dict", none, .dict es n, #[]⟩) (ka : KeysAre es ks) :
    Turn P w K tg (Itw ks) [it] it (fun i h => h.IsKeyIter it d i es.size n) where
  mem := List.mem_singleton.mpr rfl
  obj := fun i h st b hb => by
    cases List.mem_singleton.mp hb
    obtain ⟨oi, e, _, dd⟩ := st
    exact ⟨oi, e, fun v z => nomatch dd.symm.trans z⟩
  keep := fun i h h' st k => st.at fun oi e => k it (List.mem_singleton.mpr rfl) oi e
  item := by
    intro X hP hw hK hc i pins s σ H E I hf st hg
    subst hP hw hK
    obtain ⟨g0, g1, g2, g3, g4, g5⟩ := hf it (List.mem_singleton.mpr rfl)
    have hi : i < es.size := by rw [ka.1]; exact hg
    obtain ⟨k, t, hk, ek⟩ := ka.2 i es[i] (Array.getElem?_eq_getElem hi)
    refine next_key_item st (I.kIn _ _ at_) rfl rfl (Array.getElem?_eq_getElem hi) fun h' st' sb => ?_
    have J : Inv X pins σ H { s with heap := h' } := I.turned (t' := s.toks) (fun b ob hb e => (sb.2 b hb).trans e) g0 g1 g3 g4 g5
    obtain ⟨oi, e, c, dd⟩ := id st'
    rw [ek]
    exact ⟨_, rfl, go_of (s := { s with heap := h' }) e c dd (by decide) ⟨.str k, H, J, ⟨t, rfl⟩, ⟨rfl, k, hk, rfl⟩, st', fun b hb => (hf b hb).1⟩⟩
  done := by
    intro X hP hw hK hc i pins s σ H E I hf st hg
    subst hP hw hK
    obtain ⟨g0, g1, g2, g3, g4, g5⟩ := hf it (List.mem_singleton.mpr rfl)
    exact next_key_end (I.ok.hd hc) st (I.kIn _ _ at_) rfl rfl (by rw [ka.1]; exact hg) fun h' eb => ⟨rfl, I.turned (t' := s.toks) (fun b ob hb e => eb b ob hb e) g0 g1 g3 g4 g5⟩
  self := fun A i s Q E st h => wpAny_pyIter_keyiter st h
def iWritten (d : Addr) (ks : List Str) (te : TE) : TI := fun σ H R => te σ H fun v H1 => v = .ref d ∧ R (Itw ks) H1
theorem pi_written {X : Cx} {tg e : Expr} {te : TE} {d : Addr} {es : Array DictEntry} {n : Nat} {ks : List Str} (he : PE X e te) (at_ : X.K.lookup d = some ⟨.type "dict", none, .dict es n, #[]⟩) (low : (d == sysModules) = false) (ka : KeysAre es ks) : PI X tg e (iWritten d ks te) := by
  refine ⟨fun pins s σ H R I h => thn (he.run pins s σ H _ I h) fun u z ⟨x, H1, I1, rx, ex, q⟩ => ?_⟩
  subst ex
  obtain rfl : u = Value.ref d := rx
  exact iter_keys low (I1.kIn _ _ at_) ⟨rfl, rfl, rfl⟩ rfl (pi_one (tk := z.toks) I1 _ (turn_written at_ ka) ⟨_, Heap.get?_push_size _ rfl, rfl, rfl⟩ q)
theorem walk_written {ks : List Str} : Walk (Itw ks) ks.length (fun _ => True) (fun i H x H' => H' = H ∧ ∃ k, ks[i]? = some k ∧ x = .str k) :=
  ⟨fun _ _ hi _ => hi, fun _ _ => Nat.le_refl _, fun _ _ _ _ _ _ y => y⟩
end L2.Cal
end

section
set_option maxRecDepth 100000
set_option maxHeartbeats 4000000
set_option synthInstance.maxHeartbeats 400000
namespace L2.Cal
open PySem PySem.Spec PyProof.Rows L2
abbrev sPla : Stmt := topS 35
theorem scPla : FnScope ["roll", "three", "met", "found", "thing", "where", "order", "each"] ["roll", "three"] (defScope sPla) := ⟨rfl, rfl, rfl, by decide +kernel, rfl, by decide +kernel, by decide +kernel⟩
/-- what the written dict holds -/
structure PosAt (K : PySem.W.Frag) (w : World) (mg : Str → Option Value) (d : Addr) : Prop where
  g : mg "POSITIONS" = some (.ref d)
  at_ : ∃ es n, K.lookup d = some ⟨.type "dict", none, .dict es n, #[]⟩ ∧ KeysAre es (posOf.map (·.1))
  low : (d == sysModules) = false
  get : ∀ q, q ∈ posOf → KDct K w d q.1 (.int (q.2 : Nat))
/-- a roll with its orders, and three of its things -/
structure RollOf (K : PySem.W.Frag) (C : Addr) (H : Hp) (r t : Addr) (y : Str) (ys : List Str) (a b c : Nat) : Prop where
  roll : RollAt C H r t (tidy y)
  tup : SqT K H t (ys.map V.str)
  y6 : (tidy y).cps.size ≤ 6
  z6 : ∀ z, z ∈ ys → z.cps.size ≤ 6
  few : ys.length ≤ 60
  three : s3 a b c ∈ tri (tidy y).cps.toList
  pr3 : ∀ z, z ∈ ys → (press z (s3 a b c)).cps.size = 3
theorem RollOf.same {K : PySem.W.Frag} {C : Addr} {H H' : Hp} {r t : Addr} {y : Str} {ys : List Str} {a b c : Nat} (h : RollOf K C H r t y ys a b c) (s : Same H H') : RollOf K C H' r t y ys a b c :=
  ⟨h.roll.same s, same_seqT h.tup s, h.y6, h.z6, h.few, h.three, h.pr3⟩
def spPla (K : PySem.W.Frag) (C : Addr) : Sp := fun vs H Q _ => ∃ (r t : Addr) (y : Str) (ys : List Str) (a b c : Nat), vs = [.ref r, .str (s3 a b c)] ∧ RollOf K C H r t y ys a b c ∧
  ∀ (p : Addr) (us : List V) (H' : Hp), Same H H' → H' p = some (.tup us) → Prs H' us (placesL (ys.map (prs a b c)) (s3 a b c)) → Q (.ref p) H'
section
variable {P : Program} {w : World} {K : PySem.W.Frag} {mg : Str → Option Value} {base : Heap} {C : Addr}
theorem ok_pla {f fC fK fO fS pT fT pO fOr dP : Addr} {fd fdC fdK fdO fdS fdT fdOr : FuncData} (D : DefAt K mg "places" sPla ["roll", "three"] f fd) (DC : DefAt K mg "check_roll" sChk ["roll"] fC fdC) (DK : DefAt K mg "check_three" sCkT ["things", "three"] fK fdK) (DO : DefAt K mg "threes_of" sThs ["things"] fO fdO)
    (DS : DefAt K mg "standing" sSta ["order", "three"] fS fdS) (PA : PosAt K w mg dP) (T : Txt mg) (R : RollC K mg C)
    (PT : PropOf K C "things" pT fT) (FT : Fun K "things" "Roll.things" sThi fT fdT) (bT : Binds K fdT ["self"] []) (PO : PropOf K C "orders" pO fOr) (FO : Fun K "orders" "Roll.orders" sOrd fOr fdOr) (bO : Binds K fdOr ["self"] []) :
    FnOk P w K mg base CX0 3 f fd ["roll", "three"] (spPla K C) := by
  have GC : FnOk P w K mg base CX0 1 fC fdC ["roll"] (spChk C) := ok_chk DC T R
  have GK : FnOk P w K mg base CX0 2 fK fdK ["things", "three"] spCkT := ok_ckt DK DO T
  have GS : FnOk P w K mg base CX0 1 fS fdS ["order", "three"] spSta := ok_sta DS
  have GT : FnOk P w K mg base CX0 1 fT fdT ["self"] (spThi C) := ok_thi FT R
  have GO : FnOk P w K mg base CX0 1 fOr fdOr ["self"] (spOrd C) := ok_ord FO R
  obtain ⟨es, n, eat, ka⟩ := PA.at_
  refine D.F.ok scPla (fun vs H Q E h => ?_) (fun cdv A outer sh H vs Q E hr h => ?_)
  · obtain ⟨r, t, y, ys, a, b, c, rfl, _⟩ := h
    rfl
  · obtain ⟨r, t, y, ys, a, b, c, rfl, ro, q⟩ := h
    obtain ⟨dx, fs, ha, l1, l2⟩ := id ro.roll
    refine ⟨_, pss_cons (ps_expr (pe_call GC (hr.mono (by decide)) (by rfl) DC.g DC.F.kp DC.b .nil pass0 (pa_cons (pv 0) pa_nil)))
      (pss_cons (ps_expr (pe_call GK (hr.mono (by decide)) (by rfl) DK.g DK.F.kp DK.b .nil pass0 (pa_cons (pe_prop (pv 0) R.cls PT GT (hr.mono (by decide)) bT .nil pass0 rfl) (pa_cons (pv 1) pa_nil))))
      (pss_cons (ps_setLc (i := 2) (own := [("order", 6)]) (g := gName 6) (tt := tYes) rfl scPla.nd rfl rfl (sw_true rfl rfl rfl (by decide +kernel)) (pi_tup (pe_prop (pv 0) R.cls PO GO (hr.mono (by decide)) bO .nil pass0 rfl)) (blkOk_by (own := [("order", 6)]) (N := ["roll", "three", "met", "found", "thing", "where", "order", "each"]) (sc := defScope sPla) (by decide +kernel))
        (fun _ _ _ _ _ => pg_name (i := 6) scPla.nd rfl (Or.inl rfl)) (fun _ _ _ _ _ => pts_nil) (fun _ _ _ _ _ => pe_call GS (hr.mono (by decide)) (by rfl) DS.g DS.F.kp DS.b .nil pass0 (pa_cons (pv 6) (pa_cons (pv 1) pa_nil))))
      (pss_cons (ps_set (i := 3) scPla.nd rfl (.inl rfl) (pe_lstS pa_nil))
      (pss_cons (ps_for PassesOwn.never rfl (pi_str (pv 1)) (pg_name (i := 4) scPla.nd rfl (.inr rfl)) (pss_one (ps_for PassesOwn.never rfl (pi_written (pe_cls (by rfl) PA.g) eat PA.low ka) (pg_name (i := 5) scPla.nd rfl (.inr rfl))
        (pss_one (ps_if (pt_val (pe_callB (cr_all rfl) (by rfl) T.b_all (by decide +kernel) (pa_cons (pe_lc (own := [("each", 7)]) (g := gName 7) (tt := tYes) rfl scPla.nd (pi_list (pv 2)) (blkOk_by (own := [("each", 7)]) (N := ["roll", "three", "met", "found", "thing", "where", "order", "each"]) (sc := defScope sPla) (by decide +kernel))
            (fun _ _ _ _ _ => pg_name (i := 7) scPla.nd rfl (Or.inl rfl)) (fun _ _ _ _ _ => pts_nil) (fun _ _ _ _ _ => pe_cmpR op_ne (pe_ix ix_str (pv 7) (pe_ix (show IxR _ (rIxD K w) from ix_kdict) (pe_cls (by rfl) PA.g) (pv 5) (fun _ _ => rfl)) (fun _ _ => rfl)) (pv 4) (nomark _))) pa_nil)))
          (pss_one (ps_expr (pe_bm PySem.F.plainAttrs_list PySem.F.slot_list_append PySem.F.type_list_append mt_append (pv 3) (pa_cons (pe_tupS (pa_cons (pv 4) (pa_cons (pv 5) pa_nil))) pa_nil)))) pss_nil)))))
      (pss_one (ps_ret (pe_callTy call_tuple_of (by rfl) T.b_tuple (by decide +kernel) (pa_cons (pv 3) pa_nil)))))))), ?_⟩
    have small : ∀ n : Nat, n ≤ 100 → n < sizeLine := fun n h => by rw [sizeLine_eq]; omega
    refine ⟨_, rfl, r, t, _, rfl, ro.roll, ?_⟩
    refine ⟨_, rfl, r, dx, fs, rfl, ha, r, t, _, rfl, ro.roll, _, rfl, tidy y, s3 a b c, rfl, ro.y6, ro.three, fun H1 s1 => ?_⟩
    have ro1 := ro.same s1
    have few := ro.few
    refine ⟨_, rfl, r, dx, fs, rfl, s1 _ _ ha, r, t, _, rfl, ro1.roll, t, rfl, ⟨_, ro1.tup⟩, fun D nD => lc_tup (K := K) (a := t) (xs := ys.map V.str) (fun k H' => Same H1 H' ∧ H' D = some (.lst (((ys.take k).map (prs a b c)).map V.str))) ⟨same_new nD, upd_same⟩ (fun k H' _ hP => same_seqT ro1.tup hP.1) (fun k x H' hx hP => ?_) (fun H2 hP => ?_)⟩
    · obtain ⟨sm, eD⟩ := hP
      rw [List.getElem?_map] at hx
      cases ez : ys[k]? with
      | none =>
        rw [ez] at hx
        cases hx
      | some z =>
        rw [ez] at hx
        cases hx
        have hk := (List.getElem?_eq_some_iff.mp ez).1
        refine ⟨rfl, _, rfl, _, rfl, z, s3 a b c, rfl, ro.z6 z (List.mem_of_getElem? ez), fun H'' s' => ⟨_, s' _ _ eD, ?_, fun v o h => ?_, ?_⟩⟩
        · rw [List.length_map, List.length_map, List.length_take]
          exact small _ (by omega)
        · rw [upd_ne (ne_of_none h nD)]
          exact s' _ _ (sm _ _ h)
        · rw [upd_same, List.take_succ, ez, Option.toList_some, List.map_append, List.map_append] <;> rfl
    · obtain ⟨s2, eD⟩ := hP
      rw [List.length_map, List.take_length] at eD
      generalize hM : ys.map (prs a b c) = M at eD q
      have M3 : ∀ m, m ∈ M → m.cps.size = 3 := fun m hm => by
        rw [← hM] at hm
        obtain ⟨z, hz, rfl⟩ := List.mem_map.mp hm
        exact ro.pr3 z hz
      have Mn : M.length ≤ 60 := by rw [← hM, List.length_map]; exact few
      clear nD
      refine ⟨Nat.le_of_lt (small 0 (by omega)), fun lf H3 s3' n3 e3 => ⟨_, rfl, s3 a b c, rfl, for_it walk_str (fun i σ H' => ∃ v4 v5 v6 v7 us, σ = [some (.ref r), some (.str (s3 a b c)), some (.ref D), some (.ref lf), v4, v5, v6, v7] ∧ Same H2 H' ∧ H' lf = some (.lst us) ∧ Prs H' us (((signs (s3 a b c)).take i).flatMap (spotsOf M)))
        ⟨_, _, _, _, [], rfl, s3', e3, .nil⟩ (fun _ _ _ _ _ => trivial) (fun i x σ H4 H5 hi hP hY => ?_) (fun σ H4 hP => ?_)⟩⟩
      · obtain ⟨v4, v5, v6, v7, us, rfl, sm, el, pr⟩ := hP
        obtain ⟨rfl, ch, hch, rfl⟩ := hY
        generalize ht : (⟨#[ch]⟩ : Str) = th
        have ith : (signs (s3 a b c))[i]? = some th := by
          unfold signs
          rw [List.getElem?_map, Array.getElem?_toList, hch, ← ht] <;> rfl
        have b9 : (((signs (s3 a b c)).take i).flatMap (spotsOf M)).length ≤ 9 := by
          have h1 := flat_le ((signs (s3 a b c)).take i) (f := spotsOf M) (n := 3) fun t _ => by
            unfold spotsOf
            rw [List.length_map]
            exact List.length_filter_le _ _
          have h2 : ((signs (s3 a b c)).take i).length ≤ 3 := by
            rw [List.length_take]
            exact Nat.min_le_right _ _
          omega
        refine ⟨rfl, for_it walk_written (fun j σ H' => ∃ v5 v6 v7 us, σ = [some (.ref r), some (.str (s3 a b c)), some (.ref D), some (.ref lf), some (.str th), v5, v6, v7] ∧ Same H2 H' ∧ H' lf = some (.lst us) ∧
            Prs H' us (((signs (s3 a b c)).take i).flatMap (spotsOf M) ++ ((posOf.take j).filter fun q => M.all fun m => !decide (atP m q.2 = th)).map fun q => (th, q.1)))
          ⟨_, _, _, us, rfl, sm, el, by simpa using pr⟩ (fun _ _ _ _ _ => trivial) (fun j x σ H6 H7 hj hP hY => ?_) (fun σ H6 hP => ?_)⟩
        · obtain ⟨v5, v6, v7, us, rfl, sm, el, pr⟩ := hP
          obtain ⟨rfl, k, hk, rfl⟩ := hY
          rw [List.getElem?_map] at hk
          cases eq : posOf[j]? with
          | none =>
            rw [eq] at hk
            cases hk
          | some kp =>
            rw [eq] at hk
            cases hk
            obtain ⟨k, p⟩ := kp
            have kin := List.mem_of_getElem? eq
            have p3 : p < 3 := by
              simp only [posOf, List.mem_cons, Prod.mk.injEq, List.not_mem_nil, or_false] at kin
              omega
            have st : ((posOf.take (j + 1)).filter fun q => M.all fun m => !decide (atP m q.2 = th)).map (fun q => (th, q.1)) = ((posOf.take j).filter fun q => M.all fun m => !decide (atP m q.2 = th)).map (fun q => (th, q.1)) ++ if (M.all fun m => !decide (atP m p = th)) = true then [(th, k)] else [] := by
              rw [List.take_succ, eq, Option.toList_some, List.filter_append, List.map_append, List.filter_cons]
              split <;> rfl
            have eD7 : H7 D = some (.lst (M.map V.str)) := sm _ _ eD
            refine ⟨_, rfl, D, rfl, ⟨_, SqL.of eD7⟩, fun D2 nD2 => lc_list (K := K) (a := D) (xs := M.map V.str) (fun n H' => Same H7 H' ∧ H' D2 = some (.lst (((M.take n).map fun m => !decide (atP m p = th)).map V.bl))) ⟨same_new nD2, upd_same⟩ (fun n H' _ hP => SqL.of (hP.1 _ _ eD7)) (fun n x H8 hx hP => ?_) (fun H8 hP => ?_)⟩
            · obtain ⟨s8, e8⟩ := hP
              rw [List.getElem?_map] at hx
              cases em : M[n]? with
              | none =>
                rw [em] at hx
                cases hx
              | some m =>
                rw [em] at hx
                cases hx
                have hn := (List.getElem?_eq_some_iff.mp em).1
                have ms := M3 m (List.mem_of_getElem? em)
                have pm : p < m.cps.size := by omega
                have atm : atI m.cps.toList (p : Nat) = some (m.cps.getD p 0) := atI_nat (j := p) (by
                  rw [Array.getElem?_toList, Array.getD_eq_getD_getElem?, Array.getElem?_eq_getElem pm] <;> rfl)
                refine ⟨rfl, _, rfl, _, rfl, dP, k, .int (p : Nat), rfl, rfl, PA.get _ kin, m, _, _, rfl, rfl, (by show m.cps.size ≤ _; rw [ms]; exact Nat.le_of_lt (small 3 (by omega))), atm, _, rfl, rfl, ?_⟩
                refine ⟨_, e8, ?_, fun v o h => ?_, ?_⟩
                · rw [List.length_map, List.length_map, List.length_take]
                  exact small _ (by omega)
                · rw [upd_ne (ne_of_none h nD2)]
                  exact s8 _ _ h
                · have ed : decide (V.str (⟨#[m.cps.getD p 0]⟩ : Str) = V.str th) = decide (atP m p = th) := by
                    rw [decide_eq_decide]
                    exact ⟨fun e => V.str.inj e, fun e => congrArg V.str e⟩
                  rw [upd_same, List.take_succ, em, Option.toList_some, List.map_append, List.map_append, ed] <;> rfl
            · obtain ⟨s8, e8⟩ := hP
              rw [List.length_map, List.take_length] at e8
              refine ⟨D2, M.map fun m => !decide (atP m p = th), rfl, SqL.of e8, _, rfl, ite2 (fun yes => ?_) (fun no => ?_)⟩
              · rw [List.all_map] at yes
                have yes2 : (M.all fun m => !decide (atP m p = th)) = true := yes
                have pr8 := pr.keep (H' := H8) fun b xs e => s8 _ _ e
                have el8 := s8 _ _ el
                refine ⟨_, rfl, .inl ⟨rfl, _, SqL.of el8⟩, _, rfl, _, rfl, Nat.le_of_lt (small 2 (by omega)), fun q9 H9 s9 n9 e9 => ⟨lf, us, .ref q9, rfl, rfl, s9 _ _ el8, ?_, ?_⟩⟩
                · rw [pr.length, List.length_append, List.length_map]
                  have := List.length_filter_le (fun q : Str × Nat => M.all fun m => !decide (atP m q.2 = th)) (posOf.take j)
                  rw [List.length_take] at this
                  have e3 : posOf.length = 3 := rfl
                  exact small _ (by omega)
                · have el9 := s9 _ _ el8
                  have kp : ∀ b xs, H9 b = some (HO.tup xs) → (upd H9 lf (.lst (us ++ [.ref q9]))) b = some (HO.tup xs) := fun b xs e => by
                    rw [upd_ne (fun z => by rw [z, el9] at e; cases e)]
                    exact e
                  refine ⟨_, _, _, us ++ [.ref q9], rfl, fun v o h => ?_, upd_same, ?_⟩
                  · rw [upd_ne (fun z => by rw [z, n3] at h; cases h)]
                    exact s9 _ _ (s8 _ _ (sm _ _ h))
                  · rw [st, if_pos yes2, ← List.append_assoc]
                    exact ((pr8.keep fun b xs e => s9 _ _ e).snoc e9).keep kp
              · rw [List.all_map] at no
                have no2 : ¬ (M.all fun m => !decide (atP m p = th)) = true := no
                refine ⟨_, _, _, us, rfl, sm.trans s8, s8 _ _ el, ?_⟩
                rw [st, if_neg no2, List.append_nil]
                exact pr.keep fun b xs e => s8 _ _ e
        · obtain ⟨v5, v6, v7, us, rfl, sm, el, pr⟩ := hP
          refine ⟨_, _, _, _, us, rfl, sm, el, ?_⟩
          rw [flat_take ith]
          exact pr
      · obtain ⟨v4, v5, v6, v7, us, rfl, sm, el, pr⟩ := hP
        refine ⟨_, rfl, lf, us, rfl, .inl ⟨SqL.of el, fun l nl => ?_⟩⟩
        have kp : ∀ b xs, H4 b = some (HO.tup xs) → (upd H4 l (.tup us)) b = some (HO.tup xs) := fun b xs e => by
          rw [upd_ne (ne_of_none e nl)]
          exact e
        refine q l us _ ((s1.trans s2).trans (sm.trans (same_new nl))) upd_same (pr.keep kp)
end
end L2.Cal
end

section
set_option maxRecDepth 100000
set_option maxHeartbeats 4000000
/-! orders of hills, pure -/
namespace L2.Cal
open PySem PySem.Spec PyProof.Rows L2
theorem nodup_at {l : List Nat} (n : l.Nodup) {i j : Nat} {hi : i < l.length} {hj : j < l.length} (e : l[i] = l[j]) : i = j := by
  have q := List.pairwise_iff_getElem.mp n
  rcases Nat.lt_trichotomy i j with h | h | h
  · exact absurd e (q i j hi hj h)
  · exact h
  · exact absurd e.symm (q j i hj hi h)
theorem mid_in {L : List Nat} {A B i : Nat} (n : L.Nodup) (hi : i < L.length) : L[i] ∈ (L.take B).drop A ↔ A ≤ i ∧ i < B := by
  rw [List.mem_iff_getElem?]
  constructor
  · rintro ⟨k, hk⟩
    rw [List.getElem?_drop, List.getElem?_take] at hk
    split at hk
    · rename_i lt
      obtain ⟨h, e⟩ := List.getElem?_eq_some_iff.mp hk
      have := nodup_at n e
      omega
    · cases hk
  · rintro ⟨h1, h2⟩
    refine ⟨i - A, ?_⟩
    rw [List.getElem?_drop, List.getElem?_take, if_pos (by omega), show A + (i - A) = i by omega, List.getElem?_eq_getElem hi]
theorem hill_last {L z S : List Nat} (n : L.Nodup) (p : z.Perm L) (hil : ∀ n, n ≤ z.length → ∃ A B, (z.take n).Perm ((L.take B).drop A)) {u v w : Nat} (uv : u < v) (vw : v < w) (hw : w < L.length)
    (hu : L[u] ∈ S) (hv : L[v] ∈ S) (hw' : L[w] ∈ S) : (z.filter fun c => decide (c ∈ S)).getLast? ≠ some L[v] := by
  intro e
  have nz : z.Nodup := p.nodup_iff.mpr n
  obtain ⟨s, t, rfl⟩ := List.append_of_mem (p.mem_iff.mpr (List.getElem_mem (show v < L.length by omega)))
  have nd := List.nodup_append.mp nz
  have nt : L[v] ∉ t := (List.nodup_cons.mp nd.2.1).1
  have ns : L[v] ∉ s := fun h => nd.2.2 _ h _ (List.mem_cons_self ..) rfl
  have ft : t.filter (fun c => decide (c ∈ S)) = [] := by
    rw [List.filter_append, List.filter_cons, if_pos (decide_eq_true hv)] at e
    cases q : t.filter (fun c => decide (c ∈ S)) with
    | nil => rfl
    | cons x r =>
      rw [q] at e
      have e2 : (x :: r).getLast? = some L[v] := by
        rw [List.getLast?_append, List.getLast?_cons_cons] at e
        cases h : (x :: r).getLast? with
        | none => simp at h
        | some y =>
          rw [h] at e
          simpa using e
      have := List.mem_of_getLast? e2
      rw [← q] at this
      exact absurd (List.mem_filter.mp this).1 nt
  have ins : ∀ i, (hi : i < L.length) → i ≠ v → L[i] ∈ S → L[i] ∈ s := fun i hi ne hS => by
    rcases List.mem_append.mp (p.mem_iff.mpr (List.getElem_mem hi)) with h | h
    · exact h
    · rcases List.mem_cons.mp h with h | h
      · exact absurd (nodup_at n h) ne
      · have : L[i] ∈ t.filter (fun c => decide (c ∈ S)) := List.mem_filter.mpr ⟨h, decide_eq_true hS⟩
        rw [ft] at this
        cases this
  obtain ⟨A, B, q⟩ := hil s.length (by simp)
  rw [List.take_left] at q
  have h1 := (mid_in n (by omega)).mp (q.mem_iff.mp (ins u (by omega) (by omega) hu))
  have h2 := (mid_in n hw).mp (q.mem_iff.mp (ins w hw (by omega) hw'))
  exact ns (q.mem_iff.mpr ((mid_in n (by omega)).mpr ⟨by omega, by omega⟩))
/-- no wheel if one of the three is never last -/
theorem never_last {pr : Str → Str} {ys : List Str} {a b c m : Nat} (hm : m = a ∨ m = b ∨ m = c) (h : ∀ z, z ∈ ys → (pr z).cps.toList.getLast? ≠ some m) : wheelR pr ys a b c = none := by
  have no : ∀ W : List Str, (∃ e, e ∈ W ∧ e.cps.toList.getLast? = some m) → ¬ W.all (has pr ys) = true := fun W ⟨e, he, hl⟩ y => by
    have := first_is (List.all_eq_true.mp y e he)
    exact h _ this.1 (by rw [this.2]; exact hl)
  unfold wheelR
  rw [if_neg (no _ ?_), if_neg (no _ ?_)]
  · rcases hm with rfl | rfl | rfl
    · exact ⟨s3 c b m, by simp [W2], rfl⟩
    · exact ⟨s3 a c m, by simp [W2], rfl⟩
    · exact ⟨s3 b a m, by simp [W2], rfl⟩
  · rcases hm with rfl | rfl | rfl
    · exact ⟨s3 b c m, by simp [W1], rfl⟩
    · exact ⟨s3 c a m, by simp [W1], rfl⟩
    · exact ⟨s3 a b m, by simp [W1], rfl⟩
/-- fewer orders, no wheel more -/
theorem wheel_sub {pr : Str → Str} {ys zs : List Str} {a b c : Nat} (sub : ∀ z, z ∈ zs → z ∈ ys) (h : wheelR pr ys a b c = none) : wheelR pr zs a b c = none := by
  have up : ∀ W : List Str, W.all (has pr zs) = true → W.all (has pr ys) = true := fun W y => by
    rw [List.all_eq_true] at y ⊢
    intro e he
    have h1 := y e he
    rw [has_map, decide_eq_true_eq] at h1 ⊢
    obtain ⟨z, hz, e⟩ := List.mem_map.mp h1
    exact List.mem_map.mpr ⟨z, sub z hz, e⟩
  have n1 : ¬ (W1 a b c).all (has pr ys) = true := fun y => by
    unfold wheelR at h
    rw [if_pos y] at h
    cases h
  have n2 : ¬ (W2 a b c).all (has pr ys) = true := fun y => by
    unfold wheelR at h
    rw [if_neg n1, if_pos y] at h
    cases h
  unfold wheelR
  rw [if_neg fun y => n1 (up _ y), if_neg fun y => n2 (up _ y)]
end L2.Cal
end

section
set_option maxRecDepth 100000
set_option maxHeartbeats 4000000
set_option synthInstance.maxHeartbeats 400000
namespace L2.Cal
open PySem PySem.Spec PyProof.Rows L2
abbrev sRou : Stmt := topS 36
theorem scRou : FnScope ["roll", "three", "wheel"] ["roll"] (defScope sRou) := ⟨rfl, rfl, rfl, by decide +kernel, rfl, by decide +kernel, by decide +kernel⟩
abbrev sIsC : Stmt := topS 37
theorem scIsC : FnScope ["roll"] ["roll"] (defScope sIsC) := ⟨rfl, rfl, rfl, by decide +kernel, rfl, by decide +kernel, by decide +kernel⟩
/-- the wheel of some orders upon three things -/
def wheelAt (ys : List Str) (x : Str) : Option (List Str) := wheelR (fun z => press z x) ys (x.cps.getD 0 0) (x.cps.getD 1 0) (x.cps.getD 2 0)
theorem wheelAt_s3 (ys : List Str) (a b c : Nat) : wheelAt ys (s3 a b c) = wheelR (prs a b c) ys a b c := rfl
/-- the first three things with a wheel -/
def roughR (ys : List Str) (cs : List Nat) : Option (Str × List Str) := (tri cs).findSome? fun x => (wheelAt ys x).map fun zs => (x, zs)
theorem rough_none {ys : List Str} {cs : List Nat} : roughR ys cs = none ↔ ∀ x, x ∈ tri cs → wheelAt ys x = none := by
  unfold roughR
  rw [List.findSome?_eq_none_iff]
  refine forall_congr' fun x => forall_congr' fun _ => ?_
  cases wheelAt ys x <;> simp
theorem rough_some {ys : List Str} {cs : List Nat} {k : Nat} {x : Str} {zs : List Str} (hx : (tri cs)[k]? = some x) (no : ∀ u, u ∈ (tri cs).take k → wheelAt ys u = none) (h : wheelAt ys x = some zs) : roughR ys cs = some (x, zs) := by
  unfold roughR
  obtain ⟨hk, e⟩ := List.getElem?_eq_some_iff.mp hx
  rw [← List.take_append_drop k (tri cs), List.findSome?_append, List.drop_eq_getElem_cons hk, e, List.findSome?_cons, h]
  rw [List.findSome?_eq_none_iff.mpr fun u hu => by rw [no u hu] <;> rfl]
  rfl
theorem rough_at {ys : List Str} {cs : List Nat} {x : Str} {zs : List Str} (h : roughR ys cs = some (x, zs)) : x ∈ tri cs ∧ wheelAt ys x = some zs := by
  obtain ⟨u, hu, e⟩ := List.exists_of_findSome?_eq_some h
  cases q : wheelAt ys u with
  | none => rw [q] at e; cases e
  | some vs =>
    rw [q] at e
    cases e
    exact ⟨hu, q⟩
/-- a roll with its orders -/
structure RollY (K : PySem.W.Frag) (C : Addr) (H : Hp) (r t : Addr) (y : Str) (ys : List Str) : Prop where
  roll : RollAt C H r t (tidy y)
  tup : SqT K H t (ys.map V.str)
  y6 : (tidy y).cps.size ≤ 6
  z6 : ∀ z, z ∈ ys → z.cps.size ≤ 6
  few : ys.length ≤ 60
theorem RollY.same {K : PySem.W.Frag} {C : Addr} {H H' : Hp} {r t : Addr} {y : Str} {ys : List Str} (h : RollY K C H r t y ys) (s : Same H H') : RollY K C H' r t y ys :=
  ⟨h.roll.same s, same_seqT h.tup s, h.y6, h.z6, h.few⟩
def spRou (K : PySem.W.Frag) (C : Addr) : Sp := fun vs H Q _ => ∃ (r t : Addr) (y : Str) (ys : List Str), vs = [.ref r] ∧ RollY K C H r t y ys ∧
  (roughR ys (tidy y).cps.toList = none → ∀ H', Same H H' → Q .non H') ∧
  ∀ x zs, roughR ys (tidy y).cps.toList = some (x, zs) → ∀ (p q : Addr) (H' : Hp), Same H H' → H' p = some (.tup [.str x, .ref q]) → H' q = some (.tup (zs.map V.str)) → Q (.ref p) H'
def spIsC (K : PySem.W.Frag) (C : Addr) : Sp := fun vs H Q _ => ∃ (r t : Addr) (y : Str) (ys : List Str), vs = [.ref r] ∧ RollY K C H r t y ys ∧ ∀ H', Same H H' → Q (.bl (decide (roughR ys (tidy y).cps.toList = none))) H'
section
variable {P : Program} {w : World} {K : PySem.W.Frag} {mg : Str → Option Value} {base : Heap} {C : Addr}
theorem ok_rou {f fC fO fS fU fW pT fT pO fOr : Addr} {fd fdC fdO fdS fdU fdW fdT fdOr : FuncData} (D : DefAt K mg "rough" sRou ["roll"] f fd) (DC : DefAt K mg "check_roll" sChk ["roll"] fC fdC) (DO : DefAt K mg "threes_of" sThs ["things"] fO fdO)
    (DS : DefAt K mg "standing" sSta ["order", "three"] fS fdS) (DU : DefAt K mg "wheels_upon" sWup ["three"] fU fdU) (DW : DefAt K mg "wheel_among" sWam ["orders", "three"] fW fdW) (T : Txt mg) (R : RollC K mg C)
    (PT : PropOf K C "things" pT fT) (FT : Fun K "things" "Roll.things" sThi fT fdT) (bT : Binds K fdT ["self"] []) (PO : PropOf K C "orders" pO fOr) (FO : Fun K "orders" "Roll.orders" sOrd fOr fdOr) (bO : Binds K fdOr ["self"] []) :
    FnOk P w K mg base CX0 3 f fd ["roll"] (spRou K C) := by
  have GC : FnOk P w K mg base CX0 1 fC fdC ["roll"] (spChk C) := ok_chk DC T R
  have GS : FnOk P w K mg base CX0 1 fO fdO ["things"] spThs := ok_ths DO T
  have GW : FnOk P w K mg base CX0 2 fW fdW ["orders", "three"] (spWam K) := ok_wam DW DS DU T
  have GT : FnOk P w K mg base CX0 1 fT fdT ["self"] (spThi C) := ok_thi FT R
  have GO : FnOk P w K mg base CX0 1 fOr fdOr ["self"] (spOrd C) := ok_ord FO R
  refine D.F.ok scRou (fun vs H Q E h => ?_) (fun cdv A outer sh H vs Q E hr h => ?_)
  · obtain ⟨r, t, y, ys, rfl, _⟩ := h
    rfl
  · obtain ⟨r, t, y, ys, rfl, ro, qn, qs⟩ := h
    obtain ⟨dx, fs, ha, l1, l2⟩ := id ro.roll
    refine ⟨_, pss_cons (ps_expr (pe_call GC (hr.mono (by decide)) (by rfl) DC.g DC.F.kp DC.b .nil pass0 (pa_cons (pv 0) pa_nil)))
      (pss_cons (ps_for PassesOwn.never rfl (pi_tup (pe_call GS (hr.mono (by decide)) (by rfl) DO.g DO.F.kp DO.b .nil pass0 (pa_cons (pe_prop (pv 0) R.cls PT GT (hr.mono (by decide)) bT .nil pass0 rfl) pa_nil))) (pg_name (i := 1) scRou.nd rfl (.inl rfl))
        (pss_cons (ps_set (i := 2) scRou.nd rfl (.inl rfl) (pe_call GW (hr.mono (by decide)) (by rfl) DW.g DW.F.kp DW.b .nil pass0 (pa_cons (pe_prop (pv 0) R.cls PO GO (hr.mono (by decide)) bO .nil pass0 rfl) (pa_cons (pv 1) pa_nil))))
        (pss_one (ps_if (pt_cmp (pc_notN (pv 2))) (pss_one (ps_ret (pe_tupS (pa_cons (pv 1) (pa_cons (pv 2) pa_nil))))) pss_nil))))
      (pss_one (ps_ret pe_non))), ?_⟩
    refine ⟨_, rfl, r, t, _, rfl, ro.roll, ?_⟩
    refine ⟨_, rfl, r, dx, fs, rfl, ha, r, t, _, rfl, ro.roll, tidy y, rfl, ro.y6, fun p H1 s1 np ep => ⟨p, rfl, ⟨_, SqT.of ep⟩, for_tup (K := K) (a := p) (xs := (tri (tidy y).cps.toList).map V.str)
      (fun k σ H' => ∃ v1 v2, σ = [some (.ref r), v1, v2] ∧ Same H1 H' ∧ ∀ u, u ∈ (tri (tidy y).cps.toList).take k → wheelAt ys u = none) ⟨_, _, rfl, fun _ _ z => z, fun u hu => by simp at hu⟩ (fun k σ H' _ hP => ?_) (fun k x σ H2 hx hP => ?_) (fun σ H2 hP => ?_)⟩⟩
    · obtain ⟨_, _, _, sm, _⟩ := hP
      exact SqT.of (sm _ _ ep)
    · obtain ⟨v1, v2, rfl, sm, no⟩ := hP
      rw [List.getElem?_map] at hx
      cases ex : (tri (tidy y).cps.toList)[k]? with
      | none =>
        rw [ex] at hx
        cases hx
      | some u =>
        rw [ex] at hx
        cases hx
        obtain ⟨a, b, c, _, _, _, _, _, rfl⟩ := mem_tri.mp (List.mem_of_getElem? ex)
        have S2 := s1.trans sm
        have ro2 := ro.same S2
        refine ⟨_, rfl, r, dx, fs, rfl, S2 _ _ ha, r, t, _, rfl, ro2.roll, _, rfl, t, ys, a, b, c, rfl, ro2.tup, ro.z6, ro.few, fun e H3 s3' => ?_, fun zs e q H3 s3' eq => ?_⟩
        · refine ⟨_, rfl, false, by simp, iteF ⟨_, _, rfl, sm.trans s3', fun u hu => ?_⟩⟩
          rw [List.take_succ, ex, Option.toList_some, List.mem_append, List.mem_singleton] at hu
          rcases hu with hu | rfl
          · exact no u hu
          · exact e
        · refine ⟨_, rfl, true, by simp, iteT ?_⟩
          refine ⟨_, rfl, _, rfl, (by show 2 ≤ sizeLine; decide), fun q2 H4 s4 n4 e4 => ?_⟩
          exact qs _ zs (rough_some ex no e) q2 q _ (S2.trans (s3'.trans s4)) e4 (s4 _ _ eq)
    · obtain ⟨v1, v2, rfl, sm, no⟩ := hP
      rw [List.length_map, List.take_length] at no
      exact qn (rough_none.mpr no) _ (s1.trans sm)
theorem ok_isc {f fR fC fO fS fU fW pT fT pO fOr : Addr} {fd fdR fdC fdO fdS fdU fdW fdT fdOr : FuncData} (D : DefAt K mg "is_calm" sIsC ["roll"] f fd) (DR : DefAt K mg "rough" sRou ["roll"] fR fdR) (DC : DefAt K mg "check_roll" sChk ["roll"] fC fdC) (DO : DefAt K mg "threes_of" sThs ["things"] fO fdO)
    (DS : DefAt K mg "standing" sSta ["order", "three"] fS fdS) (DU : DefAt K mg "wheels_upon" sWup ["three"] fU fdU) (DW : DefAt K mg "wheel_among" sWam ["orders", "three"] fW fdW) (T : Txt mg) (R : RollC K mg C)
    (PT : PropOf K C "things" pT fT) (FT : Fun K "things" "Roll.things" sThi fT fdT) (bT : Binds K fdT ["self"] []) (PO : PropOf K C "orders" pO fOr) (FO : Fun K "orders" "Roll.orders" sOrd fOr fdOr) (bO : Binds K fdOr ["self"] []) :
    FnOk P w K mg base CX0 4 f fd ["roll"] (spIsC K C) := by
  have GR : FnOk P w K mg base CX0 3 fR fdR ["roll"] (spRou K C) := ok_rou DR DC DO DS DU DW T R PT FT bT PO FO bO
  refine D.F.ok scIsC (fun vs H Q E h => ?_) (fun cdv A outer sh H vs Q E hr h => ?_)
  · obtain ⟨r, t, y, ys, rfl, _⟩ := h
    rfl
  · obtain ⟨r, t, y, ys, rfl, ro, q⟩ := h
    refine ⟨_, pss_one (ps_ret (pe_cmp (pc_isN (pe_call GR (hr.mono (by decide)) (by rfl) DR.g DR.F.kp DR.b .nil pass0 (pa_cons (pv 0) pa_nil))))), ?_⟩
    refine ⟨_, rfl, r, t, y, ys, rfl, ro, fun e H1 s1 => ?_, fun x zs e p q' H1 s1 _ _ => ?_⟩
    · have := q H1 s1
      rw [decide_eq_true e] at this
      simpa using this
    · have := q H1 s1
      rw [decide_eq_false (by rw [e]; exact fun z => by cases z)] at this
      simpa using this
end
end L2.Cal
end

section
set_option maxRecDepth 100000
set_option maxHeartbeats 4000000
namespace L2.Cal
open PySem PySem.Spec PyProof.Rows L2
abbrev sThr : Stmt := topS 34
theorem scThr : FnScope ["roll"] ["roll"] (defScope sThr) := ⟨rfl, rfl, rfl, by decide +kernel, rfl, by decide +kernel, by decide +kernel⟩
def spThr (C : Addr) : Sp := fun vs H Q _ => ∃ (a t : Addr) (z : Str), vs = [.ref a] ∧ RollAt C H a t z ∧ z.cps.size ≤ 6 ∧ ∀ (p : Addr) (H' : Hp), Same H H' → H p = none → H' p = some (.tup ((tri z.cps.toList).map V.str)) → Q (.ref p) H'
section
variable {P : Program} {w : World} {K : PySem.W.Frag} {mg : Str → Option Value} {base : Heap} {C : Addr}
theorem ok_thr {f fC fS pT fT : Addr} {fd fdC fdS fdT : FuncData} (D : DefAt K mg "threes" sThr ["roll"] f fd) (DC : DefAt K mg "check_roll" sChk ["roll"] fC fdC) (DS : DefAt K mg "threes_of" sThs ["things"] fS fdS) (T : Txt mg) (R : RollC K mg C)
    (PT : PropOf K C "things" pT fT) (FT : Fun K "things" "Roll.things" sThi fT fdT) (bT : Binds K fdT ["self"] []) : FnOk P w K mg base CX0 3 f fd ["roll"] (spThr C) := by
  have GC : FnOk P w K mg base CX0 1 fC fdC ["roll"] (spChk C) := ok_chk DC T R
  have GS : FnOk P w K mg base CX0 1 fS fdS ["things"] spThs := ok_ths DS T
  have GT : FnOk P w K mg base CX0 1 fT fdT ["self"] (spThi C) := ok_thi FT R
  refine D.F.ok scThr (fun vs H Q E h => ?_) (fun cdv A outer sh H vs Q E hr h => ?_)
  · obtain ⟨a, t, z, rfl, _⟩ := h
    rfl
  · obtain ⟨a, t, z, rfl, hR, hz, q⟩ := h
    obtain ⟨dx, fs, ha, l1, l2⟩ := id hR
    refine ⟨_, pss_cons (ps_expr (pe_call GC (hr.mono (by decide)) (by rfl) DC.g DC.F.kp DC.b .nil pass0 (pa_cons (pv 0) pa_nil)))
      (pss_one (ps_ret (pe_call GS (hr.mono (by decide)) (by rfl) DS.g DS.F.kp DS.b .nil pass0 (pa_cons (pe_prop (pv 0) R.cls PT GT (hr.mono (by decide)) bT .nil pass0 rfl) pa_nil)))), ?_⟩
    exact ⟨_, rfl, a, t, z, rfl, hR, _, rfl, a, dx, fs, rfl, ha, a, t, _, rfl, hR, z, rfl, hz, q⟩
end
end L2.Cal
end

section
set_option maxRecDepth 100000
set_option maxHeartbeats 4000000
/-! what is told of a crowd, as data -/
namespace L2.Cal
open PySem PySem.Spec PyProof.Rows L2 CpPerm
open TL
/-- data that can be shown: how heavy, how deep -/
structure Fine (d : PyData) (w k : Nat) : Prop where
  sh : d.showable = true
  lf : d.leavesShort 40 = true
  wt : d.weight ≤ w
  dp : d.depth ≤ k
theorem Fine.mono {d : PyData} {w k w' k' : Nat} (h : Fine d w k) (hw : w ≤ w') (hk : k ≤ k') : Fine d w' k' := ⟨h.sh, h.lf, Nat.le_trans h.wt hw, Nat.le_trans h.dp hk⟩
theorem Fine.non : Fine .none 0 0 := ⟨by simp [PyData.showable], by simp [PyData.leavesShort], by simp [PyData.weight], by simp [PyData.depth]⟩
theorem Fine.bl (b : Bool) : Fine (.bool b) 0 0 := ⟨by simp [PyData.showable], by simp [PyData.leavesShort], by simp [PyData.weight], by simp [PyData.depth]⟩
theorem Fine.str {s : Str} {m : Nat} (n : s.cps.size ≤ m) (h : ∀ c ∈ s.cps.toList, c < 16 ^ 8) : Fine (.str s) m 0 := by
  refine ⟨by simp [PyData.showable], ?_, by simp only [PyData.weight]; exact n, by simp [PyData.depth]⟩
  simp only [PyData.leavesShort, List.all_eq_true]
  exact fun c hc => decide_eq_true (h c hc)
theorem Fine.int {i : Int} (h0 : 0 ≤ i) (h : i < 10 ^ 33) : Fine (.int i) 111 0 := by
  have l := log_big h0 h
  refine ⟨?_, ?_, ?_, by simp [PyData.depth]⟩
  · simp only [PyData.showable]
    exact decide_eq_true (by omega)
  · simp only [PyData.leavesShort]
    exact decide_eq_true (shown_big h0 h)
  · simp only [PyData.weight]
    split <;> omega
theorem Fine.all {w k : Nat} : ∀ {ds : List PyData}, (∀ d ∈ ds, Fine d w k) → PyData.showableAll ds = true ∧ PyData.leavesShortAll 40 ds = true ∧ PyData.weightAll ds ≤ ds.length * (w + 1) ∧ PyData.depthAll ds ≤ k
  | [], _ => ⟨by simp [PyData.showableAll], by simp [PyData.leavesShortAll], by simp [PyData.weightAll], by simp [PyData.depthAll]⟩
  | d :: ds, h => by
    have a := h d List.mem_cons_self
    obtain ⟨h1, h2, h3, h4⟩ := Fine.all (ds := ds) fun e he => h e (List.mem_cons_of_mem _ he)
    have wt := a.wt
    have dp := a.dp
    refine ⟨?_, ?_, ?_, ?_⟩
    · simp only [PyData.showableAll, a.sh, h1, Bool.and_self]
    · simp only [PyData.leavesShortAll, a.lf, h2, Bool.and_self]
    · simp only [PyData.weightAll, List.length_cons, Nat.succ_mul]
      omega
    · simp only [PyData.depthAll]
      omega
theorem Fine.lst {w k n : Nat} {ds : List PyData} (h : ∀ d ∈ ds, Fine d w k) (l : ds.length ≤ n) : Fine (.list ds) (n * (w + 1)) (k + 1) := by
  obtain ⟨h1, h2, h3, h4⟩ := Fine.all h
  have := Nat.mul_le_mul_right (w + 1) l
  exact ⟨by simp only [PyData.showable, h1], by simp only [PyData.leavesShort, h2], by simp only [PyData.weight]; omega, by simp only [PyData.depth]; omega⟩
theorem Fine.tup {w k n : Nat} {ds : List PyData} (h : ∀ d ∈ ds, Fine d w k) (l : ds.length ≤ n) : Fine (.tuple ds) (n * (w + 1)) (k + 1) := by
  obtain ⟨h1, h2, h3, h4⟩ := Fine.all h
  have := Nat.mul_le_mul_right (w + 1) l
  exact ⟨by simp only [PyData.showable, h1], by simp only [PyData.leavesShort, h2], by simp only [PyData.weight]; omega, by simp only [PyData.depth]; omega⟩
theorem Fine.rep {d : PyData} {w k : Nat} (h : Fine d w k) (hw : w ≤ 300000) (hk : k ≤ 40) : d.showable = true ∧ d.shown.length ≤ sizeLine ∧ d.depth ≤ 40 := by
  have := PyData.shown_le 40 (by decide) d h.lf
  have := h.wt
  have := h.dp
  exact ⟨h.sh, by rw [sizeLine_eq]; omega, by omega⟩
/-! ### the answers -/
def vD : V → PyData
  | .str s => .str s
  | _ => .none
def winV (z : Str) (ys : List Str) (ns : List Int) : V := match winS z ys ns with | some a => .str (chS a) | none => .non
def rouD (ys : List Str) (cs : List Nat) : PyData := match roughR ys cs with | none => .none | some (x, zs) => .tuple [.str x, .tuple (zs.map PyData.str)]
def plcD (ys : List Str) (x : Str) : PyData := .tuple (prD (placesL (ys.map fun z => press z x) x))
def nl1 : Str := PySem.Str.ofString "\n"
def headD (z : Str) (ys : List Str) (ns : List Int) : List PyData := [.str (Txt.join nl1 ys), .tuple (ns.map PyData.int), .int ns.sum, vD (rndV z (btB ys ns)), vD (winV z ys ns), .tuple (prD ((tiesN z ys ns).map spr)), vD (OdrV z ys ns), .tuple ((ys.filter (ganB ys ns)).map PyData.str), .bool (decide (roughR ys z.cps.toList = none)), rouD ys z.cps.toList]
def ansD (z : Str) (ys : List Str) (ns : List Int) : PyData := .list (headD z ys ns ++ (tri z.cps.toList).map (plcD ys))
/-! ### they can be shown -/
theorem nL_len (S : List Nat) : ∀ ps : List (List Nat), (joinL S ps).length ≤ (ps.map List.length).sum + S.length * ps.length
  | [] => by simp [joinL]
  | [p] => by simp [joinL]
  | p :: q :: r => by
    have ih := nL_len S (q :: r)
    simp only [joinL, List.length_append, List.map_cons, List.sum_cons, List.length_cons] at ih ⊢
    simp only [Nat.mul_add, Nat.mul_one] at ih ⊢
    omega
theorem nL_sum {m : Nat} : ∀ l : List (List Nat), (∀ z, z ∈ l → z.length ≤ m) → (l.map List.length).sum ≤ m * l.length
  | [], _ => by simp
  | z :: l, h => by
    have ih := nL_sum l fun x hx => h x (List.mem_cons_of_mem _ hx)
    have h1 : z.length ≤ m := h z (List.mem_cons_self ..)
    rw [List.map_cons, List.sum_cons, List.length_cons, Nat.mul_add]
    omega
theorem nL_all {ps : List (List Nat)} (h : ∀ p ∈ ps, ∀ c ∈ p, c < 16 ^ 8) : ∀ c ∈ joinL [10] ps, c < 16 ^ 8 := by
  induction ps with
  | nil => intro c hc; simp [joinL] at hc
  | cons p ps ih =>
    cases ps with
    | nil => simpa [joinL] using h p List.mem_cons_self
    | cons q r =>
      intro c hc
      simp only [joinL, List.mem_append] at hc
      rcases hc with hc | hc | hc
      · exact h p List.mem_cons_self c hc
      · rw [List.mem_singleton.mp hc]; decide
      · exact ih (fun p hp => h p (List.mem_cons_of_mem _ hp)) c hc
theorem join_tl (ys : List Str) : (Txt.join nl1 ys).cps.toList = joinL [10] (ys.map tl) := by
  have z := tl_join (PySem.Str.ofString "\n") ys
  rw [show tl (PySem.Str.ofString "\n") = [10] by decide +kernel] at z
  unfold nl1
  rw [join_eq, ← z] <;> rfl
theorem Fine.join {ys : List Str} (few : ys.length ≤ 60) (h : ∀ z ∈ ys, z.cps.size ≤ 6 ∧ ∀ c ∈ z.cps.toList, c < 16 ^ 8) : Fine (.str (Txt.join nl1 ys)) 500 0 := by
  refine .str ?_ ?_
  · rw [← Array.length_toList, join_tl]
    have a := nL_len [10] (ys.map tl)
    have b := nL_sum (m := 6) (ys.map tl) fun p hp => by
      obtain ⟨z, hz, rfl⟩ := List.mem_map.mp hp
      show z.cps.toList.length ≤ 6
      rw [Array.length_toList]
      exact (h z hz).1
    rw [List.length_map] at a b
    simp only [List.length_cons, List.length_nil] at a
    omega
  · rw [join_tl]
    refine nL_all fun p hp => ?_
    obtain ⟨z, hz, rfl⟩ := List.mem_map.mp hp
    exact (h z hz).2
theorem ltr_small {z : Str} (h : ∀ c ∈ z.cps.toList, c < 16 ^ 8) (i : Nat) : ltr z i < 16 ^ 8 := by
  by_cases hi : i < z.cps.size
  · exact h _ (ltr_mem hi)
  · unfold ltr
    rw [Array.getD_eq_getD_getElem?, Array.getElem?_eq_none (by omega)]
    decide
theorem Fine.rnd {z : Str} {bt : Nat → Nat → Bool} (z6 : z.cps.size ≤ 6) (h : ∀ c ∈ z.cps.toList, c < 16 ^ 8) : Fine (vD (rndV z bt)) 10 0 := by
  unfold rndV
  cases e : rndR z bt with
  | none => exact Fine.non.mono (by decide) (by decide)
  | some l =>
    unfold rndR at e
    obtain ⟨i, hi, e⟩ := List.exists_of_findSome?_eq_some e
    have hi := List.mem_range.mp hi
    unfold tryR at e
    have ll := (mem_pm (List.mem_of_find?_eq_some e)).1
    refine .str ?_ fun c hc => ?_
    · show ((l.map (ltr z)).toArray).size ≤ 10
      rw [List.size_toArray, List.length_map]
      omega
    · have hc : c ∈ l.map (ltr z) := hc
      obtain ⟨j, _, rfl⟩ := List.mem_map.mp hc
      exact ltr_small h j
theorem Fine.chs {a : Nat} (h : a < 16 ^ 8) : Fine (.str (chS a)) 10 0 := .str (by show 1 ≤ 10; decide) fun c hc => by
  have hc : c ∈ [a] := hc
  rw [List.mem_singleton.mp hc]
  exact h
theorem Fine.win {z : Str} {ys : List Str} {ns : List Int} (h : ∀ c ∈ z.cps.toList, c < 16 ^ 8) : Fine (vD (winV z ys ns)) 10 0 := by
  unfold winV
  cases e : winS z ys ns with
  | none => exact Fine.non.mono (by decide) (by decide)
  | some a =>
    unfold winS at e
    exact .chs (h a (List.mem_of_find?_eq_some e))
theorem Fine.odr {z : Str} {ys : List Str} {ns : List Int} (z6 : z.cps.size ≤ 6) (h : ∀ c ∈ z.cps.toList, c < 16 ^ 8) : Fine (vD (OdrV z ys ns)) 10 0 := by
  unfold OdrV
  have p := rkd_perm z ys ns
  split
  · refine .str ?_ fun c hc => h c (p.mem_iff.mp hc)
    show ((rkd z ys ns).toArray).size ≤ 10
    rw [List.size_toArray, p.length_eq, Array.length_toList]
    omega
  · exact Fine.non.mono (by decide) (by decide)
theorem Fine.prs {l : List (Str × Str)} {n m : Nat} (hl : l.length ≤ n) (h : ∀ p ∈ l, Fine (.str p.1) m 0 ∧ Fine (.str p.2) m 0) : Fine (.tuple (prD l)) (n * (2 * (m + 1) + 1)) 2 := by
  refine Fine.tup (k := 1) (fun d hd => ?_) (by unfold prD; rw [List.length_map]; exact hl)
  unfold prD at hd
  obtain ⟨p, hp, rfl⟩ := List.mem_map.mp hd
  obtain ⟨h1, h2⟩ := h p hp
  refine Fine.tup (n := 2) (k := 0) (fun d hd => ?_) (Nat.le_refl _)
  rcases List.mem_cons.mp hd with rfl | hd
  · exact h1
  · rw [List.mem_singleton.mp hd]
    exact h2
theorem Fine.ties {z : Str} {ys : List Str} {ns : List Int} (z6 : z.cps.size ≤ 6) (h : ∀ c ∈ z.cps.toList, c < 16 ^ 8) : Fine (.tuple (prD ((tiesN z ys ns).map spr))) 900 2 := by
  have zl : z.cps.toList.length ≤ 6 := by rw [Array.length_toList]; exact z6
  refine (Fine.prs (n := 36) (m := 10) ?_ fun p hp => ?_).mono (by decide) (by decide)
  · rw [List.length_map]
    exact Nat.le_trans (List.length_filter_le _ _) (pn_few zl _ zl)
  · obtain ⟨⟨a, b⟩, hq, rfl⟩ := List.mem_map.mp hp
    have hq := (List.mem_filter.mp hq).1
    unfold pnAll pnL at hq
    obtain ⟨a', ha, hq⟩ := List.mem_flatMap.mp hq
    obtain ⟨b', hb, hq⟩ := List.mem_map.mp hq
    cases hq
    exact ⟨.chs (h _ ha), .chs (h _ (List.mem_filter.mp hb).1)⟩
theorem Fine.strs {ys : List Str} {n : Nat} (few : ys.length ≤ n) (h : ∀ z ∈ ys, z.cps.size ≤ 6 ∧ ∀ c ∈ z.cps.toList, c < 16 ^ 8) : Fine (.tuple (ys.map PyData.str)) (n * 7) 1 := by
  refine Fine.tup (w := 6) (k := 0) (fun d hd => ?_) (by rw [List.length_map]; exact few)
  obtain ⟨z, hz, rfl⟩ := List.mem_map.mp hd
  exact .str (h z hz).1 (h z hz).2
theorem Fine.tr3 {cs : List Nat} {x : Str} (h : ∀ c ∈ cs, c < 16 ^ 8) (hx : x ∈ tri cs) : Fine (.str x) 3 0 := by
  obtain ⟨a, b, c, ha, hb, hc, _, _, rfl⟩ := mem_tri.mp hx
  refine .str (Nat.le_refl _) fun d hd => ?_
  have hd : d ∈ [a, b, c] := hd
  simp only [List.mem_cons, List.not_mem_nil, or_false] at hd
  rcases hd with rfl | rfl | rfl
  · exact h _ ha
  · exact h _ hb
  · exact h _ hc
theorem Fine.rou {ys : List Str} {cs : List Nat} (hc : ∀ c ∈ cs, c < 16 ^ 8) (h : ∀ z ∈ ys, z.cps.size ≤ 6 ∧ ∀ c ∈ z.cps.toList, c < 16 ^ 8) : Fine (rouD ys cs) 200 2 := by
  unfold rouD
  cases e : roughR ys cs with
  | none => exact Fine.non.mono (by decide) (by decide)
  | some q =>
    obtain ⟨x, zs⟩ := q
    obtain ⟨hx, hw⟩ := rough_at e
    obtain ⟨a, b, c, _, _, _, ab, bc, rfl⟩ := mem_tri.mp hx
    rw [wheelAt_s3] at hw
    have W := wheel_is ⟨by omega, by omega, by omega⟩ hw
    refine (Fine.tup (n := 2) (w := 60) (k := 1) (fun d hd => ?_) (Nat.le_refl _)).mono (by decide) (by decide)
    rcases List.mem_cons.mp hd with rfl | hd
    · exact (Fine.tr3 hc hx).mono (by decide) (by decide)
    · rw [List.mem_singleton.mp hd]
      exact (Fine.strs (n := 3) (by rw [W.three]; decide) fun z hz => h z (W.sub z hz)).mono (by decide) (by decide)
theorem Fine.plc {ys : List Str} {cs : List Nat} {x : Str} (hc : ∀ c ∈ cs, c < 16 ^ 8) (hx : x ∈ tri cs) : Fine (plcD ys x) 250 2 := by
  obtain ⟨a, b, c, ha, hb, hcc, _, _, rfl⟩ := mem_tri.mp hx
  refine (Fine.prs (n := 9) (m := 10) ?_ fun p hp => ?_).mono (by decide) (by decide)
  · unfold placesL
    have := flat_le (signs (s3 a b c)) (f := spotsOf (ys.map fun z => press z (s3 a b c))) (n := 3) fun t _ => by
      unfold spotsOf
      rw [List.length_map]
      exact List.length_filter_le _ _
    have e : (signs (s3 a b c)).length = 3 := rfl
    omega
  · unfold placesL spotsOf at hp
    obtain ⟨t, ht, hp⟩ := List.mem_flatMap.mp hp
    obtain ⟨q, hq, rfl⟩ := List.mem_map.mp hp
    have ht : t ∈ [chS a, chS b, chS c] := ht
    have words : ∀ q ∈ posOf, q.1.cps.size ≤ 10 ∧ (q.1.cps.toList.all fun c => decide (c < 1000)) = true := by decide +kernel
    obtain ⟨w1, w2⟩ := words q (List.mem_filter.mp hq).1
    refine ⟨?_, .str w1 fun d hd => ?_⟩
    · simp only [List.mem_cons, List.not_mem_nil, or_false] at ht
      rcases ht with rfl | rfl | rfl
      · exact .chs (hc _ ha)
      · exact .chs (hc _ hb)
      · exact .chs (hc _ hcc)
    · have := of_decide_eq_true (List.all_eq_true.mp w2 d hd)
      have : (1000 : Nat) < 16 ^ 8 := by decide
      omega
theorem tri_len (cs : List Nat) (zl : cs.length ≤ 6) : (tri cs).length ≤ 216 := by
  unfold tri
  have := flat_le cs (f := fun a => cs.flatMap fun b => (cs.filter fun c => decide (a < b) && decide (b < c)).map fun c => s3 a b c) (n := 36) fun a _ => by
    have := flat_le cs (f := fun b => (cs.filter fun c => decide (a < b) && decide (b < c)).map fun c => s3 a b c) (n := 6) fun b _ => by
      rw [List.length_map]
      exact Nat.le_trans (List.length_filter_le _ _) zl
    have := Nat.mul_le_mul_right 6 zl
    omega
  have := Nat.mul_le_mul_right 36 zl
  omega
theorem ans_fine {z : Str} {ys : List Str} {ns : List Int} (z6 : z.cps.size ≤ 6) (h : ∀ c ∈ z.cps.toList, c < 16 ^ 8) (hy : ∀ y ∈ ys, y.cps.size ≤ 6 ∧ ∀ c ∈ y.cps.toList, c < 16 ^ 8) (few : ys.length ≤ 8) (nl : ns.length = ys.length) (nb : ∀ i ∈ ns, 0 ≤ i ∧ i ≤ 10 ^ 30) :
    (ansD z ys ns).showable = true ∧ (ansD z ys ns).shown.length ≤ sizeLine ∧ (ansD z ys ns).depth ≤ 40 := by
  have zl : z.cps.toList.length ≤ 6 := by rw [Array.length_toList]; exact z6
  have tl := tri_len z.cps.toList zl
  have b33 : (10 : Int) ^ 33 = 1000000000000000000000000000000000 := by decide
  have b30 : (10 : Int) ^ 30 = 1000000000000000000000000000000 := by decide
  have sb := sum_bound nb
  refine (Fine.lst (n := 226) (w := 1200) (k := 3) (fun d hd => ?_) ?_).rep (by decide) (by decide)
  · rcases List.mem_append.mp hd with hd | hd
    · unfold headD at hd
      simp only [List.mem_cons, List.not_mem_nil, or_false] at hd
      rcases hd with rfl | rfl | rfl | rfl | rfl | rfl | rfl | rfl | rfl | rfl
      · exact (Fine.join (by omega) hy).mono (by decide) (by decide)
      · refine (Fine.tup (n := 10) (w := 111) (k := 0) (fun d hd => ?_) ?_).mono (by decide) (by decide)
        · obtain ⟨i, hi, rfl⟩ := List.mem_map.mp hd
          have := nb i hi
          exact .int this.1 (by rw [b33]; rw [b30] at this; omega)
        · rw [List.length_map]; omega
      · refine (Fine.int sb.1 ?_).mono (by decide) (by decide)
        rw [b33]
        rw [b30] at sb
        omega
      · exact (Fine.rnd z6 h).mono (by decide) (by decide)
      · exact (Fine.win h).mono (by decide) (by decide)
      · exact (Fine.ties z6 h).mono (by decide) (by decide)
      · exact (Fine.odr z6 h).mono (by decide) (by decide)
      · refine (Fine.strs (n := 8) (Nat.le_trans (List.length_filter_le _ _) few) fun y h => hy y (List.mem_filter.mp h).1).mono (by decide) (by decide)
      · exact (Fine.bl _).mono (by decide) (by decide)
      · exact (Fine.rou h hy).mono (by decide) (by decide)
    · obtain ⟨x, hx, rfl⟩ := List.mem_map.mp hd
      exact (Fine.plc h hx).mono (by decide) (by decide)
  · rw [List.length_append, List.length_map]
    show 10 + _ ≤ 226
    omega
end L2.Cal
end

section
set_option maxRecDepth 100000
set_option maxHeartbeats 4000000
namespace L2.Cal
open PySem PySem.Spec PyProof.Rows L2
/-- another reading that tells more -/
theorem pe_imp {X : Cx} {e : Expr} {t t' : TE} (h : PE X e t) (m : ∀ σ H Q, t' σ H Q → t σ H Q) : PE X e t' := ⟨fun pins s σ H Q I hq => h.run pins s σ H Q I (m σ H Q hq)⟩
theorem pt_imp {X : Cx} {e : Expr} {t t' : TT} (h : PT X e t) (m : ∀ σ H Q, t' σ H Q → t σ H Q) : PT X e t' := ⟨fun pins s σ H Q I hq => h.run pins s σ H Q I (m σ H Q hq)⟩
theorem seq_key {t u : TS} {D : Ends} {σ : St} {H : Hp} (Pz : St → Hp → Prop) (key : ∀ σ H', Pz σ H' → u D σ H') (go : (∀ σ H', Pz σ H' → u D σ H') → t { D with nx := u D } σ H) : tSeq t u D σ H := go key
end L2.Cal
end

section
set_option maxRecDepth 100000
set_option maxHeartbeats 4000000
set_option synthInstance.maxHeartbeats 400000
/-! what is told of a crowd -/
namespace L2.Cal
open PySem PySem.Spec PyProof.Rows L2 LamX LamK CpPerm
abbrev sAnw : Stmt := topS 57
abbrev nAnw : List Str := ["_law_mine", "_law_found", "_law_trio"]
theorem scAnw : FnScope nAnw ["_law_mine"] (defScope sAnw) := ⟨rfl, rfl, rfl, by decide +kernel, rfl, by decide +kernel, by decide +kernel⟩
theorem CrdZ.ext {C Cr : Addr} {H H' : Hp} {c : Addr} {z : Str} {ys : List Str} {ns : List Int} (h : CrdZ C Cr H c z ys ns) (k : ExtN H H') : CrdZ C Cr H' c z ys ns := by
  obtain ⟨⟨r0, n, t0, z0, ⟨dx0, fs0, e0, l1, l2, l3⟩, ⟨dr0, fr0, er0, lr⟩, ht, hn, so⟩, dx, fs, r, t, e, l, no, ⟨dr, fr, er, lr'⟩⟩ := h
  have ki : ∀ {b C dx fs}, H b = some (.ins C dx fs) → H' b = some (.ins C dx fs) := fun h => k _ _ h (fun xs z => by cases z)
  have kt : ∀ {b xs}, H b = some (.tup xs) → H' b = some (.tup xs) := fun h => k _ _ h (fun xs z => by cases z)
  exact ⟨⟨r0, n, t0, z0, ⟨dx0, fs0, ki e0, l1, l2, l3⟩, ⟨dr0, fr0, ki er0, lr⟩, kt ht, kt hn, so⟩, dx, fs, r, t, ki e, l, no, ⟨dr, fr, ki er, lr'⟩⟩
/-- a crowd, its roll, its numbers -/
structure CrK (C Cr : Addr) (H : Hp) (c r t n : Addr) (y : Str) (ys : List Str) (ns : List Int) : Prop where
  cz : CrdZ C Cr H c (tidy y) ys ns
  cr : CrAt Cr H c r n ns.sum
  ra : RollAt C H r t (tidy y)
  et : H t = some (.tup (ys.map V.str))
  en : H n = some (.tup (ns.map V.int))
theorem CrK.ext {C Cr : Addr} {H H' : Hp} {c r t n : Addr} {y : Str} {ys : List Str} {ns : List Int} (h : CrK C Cr H c r t n y ys ns) (k : ExtN H H') : CrK C Cr H' c r t n y ys ns := by
  obtain ⟨cz, ⟨dx, fs, e, l⟩, ⟨dr, fr, er, lr⟩, et, en⟩ := h
  exact ⟨cz.ext k, ⟨dx, fs, k _ _ e (fun xs z => by cases z), l⟩, ⟨dr, fr, k _ _ er (fun xs z => by cases z), lr⟩, k _ _ et (fun xs z => by cases z), k _ _ en (fun xs z => by cases z)⟩
/-- what is known of the orders and the numbers -/
structure CrG (y : Str) (ys : List Str) (ns : List Int) : Prop where
  G : Good ys y
  nl : ns.length = ys.length
  few : ys.length ≤ 8
  nb : ∀ i ∈ ns, 0 ≤ i ∧ i ≤ 10 ^ 30
theorem tidy_sz (y : Str) : (tidy y).cps.size = y.cps.size := by
  rw [← Array.length_toList, (tidy_perm y).length_eq, Array.length_toList]
theorem CrG.pm {y : Str} {ys : List Str} {ns : List Int} (g : CrG y ys ns) : ∀ z ∈ ys, z.cps.toList.Perm (tidy y).cps.toList := fun z hz => (g.G.lot.of z hz).trans (tidy_perm y).symm
theorem CrG.t6 {y : Str} {ys : List Str} {ns : List Int} (g : CrG y ys ns) : (tidy y).cps.size ≤ 6 := by rw [tidy_sz]; exact g.G.h6
theorem CrG.z6 {y : Str} {ys : List Str} {ns : List Int} (g : CrG y ys ns) : ∀ z ∈ ys, z.cps.size ≤ 6 := fun z hz => by
  rw [← Array.length_toList, (g.G.lot.of z hz).length_eq, Array.length_toList]
  exact g.G.h6
theorem CrG.ask {y : Str} {ys : List Str} {ns : List Int} (g : CrG y ys ns) : AskAll (tidy y) ys ns :=
  ⟨fun a b ha hb => ⟨ha, hb, g.nl, g.G.few, fun z hz => ⟨index0_in ((g.pm z hz).mem_iff.mpr ha), index0_in ((g.pm z hz).mem_iff.mpr hb)⟩⟩, (tidy_perm y).nodup_iff.mpr g.G.let_.1, g.t6⟩
theorem CrG.small {y : Str} {ys : List Str} {ns : List Int} (g : CrG y ys ns) : ∀ c ∈ (tidy y).cps.toList, c < 16 ^ 8 := fun c hc => by
  have := (g.G.let_.2 c ((tidy_perm y).mem_iff.mp hc)).2
  omega
theorem CrG.fine {y : Str} {ys : List Str} {ns : List Int} (g : CrG y ys ns) : (ansD (tidy y) ys ns).showable = true ∧ (ansD (tidy y) ys ns).shown.length ≤ sizeLine ∧ (ansD (tidy y) ys ns).depth ≤ 40 :=
  ans_fine g.t6 g.small (fun z hz => ⟨g.z6 z hz, fun c hc => g.small c ((g.pm z hz).mem_iff.mp hc)⟩) g.few g.nl g.nb
/-- rows of pairs, each in its own tuple -/
def PlsAt (H : Hp) (vs : List V) (ls : List (List (Str × Str))) : Prop := ∃ bs : List (Addr × List V × List (Str × Str)), vs = bs.map (fun b => V.ref b.1) ∧ bs.map (fun b => b.2.2) = ls ∧ ∀ b ∈ bs, H b.1 = some (.tup b.2.1) ∧ Prs H b.2.1 b.2.2
theorem PlsAt.nil {H : Hp} : PlsAt H [] [] := ⟨[], rfl, rfl, fun b h => by cases h⟩
theorem PlsAt.snoc {H H' : Hp} {vs : List V} {ls : List (List (Str × Str))} {q : Addr} {us : List V} {l : List (Str × Str)} (h : PlsAt H vs ls) (k : ∀ b xs, H b = some (.tup xs) → H' b = some (.tup xs)) (e : H' q = some (.tup us)) (p : Prs H' us l) : PlsAt H' (vs ++ [.ref q]) (ls ++ [l]) := by
  obtain ⟨bs, rfl, rfl, hb⟩ := h
  refine ⟨bs ++ [(q, us, l)], by rw [List.map_append] <;> rfl, by rw [List.map_append] <;> rfl, fun b m => ?_⟩
  rcases List.mem_append.mp m with m | m
  · exact ⟨k _ _ (hb b m).1, (hb b m).2.keep k⟩
  · rw [List.mem_singleton.mp m]
    exact ⟨e, p⟩
theorem PlsAt.len {H : Hp} {vs : List V} {ls : List (List (Str × Str))} (h : PlsAt H vs ls) : vs.length = ls.length := by
  obtain ⟨bs, rfl, rfl, _⟩ := h
  rw [List.length_map, List.length_map]
theorem PlsAt.dp {K : PySem.W.Frag} {H : Hp} {vs : List V} {ls : List (List (Str × Str))} (h : PlsAt H vs ls) : DpAll K H vs (ls.map fun l => .tuple (prD l)) := by
  obtain ⟨bs, rfl, rfl, hb⟩ := h
  rw [List.map_map]
  induction bs with
  | nil => exact .nil
  | cons b bs ih =>
    obtain ⟨h1, h2⟩ := hb b List.mem_cons_self
    exact .cons (.tup (SqT.of h1) h2.dp) (ih fun c hc => hb c (List.mem_cons_of_mem _ hc))
theorem dp_app {K : PySem.W.Frag} {H : Hp} : ∀ {vs ws : List V} {ds es : List PyData}, DpAll K H vs ds → DpAll K H ws es → DpAll K H (vs ++ ws) (ds ++ es)
  | _, _, _, _, .nil, h => h
  | _, _, _, _, .cons a r, h => .cons a (dp_app r h)
theorem dp_vD {K : PySem.W.Frag} {H : Hp} {v : V} (h : v = .non ∨ ∃ s, v = .str s) : Dp K H v (vD v) := by
  rcases h with rfl | ⟨s, rfl⟩
  · exact .non
  · exact .str s
theorem rnd_kind (z : Str) (bt : Nat → Nat → Bool) : rndV z bt = .non ∨ ∃ s, rndV z bt = .str s := by
  unfold rndV
  split
  · exact .inr ⟨_, rfl⟩
  · exact .inl rfl
theorem win_kind (z : Str) (ys : List Str) (ns : List Int) : winV z ys ns = .non ∨ ∃ s, winV z ys ns = .str s := by
  unfold winV
  split
  · exact .inr ⟨_, rfl⟩
  · exact .inl rfl
theorem odr_kind (z : Str) (ys : List Str) (ns : List Int) : OdrV z ys ns = .non ∨ ∃ s, OdrV z ys ns = .str s := by
  unfold OdrV
  split
  · exact .inr ⟨_, rfl⟩
  · exact .inl rfl
theorem press_n3 {z : Str} {a b c : Nat} (n : z.cps.toList.Nodup) (ab : a < b) (bc : b < c) (ha : a ∈ z.cps.toList) (hb : b ∈ z.cps.toList) (hc : c ∈ z.cps.toList) : (press z (s3 a b c)).cps.size = 3 := by
  have p : (z.cps.toList.filter fun x => decide (x ∈ (s3 a b c).cps.toList)).Perm [a, b, c] := by
    refine (List.perm_ext_iff_of_nodup (n.filter _) ?_).mpr fun x => ?_
    · simp only [List.nodup_cons, List.mem_cons, List.not_mem_nil, or_false, not_or, not_false_eq_true, List.nodup_nil, and_true]
      omega
    · have e : (s3 a b c).cps.toList = [a, b, c] := rfl
      rw [List.mem_filter, e, decide_eq_true_eq]
      refine ⟨fun h => h.2, fun h => ⟨?_, h⟩⟩
      simp only [List.mem_cons, List.not_mem_nil, or_false] at h
      rcases h with rfl | rfl | rfl
      · exact ha
      · exact hb
      · exact hc
  show ((z.cps.toList.filter fun x => decide (x ∈ (s3 a b c).cps.toList)).toArray).size = 3
  rw [List.size_toArray, p.length_eq] <;> rfl
/-- the rough three and its wheel, or none -/
def spRoD (K : PySem.W.Frag) (C : Addr) : Sp := fun vs H Q _ => ∃ (r t : Addr) (y : Str) (ys : List Str), vs = [.ref r] ∧ RollY K C H r t y ys ∧ ∀ v H', Same H H' → Dp K H' v (rouD ys (tidy y).cps.toList) → Q v H'
theorem ro_rou {K : PySem.W.Frag} {C : Addr} (vs : List V) (H : Hp) (Q : VK) (E : XK) (h : spRoD K C vs H Q E) : spRou K C vs H Q E := by
  obtain ⟨r, t, y, ys, e, ry, q⟩ := h
  refine ⟨r, t, y, ys, e, ry, fun hn H' s => q _ _ s ?_, fun x zs hs p p2 H' s ep e2 => q _ _ s ?_⟩
  · unfold rouD
    rw [hn]
    exact .non
  · unfold rouD
    rw [hs]
    exact .tup (SqT.of ep) (.cons (.str _) (.cons (.tup (SqT.of e2) (dp_strs zs)) .nil))
def spAnw (TT : List (Addr × Str)) (C Cr : Addr) : Sp := fun vs H Q _ => ∃ (c r t n : Addr) (y : Str) (ys : List Str) (ns : List Int), vs = [.ref c] ∧ CrK C Cr H c r t n y ys ns ∧ CrG y ys ns ∧ Tabs TT H ∧ ∀ H', ExtN H H' → Tabs TT H' → Q (.str (ansD (tidy y) ys ns).shown) H'
section
variable {P : Program} {w : World} {K : PySem.W.Frag} {mg : Str → Option Value} {base : Heap} {C Cr : Addr}
theorem ok_anw {f c1 P1 fS pR fCR pN fCN pP fCP fChk fChT fTh fO fAb fBts fBtn fSmr fRn fWi fTi fOd fAg fGa fIsC fRou fThs fSta fWup fWam fThr fPla fCkT dP pO pT : Addr} {fd fdS fdCR fdCN fdCP fdChk fdChT fdTh fdO fdAb fdBts fdBtn fdSmr fdRn fdWi fdTi fdOd fdAg fdGa fdIsC fdRou fdThs fdSta fdWup fdWam fdThr fdPla fdCkT : FuncData} {TT : List (Addr × Str)}
    (D : DefAt K mg "_law_answers" sAnw ["_law_mine"] f fd)
    (FS : Fun K "__str__" "Roll.__str__" sStr fS fdS) (OS : Own K C "__str__" fS) (bS : Binds K fdS ["self"] [])
    (PCR : PropOf K Cr "roll" pR fCR) (FCR : Fun K "roll" "Crowd.roll" sCRo fCR fdCR) (bCR : Binds K fdCR ["self"] []) (PCN : PropOf K Cr "numbers" pN fCN) (FCN : Fun K "numbers" "Crowd.numbers" sCNu fCN fdCN) (bCN : Binds K fdCN ["self"] []) (PCP : PropOf K Cr "people" pP fCP) (FCP : Fun K "people" "Crowd.people" sCPe fCP fdCP) (bCP : Binds K fdCP ["self"] [])
    (DK : DefAt K mg "check_roll" sChk ["roll"] fChk fdChk) (DChT : DefAt K mg "check_thing" sChT ["things", "thing"] fChT fdChT) (PT : PropOf K C "things" pT fTh) (FT : Fun K "things" "Roll.things" sThi fTh fdTh) (bT : Binds K fdTh ["self"] []) (PO : PropOf K C "orders" pO fO) (FO : Fun K "orders" "Roll.orders" sOrd fO fdO) (bO : Binds K fdO ["self"] [])
    (FAb : Fun K "_above" "Crowd._above" sAb_ fAb fdAb) (mAb : Meth K Cr "_above" fAb) (bAb : Binds K fdAb ["self", "thing", "other"] [])
    (FBt : Fun K "beats" "Crowd.beats" sBts fBts fdBts) (mBt : Meth K Cr "beats" fBts) (bBt : Binds K fdBts ["self", "thing", "other"] []) (FBn : Fun K "_beaten" "Crowd._beaten" sBtn fBtn fdBtn) (mBn : Meth K Cr "_beaten" fBtn) (bBn : Binds K fdBtn ["self"] [])
    (FSr : Fun K "some_round" "Crowd.some_round" sSmr fSmr fdSmr) (mSr : Meth K Cr "some_round" fSmr) (bSr : Binds K fdSmr ["self"] []) (DRn : DefAt K mg "round_among" sRnd ["things", "beaten"] fRn fdRn) (mper : mg "permutations" = some (.type "itertools.permutations"))
    (FWi : Fun K "winner" "Crowd.winner" sWin fWi fdWi) (mWi : Meth K Cr "winner" fWi) (bWi : Binds K fdWi ["self"] [])
    (FTi : Fun K "ties" "Crowd.ties" sTie fTi fdTi) (mTi : Meth K Cr "ties" fTi) (bTi : Binds K fdTi ["self"] []) (FOd : Fun K "order" "Crowd.order" sOdr fOd fdOd) (mOd : Meth K Cr "order" fOd) (bOd : Binds K fdOd ["self"] []) (hc1 : fdOd.code = .ref c1) (TB1 : TabB base mg c1 P1) (hm1 : (P1, ordQ) ∈ TT) (hu1 : ∀ z ∈ TT, z.1 = P1 → z.2 = ordQ)
    (FAg : Fun K "agreeing" "Crowd.agreeing" sAgr fAg fdAg) (mAg : Meth K Cr "agreeing" fAg) (bAg : Binds K fdAg ["self"] []) (DGa : DefAt K mg "goes_against_none" sGan ["order", "beaten"] fGa fdGa)
    (DIsC : DefAt K mg "is_calm" sIsC ["roll"] fIsC fdIsC) (DRou : DefAt K mg "rough" sRou ["roll"] fRou fdRou) (DThs : DefAt K mg "threes_of" sThs ["things"] fThs fdThs) (DSta : DefAt K mg "standing" sSta ["order", "three"] fSta fdSta) (DWup : DefAt K mg "wheels_upon" sWup ["three"] fWup fdWup) (DWam : DefAt K mg "wheel_among" sWam ["orders", "three"] fWam fdWam)
    (DThr : DefAt K mg "threes" sThr ["roll"] fThr fdThr) (DPla : DefAt K mg "places" sPla ["roll", "three"] fPla fdPla) (DCkT : DefAt K mg "check_three" sCkT ["things", "three"] fCkT fdCkT) (PA : PosAt K w mg dP)
    (bsum : mg "sum" = none) (bzip : mg "zip" = none) (T : Txt mg) (R : RollC K mg C) (RC : CrC K mg Cr) : FnOkG P w K mg base CX0 7 f fd ["_law_mine"] (spAnw TT C Cr) := by
  have GSr : FnOk P w K mg base CX0 6 fSmr fdSmr ["self"] (spSmr C Cr) := ok_smr FSr DRn mper FBn mBn bBn FBt mBt bBt FAb mAb bAb DChT PT FT bT PO FO bO bsum bzip T R RC
  have GWi : FnOk P w K mg base CX0 6 fWi fdWi ["self"] (spWin C Cr) := ok_win FWi FBn mBn bBn FBt mBt bBt FAb mAb bAb DChT PT FT bT PO FO bO bsum bzip T R RC
  have GTi : FnOk P w K mg base CX0 6 fTi fdTi ["self"] (spTie C Cr) := ok_tie FTi FBn mBn bBn FBt mBt bBt FAb mAb bAb DChT PT FT bT PO FO bO bsum bzip T R RC
  have GOd : FnOk P w K mg base CX0 6 fOd fdOd ["self"] (spOdr TT C Cr) := ok_odr FOd hc1 TB1 hm1 hu1 FBn mBn bBn FBt mBt bBt FAb mAb bAb DChT PT FT bT PO FO bO bsum bzip T R RC
  have GAg : FnOk P w K mg base CX0 6 fAg fdAg ["self"] (spAgr C Cr) := ok_agr FAg DGa FBn mBn bBn FBt mBt bBt FAb mAb bAb DChT PT FT bT PO FO bO bsum bzip T R RC
  have GIs : FnOk P w K mg base CX0 4 fIsC fdIsC ["roll"] (spIsC K C) := ok_isc DIsC DRou DK DThs DSta DWup DWam T R PT FT bT PO FO bO
  have GRu : FnOk P w K mg base CX0 3 fRou fdRou ["roll"] (spRoD K C) := (ok_rou DRou DK DThs DSta DWup DWam T R PT FT bT PO FO bO).imp ro_rou
  have GThr : FnOk P w K mg base CX0 3 fThr fdThr ["roll"] (spThr C) := ok_thr DThr DK DThs T R PT FT bT
  have GPla : FnOk P w K mg base CX0 3 fPla fdPla ["roll", "three"] (spPla K C) := ok_pla DPla DK DCkT DThs DSta PA T R PT FT bT PO FO bO
  have GS : FnOk P w K mg base CX0 1 fS fdS ["self"] (spStr K C) := ok_str FS T R
  have GCR : FnOk P w K mg base CX0 1 fCR fdCR ["self"] (spCRo Cr) := ok_cro FCR RC
  have GCN : FnOk P w K mg base CX0 1 fCN fdCN ["self"] (spCNu Cr) := ok_cnu FCN RC
  have GCP : FnOk P w K mg base CX0 1 fCP fdCP ["self"] (spCPe Cr) := ok_cpe FCP RC
  refine Fun.okG D.F scAnw (fun vs H Q E h => ?_) (fun cdv A outer sh H vs Q E hA hr h => ?_)
  · obtain ⟨c, r, t, n, y, ys, ns, rfl, _⟩ := h
    rfl
  · obtain ⟨c, r, t, n, y, ys, ns, rfl, k0, g, hT, q⟩ := h
    have hu := hr.units
    refine ⟨_, (pss_cons (ps_set (i := 1) scAnw.nd rfl (.inl rfl) (pe_lstS (pa_cons (pe_callTy (call_strO OS GS (hr.mono (by decide)) bS pass0) (by rfl) T.b_str (by decide +kernel) (pa_cons (pe_prop (pv 0) RC.cls PCR GCR (hr.mono (by decide)) bCR .nil pass0 rfl) pa_nil)) (pa_cons (pe_prop (pv 0) RC.cls PCN GCN (hr.mono (by decide)) bCN .nil pass0 rfl) (pa_cons (pe_prop (pv 0) RC.cls PCP GCP (hr.mono (by decide)) bCP .nil pass0 rfl) (pa_cons (pe_meth0 (pv 0) RC.cls mSr GSr (hr.mono (by decide)) bSr .nil pass0) pa_nil))))))
      (pss_cons (ps_set (i := 1) scAnw.nd rfl (.inl rfl) (pe_op op_catS (pv 1) (pe_lstS (pa_cons (pe_meth0 (pv 0) RC.cls mWi GWi (hr.mono (by decide)) bWi .nil pass0) (pa_cons (pe_meth0 (pv 0) RC.cls mTi GTi (hr.mono (by decide)) bTi .nil pass0) (pa_cons (pe_meth0 (pv 0) RC.cls mOd GOd (hr.mono (by decide)) bOd .nil pass0) pa_nil))))))
      (pss_cons (ps_set (i := 1) scAnw.nd rfl (.inl rfl) (pe_op op_catS (pv 1) (pe_lstS (pa_cons (pe_meth0 (pv 0) RC.cls mAg GAg (hr.mono (by decide)) bAg .nil pass0) (pa_cons (pe_call GIs (hr.mono (by decide)) (by rfl) DIsC.g DIsC.F.kp DIsC.b .nil pass0 (pa_cons (pe_prop (pv 0) RC.cls PCR GCR (hr.mono (by decide)) bCR .nil pass0 rfl) pa_nil)) (pa_cons (pe_call GRu (hr.mono (by decide)) (by rfl) DRou.g DRou.F.kp DRou.b .nil pass0 (pa_cons (pe_prop (pv 0) RC.cls PCR GCR (hr.mono (by decide)) bCR .nil pass0 rfl) pa_nil)) pa_nil))))))
      (pss_one (ps_ret (pe_callB (call_reprD hA hu) (by rfl) T.b_repr (by decide +kernel) (pa_cons (pe_op op_catS (pv 1) (pe_lc (own := [("_law_trio", 2)]) (g := gName 2) (tt := tYes) rfl scAnw.nd (pi_tup (pe_call GThr (hr.mono (by decide)) (by rfl) DThr.g DThr.F.kp DThr.b .nil pass0 (pa_cons (pe_prop (pv 0) RC.cls PCR GCR (hr.mono (by decide)) bCR .nil pass0 rfl) pa_nil))) (blkOk_by (own := [("_law_trio", 2)]) (N := nAnw) (sc := defScope sAnw) (by decide +kernel))
          (fun _ _ _ _ _ => pg_name (i := 2) scAnw.nd rfl (Or.inl rfl)) (fun _ _ _ _ _ => pts_nil) (fun _ _ _ _ _ => pe_call GPla (hr.mono (by decide)) (by rfl) DPla.g DPla.F.kp DPla.b .nil pass0 (pa_cons (pe_prop (pv 0) RC.cls PCR GCR (hr.mono (by decide)) bCR .nil pass0 rfl) (pa_cons (pv 2) pa_nil))))) pa_nil))))))), ?_⟩
    obtain ⟨dx, fs, ec, l1, l2, l3⟩ := id k0.cr
    obtain ⟨dr, fr, er, lr⟩ := id k0.ra
    have no : ∀ m : Str, m ≠ "_roll" → m ≠ "_numbers" → m ≠ "_people" → fs.lookup m = none := by
      obtain ⟨_, dx', fs', r', t', e', _, no, _⟩ := k0.cz
      rw [ec] at e'
      cases e'
      exact no
    have lim : ∀ {n : Nat}, n ≤ 10000 → n ≤ sizeLine := fun h => by rw [sizeLine_eq]; omega
    have few := g.few
    have sm : (ys.map (·.length)).sum + ys.length ≤ 10000 := by
      have : (ys.map (·.length)).sum ≤ 6 * ys.length := by
        have := nL_sum (m := 6) (ys.map fun z : Str => z.cps.toList) fun p hp => by
          obtain ⟨z, hz, rfl⟩ := List.mem_map.mp hp
          rw [Array.length_toList]
          exact g.z6 z hz
        rw [List.map_map, List.length_map] at this
        have e : ys.map (List.length ∘ fun z : Str => z.cps.toList) = ys.map (·.length) := List.map_congr_left fun z _ => Array.length_toList
        rw [e] at this
        exact this
      omega
    refine ⟨_, rfl, c, dx, fs, rfl, ec, c, r, n, _, rfl, k0.cr, r, dr, fr, rfl, er, r, t, _, ys, rfl, k0.ra, SqT.of k0.et, sm, _, rfl, ?_⟩
    refine ⟨_, rfl, c, dx, fs, rfl, ec, c, r, n, _, rfl, k0.cr, _, rfl, c, dx, fs, rfl, ec, c, r, n, _, rfl, k0.cr, _, rfl, c, dx, fs, rfl, ec, no _ (by decide) (by decide) (by decide), c, tidy y, ys, ns, rfl, k0.cz, g.ask, fun H1 s1 => ?_⟩
    refine ⟨lim (show 4 ≤ 10000 by decide), fun p1 H2 s2 n2 e2 => ?_⟩
    have S2 := ExtN.of (s1.trans s2)
    have k2 := k0.ext S2
    have ec2 := (s1.trans s2) _ _ ec
    refine ⟨_, rfl, _, rfl, c, dx, fs, rfl, ec2, no _ (by decide) (by decide) (by decide), c, tidy y, ys, ns, rfl, k2.cz, g.ask, fun H3 s3 => ?_⟩
    refine ⟨_, rfl, c, dx, fs, rfl, s3 _ _ ec2, no _ (by decide) (by decide) (by decide), c, tidy y, ys, ns, rfl, k2.cz.same s3, g.ask, fun pt us H4 s4 et pr => ?_⟩
    have s24 := s3.trans s4
    have S4 := S2.trans (ExtN.of s24)
    refine ⟨_, rfl, c, dx, fs, rfl, s24 _ _ ec2, no _ (by decide) (by decide) (by decide), c, tidy y, ys, ns, rfl, k2.cz.same s24, g.ask, hT.ext ((s1.trans s2).trans s24), fun H5 x5 T5 => ?_⟩
    refine ⟨lim (show 3 ≤ 10000 by decide), fun p2 H6 s6 n6 e6 => ?_⟩
    have x26 := (ExtN.of s24).trans (x5.trans (ExtN.of s6))
    have e26 := x26 _ _ e2 (fun xs z => by cases z)
    have S6 := (ExtN.of (s1.trans s2)).trans x26
    have k6 := k0.ext S6
    have T6 := T5.ext s6
    have ec6 := S6 _ _ ec (fun xs z => by cases z)
    refine ⟨p1, p2, _, _, rfl, rfl, e26, e6, lim (show 7 ≤ 10000 by decide), fun p3 H7 s7 n7 e7 => ?_⟩
    have k7 := k6.ext (ExtN.of s7)
    refine ⟨_, rfl, _, rfl, c, dx, fs, rfl, s7 _ _ ec6, no _ (by decide) (by decide) (by decide), c, tidy y, ys, ns, rfl, k7.cz, g.ask, g.pm, g.G.few, fun pa H8 s8 ea => ?_⟩
    have k8 := k7.ext (ExtN.of s8)
    have ry8 : RollY K C H8 r t y ys := ⟨k8.ra, SqT.of k8.et, g.t6, g.z6, by omega⟩
    refine ⟨_, rfl, c, dx, fs, rfl, s8 _ _ (s7 _ _ ec6), c, r, n, _, rfl, k8.cr, r, t, y, ys, rfl, ry8, fun H9 s9 => ?_⟩
    have k9 := k8.ext (ExtN.of s9)
    have ry9 := ry8.same s9
    have ec9 := s9 _ _ (s8 _ _ (s7 _ _ ec6))
    refine ⟨_, rfl, c, dx, fs, rfl, ec9, c, r, n, _, rfl, k9.cr, r, t, y, ys, rfl, ry9, fun rv H10 s10 dr10 => ?_⟩
    refine ⟨lim (show 3 ≤ 10000 by decide), fun p4 H11 s11 n11 e11 => ?_⟩
    have s711 := s8.trans (s9.trans (s10.trans s11))
    have e711 := s711 _ _ e7
    refine ⟨p3, p4, _, _, rfl, rfl, e711, e11, lim (show 10 ≤ 10000 by decide), fun p5 H12 s12 n12 e12 => ?_⟩
    have S12 := S6.trans (ExtN.of (s7.trans (s711.trans s12)))
    have k12 := k0.ext S12
    have ec12 := S12 _ _ ec (fun xs z => by cases z)
    have T12 := T6.ext (s7.trans (s711.trans s12))
    have hd : DpAll K H12 (([V.str (Txt.join (PySem.Str.ofString "\n") ys), V.ref n, V.int ns.sum, rndV (tidy y) (btB ys ns)] ++ [winV (tidy y) ys ns, V.ref pt, OdrV (tidy y) ys ns]) ++ [V.ref pa, V.bl (decide (roughR ys (tidy y).cps.toList = none)), rv]) (headD (tidy y) ys ns) := by
      have et12 := S12 _ _ (k0.et) (fun xs z => by cases z)
      have up : ∀ b xs, H4 b = some (HO.tup xs) → H12 b = some (HO.tup xs) := fun b xs e => s12 _ _ (s711 _ _ (s7 _ _ (s6 _ _ (x5 _ _ e (fun ps z => by cases z)))))
      have pt12 := up _ _ et
      have pr12 := pr.keep up
      have ea12 := s12 _ _ (s11 _ _ (s10 _ _ (s9 _ _ ea)))
      exact .cons (.str _) (.cons (.tup (SqT.of k12.en) (dp_ints ns)) (.cons (.int _) (.cons (dp_vD (rnd_kind _ _)) (.cons (dp_vD (win_kind _ _ _)) (.cons (.tup (SqT.of pt12) pr12.dp) (.cons (dp_vD (odr_kind _ _ _)) (.cons (.tup (SqT.of ea12) (dp_strs _)) (.cons (.bl _) (.cons (dp_same (s11.trans s12) _ _ dr10) .nil)))))))))
    obtain ⟨hs, hhs⟩ : ∃ hs, hs = (([V.str (Txt.join (PySem.Str.ofString "\n") ys), V.ref n, V.int ns.sum, rndV (tidy y) (btB ys ns)] ++ [winV (tidy y) ys ns, V.ref pt, OdrV (tidy y) ys ns]) ++ [V.ref pa, V.bl (decide (roughR ys (tidy y).cps.toList = none)), rv]) := ⟨_, rfl⟩
    have hl : hs.length = 10 := by rw [hhs] <;> rfl
    have e12 : H12 p5 = some (.lst hs) := by rw [hhs]; exact e12
    rw [← hhs] at hd
    have ra12 := k12.ra
    have tl := tri_len (tidy y).cps.toList (by rw [Array.length_toList]; exact g.t6)
    refine ⟨_, rfl, _, rfl, c, dx, fs, rfl, ec12, c, r, n, _, rfl, k12.cr, r, t, _, rfl, ra12, g.t6, fun th H13 s13 n13 e13 => ?_⟩
    have k13 := k12.ext (ExtN.of s13)
    refine ⟨th, rfl, ⟨_, SqT.of e13⟩, fun D nD => lc_tup (K := K) (a := th) (xs := (tri (tidy y).cps.toList).map V.str) (fun k H' => Same H13 H' ∧ ∃ xs', H' D = some (.lst xs') ∧ PlsAt H' xs' (((tri (tidy y).cps.toList).take k).map fun x => placesL (ys.map fun z => press z x) x)) ⟨same_new nD, [], upd_same, .nil⟩ (fun k H' _ hP => SqT.of (hP.1 _ _ e13)) (fun k v H14 hv hP => ?_) (fun H14 hP => ?_)⟩
    · obtain ⟨s14, xs', e14, d14⟩ := hP
      rw [List.getElem?_map] at hv
      obtain ⟨x, hx, rfl⟩ := Option.map_eq_some_iff.mp hv
      have xin := List.mem_of_getElem? hx
      obtain ⟨a, b, d, ha, hb, hd', ab, bd, rfl⟩ := mem_tri.mp xin
      have k14 := k13.ext (ExtN.of s14)
      have ec14 := s14 _ _ (s13 _ _ ec12)
      have cin : ∀ {u : Nat} {z : Str}, u ∈ (tidy y).cps.toList → z ∈ ys → u ∈ z.cps.toList := fun h hz => (g.pm _ hz).mem_iff.mpr h
      have ro : RollOf K C H14 r t y ys a b d := ⟨k14.ra, SqT.of k14.et, g.t6, g.z6, by omega, xin, fun z hz => press_n3 (g.G.let_.perm (g.G.lot.of z hz)).1 ab bd (cin ha hz) (cin hb hz) (cin hd' hz)⟩
      refine ⟨rfl, _, rfl, c, dx, fs, rfl, ec14, c, r, n, _, rfl, k14.cr, _, rfl, r, t, y, ys, a, b, d, rfl, ro, fun p us H15 s15 e15 pr => ⟨xs', s15 _ _ e14, ?_, fun b o h => ?_, xs' ++ [.ref p], upd_same, ?_⟩⟩
      · rw [d14.len, List.length_map, List.length_take, sizeLine_eq]
        omega
      · rw [upd_ne (ne_of_none h nD)]
        exact s15 _ _ (s14 _ _ h)
      · have kp : ∀ b xs, H15 b = some (HO.tup xs) → (upd H15 D (.lst (xs' ++ [.ref p]))) b = some (HO.tup xs) := fun b xs e => by
          rw [upd_ne (fun z => by rw [z, s15 _ _ e14] at e; cases e)]
          exact e
        rw [List.take_succ, hx, Option.toList_some, List.map_append]
        exact d14.snoc (fun b xs e => kp _ _ (s15 _ _ e)) (kp _ _ e15) (pr.keep kp)
    · obtain ⟨s14, xs', e14, d14⟩ := hP
      rw [List.length_map, List.take_length] at d14
      have s1214 := s13.trans s14
      have xl := d14.len
      rw [List.length_map] at xl
      refine ⟨p5, D, _, _, rfl, rfl, s1214 _ _ e12, e14, lim (by omega), fun p6 H15 s15 n15 e15 => ?_⟩
      have fin : DpAll K H15 (hs ++ xs') (headD (tidy y) ys ns ++ (tri (tidy y).cps.toList).map (plcD ys)) := by
        have h1 := dp_sameAll (s1214.trans s15) _ _ hd
        have h2 := dp_sameAll s15 _ _ (d14.dp (K := K))
        rw [List.map_map] at h2
        exact dp_app h1 h2
      obtain ⟨f1, f2, f3⟩ := g.fine
      exact ⟨_, ansD (tidy y) ys ns, rfl, .base (.lst (SqL.of e15) fin), f1, f2, f3, q _ (S12.trans (ExtN.of (s1214.trans s15))) (T12.ext (s1214.trans s15))⟩
end
end L2.Cal
end

section
set_option maxRecDepth 100000
set_option maxHeartbeats 4000000
set_option synthInstance.maxHeartbeats 400000
namespace L2.Cal
open PySem PySem.Spec PyProof.Rows L2 LamX LamK CpPerm
abbrev sRgt : Stmt := topS 58
abbrev NR : List Str := ["_law_jar_here", "_law_lots_here", "_law_k", "_law_lot", "_law_crowds_here", "_law_answers_here", "_law_counts_here", "_law_mine"]
theorem scRgt : FnScope NR ["_law_jar_here"] (defScope sRgt) := ⟨rfl, rfl, rfl, by decide +kernel, rfl, by decide +kernel, by decide +kernel⟩
/-! ### what stays: all but the jar and the tables -/
def KpN (j : Addr) (H H' : Hp) : Prop := ∀ b o, b ≠ j → (∀ ps, o ≠ .tbl ps) → H b = some o → H' b = some o
theorem KpN.refl {j : Addr} {H : Hp} : KpN j H H := fun _ _ _ _ h => h
theorem KpN.trans {j : Addr} {H H1 H2 : Hp} (a : KpN j H H1) (b : KpN j H1 H2) : KpN j H H2 := fun c o n t h => b c o n t (a c o n t h)
theorem KpN.kp {j : Addr} {H H' : Hp} (h : Kp j H H') : KpN j H H' := fun b o n _ e => h b o n e
theorem KpN.ext {j : Addr} {H H' : Hp} (h : ExtN H H') : KpN j H H' := fun b o _ t e => h b o e t
theorem Jar.ext {j : Addr} {H H' : Hp} (J : Jar H j) (h : ExtN H H') : Jar H' j := by
  obtain ⟨d, s, c, e, r⟩ := J
  exact ⟨d, s, c, h _ _ e (fun ps z => by cases z), r⟩
theorem tabs_kp {T : List (Addr × Str)} {j : Addr} {H H' : Hp} (t : Tabs T H) (J : Jar H j) (h : Kp j H H') : Tabs T H' := by
  obtain ⟨_, _, _, ej, _⟩ := J
  intro p hp
  obtain ⟨ps, h1, h2, h3⟩ := t p hp
  refine ⟨ps, h _ _ (ne_of h1 ej (by intro z; cases z)) h1, h2, fun pos cv hc => ?_⟩
  obtain ⟨c, e1, e2⟩ := h3 pos cv hc
  exact ⟨c, e1, h _ _ (ne_of e2 ej (by unfold CodeO; intro z; cases z)) e2⟩
theorem tabs_same {T : List (Addr × Str)} {H H' : Hp} (t : Tabs T H) (h : Same H H') : Tabs T H' := t.ext h
theorem tabs_off {T : List (Addr × Str)} {L : Addr} {us : List V} {H H' : Hp} (t : Tabs T H) (eL : H L = some (.lst us)) (h : ∀ b o, b ≠ L → H b = some o → H' b = some o) : Tabs T H' := by
  intro p hp
  obtain ⟨ps, h1, h2, h3⟩ := t p hp
  refine ⟨ps, h _ _ (ne_of h1 eL (by intro z; cases z)) h1, h2, fun pos cv hc => ?_⟩
  obtain ⟨c, e1, e2⟩ := h3 pos cv hc
  exact ⟨c, e1, h _ _ (ne_of e2 eL (by unfold CodeO; intro z; cases z)) e2⟩
/-- a drawn lot with its numbers -/
structure LtE where
  p : Addr
  t : Addr
  n : Addr
  y : Str
  ys : List Str
  ns : List Int
structure LtOk (H : Hp) (e : LtE) : Prop where
  ep : H e.p = some (.tup [.ref e.t, .ref e.n])
  et : H e.t = some (.tup (e.ys.map V.str))
  en : H e.n = some (.tup (e.ns.map V.int))
  g : CrG e.y e.ys e.ns
  pos : 0 < e.ns.sum
theorem LtOk.keep {H H' : Hp} {e : LtE} (h : LtOk H e) (k : ∀ b xs, H b = some (HO.tup xs) → H' b = some (HO.tup xs)) : LtOk H' e := ⟨k _ _ h.ep, k _ _ h.et, k _ _ h.en, h.g, h.pos⟩
def LtsOk (H : Hp) (es : List LtE) : Prop := ∀ e ∈ es, LtOk H e
theorem LtsOk.keep {H H' : Hp} {es : List LtE} (h : LtsOk H es) (k : ∀ b xs, H b = some (HO.tup xs) → H' b = some (HO.tup xs)) : LtsOk H' es := fun e m => (h e m).keep k
theorem tup_kp {j : Addr} {H H' : Hp} (J : Jar H j) (k : Kp j H H') : ∀ b xs, H b = some (HO.tup xs) → H' b = some (HO.tup xs) := fun b xs e => k _ _ (off_jar J e fun _ => nofun) e
theorem tup_ext {H H' : Hp} (k : ExtN H H') : ∀ b xs, H b = some (HO.tup xs) → H' b = some (HO.tup xs) := fun b xs e => k _ _ e (fun xs z => by cases z)
/-- all that is no list and no table stays -/
def ExtO (H H' : Hp) : Prop := ∀ b o, (∀ xs, o ≠ HO.lst xs) → (∀ ps, o ≠ HO.tbl ps) → H b = some o → H' b = some o
theorem ExtO.off {H H' : Hp} {D : Addr} {us : List V} (eD : H D = some (.lst us)) (k : ∀ b o, b ≠ D → H b = some o → H' b = some o) : ExtO H H' := fun b o nl _ e => k b o (fun z => by rw [z, eD] at e; cases e; exact nl _ rfl) e
theorem CrK.exo {C Cr : Addr} {H H' : Hp} {c r t n : Addr} {y : Str} {ys : List Str} {ns : List Int} (h : CrK C Cr H c r t n y ys ns) (k : ExtO H H') : CrK C Cr H' c r t n y ys ns := by
  have ki : ∀ {b C dx fs}, H b = some (.ins C dx fs) → H' b = some (.ins C dx fs) := fun h => k _ _ (fun xs z => by cases z) (fun xs z => by cases z) h
  have kt : ∀ {b xs}, H b = some (.tup xs) → H' b = some (.tup xs) := fun h => k _ _ (fun xs z => by cases z) (fun xs z => by cases z) h
  obtain ⟨⟨⟨r0, n0, t0, z0, ⟨dx0, fs0, e0, l1, l2, l3⟩, ⟨dr0, fr0, er0, lr⟩, ht, hn, so⟩, dx, fs, r', t', e, l, no, ⟨dr, fr, er, lr'⟩⟩, ⟨dx2, fs2, e2, l4⟩, ⟨dr2, fr2, er2, lr2⟩, et, en⟩ := h
  exact ⟨⟨⟨r0, n0, t0, z0, ⟨dx0, fs0, ki e0, l1, l2, l3⟩, ⟨dr0, fr0, ki er0, lr⟩, kt ht, kt hn, so⟩, dx, fs, r', t', ki e, l, no, ⟨dr, fr, ki er, lr'⟩⟩, ⟨dx2, fs2, ki e2, l4⟩, ⟨dr2, fr2, ki er2, lr2⟩, kt et, kt en⟩
/-- a crowd over a drawn lot -/
def CrOk (C Cr : Addr) (H : Hp) (e : LtE) (c : Addr) : Prop := ∃ r, CrK C Cr H c r e.t e.n e.y e.ys e.ns
theorem CrOk.ext {C Cr : Addr} {H H' : Hp} {e : LtE} {c : Addr} (h : CrOk C Cr H e c) (k : ExtN H H') : CrOk C Cr H' e c := h.imp fun r a => a.ext k
inductive CrsOk (C Cr : Addr) (H : Hp) : List LtE → List Addr → Prop
  | nil : CrsOk C Cr H [] []
  | cons {e : LtE} {es : List LtE} {c : Addr} {cs : List Addr} : CrOk C Cr H e c → CrsOk C Cr H es cs → CrsOk C Cr H (e :: es) (c :: cs)
theorem CrsOk.ext {C Cr : Addr} {H H' : Hp} {es : List LtE} {cs : List Addr} (h : CrsOk C Cr H es cs) (k : ExtN H H') : CrsOk C Cr H' es cs := by
  induction h with
  | nil => exact .nil
  | cons a _ ih => exact .cons (a.ext k) ih
theorem CrsOk.exo {C Cr : Addr} {H H' : Hp} {es : List LtE} {cs : List Addr} (h : CrsOk C Cr H es cs) (k : ExtO H H') : CrsOk C Cr H' es cs := by
  induction h with
  | nil => exact .nil
  | cons a _ ih => exact .cons (a.imp fun r b => b.exo k) ih
theorem CrsOk.snoc {C Cr : Addr} {H : Hp} {es : List LtE} {cs : List Addr} {e : LtE} {c : Addr} (h : CrsOk C Cr H es cs) (a : CrOk C Cr H e c) : CrsOk C Cr H (es ++ [e]) (cs ++ [c]) := by
  induction h with
  | nil => exact .cons a .nil
  | cons b _ ih => exact .cons b ih
theorem CrsOk.len {C Cr : Addr} {H : Hp} {es : List LtE} {cs : List Addr} (h : CrsOk C Cr H es cs) : cs.length = es.length := by
  induction h with
  | nil => rfl
  | cons _ _ ih => simp [ih]
theorem CrsOk.at {C Cr : Addr} {H : Hp} {es : List LtE} {cs : List Addr} (h : CrsOk C Cr H es cs) : ∀ {k : Nat} {e : LtE}, es[k]? = some e → ∃ c, cs[k]? = some c ∧ CrOk C Cr H e c := by
  induction h with
  | nil => intro k e z; simp at z
  | cons a _ ih =>
    intro k e z
    cases k with
    | zero => cases z; exact ⟨_, rfl, a⟩
    | succ k => exact ih z
theorem CrsOk.back {C Cr : Addr} {H : Hp} {es : List LtE} {cs : List Addr} (h : CrsOk C Cr H es cs) : ∀ {k : Nat} {c : Addr}, cs[k]? = some c → ∃ e, es[k]? = some e ∧ CrOk C Cr H e c := by
  induction h with
  | nil => intro k e z; simp at z
  | cons a _ ih =>
    intro k e z
    cases k with
    | zero => cases z; exact ⟨_, rfl, a⟩
    | succ k => exact ih z
/-- a crowd that is made -/
theorem made_cr {C Cr : Addr} {H4 H5 : Hp} {r1 c1 t n : Addr} {y : Str} {ys : List Str} {ns : List Int} (g : CrG y ys ns) (a1 : RollAt C H4 r1 t (tidy y)) (et : H4 t = some (.tup (ys.map V.str))) (en : H4 n = some (.tup (ns.map V.int))) (s5 : Same H4 H5) (b1 : CrAt Cr H5 c1 r1 n ns.sum) (nf : NoF Cr H5 c1) : CrK C Cr H5 c1 r1 t n y ys ns := by
  obtain ⟨dx, fs, ec, no⟩ := id nf
  obtain ⟨dx', fs', ec', l1, l2, l3⟩ := id b1
  rw [ec] at ec'
  cases ec'
  have a5 := a1.same s5
  exact ⟨⟨⟨r1, n, t, _, b1, a5, s5 _ _ et, s5 _ _ en, g.G.strOk⟩, dx, fs, r1, t, ec, l1, no, a5⟩, b1, a5, s5 _ _ et, s5 _ _ en⟩
/-- what is told of a drawn lot -/
def tellS (e : LtE) : Str := (ansD (tidy e.y) e.ys e.ns).shown
def spRgt (TT : List (Addr × Str)) : Sp := fun vs H Q _ => ∃ j : Addr, vs = [.ref j] ∧ Jar H j ∧ Tabs TT H ∧ ∀ H', KpN j H H' → Jar H' j → Tabs TT H' → Q (.bl true) H'
section
variable {P : Program} {w : World} {K : PySem.W.Frag} {mg : Str → Option Value} {base : Heap} {C Cr : Addr}
theorem ok_rgt {f fAw c1 P1 fCn fP fRo fL2 fA fD fSf fH fN fR fI fT2 fCI fNu fM fL fS pR fCR pN fCN pP fCP fChk fChT fTh fO fAb fBts fBtn fSmr fRn fWi fTi fOd fAg fGa fIsC fRou fThs fSta fWup fWam fThr fPla fCkT dP pO pT : Addr} {fd fdAw fdCn fdP fdRo fdL2 fdA fdD fdSf fdH fdN fdR fdI fdT2 fdCI fdNu fdM fdL fdS fdCR fdCN fdCP fdChk fdChT fdTh fdO fdAb fdBts fdBtn fdSmr fdRn fdWi fdTi fdOd fdAg fdGa fdIsC fdRou fdThs fdSta fdWup fdWam fdThr fdPla fdCkT : FuncData} {TT : List (Addr × Str)}
    (D : DefAt K mg "_law_right" sRgt ["_law_jar_here"] f fd) (DAw : DefAt K mg "_law_answers" sAnw ["_law_mine"] fAw fdAw)
    (DCn : DefAt K mg "_law_counts" sCnt ["_law_jar_here", "_law_lot"] fCn fdCn) (DPi : DefAt K mg "_law_pick" sPick ["_law_jar_here", "_law_menu"] fP fdP) (DRo : DefAt K mg "_law_roster" sRos ["_law_jar_here", "_law_size", "_law_many"] fRo fdRo) (DL : DefAt K mg "_law_lot_of" sLot ["_law_jar_here", "_law_things_here", "_law_many"] fL2 fdL2) (DA : DefAt K mg "_law_letters" sLett ["_law_jar_here", "_law_many"] fA fdA) (DD : DefAt K mg "_law_dip" sDip ["_law_jar_here", "_law_wide"] fD fdD)
    (DS : DefAt K mg "_law_shuffled" sShuf ["_law_jar_here", "_law_things_here"] fSf fdSf) (DH : DefAt K mg "_law_hill" sHill ["_law_jar_here", "_law_line_here"] fH fdH) (FN : Fun K "__init__" "Roll.__init__" sIni fN fdN) (bI : Binds K fdN ["self", "orders"] []) (MK : Mk K C fN)
    (DR : DefAt K mg "right_ahead" sRah ["orders"] fR fdR) (DI : DefAt K mg "is_order" sIsO ["value"] fI fdI) (DT : DefAt K mg "things_of" sThO ["order"] fT2 fdT2)
    (FCI : Fun K "__init__" "Crowd.__init__" sCIn fCI fdCI) (bCI : Binds K fdCI ["self", "roll", "numbers"] []) (MKc : Mk K Cr fCI)
    (DM : DefAt K mg "right_numbers" sRnu ["numbers", "many"] fM fdM) (DN : DefAt K mg "is_number" sNum ["value"] fNu fdNu) (FL : Fun K "__len__" "Roll.__len__" sLen fL fdL) (bL : Binds K fdL ["self"] []) (OL : Own K C "__len__" fL)
    (FS : Fun K "__str__" "Roll.__str__" sStr fS fdS) (OS : Own K C "__str__" fS) (bS : Binds K fdS ["self"] [])
    (PCR : PropOf K Cr "roll" pR fCR) (FCR : Fun K "roll" "Crowd.roll" sCRo fCR fdCR) (bCR : Binds K fdCR ["self"] []) (PCN : PropOf K Cr "numbers" pN fCN) (FCN : Fun K "numbers" "Crowd.numbers" sCNu fCN fdCN) (bCN : Binds K fdCN ["self"] []) (PCP : PropOf K Cr "people" pP fCP) (FCP : Fun K "people" "Crowd.people" sCPe fCP fdCP) (bCP : Binds K fdCP ["self"] [])
    (DK : DefAt K mg "check_roll" sChk ["roll"] fChk fdChk) (DChT : DefAt K mg "check_thing" sChT ["things", "thing"] fChT fdChT) (PT : PropOf K C "things" pT fTh) (FT : Fun K "things" "Roll.things" sThi fTh fdTh) (bT : Binds K fdTh ["self"] []) (PO : PropOf K C "orders" pO fO) (FO : Fun K "orders" "Roll.orders" sOrd fO fdO) (bO : Binds K fdO ["self"] [])
    (FAb : Fun K "_above" "Crowd._above" sAb_ fAb fdAb) (mAb : Meth K Cr "_above" fAb) (bAb : Binds K fdAb ["self", "thing", "other"] [])
    (FBt : Fun K "beats" "Crowd.beats" sBts fBts fdBts) (mBt : Meth K Cr "beats" fBts) (bBt : Binds K fdBts ["self", "thing", "other"] []) (FBn : Fun K "_beaten" "Crowd._beaten" sBtn fBtn fdBtn) (mBn : Meth K Cr "_beaten" fBtn) (bBn : Binds K fdBtn ["self"] [])
    (FSr : Fun K "some_round" "Crowd.some_round" sSmr fSmr fdSmr) (mSr : Meth K Cr "some_round" fSmr) (bSr : Binds K fdSmr ["self"] []) (DRn : DefAt K mg "round_among" sRnd ["things", "beaten"] fRn fdRn) (mper : mg "permutations" = some (.type "itertools.permutations"))
    (FWi : Fun K "winner" "Crowd.winner" sWin fWi fdWi) (mWi : Meth K Cr "winner" fWi) (bWi : Binds K fdWi ["self"] [])
    (FTi : Fun K "ties" "Crowd.ties" sTie fTi fdTi) (mTi : Meth K Cr "ties" fTi) (bTi : Binds K fdTi ["self"] []) (FOd : Fun K "order" "Crowd.order" sOdr fOd fdOd) (mOd : Meth K Cr "order" fOd) (bOd : Binds K fdOd ["self"] []) (hc1 : fdOd.code = .ref c1) (TB1 : TabB base mg c1 P1) (hm1 : (P1, ordQ) ∈ TT) (hu1 : ∀ z ∈ TT, z.1 = P1 → z.2 = ordQ)
    (FAg : Fun K "agreeing" "Crowd.agreeing" sAgr fAg fdAg) (mAg : Meth K Cr "agreeing" fAg) (bAg : Binds K fdAg ["self"] []) (DGa : DefAt K mg "goes_against_none" sGan ["order", "beaten"] fGa fdGa)
    (DIsC : DefAt K mg "is_calm" sIsC ["roll"] fIsC fdIsC) (DRou : DefAt K mg "rough" sRou ["roll"] fRou fdRou) (DThs : DefAt K mg "threes_of" sThs ["things"] fThs fdThs) (DSta : DefAt K mg "standing" sSta ["order", "three"] fSta fdSta) (DWup : DefAt K mg "wheels_upon" sWup ["three"] fWup fdWup) (DWam : DefAt K mg "wheel_among" sWam ["orders", "three"] fWam fdWam)
    (DThr : DefAt K mg "threes" sThr ["roll"] fThr fdThr) (DPla : DefAt K mg "places" sPla ["roll", "three"] fPla fdPla) (DCkT : DefAt K mg "check_three" sCkT ["things", "three"] fCkT fdCkT) (PA : PosAt K w mg dP)
    (bsum : mg "sum" = none) (bzip : mg "zip" = none) (T : Txt mg) (Lm : Lims mg) (R : RollC K mg C) (RC : CrC K mg Cr) : FnOkG P w K mg base CX0 8 f fd ["_law_jar_here"] (spRgt TT) := by
  have GAw : FnOkG P w K mg base CX0 7 fAw fdAw ["_law_mine"] (spAnw TT C Cr) := ok_anw DAw FS OS bS PCR FCR bCR PCN FCN bCN PCP FCP bCP DK DChT PT FT bT PO FO bO FAb mAb bAb FBt mBt bBt FBn mBn bBn FSr mSr bSr DRn mper FWi mWi bWi FTi mTi bTi FOd mOd bOd hc1 TB1 hm1 hu1 FAg mAg bAg DGa DIsC DRou DThs DSta DWup DWam DThr DPla DCkT PA bsum bzip T R RC
  have GI : FnOk P w K mg base CX0 3 fN fdN ["self", "orders"] (spIni K C) := ok_ini FN DR DI DT T Lm R
  have GCI : FnOk P w K mg base CX0 3 fCI fdCI ["self", "roll", "numbers"] (spCIn K C Cr) := ok_cin FCI DK DM DN FL bL OL bsum T R RC
  have GRo : FnOk P w K mg base CX0 4 fRo fdRo ["_law_jar_here", "_law_size", "_law_many"] spRos := ok_ros DRo DL DA DD DS DH T
  have GCn : FnOk P w K mg base CX0 3 fCn fdCn ["_law_jar_here", "_law_lot"] (spCnt K) := ok_cnt DCn DPi DD T
  have GCN : FnOk P w K mg base CX0 1 fCN fdCN ["self"] (spCNu Cr) := ok_cnu FCN RC
  refine Fun.okG D.F scRgt (fun vs H Q E h => ?_) (fun cdv A outer sh H vs Q E hA hr h => ?_)
  · obtain ⟨j, rfl, _⟩ := h
    rfl
  · obtain ⟨j, rfl, hj, hT, q⟩ := h
    have hu := hr.units
    refine ⟨_, (pss_cons (ps_set (i := 1) scRgt.nd rfl (.inl rfl) (pe_lstS pa_nil))
      (pss_cons (ps_for PassesOwn.never rfl (pi_range1 (by rfl) T.b_range (pa_cons pe_int pa_nil)) (pg_name (i := 2) scRgt.nd rfl (.inl rfl))
        (pss_cons (ps_set (i := 3) scRgt.nd rfl (.inl rfl) (pe_call GRo (hr.mono (by decide)) (by rfl) DRo.g DRo.F.kp DRo.b .nil pass0 (pa_cons (pv 0) (pa_cons pe_int (pa_cons pe_int pa_nil)))))
        (pss_one (ps_expr (pe_bm PySem.F.plainAttrs_list PySem.F.slot_list_append PySem.F.type_list_append mt_append (pv 1) (pa_cons (pe_tupS (pa_cons (pv 3) (pa_cons (pe_call GCn (hr.mono (by decide)) (by rfl) DCn.g DCn.F.kp DCn.b .nil pass0 (pa_cons (pv 0) (pa_cons (pv 3) pa_nil))) pa_nil))) pa_nil))))))
      (pss_cons (ps_setLc (i := 4) (own := [("_law_lot", 3), ("_law_counts_here", 6)]) (g := gTup K 2 (gCons (gName 3) (gCons (gName 6) gNil))) (tt := tYes) rfl scRgt.nd rfl rfl (sw_true rfl rfl rfl (by decide +kernel)) (pi_list (pv 1)) (blkOk_by (own := [("_law_lot", 3), ("_law_counts_here", 6)]) (N := NR) (sc := defScope sRgt) (by decide +kernel))
          (fun _ _ _ _ _ => pg_tup rfl (pgs_cons (pg_name (i := 3) scRgt.nd rfl (Or.inl rfl)) (pgs_cons (pg_name (i := 6) scRgt.nd rfl (Or.inl rfl)) pgs_nil))) (fun _ _ _ _ _ => pts_nil) (fun _ _ _ _ _ => pe_make MKc GCI (hr.mono (by decide)) (by rfl) RC.g bCI .nil pass0 (pa_cons (pe_make MK GI (hr.mono (by decide)) (by rfl) R.g bI .nil pass0 (pa_cons (pv 3) pa_nil)) (pa_cons (pv 6) pa_nil))))
      (pss_cons (ps_setLc (i := 5) (own := [("_law_mine", 7)]) (g := gName 7) (tt := tYes) rfl scRgt.nd rfl rfl (sw_true rfl rfl rfl (by decide +kernel)) (pi_list (pv 4)) (blkOk_by (own := [("_law_mine", 7)]) (N := NR) (sc := defScope sRgt) (by decide +kernel))
          (fun _ _ _ _ _ => pg_name (i := 7) scRgt.nd rfl (Or.inl rfl)) (fun _ _ _ _ _ => pts_nil) (fun _ _ _ _ _ => pe_callG GAw hA (hr.mono (by decide)) (by rfl) DAw.g DAw.F.kp DAw.b .nil pass0 (pa_cons (pv 7) pa_nil)))
      (pss_cons (ps_for PassesOwn.never rfl (pi_list (pe_lstS (pa_cons pe_int (pa_cons pe_int (pa_cons pe_int (pa_cons pe_int pa_nil)))))) (pg_name (i := 2) scRgt.nd rfl (.inl rfl))
        (pss_cons (ps_if (PW.pt (pw_or (pt_cmpR op_ne (pe_callG GAw hA (hr.mono (by decide)) (by rfl) DAw.g DAw.F.kp DAw.b .nil pass0 (pa_cons (pe_ix ix_list (pv 4) (pv 2) (fun _ _ => rfl)) pa_nil)) (pe_ix ix_list (pv 5) (pv 2) (fun _ _ => rfl)) (nomark _)) (pw_or1 (pt_cmpR (op_neD hu) (pe_prop (pe_ix ix_list (pv 4) (pv 2) (fun _ _ => rfl)) RC.cls PCN GCN (hr.mono (by decide)) bCN .nil pass0 rfl) (pe_ix ix_tup (pe_ix ix_list (pv 1) (pv 2) (fun _ _ => rfl)) pe_int (fun _ _ => rfl)) (nomark _))))) (pss_one (ps_ret pe_bl)) pss_nil)
        (pss_one (ps_if (pt_cmpR op_ne (pe_callG GAw hA (hr.mono (by decide)) (by rfl) DAw.g DAw.F.kp DAw.b .nil pass0 (pa_cons (pe_make MKc GCI (hr.mono (by decide)) (by rfl) RC.g bCI .nil pass0 (pa_cons (pe_make MK GI (hr.mono (by decide)) (by rfl) R.g bI .nil pass0 (pa_cons (pe_ix ix_tup (pe_ix ix_list (pv 1) (pv 2) (fun _ _ => rfl)) pe_int (fun _ _ => rfl)) pa_nil)) (pa_cons (pe_ix ix_tup (pe_ix ix_list (pv 1) (pv 2) (fun _ _ => rfl)) pe_int (fun _ _ => rfl)) pa_nil))) pa_nil)) (pe_ix ix_list (pv 5) (pv 2) (fun _ _ => rfl)) (nomark _)) (pss_one (ps_ret pe_bl)) pss_nil))))
      (pss_one (ps_ret pe_bl))))))), ?_⟩
    have lim : ∀ {n : Nat}, n ≤ 10000 → n ≤ sizeLine := fun h => by rw [sizeLine_eq]; omega
    refine ⟨lim (show 0 ≤ 10000 by decide), fun L H1 s1 n1 e1 => ?_⟩
    refine ⟨3, rfl, by decide, by decide, for_range (lo := 0) (n := 3) (fun i σ H' => ∃ v2 v3 v4 v5 v6 v7 es, σ = [some (.ref j), some (.ref L), v2, v3, v4, v5, v6, v7] ∧ Jar H' j ∧ KpN j H H' ∧ Tabs TT H' ∧ H' L = some (.lst (es.map fun e : LtE => V.ref e.p)) ∧ LtsOk H' es ∧ es.length = i)
      ⟨_, _, _, _, _, _, [], rfl, hj.same s1, .ext (ExtN.of s1), hT.ext s1, e1, (fun e h => by cases h), rfl⟩ (fun i σ H' hi hP => ?_) (fun σ H' hP => ?_)⟩
    · obtain ⟨v2, v3, v4, v5, v6, v7, es, rfl, hJ, hk, T0, eL, ok, len⟩ := hP
      have LJ : L ≠ j := jar_ne hj n1
      refine ⟨_, rfl, j, 5, 6, rfl, hJ, by decide, by decide, by decide, by decide, fun ys y p H2 k2 J2 np ep lo ly h3 hs hm => ?_⟩
      have G : Good ys y := ⟨lo, ly, h3, by omega, by omega⟩
      have pj : p ≠ j := jar_ne hJ np
      have h0 := G.lot.some
      refine ⟨_, rfl, .inl ⟨rfl, _, SqL.of (k2 _ _ LJ eL)⟩, _, rfl, _, rfl, _, rfl, j, p, ys, rfl, J2, ep, h0, G.few, fun n ns H3 k3 J3 en nn nl nb npos => ?_⟩
      have kk := k2.trans k3
      refine ⟨lim (show 2 ≤ 10000 by decide), fun q2 H4 s4 n4 e4 => ⟨L, _, _, rfl, rfl, s4 _ _ (kk _ _ LJ eL), by rw [List.length_map, sizeLine_eq]; omega, ?_⟩⟩
      have up : ∀ b xs, H' b = some (HO.tup xs) → H4 b = some (HO.tup xs) := fun b xs e => s4 _ _ (tup_kp hJ kk _ _ e)
      have offL : ∀ b o, b ≠ L → H4 b = some o → (upd H4 L (.lst (es.map (fun e : LtE => V.ref e.p) ++ [.ref q2]))) b = some o := fun b o nb e => by rw [upd_ne nb]; exact e
      have eL4 := s4 _ _ (kk _ _ LJ eL)
      have tL : ∀ b xs, H4 b = some (HO.tup xs) → (upd H4 L (.lst (es.map (fun e : LtE => V.ref e.p) ++ [.ref q2]))) b = some (HO.tup xs) := fun b xs e => offL _ _ (fun z => by rw [z, eL4] at e; cases e) e
      refine ⟨_, _, _, _, _, _, es ++ [⟨q2, p, n, y, ys, ns⟩], rfl, ?_, ?_, ?_, ?_, ?_, ?_⟩
      · obtain ⟨d, s, c, ej, r⟩ := J3.same s4
        exact ⟨d, s, c, offL _ _ LJ.symm ej, r⟩
      · exact fun b o nb nt e => offL _ _ (fun z => by rw [z, n1] at e; cases e) (s4 _ _ (kk _ _ nb (hk _ _ nb nt e)))
      · exact tabs_off ((tabs_kp T0 hJ kk).ext s4) eL4 offL
      · rw [upd_same, List.map_append] <;> rfl
      · intro e he
        rcases List.mem_append.mp he with he | he
        · exact ((ok e he).keep up).keep tL
        · rw [List.mem_singleton.mp he]
          exact ⟨tL _ _ e4, tL _ _ (s4 _ _ (k3 _ _ pj ep)), tL _ _ (s4 _ _ en), ⟨G, nl, (by show ys.length ≤ 8; omega), nb⟩, npos⟩
      · rw [List.length_append, len] <;> rfl
    · obtain ⟨v2, v3, v4, v5, v6, v7, es, rfl, hJ, hk, T0, eL, ok, len⟩ := hP
      obtain ⟨e0, e1', e2', rfl⟩ : ∃ a b c, es = [a, b, c] := by
        match es, len with
        | [a, b, c], _ => exact ⟨a, b, c, rfl⟩
      obtain ⟨es, hes⟩ : ∃ es, es = [e0, e1', e2'] := ⟨_, rfl⟩
      rw [← hes] at eL ok
      have el : es.length = 3 := by rw [hes] <;> rfl
      refine ⟨_, rfl, L, rfl, ⟨_, SqL.of eL⟩, fun D nD => lc_list (K := K) (a := L) (xs := es.map fun e : LtE => V.ref e.p) (fun k H1 => Same H' H1 ∧ ∃ cs : List Addr, H1 D = some (.lst (cs.map V.ref)) ∧ CrsOk C Cr H1 (es.take k) cs) ⟨same_new nD, [], upd_same, .nil⟩ (fun k H1 _ hP => SqL.of (hP.1 _ _ eL)) (fun k v H2 hv hP => ?_) (fun H2 hP => ?_)⟩
      · obtain ⟨s2, cs, eD, ok2⟩ := hP
        rw [List.getElem?_map] at hv
        obtain ⟨e, he, rfl⟩ := Option.map_eq_some_iff.mp hv
        have oe := (ok e (List.mem_of_getElem? he)).keep fun b xs h => s2 _ _ h
        have kl := (List.getElem?_eq_some_iff.mp he).1
        refine ⟨e.p, _, rfl, SqT.of oe.ep, rfl, _, _, rfl, _, _, rfl, rfl, rfl, ?_⟩
        refine ⟨_, rfl, fun r1 d1 nr1 nd1 _ => mk_roll oe.et oe.g.G nr1 nd1 fun H4 s4 a1 => ⟨rfl, ?_⟩⟩
        refine ⟨_, rfl, fun c1 d2 nc1 nd2 _ => mk_crowd a1 (s4 _ _ oe.et) (s4 _ _ oe.en) oe.g.nl (by have := oe.g.few; omega) (fun i hi => (oe.g.nb i hi).1) oe.pos nc1 nd2 fun H5 s5 b1 nf1 => ⟨rfl, ?_⟩⟩
        have ck := made_cr oe.g a1 (s4 _ _ oe.et) (s4 _ _ oe.en) s5 b1 nf1
        have s25 := s4.trans s5
        have offD : ∀ b o, H' b = some o → (upd H5 D (.lst (cs.map V.ref ++ [.ref c1]))) b = some o := fun b o h => by rw [upd_ne (ne_of_none h nD)]; exact s25 _ _ (s2 _ _ h)
        have eD5 := s25 _ _ eD
        have kD : ExtO H5 (upd H5 D (.lst (cs.map V.ref ++ [.ref c1]))) := .off eD5 fun b o nb e => by rw [upd_ne nb]; exact e
        have cl := ok2.len
        rw [List.length_take] at cl
        refine ⟨_, eD5, by rw [List.length_map, sizeLine_eq]; omega, offD, cs ++ [c1], ?_, ?_⟩
        · rw [upd_same, List.map_append] <;> rfl
        · rw [List.take_succ, he, Option.toList_some]
          exact (((ok2.ext (ExtN.of s25)).exo kD)).snoc ⟨r1, ck.exo kD⟩
      · obtain ⟨s2, cs, eD, ok2⟩ := hP
        rw [List.length_map, List.take_length] at ok2
        have cl := ok2.len
        have eL2 := s2 _ _ eL
        have ok2L : LtsOk H2 es := ok.keep fun b xs e => s2 _ _ e
        refine ⟨_, rfl, D, rfl, ⟨_, SqL.of eD⟩, fun F nF => lc_list (K := K) (a := D) (xs := cs.map V.ref) (fun k H3 => ExtN H2 H3 ∧ Tabs TT H3 ∧ H3 F = some (.lst ((es.take k).map fun e => V.str (tellS e)))) ⟨ExtN.of (same_new nF), T0.ext (s2.trans (same_new nF)), upd_same⟩ (fun k H3 _ hP => SqL.of (hP.1 _ _ eD (fun ps z => by cases z))) (fun k v H3 hv hP => ?_) (fun H3 hP => ?_)⟩
        · obtain ⟨x3, T3, eF⟩ := hP
          rw [List.getElem?_map] at hv
          obtain ⟨c, hc, rfl⟩ := Option.map_eq_some_iff.mp hv
          obtain ⟨e, he, r, ck⟩ := ok2.back hc
          have oe := ok2L e (List.mem_of_getElem? he)
          have kl := (List.getElem?_eq_some_iff.mp he).1
          refine ⟨rfl, _, rfl, c, r, e.t, e.n, e.y, e.ys, e.ns, rfl, ck.ext x3, oe.g, T3, fun H4 x4 T4 => ?_⟩
          have eF4 := x4 _ _ eF (fun ps z => by cases z)
          refine ⟨_, eF4, by rw [List.length_map, List.length_take, sizeLine_eq]; omega, fun b o h nt => by rw [upd_ne (ne_of_none h nF)]; exact x4 _ _ (x3 _ _ h nt) nt, tabs_off T4 eF4 fun b o nb e => by rw [upd_ne nb]; exact e, ?_⟩
          rw [upd_same, List.take_succ, he, Option.toList_some, List.map_append] <;> rfl
        · obtain ⟨x3, T3, eF⟩ := hP
          rw [List.length_map, cl, List.take_length] at eF
          have eL3 := x3 _ _ eL2 (fun ps z => by cases z)
          have eD3 := x3 _ _ eD (fun ps z => by cases z)
          have ok3 := ok2L.keep (tup_ext x3)
          have cr3 := ok2.ext x3
          have J3 := (hJ.same s2).ext x3
          have K3 := hk.trans ((KpN.ext (ExtN.of s2)).trans (.ext x3))
          refine ⟨lim (show 4 ≤ 10000 by decide), fun M H4 s4 n4 e4 => ⟨M, rfl, ⟨_, SqL.of e4⟩, for_list (K := K) (a := M) (xs := [V.int 2, V.int 0, V.int 1, V.int 0]) (fun k σ H' => ∃ v2 v3 v6 v7, σ = [some (.ref j), some (.ref L), v2, v3, some (.ref D), some (.ref F), v6, v7] ∧ ExtN H3 H' ∧ Tabs TT H' ∧ H' M = some (.lst [V.int 2, V.int 0, V.int 1, V.int 0])) ⟨_, _, _, _, rfl, ExtN.of s4, T3.ext s4, e4⟩ (fun k σ H' _ hP => ?_) (fun k v σ H5 hv hP => ?_) (fun σ H5 hP => ?_)⟩⟩
          · obtain ⟨_, _, _, _, _, _, _, eM⟩ := hP
            exact SqL.of eM
          · obtain ⟨w2, w3, w6, w7, rfl, x5, T5, eM⟩ := hP
            obtain ⟨m, hm, rfl⟩ : ∃ m : Nat, m < 3 ∧ v = .int m := by
              match k, hv with
              | 0, hv => cases hv; exact ⟨2, by decide, rfl⟩
              | 1, hv => cases hv; exact ⟨0, by decide, rfl⟩
              | 2, hv => cases hv; exact ⟨1, by decide, rfl⟩
              | 3, hv => cases hv; exact ⟨0, by decide, rfl⟩
              | n + 4, hv => simp at hv
            obtain ⟨e, he⟩ : ∃ e, es[m]? = some e := ⟨_, List.getElem?_eq_getElem (by omega)⟩
            obtain ⟨c, hc, r, ck⟩ := cr3.at he
            have oe := ok3 e (List.mem_of_getElem? he)
            have gC : atI (cs.map V.ref) (m : Int) = some (.ref c) := atI_nat (by rw [List.getElem?_map, hc] <;> rfl)
            have gF : atI (es.map fun e => V.str (tellS e)) (m : Int) = some (.str (tellS e)) := atI_nat (by rw [List.getElem?_map, he] <;> rfl)
            have gL : atI (es.map fun e : LtE => V.ref e.p) (m : Int) = some (.ref e.p) := atI_nat (by rw [List.getElem?_map, he] <;> rfl)
            have ck5 := ck.ext x5
            have oe5 := oe.keep (tup_ext x5)
            have eD5 := x5 _ _ eD3 (fun ps z => by cases z)
            have eF5 := x5 _ _ eF (fun ps z => by cases z)
            have eL5 := x5 _ _ eL3 (fun ps z => by cases z)
            refine ⟨_, rfl, _, rfl, D, _, _, _, rfl, rfl, SqL.of eD5, gC, c, r, e.t, e.n, e.y, e.ys, e.ns, rfl, ck5, oe.g, T5, fun H6 x6 T6 => ?_⟩
            have eD6 := x6 _ _ eD5 (fun ps z => by cases z)
            have eF6 := x6 _ _ eF5 (fun ps z => by cases z)
            have eL6 := x6 _ _ eL5 (fun ps z => by cases z)
            have ck6 := ck5.ext x6
            have oe6 := oe5.keep (tup_ext x6)
            obtain ⟨dx, fs, ec6, _⟩ := id ck6.cr
            refine ⟨_, rfl, _, rfl, F, _, _, _, rfl, rfl, SqL.of eF6, gF, rfl, _, rfl, iteNS rfl ?_⟩
            refine ⟨_, rfl, _, rfl, D, _, _, _, rfl, rfl, SqL.of eD6, gC, c, dx, fs, rfl, ec6, c, r, e.n, _, rfl, ck6.cr, _, rfl, _, rfl, L, _, _, _, rfl, rfl, SqL.of eL6, gL, e.p, _, 1, _, rfl, rfl, SqT.of oe6.ep, rfl, ?_⟩
            refine ⟨_, _, .tup (SqT.of ck6.en) (dp_ints e.ns), .tup (SqT.of oe6.en) (dp_ints e.ns), shaped_ints e.ns, shaped_ints e.ns, ?_⟩
            rw [eqv_ints, decide_eq_true rfl]
            refine ⟨_, rfl, iteF ?_⟩
            refine ⟨_, rfl, _, rfl, L, _, _, _, rfl, rfl, SqL.of eL6, gL, e.p, _, 0, _, rfl, rfl, SqT.of oe6.ep, rfl, fun r1 d1 nr1 nd1 _ => mk_roll oe6.et oe6.g.G nr1 nd1 fun H7 s7 a1 => ⟨rfl, ?_⟩⟩
            refine ⟨_, rfl, _, rfl, L, _, _, _, rfl, rfl, SqL.of (s7 _ _ eL6), gL, e.p, _, 1, _, rfl, rfl, SqT.of (s7 _ _ oe6.ep), rfl, fun c1 d2 nc1 nd2 _ => mk_crowd a1 (s7 _ _ oe6.et) (s7 _ _ oe6.en) oe6.g.nl (by have := oe6.g.few; omega) (fun i hi => (oe6.g.nb i hi).1) oe6.pos nc1 nd2 fun H8 s8 b1 nf1 => ⟨rfl, ?_⟩⟩
            have ck8 := made_cr oe6.g a1 (s7 _ _ oe6.et) (s7 _ _ oe6.en) s8 b1 nf1
            have s78 := s7.trans s8
            refine ⟨c1, r1, e.t, e.n, e.y, e.ys, e.ns, rfl, ck8, oe6.g, T6.ext s78, fun H9 x9 T9 => ?_⟩
            have x69 := (ExtN.of s78).trans x9
            have eF9 := x69 _ _ eF6 (fun ps z => by cases z)
            exact ⟨_, rfl, _, rfl, F, _, _, _, rfl, rfl, SqL.of eF9, gF, rfl, _, rfl, iteNS rfl ⟨_, _, _, _, rfl, x5.trans (x6.trans x69), T9, x69 _ _ (x6 _ _ eM (fun ps z => by cases z)) (fun ps z => by cases z)⟩⟩
          · obtain ⟨w2, w3, w6, w7, rfl, x5, T5, eM⟩ := hP
            exact q _ (K3.trans (.ext x5)) (J3.ext x5) T5
end
end L2.Cal
end

section
set_option maxRecDepth 100000
set_option maxHeartbeats 4000000
/-! the law's call, from a promise that asks that nothing is being shown -/
namespace L2.Cal
open PySem PySem.Spec PyProof.Rows L2
/-- the script's object, as it is tracked: unless the module itself holds it -/
def scriptH (K : PySem.W.Frag) (a : Addr) (ob : Obj) (ns : List Int) : Hp := fun b => if b = a ∧ (K.lookup a).isNone = true then some (.frz ob (.lst (ns.map V.int))) else none
theorem scriptH_some {K : PySem.W.Frag} {a b : Addr} {ob : Obj} {ns : List Int} {u : HO} (e : scriptH K a ob ns b = some u) : b = a ∧ K.lookup a = none ∧ u = .frz ob (.lst (ns.map V.int)) := by
  unfold scriptH at e
  split at e
  · rename_i h
    exact ⟨h.1, Option.isNone_iff_eq_none.mp h.2, (Option.some.inj e).symm⟩
  · cases e
theorem law_callG {P : Program} {w : World} {K : PySem.W.Frag} {mg mb : Str → Option Value} {CX : CXT} {k : Nat} {fa a : Addr} {fd : FuncData} {x : Str} {sp : Sp} {s : Shared} {vs : List Value} {ns : List Int}
    (KX : K.In s.heap) (hmg : s.heap.Ns mainGlobals mg) (hmb : s.heap.Ns builtinsNs mb) (hbb : ∀ x : Str, x ≠ "__name__" → mb x = bootBuiltins x) (hlim : s.heap.NoLimit) (hg : s.gens = #[])
    (ha : s.heap.get? a = some { cls := .type "list", data := .seq vs.toArray }) (hi : IntsAre vs ns) (hl : ns.length ≤ sizeLine) (hr : Room k callerA)
    (F : ∀ base : Heap, K.In base → base.Ns mainGlobals mg → FnOkG P w K mg base CX k fa fd [x] sp) (hbind : ∀ (s : Shared) (u : Value), BindsTo s fd ⟨[u], []⟩ [(x, u)])
    (hsp : ∀ H : Hp, SqL K H a (ns.map V.int) → sp [.ref a] H (fun v _ => v = .bl true) fun _ _ _ => False)
    (hCX : ∀ H e s', CX [] H s (fun _ _ _ => False) e s' → False) :
    codeAny (model P w) callerA (.call (.ref fa) ⟨[.ref a], []⟩) (fun r s' => r = .ok (.ret (.bool true)) ∧ OldK s.heap s'.heap ∧ s'.os = s.os ∧ AllBare s'.gens) s := by
  have rv := vals_ints hi
  let ob : Obj := { cls := .type "list", data := .seq vs.toArray }
  let H := scriptH K a ob ns
  have stay : ∀ {b : Addr} {o : Obj}, s.heap.get? b = some o → (b ≠ a ∨ (K.lookup a).isSome = true) → (hidT s.heap H).get? b = some o := fun {b o} e h => hidT_get e (by
    cases q : H b with
    | none => rfl
    | some u =>
      obtain ⟨e1, e2, _⟩ := scriptH_some q
      rcases h with h | h
      · exact absurd e1 h
      · rw [e2] at h; cases h)
  have ndict : ∀ {b : Addr} {m : Str → Option Value}, s.heap.Ns b m → (hidT s.heap H).Ns b m := fun {b m} h => by
    obtain ⟨o, es, ep, e, d, r⟩ := h
    refine ⟨o, es, ep, stay e (.inl fun z => ?_), d, r⟩
    rw [z, ha] at e
    cases e
    cases d
  have KB : K.In (hidT s.heap H) := fun b o e => stay (KX b o e) (by
    by_cases h : b = a
    · exact .inr (by rw [← h, e]; rfl)
    · exact .inl h)
  have M : Mod K mg (hidT s.heap H) := ⟨KB, ndict hmg, ⟨mb, ndict hmb, hbb⟩, by obtain ⟨mc, h1, h2⟩ := hlim; exact ⟨mc, ndict h1, h2⟩⟩
  have hok : HOk P w H s.heap := fun b u e => by
    obtain ⟨rfl, _, rfl⟩ := scriptH_some e
    exact ⟨ha, by rw [List.length_map]; exact hl, vs, _, rv, ha⟩
  have hS : SqL K H a (ns.map V.int) := by
    cases q : K.lookup a with
    | none => exact .inl (.inr ⟨ob, if_pos ⟨rfl, by rw [q]; rfl⟩⟩)
    | some o =>
      have e := KX a o q
      rw [ha] at e
      cases e
      exact .inr ⟨_, vs.toArray, _, q, rfl, rfl, rfl, by rw [List.size_toArray, hi.length]; exact hl, by simpa using rv⟩
  have e0 : Env0 P w K mg (hidT s.heap H) callerA [] s H := ⟨rfl, M, fun b o e => of_hidT e, Nat.le_of_eq (hidT_size _ _), trivial, fun b hb => (List.not_mem_nil (show b ∈ ([] : List Addr) from hb)).elim, hok, .of_eq hg⟩
  refine codeAny_mono ((F _ KB (ndict hmg)).run callerA [] s H ⟨[.ref a], []⟩ [.ref a] [.ref a] _ _ rfl hr e0 (hbind s (.ref a)) (.cons rfl .nil) (hsp H hS)) fun r s' h => ?_
  cases r with
  | error e => exact (hCX H e s' h).elim
  | ok fl =>
    cases fl with
    | ret u =>
      obtain ⟨v, H', os, bare, un, hok', r', q⟩ := h
      obtain rfl : v = .bl true := q
      obtain rfl : u = Value.bool true := r'
      refine ⟨rfl, OldK.of_keep fun b o e => ?_, os, bare⟩
      cases q : H b with
      | none => exact un.keep b o e q List.not_mem_nil List.not_mem_nil
      | some u =>
        obtain ⟨rfl, _, rfl⟩ := scriptH_some q
        obtain ⟨e2, _⟩ := hok' b _ (un.frzs b _ _ q)
        rw [ha] at e
        cases e
        exact e2
    | next => exact False.elim h
    | brk => exact False.elim h
    | cont => exact False.elim h
theorem walkG {l : PySem.W.OpenLaw} {n k : Nat} {q : Program} {loose : List Str} {XP : (Str → Option Value) → Heap → Prop} {YP : World → Heap → Prop} {d : DefRec} {K : Params → PySem.W.Frag} {CX : World → CXT} {sp : World → Sp} {x : Str}
    (hn : l.most = some n) (hn2 : n ≤ sizeLine) (hdf : d.params.defaults = []) (hr : Room k callerA) (hY : ∀ (w : World) (h : Heap), YP w h → (K w.params).In h)
    (F : ∀ (w : World) (mg : Str → Option Value) (fa : Addr) (h : Heap), (K w.params).In h → h.Ns mainGlobals mg → mg d.name = some (.ref fa) → ∃ fd : FuncData, (∀ (s : Shared) (u : Value), BindsTo s fd ⟨[u], []⟩ [(x, u)]) ∧
        ∀ base : Heap, (K w.params).In base → base.Ns mainGlobals mg → FnOkG l.prog w (K w.params) mg base (CX w) k fa fd [x] (sp w))
    (hsp : ∀ (w : World) (H : Hp) (a : Addr) (ns : List Int), ns.length ≤ n → SqL (K w.params) H a (ns.map V.int) → sp w [.ref a] H (fun v _ => v = .bl true) fun _ _ _ => False)
    (hCX : ∀ (w : World) (H : Hp) (s : Shared) (e : Value) (s' : Shared), CX w [] H s (fun _ _ _ => False) e s' → False) :
    PySem.W.WalkO q loose XP YP l.row.toRowW d [] (fun f vs => PySem.call f vs) := by
  refine Att.attach_call hn hdf fun w s₀ s₁ mg mb fa o pm cd doc a vs ns G Y ho hd hcd hmg hobj hints hlen hg => ?_
  obtain ⟨fd, hb, hF⟩ := F w mg fa _ (hY w _ Y) G.T.g hmg
  exact law_callG (hY w _ Y) G.T.g G.T.b G.T.builtins G.T.nolimit hg hobj hints (Nat.le_trans hlen hn2) hr hF hb (fun H hS => hsp w H a ns hlen hS) fun H e s' => hCX w H s₁ e s'
end L2.Cal
end

section
set_option maxRecDepth 100000
set_option maxHeartbeats 4000000
/-! the law's call where lambdas are made: the tables of code objects are tracked -/
namespace L2.Cal
open PySem PySem.Spec PyProof.Rows L2 LamX
abbrev tabsOf (cs : List (Addr × Addr)) : List Addr := cs.map (·.2)
def scriptT (K : PySem.W.Frag) (cs : List (Addr × Addr)) (a : Addr) (ob : Obj) (ns : List Int) : Hp := fun b => if b ∈ tabsOf cs then some (.tbl #[]) else scriptH K a ob ns b
theorem scriptT_cases {K : PySem.W.Frag} {cs : List (Addr × Addr)} {a b : Addr} {ob : Obj} {ns : List Int} {u : HO} (e : scriptT K cs a ob ns b = some u) : (b ∈ tabsOf cs ∧ u = .tbl #[]) ∨ (b ∉ tabsOf cs ∧ b = a ∧ K.lookup a = none ∧ u = .frz ob (.lst (ns.map V.int))) := by
  unfold scriptT at e
  by_cases h : b ∈ tabsOf cs
  · rw [if_pos h] at e
    exact .inl ⟨h, (Option.some.inj e).symm⟩
  · rw [if_neg h] at e
    exact .inr ⟨h, scriptH_some e⟩
section
variable {P : Program} {w : World} {K : PySem.W.Frag} {mg mb : Str → Option Value} {CX : CXT} {k : Nat} {fa a : Addr} {cs : List (Addr × Addr)} {fd : FuncData} {x : Str} {sp : Sp} {s : Shared} {vs : List Value} {ns : List Int}
theorem law_callGT (KX : K.In s.heap) (hmg : s.heap.Ns mainGlobals mg) (hmb : s.heap.Ns builtinsNs mb) (hbb : ∀ x : Str, x ≠ "__name__" → mb x = bootBuiltins x) (hlim : s.heap.NoLimit) (hg : s.gens = #[])
    (empty : ∀ p ∈ cs, s.heap.get? p.2 = some { cls := .none, data := .fields #[] }) (apart : ∀ p ∈ cs, K.lookup p.2 = none) (heads : ∀ p ∈ cs, PySem.W.CodeHd s.heap p.1 p.2)
    (main : ∃ (bm : Addr) (om : Obj), mg "__builtins__" = some (.ref bm) ∧ bm ≠ builtinsNs ∧ s.heap.get? bm = some om ∧ om.cls = .type "module" ∧ om.dict = some builtinsNs ∧ om.data = .plain)
    (ha : s.heap.get? a = some { cls := .type "list", data := .seq vs.toArray }) (hi : IntsAre vs ns) (hl : ns.length ≤ sizeLine) (hr : Room k callerA)
    (F : ∀ base : Heap, K.In base → base.Ns mainGlobals mg → (∀ p ∈ cs, TabB base mg p.1 p.2) → FnOkG P w K mg base CX k fa fd [x] sp) (hbind : ∀ (s : Shared) (u : Value), BindsTo s fd ⟨[u], []⟩ [(x, u)])
    (hsp : ∀ H : Hp, (∀ p ∈ cs, H p.2 = some (.tbl #[])) → SqL K H a (ns.map V.int) → sp [.ref a] H (fun v _ => v = .bl true) fun _ _ _ => False)
    (hCX : ∀ H e s', CX [] H s (fun _ _ _ => False) e s' → False) :
    codeAny (model P w) callerA (.call (.ref fa) ⟨[.ref a], []⟩) (fun r s' => r = .ok (.ret (.bool true)) ∧ OldK s.heap s'.heap ∧ s'.os = s.os ∧ AllBare s'.gens) s := by
  have rv := vals_ints hi
  let ob : Obj := { cls := .type "list", data := .seq vs.toArray }
  let H := scriptT K cs a ob ns
  have tabAt : ∀ b, b ∈ tabsOf cs → s.heap.get? b = some { cls := .none, data := .fields #[] } := fun b hb => by
    obtain ⟨p, hp, rfl⟩ := List.mem_map.mp hb
    exact empty p hp
  have aOff : a ∉ tabsOf cs := fun hm => nomatch (show ob.data = Data.fields #[] from congrArg Obj.data (Option.some.inj (ha.symm.trans (tabAt a hm))))
  -- what is not tracked stands in the base
  have stay : ∀ {b : Addr} {o : Obj}, s.heap.get? b = some o → b ∉ tabsOf cs → (b ≠ a ∨ (K.lookup a).isSome = true) → (hidT s.heap H).get? b = some o := fun {b o} e nt h => hidT_get e (by
    cases q : H b with
    | none => rfl
    | some u =>
      rcases scriptT_cases q with ⟨z, _⟩ | ⟨_, e1, e2, _⟩
      · exact absurd z nt
      · rcases h with h | h
        · exact absurd e1 h
        · rw [e2] at h; cases h)
  have stayD : ∀ {b : Addr} {o : Obj}, s.heap.get? b = some o → o.data ≠ .fields #[] → (∀ m, o.data ≠ .seq vs.toArray m) → (hidT s.heap H).get? b = some o := fun {b o} e n1 n2 => stay e (fun hm => by
      have z := tabAt b hm
      rw [e] at z
      cases z
      exact n1 rfl) (.inl fun z => by
      rw [z, ha] at e
      cases e
      exact n2 _ rfl)
  have names : ∀ {b : Addr} {m : Str → Option Value}, s.heap.Ns b m → (hidT s.heap H).Ns b m := fun {b m} h => by
    obtain ⟨o, es, ep, e, d, r⟩ := h
    exact ⟨o, es, ep, stayD e (by rw [d]; exact fun z => nomatch z) (by rw [d]; exact fun _ z => nomatch z), d, r⟩
  have KB : K.In (hidT s.heap H) := fun b o e => stay (KX b o e) (fun hm => by
      obtain ⟨p, hp, rfl⟩ := List.mem_map.mp hm
      rw [apart p hp] at e
      cases e) (by
    by_cases h : b = a
    · exact .inr (by rw [← h, e]; rfl)
    · exact .inl h)
  have M : Mod K mg (hidT s.heap H) := ⟨KB, names hmg, ⟨mb, names hmb, hbb⟩, by obtain ⟨mc, h1, h2⟩ := hlim; exact ⟨mc, names h1, h2⟩⟩
  have tables : ∀ p ∈ cs, TabB (hidT s.heap H) mg p.1 p.2 := fun p hp => by
    obtain ⟨om, us, y1, y2, y3, y4, y5, y6, y7, there, c1, c2, c3, rest⟩ := heads p hp
    obtain ⟨bm, ox, b1, b2, b3, b4, b5, b6⟩ := main
    have inBase := stayD b3 (by rw [b6]; exact fun z => nomatch z) (by rw [b6]; exact fun _ z => nomatch z)
    refine ⟨⟨om, us, y1, y2, y3, y4, y5, y6, y7, stayD there (fun z => ?_) (by rw [c2]; exact fun _ z => nomatch z), c1, c2, c3, rest⟩, ⟨bm, ox, b1, b2, fun z => ?_, fun z => ?_, inBase, b4, b5, b6⟩, fun z => ?_⟩
    · obtain rfl : us = #[] := Data.fields.inj (c2.symm.trans z)
      exact nomatch (show (none : Option Value) = some _ from c3)
    · obtain ⟨og, es, ep, hgm, hdm, _⟩ := hmg
      rw [z, hgm] at b3
      cases b3
      exact nomatch (show Data.dict es ep = Data.plain from hdm.symm.trans b6)
    · rw [z, empty p hp] at b3
      cases b3
      exact nomatch (show Data.fields #[] = Data.plain from b6)
    · obtain ⟨og, es, ep, hgm, hdm, _⟩ := hmg
      rw [z, empty p hp] at hgm
      cases hgm
      exact nomatch (show Data.fields #[] = Data.dict es ep from hdm)
  have hok : HOk P w H s.heap := fun b u e => by
    rcases scriptT_cases e with ⟨hm, rfl⟩ | ⟨_, rfl, _, rfl⟩
    · exact tabAt b hm
    · exact ⟨ha, by rw [List.length_map]; exact hl, vs, _, rv, ha⟩
  have hT : ∀ p ∈ cs, H p.2 = some (.tbl #[]) := fun p hp => if_pos (List.mem_map.mpr ⟨p, hp, rfl⟩)
  have hS : SqL K H a (ns.map V.int) := by
    cases q : K.lookup a with
    | none => exact .inl (.inr ⟨ob, (if_neg aOff).trans (if_pos ⟨rfl, by rw [q]; rfl⟩)⟩)
    | some o =>
      have e := KX a o q
      rw [ha] at e
      cases e
      exact .inr ⟨_, vs.toArray, _, q, rfl, rfl, rfl, by rw [List.size_toArray, hi.length]; exact hl, by simpa using rv⟩
  have e0 : Env0 P w K mg (hidT s.heap H) callerA [] s H := ⟨rfl, M, fun b o e => of_hidT e, Nat.le_of_eq (hidT_size _ _), trivial, fun b hb => (List.not_mem_nil (show b ∈ ([] : List Addr) from hb)).elim, hok, .of_eq hg⟩
  refine codeAny_mono ((F _ KB (names hmg) tables).run callerA [] s H ⟨[.ref a], []⟩ [.ref a] [.ref a] _ _ rfl hr e0 (hbind s (.ref a)) (.cons rfl .nil) (hsp H hT hS)) fun r s' out => ?_
  rcases r with er | (_ | _ | _ | u)
  · exact (hCX H er s' out).elim
  all_goals first
    | exact False.elim out
    | skip
  obtain ⟨v, H', os, bare, un, hok', r', rfl⟩ := out
  obtain rfl : u = Value.bool true := r'
  have grown : ∀ b, b ∈ tabsOf cs → ∃ more : Array Value, s'.heap.get? b = some { cls := .none, data := .fields more } := fun b hb => by
    obtain ⟨more, z⟩ := un.tbls b #[] (if_pos hb)
    exact ⟨_, hok' b _ z⟩
  have kept : ∀ b o, b ∉ tabsOf cs → s.heap.get? b = some o → s'.heap.get? b = some o := fun b o nt e => by
    cases q : H b with
    | none => exact un.keep b o e q List.not_mem_nil List.not_mem_nil
    | some u =>
      rcases scriptT_cases q with ⟨z, _⟩ | ⟨_, rfl, _, rfl⟩
      · exact absurd z nt
      · obtain ⟨e2, _⟩ := hok' b _ (un.frzs b _ _ q)
        rw [ha] at e
        cases e
        exact e2
  refine ⟨rfl, ⟨fun b o e => ?_, fun b o e => ?_⟩, os, bare⟩
  · by_cases hb : b ∈ tabsOf cs
    · obtain ⟨more, hm⟩ := grown b hb
      obtain ⟨p, hp, rfl⟩ := List.mem_map.mp hb
      cases (empty p hp).symm.trans e
      exact .inr (.inl ⟨((heads p hp).tab (empty p hp)).isCodeTable, rfl, #[], more, rfl, by simpa using hm⟩)
    · exact .inl (kept b o hb e)
  · by_cases hb : b ∈ tabsOf cs
    · exact (grown b hb).imp' _ fun _ h => h
    · exact ⟨o, kept b o hb e⟩
end
/-- the walk to a law that makes lambdas -/
theorem walkGT {l : PySem.W.OpenLaw} {n k : Nat} {q : Program} {loose : List Str} {XP : (Str → Option Value) → Heap → Prop} {YP : World → Heap → Prop} {d : DefRec} {K : Params → PySem.W.Frag} {CX : World → CXT} {sp : World → Sp} {x : Str} {ts : List Addr} (cs : List (Addr × Addr))
    (hn : l.most = some n) (hn2 : n ≤ sizeLine) (hdf : d.params.defaults = []) (hr : Room k callerA) (hY : ∀ (w : World) (h : Heap), YP w h → (K w.params).In h ∧ ∀ P ∈ ts, h.get? P = some { cls := .none, data := .fields #[] }) (hcs : ∀ p ∈ cs, p.2 ∈ ts)
    (apart : ∀ w : World, ∀ p ∈ cs, (K w.params).lookup p.2 = none) (heads : ∀ w : World, ∀ p ∈ cs, PySem.W.codeHdIn (K w.params) p.1 p.2 = true)
    (F : ∀ (w : World) (mg : Str → Option Value) (fa : Addr) (h : Heap), (K w.params).In h → h.Ns mainGlobals mg → mg d.name = some (.ref fa) → ∃ fd : FuncData, (∀ (s : Shared) (u : Value), BindsTo s fd ⟨[u], []⟩ [(x, u)]) ∧
        ∀ base : Heap, (K w.params).In base → base.Ns mainGlobals mg → (∀ p ∈ cs, TabB base mg p.1 p.2) → FnOkG l.prog w (K w.params) mg base (CX w) k fa fd [x] (sp w))
    (hsp : ∀ (w : World) (H : Hp) (a : Addr) (ns : List Int), ns.length ≤ n → (∀ p ∈ cs, H p.2 = some (.tbl #[])) → SqL (K w.params) H a (ns.map V.int) → sp w [.ref a] H (fun v _ => v = .bl true) fun _ _ _ => False)
    (hCX : ∀ (w : World) (H : Hp) (s : Shared) (e : Value) (s' : Shared), CX w [] H s (fun _ _ _ => False) e s' → False) :
    PySem.W.WalkO q loose XP YP l.row.toRowW d [] (fun f vs => PySem.call f vs) := by
  refine Att.attach_call hn hdf fun w s₀ s₁ mg mb fa o pm cd doc a vs ns G Y ho hd hcd hmg hobj hints hlen hg => ?_
  obtain ⟨KX, hts⟩ := hY w _ Y
  obtain ⟨fd, hb, hF⟩ := F w mg fa _ KX G.T.g hmg
  exact law_callGT KX G.T.g G.T.b G.T.builtins G.T.nolimit hg (fun p hp => hts _ (hcs p hp)) (apart w) (fun p hp => PySem.W.codeHd_of_K KX (heads w p hp)) G.T.bmain hobj hints (Nat.le_trans hlen hn2) hr hF hb (fun H hT hS => hsp w H a ns hlen hT hS) fun H e s' => hCX w H s₁ e s'
end L2.Cal
end

section
set_option maxRecDepth 100000
set_option maxHeartbeats 4000000
set_option synthInstance.maxHeartbeats 400000
namespace L2.Cal
open PySem PySem.Spec PyProof.Rows L2 LamX
abbrev sLaw : Stmt := topS 59
theorem scLaw : FnScope ["_law_script", "_law_k"] ["_law_script"] (defScope sLaw) := ⟨rfl, rfl, rfl, by decide +kernel, rfl, by decide +kernel, by decide +kernel⟩
def spLaw (K : PySem.W.Frag) (TT : List (Addr × Str)) : Sp := fun vs H Q _ => ∃ (a : Addr) (ns : List Int), vs = [.ref a] ∧ SqL K H a (ns.map V.int) ∧ ns.length ≤ 63 ∧ LamX.Tabs TT H ∧ ∀ H', Q (.bl true) H'
theorem seqL_newN {K : PySem.W.Frag} {H H1 H2 : Hp} {a p : Addr} {xs : List V} (h : SqL K H a xs) (n : H p = none) (s : Same H H1) (k : KpN p H1 H2) : SqL K H2 a xs := by
  rcases h with (h | ⟨o, h⟩) | h
  · exact .inl (.inl (k _ _ (ne_of_none h n) (fun ps z => by cases z) (s _ _ h)))
  · exact .inl (.inr ⟨o, k _ _ (ne_of_none h n) (fun ps z => by cases z) (s _ _ h)⟩)
  · exact .inr h
section
variable {P : Program} {w : World} {K : PySem.W.Frag} {mg : Str → Option Value} {base : Heap} {C Cr : Addr}
theorem ok_law {f fAw c1 P1 fCn fP fRo fL2 fA fD fSf fH fN fR fI fT2 fCI fNu fM fL fS pR fCR pN fCN pP fCP fChk fChT fTh fO fAb fBts fBtn fSmr fRn fWi fTi fOd fAg fGa fIsC fRou fThs fSta fWup fWam fThr fPla fCkT dP pO pT : Addr} {fd fdAw fdCn fdP fdRo fdL2 fdA fdD fdSf fdH fdN fdR fdI fdT2 fdCI fdNu fdM fdL fdS fdCR fdCN fdCP fdChk fdChT fdTh fdO fdAb fdBts fdBtn fdSmr fdRn fdWi fdTi fdOd fdAg fdGa fdIsC fdRou fdThs fdSta fdWup fdWam fdThr fdPla fdCkT : FuncData} {TT : List (Addr × Str)} {fJ fW : Addr} {fdJ fdW : FuncData}
    (DW : DefAt K mg "law" sLaw ["_law_script"] fW fdW) (DJ : DefAt K mg "_law_jar" sJar ["_law_script", "_law_k"] fJ fdJ)
    (DR0 : DefAt K mg "_law_right" sRgt ["_law_jar_here"] f fd)
    (DAw : DefAt K mg "_law_answers" sAnw ["_law_mine"] fAw fdAw)
    (DCn : DefAt K mg "_law_counts" sCnt ["_law_jar_here", "_law_lot"] fCn fdCn)
    (DPi : DefAt K mg "_law_pick" sPick ["_law_jar_here", "_law_menu"] fP fdP)
    (DRo : DefAt K mg "_law_roster" sRos ["_law_jar_here", "_law_size", "_law_many"] fRo fdRo)
    (DL : DefAt K mg "_law_lot_of" sLot ["_law_jar_here", "_law_things_here", "_law_many"] fL2 fdL2)
    (DA : DefAt K mg "_law_letters" sLett ["_law_jar_here", "_law_many"] fA fdA)
    (DD : DefAt K mg "_law_dip" sDip ["_law_jar_here", "_law_wide"] fD fdD)
    (DS : DefAt K mg "_law_shuffled" sShuf ["_law_jar_here", "_law_things_here"] fSf fdSf)
    (DH : DefAt K mg "_law_hill" sHill ["_law_jar_here", "_law_line_here"] fH fdH)
    (FN : Fun K "__init__" "Roll.__init__" sIni fN fdN)
    (bI : Binds K fdN ["self", "orders"] [])
    (MK : Mk K C fN)
    (DR : DefAt K mg "right_ahead" sRah ["orders"] fR fdR)
    (DI : DefAt K mg "is_order" sIsO ["value"] fI fdI)
    (DT : DefAt K mg "things_of" sThO ["order"] fT2 fdT2)
    (FCI : Fun K "__init__" "Crowd.__init__" sCIn fCI fdCI)
    (bCI : Binds K fdCI ["self", "roll", "numbers"] [])
    (MKc : Mk K Cr fCI)
    (DM : DefAt K mg "right_numbers" sRnu ["numbers", "many"] fM fdM)
    (DN : DefAt K mg "is_number" sNum ["value"] fNu fdNu)
    (FL : Fun K "__len__" "Roll.__len__" sLen fL fdL)
    (bL : Binds K fdL ["self"] [])
    (OL : Own K C "__len__" fL)
    (FS : Fun K "__str__" "Roll.__str__" sStr fS fdS)
    (OS : Own K C "__str__" fS)
    (bS : Binds K fdS ["self"] [])
    (PCR : PropOf K Cr "roll" pR fCR)
    (FCR : Fun K "roll" "Crowd.roll" sCRo fCR fdCR)
    (bCR : Binds K fdCR ["self"] [])
    (PCN : PropOf K Cr "numbers" pN fCN)
    (FCN : Fun K "numbers" "Crowd.numbers" sCNu fCN fdCN)
    (bCN : Binds K fdCN ["self"] [])
    (PCP : PropOf K Cr "people" pP fCP)
    (FCP : Fun K "people" "Crowd.people" sCPe fCP fdCP)
    (bCP : Binds K fdCP ["self"] [])
    (DK : DefAt K mg "check_roll" sChk ["roll"] fChk fdChk)
    (DChT : DefAt K mg "check_thing" sChT ["things", "thing"] fChT fdChT)
    (PT : PropOf K C "things" pT fTh)
    (FT : Fun K "things" "Roll.things" sThi fTh fdTh)
    (bT : Binds K fdTh ["self"] [])
    (PO : PropOf K C "orders" pO fO)
    (FO : Fun K "orders" "Roll.orders" sOrd fO fdO)
    (bO : Binds K fdO ["self"] [])
    (FAb : Fun K "_above" "Crowd._above" sAb_ fAb fdAb)
    (mAb : Meth K Cr "_above" fAb)
    (bAb : Binds K fdAb ["self", "thing", "other"] [])
    (FBt : Fun K "beats" "Crowd.beats" sBts fBts fdBts)
    (mBt : Meth K Cr "beats" fBts)
    (bBt : Binds K fdBts ["self", "thing", "other"] [])
    (FBn : Fun K "_beaten" "Crowd._beaten" sBtn fBtn fdBtn)
    (mBn : Meth K Cr "_beaten" fBtn)
    (bBn : Binds K fdBtn ["self"] [])
    (FSr : Fun K "some_round" "Crowd.some_round" sSmr fSmr fdSmr)
    (mSr : Meth K Cr "some_round" fSmr)
    (bSr : Binds K fdSmr ["self"] [])
    (DRn : DefAt K mg "round_among" sRnd ["things", "beaten"] fRn fdRn)
    (mper : mg "permutations" = some (.type "itertools.permutations"))
    (FWi : Fun K "winner" "Crowd.winner" sWin fWi fdWi)
    (mWi : Meth K Cr "winner" fWi)
    (bWi : Binds K fdWi ["self"] [])
    (FTi : Fun K "ties" "Crowd.ties" sTie fTi fdTi)
    (mTi : Meth K Cr "ties" fTi)
    (bTi : Binds K fdTi ["self"] [])
    (FOd : Fun K "order" "Crowd.order" sOdr fOd fdOd)
    (mOd : Meth K Cr "order" fOd)
    (bOd : Binds K fdOd ["self"] [])
    (hc1 : fdOd.code = .ref c1)
    (TB1 : TabB base mg c1 P1)
    (hm1 : (P1, ordQ) ∈ TT)
    (hu1 : ∀ z ∈ TT, z.1 = P1 → z.2 = ordQ)
    (FAg : Fun K "agreeing" "Crowd.agreeing" sAgr fAg fdAg)
    (mAg : Meth K Cr "agreeing" fAg)
    (bAg : Binds K fdAg ["self"] [])
    (DGa : DefAt K mg "goes_against_none" sGan ["order", "beaten"] fGa fdGa)
    (DIsC : DefAt K mg "is_calm" sIsC ["roll"] fIsC fdIsC)
    (DRou : DefAt K mg "rough" sRou ["roll"] fRou fdRou)
    (DThs : DefAt K mg "threes_of" sThs ["things"] fThs fdThs)
    (DSta : DefAt K mg "standing" sSta ["order", "three"] fSta fdSta)
    (DWup : DefAt K mg "wheels_upon" sWup ["three"] fWup fdWup)
    (DWam : DefAt K mg "wheel_among" sWam ["orders", "three"] fWam fdWam)
    (DThr : DefAt K mg "threes" sThr ["roll"] fThr fdThr)
    (DPla : DefAt K mg "places" sPla ["roll", "three"] fPla fdPla)
    (DCkT : DefAt K mg "check_three" sCkT ["things", "three"] fCkT fdCkT)
    (PA : PosAt K w mg dP)
    (bsum : mg "sum" = none)
    (bzip : mg "zip" = none)
    (T : Txt mg)
    (Lm : Lims mg)
    (R : RollC K mg C)
    (RC : CrC K mg Cr) : FnOkG P w K mg base CX0 9 fW fdW ["_law_script"] (spLaw K TT) := by
  have GR : FnOkG P w K mg base CX0 8 f fd ["_law_jar_here"] (spRgt TT) := ok_rgt DR0 DAw DCn DPi DRo DL DA DD DS DH FN bI MK DR DI DT FCI bCI MKc DM DN FL bL OL FS OS bS PCR FCR bCR PCN FCN bCN PCP FCP bCP DK DChT PT FT bT PO FO bO FAb mAb bAb FBt mBt bBt FBn mBn bBn FSr mSr bSr DRn mper FWi mWi bWi FTi mTi bTi FOd mOd bOd hc1 TB1 hm1 hu1 FAg mAg bAg DGa DIsC DRou DThs DSta DWup DWam DThr DPla DCkT PA bsum bzip T Lm R RC
  have GJ : FnOk P w K mg base CX0 1 fJ fdJ ["_law_script", "_law_k"] (spJar K) := ok_jar DJ T
  refine Fun.okG DW.F scLaw (fun vs H Q E h => ?_) (fun cdv A outer sh H vs Q E hA hr h => ?_)
  · obtain ⟨a, ns, rfl, _⟩ := h
    rfl
  · obtain ⟨a, ns, rfl, hS, hn, hT, q⟩ := h
    have hu := hr.units
    refine ⟨_, (pss_cons (ps_for PassesOwn.never rfl (pi_range1 (by rfl) T.b_range (pa_cons (pe_callB (call_max2 rfl) (by rfl) T.b_max (by decide +kernel) (pa_cons pe_int (pa_cons (pe_callB (call_min2 rfl) (by rfl) T.b_min (by decide +kernel) (pa_cons (pe_callB call_len_seq (by rfl) T.b_len (by decide +kernel) (pa_cons (pv 0) pa_nil)) (pa_cons pe_int pa_nil))) pa_nil))) pa_nil)) (pg_name (i := 1) scLaw.nd rfl (.inl rfl))
   (pss_one (ps_if (pt_not (pt_val (pe_callG GR hA (hr.mono (by decide)) (by rfl) DR0.g DR0.F.kp DR0.b .nil pass0 (pa_cons (pe_call GJ (hr.mono (by decide)) (by rfl) DJ.g DJ.F.kp DJ.b .nil pass0 (pa_cons (pv 0) (pa_cons (pv 1) pa_nil))) pa_nil))))
   (pss_one (ps_ret pe_bl))
   pss_nil)))
  (pss_one (ps_ret pe_bl))), ?_⟩
    refine ⟨_, rfl, a, _, rfl, .inl hS, _, _, rfl, _, _, rfl, ?_⟩
    obtain ⟨j, ej, j0, j4⟩ : ∃ j : Int, j = (if (if (3:Int) < ((ns.map V.int).length : Int) then (3:Int) else ((ns.map V.int).length : Int)) > 2 then (if (3:Int) < ((ns.map V.int).length : Int) then (3:Int) else ((ns.map V.int).length : Int)) else 2) ∧ 0 ≤ j ∧ j ≤ 5 := by
      refine ⟨_, rfl, ?_⟩
      split <;> split <;> omega
    rw [← ej]
    refine ⟨j, rfl, by omega, by omega, for_range (n := j.toNat) (fun k σ H' => ∃ v1, σ = [some (.ref a), v1] ∧ SqL K H' a (ns.map V.int) ∧ LamX.Tabs TT H') ⟨_, rfl, hS, hT⟩ (fun k σ H' hk hP => ?_) (fun σ HB hP => ?_)⟩
    · obtain ⟨v1, rfl, hS', hT'⟩ := hP
      refine ⟨_, rfl, _, rfl, a, ns, (0 + (k : Int)), rfl, hS', hn, by omega, by omega, fun H1 p t1 np J => ⟨p, rfl, J, tabs_same hT' t1, fun H2 kp jp t2 => ?_⟩⟩
      exact ⟨true, rfl, iteF ⟨_, rfl, seqL_newN hS' np t1 kp, t2⟩⟩
    · obtain ⟨v1, rfl, hS', hT'⟩ := hP
      exact q _
end
end L2.Cal
end

section
set_option maxRecDepth 100000
set_option maxHeartbeats 4000000
namespace L2.Cal
open PySem PySem.Spec PyProof.Rows L2
theorem def_at {K : PySem.W.Frag} {h : Heap} {mg : Str → Option Value} {x : Str} {st : Stmt} {ps : List Str} {f : Addr} {od an : Option Addr} {sl : Array (Option Value)} {oc kV dc pm cd ct : Value} (X : K.In h) (G : h.Ns mainGlobals mg)
    (a : PySem.W.nsIn K mainGlobals x = some (some (.ref f))) (l : K.lookup f = some ⟨oc, od, .func (PySem.W.fnOf x x (defArgs st) (defBody st) (defScope st) .none kV dc pm an cd ct), sl⟩) (c : PySem.W.codeIn K cd x = true) (k : PySem.W.keepIn K (.ref f) = true)
    (b : ∀ (kV doc pm : Value) (an : Option Addr) (cdv ct : Value) (us : List Value), us.length = ps.length → bindArgs (PySem.W.fnOf x x (defArgs st) (defBody st) (defScope st) .none kV doc pm an cdv ct) ⟨us, []⟩ = pure (ps.zip us)) :
    DefAt K mg x st ps f (PySem.W.fnOf x x (defArgs st) (defBody st) (defScope st) .none kV dc pm an cd ct) :=
  ⟨fun_mk l c k, PySem.W.mg_of X G a, (fun_mk l c k).binds b⟩
theorem meth_at {K : PySem.W.Frag} {x q : Str} {st : Stmt} {ps : List Str} {f : Addr} {od an : Option Addr} {sl : Array (Option Value)} {oc kV dc pm cd ct : Value}
    (l : K.lookup f = some ⟨oc, od, .func (PySem.W.fnOf x q (defArgs st) (defBody st) (defScope st) .none kV dc pm an cd ct), sl⟩) (c : PySem.W.codeIn K cd q = true) (k : PySem.W.keepIn K (.ref f) = true)
    (b : ∀ (kV doc pm : Value) (an : Option Addr) (cdv ct : Value) (us : List Value), us.length = ps.length → bindArgs (PySem.W.fnOf x q (defArgs st) (defBody st) (defScope st) .none kV doc pm an cdv ct) ⟨us, []⟩ = pure (ps.zip us)) :
    Fun K x q st f (PySem.W.fnOf x q (defArgs st) (defBody st) (defScope st) .none kV dc pm an cd ct) ∧ Binds K (PySem.W.fnOf x q (defArgs st) (defBody st) (defScope st) .none kV dc pm an cd ct) ps [] :=
  ⟨fun_mk l c k, (fun_mk l c k).binds b⟩
theorem vals_app : ∀ {vs : List V} {us : List Value} {zs : List V} {ws : List Value}, Vals vs us → Vals zs ws → Vals (vs ++ zs) (us ++ ws)
  | _, _, _, _, .nil, h => h
  | _, _, _, _, .cons a r, h => .cons a (vals_app r h)
def keyTxts (es : Array DictEntry) : List (Option Str) := es.toList.map fun e => match e.key with | .str k _ => some k | _ => none
theorem keys_are {es : Array DictEntry} {ks : List Str} (h : keyTxts es = ks.map some) : KeysAre es ks := by
  have l := congrArg List.length h
  unfold keyTxts at h l
  rw [List.length_map, List.length_map, Array.length_toList] at l
  refine ⟨l, fun i en e => ?_⟩
  have hi := congrArg (fun z => z[i]?) h
  simp only [List.getElem?_map, Array.getElem?_toList, e, Option.map_some] at hi
  cases k : ks[i]? with
  | none =>
    rw [k] at hi
    cases hi
  | some x =>
    rw [k, Option.map_some] at hi
    cases w : en.key <;> rw [w] at hi <;> first | cases hi | skip
    exact ⟨x, _, rfl, rfl⟩
theorem pos_at {K : PySem.W.Frag} {w : World} {mg : Str → Option Value} {d : Addr} {es : Array DictEntry} {n : Nat} {tk1 tk2 tk3 : Tok} (g : mg "POSITIONS" = some (.ref d)) (l : K.lookup d = some ⟨.type "dict", none, .dict es n, #[]⟩) (lit : PySem.W.KeysLit w.params es.toList) (ka : keyTxts es = posOf.map fun q => some q.1) (low : (d == sysModules) = false)
    (q1 : PySem.W.nsIn K d "first" = some (some (.int 0 tk1))) (q2 : PySem.W.nsIn K d "last" = some (some (.int 2 tk2))) (q3 : PySem.W.nsIn K d "middle" = some (some (.int 1 tk3))) : PosAt K w mg d :=
  ⟨g, ⟨es, n, l, keys_are (by rw [ka, List.map_map] <;> rfl)⟩, low, fun q hq => by
    simp only [posOf, List.mem_cons, List.not_mem_nil, or_false] at hq
    rcases hq with rfl | rfl | rfl
    · exact ⟨es, n, _, l, lit, q1, ⟨_, rfl⟩⟩
    · exact ⟨es, n, _, l, lit, q2, ⟨_, rfl⟩⟩
    · exact ⟨es, n, _, l, lit, q3, ⟨_, rfl⟩⟩⟩
theorem all_mk {P : Program} {w : World} {K : PySem.W.Frag} {h : Heap} {mg : Str → Option Value} {fa : Addr} {t_LEAST_THINGS t_MOST_THINGS t_MOST_ORDERS : Tok} {fJ : Addr} {odJ anJ : Option Addr} {slJ : Array (Option Value)} {ocJ kVJ dcJ pmJ cdJ ctJ : Value} {fW : Addr} {odW anW : Option Addr} {slW : Array (Option Value)} {ocW kVW dcW pmW cdW ctW : Value} {fR0 : Addr} {odR0 anR0 : Option Addr} {slR0 : Array (Option Value)} {ocR0 kVR0 dcR0 pmR0 cdR0 ctR0 : Value} {fAw : Addr} {odAw anAw : Option Addr} {slAw : Array (Option Value)} {ocAw kVAw dcAw pmAw cdAw ctAw : Value} {fCn : Addr} {odCn anCn : Option Addr} {slCn : Array (Option Value)} {ocCn kVCn dcCn pmCn cdCn ctCn : Value} {fPi : Addr} {odPi anPi : Option Addr} {slPi : Array (Option Value)} {ocPi kVPi dcPi pmPi cdPi ctPi : Value} {fRo : Addr} {odRo anRo : Option Addr} {slRo : Array (Option Value)} {ocRo kVRo dcRo pmRo cdRo ctRo : Value} {fL : Addr} {odL anL : Option Addr} {slL : Array (Option Value)} {ocL kVL dcL pmL cdL ctL : Value} {fA : Addr} {odA anA : Option Addr} {slA : Array (Option Value)} {ocA kVA dcA pmA cdA ctA : Value} {fD : Addr} {odD anD : Option Addr} {slD : Array (Option Value)} {ocD kVD dcD pmD cdD ctD : Value} {fS : Addr} {odS anS : Option Addr} {slS : Array (Option Value)} {ocS kVS dcS pmS cdS ctS : Value} {fH : Addr} {odH anH : Option Addr} {slH : Array (Option Value)} {ocH kVH dcH pmH cdH ctH : Value} {fR : Addr} {odR anR : Option Addr} {slR : Array (Option Value)} {ocR kVR dcR pmR cdR ctR : Value} {fI : Addr} {odI anI : Option Addr} {slI : Array (Option Value)} {ocI kVI dcI pmI cdI ctI : Value} {fT : Addr} {odT anT : Option Addr} {slT : Array (Option Value)} {ocT kVT dcT pmT cdT ctT : Value} {fM : Addr} {odM anM : Option Addr} {slM : Array (Option Value)} {ocM kVM dcM pmM cdM ctM : Value} {fN : Addr} {odN anN : Option Addr} {slN : Array (Option Value)} {ocN kVN dcN pmN cdN ctN : Value} {fK : Addr} {odK anK : Option Addr} {slK : Array (Option Value)} {ocK kVK dcK pmK cdK ctK : Value} {fChT : Addr} {odChT anChT : Option Addr} {slChT : Array (Option Value)} {ocChT kVChT dcChT pmChT cdChT ctChT : Value} {fRn : Addr} {odRn anRn : Option Addr} {slRn : Array (Option Value)} {ocRn kVRn dcRn pmRn cdRn ctRn : Value} {fGa : Addr} {odGa anGa : Option Addr} {slGa : Array (Option Value)} {ocGa kVGa dcGa pmGa cdGa ctGa : Value} {fIsC : Addr} {odIsC anIsC : Option Addr} {slIsC : Array (Option Value)} {ocIsC kVIsC dcIsC pmIsC cdIsC ctIsC : Value} {fRou : Addr} {odRou anRou : Option Addr} {slRou : Array (Option Value)} {ocRou kVRou dcRou pmRou cdRou ctRou : Value} {fThs : Addr} {odThs anThs : Option Addr} {slThs : Array (Option Value)} {ocThs kVThs dcThs pmThs cdThs ctThs : Value} {fSta : Addr} {odSta anSta : Option Addr} {slSta : Array (Option Value)} {ocSta kVSta dcSta pmSta cdSta ctSta : Value} {fWup : Addr} {odWup anWup : Option Addr} {slWup : Array (Option Value)} {ocWup kVWup dcWup pmWup cdWup ctWup : Value} {fWam : Addr} {odWam anWam : Option Addr} {slWam : Array (Option Value)} {ocWam kVWam dcWam pmWam cdWam ctWam : Value} {fThr : Addr} {odThr anThr : Option Addr} {slThr : Array (Option Value)} {ocThr kVThr dcThr pmThr cdThr ctThr : Value} {fPla : Addr} {odPla anPla : Option Addr} {slPla : Array (Option Value)} {ocPla kVPla dcPla pmPla cdPla ctPla : Value} {fCkT : Addr} {odCkT anCkT : Option Addr} {slCkT : Array (Option Value)} {ocCkT kVCkT dcCkT pmCkT cdCkT ctCkT : Value} {C : Addr} {Cr : Addr} {fmN : Addr} {odmN anmN : Option Addr} {slmN : Array (Option Value)} {ocmN kVmN dcmN pmmN cdmN ctmN : Value} {fmT : Addr} {odmT anmT : Option Addr} {slmT : Array (Option Value)} {ocmT kVmT dcmT pmmT cdmT ctmT : Value} {pr_mT : Addr} {remT : List Value} {fmO : Addr} {odmO anmO : Option Addr} {slmO : Array (Option Value)} {ocmO kVmO dcmO pmmO cdmO ctmO : Value} {pr_mO : Addr} {remO : List Value} {fmL : Addr} {odmL anmL : Option Addr} {slmL : Array (Option Value)} {ocmL kVmL dcmL pmmL cdmL ctmL : Value} {fmS : Addr} {odmS anmS : Option Addr} {slmS : Array (Option Value)} {ocmS kVmS dcmS pmmS cdmS ctmS : Value} {fcR : Addr} {odcR ancR : Option Addr} {slcR : Array (Option Value)} {occR kVcR dccR pmcR cdcR ctcR : Value} {pr_cR : Addr} {recR : List Value} {fcM : Addr} {odcM ancM : Option Addr} {slcM : Array (Option Value)} {occM kVcM dccM pmcM cdcM ctcM : Value} {pr_cM : Addr} {recM : List Value} {fcP : Addr} {odcP ancP : Option Addr} {slcP : Array (Option Value)} {occP kVcP dccP pmcP cdcP ctcP : Value} {pr_cP : Addr} {recP : List Value} {fcI : Addr} {odcI ancI : Option Addr} {slcI : Array (Option Value)} {occI kVcI dccI pmcI cdcI ctcI : Value} {fcA : Addr} {odcA ancA : Option Addr} {slcA : Array (Option Value)} {occA kVcA dccA pmcA cdcA ctcA : Value} {fcB : Addr} {odcB ancB : Option Addr} {slcB : Array (Option Value)} {occB kVcB dccB pmcB cdcB ctcB : Value} {fcN : Addr} {odcN ancN : Option Addr} {slcN : Array (Option Value)} {occN kVcN dccN pmcN cdcN ctcN : Value} {fcS : Addr} {odcS ancS : Option Addr} {slcS : Array (Option Value)} {occS kVcS dccS pmcS cdcS ctcS : Value} {fcW : Addr} {odcW ancW : Option Addr} {slcW : Array (Option Value)} {occW kVcW dccW pmcW cdcW ctcW : Value} {fcT : Addr} {odcT ancT : Option Addr} {slcT : Array (Option Value)} {occT kVcT dccT pmcT cdcT ctcT : Value} {fcD : Addr} {odcD ancD : Option Addr} {slcD : Array (Option Value)} {occD kVcD dccD pmcD cdcD ctcD : Value} {fcG : Addr} {odcG ancG : Option Addr} {slcG : Array (Option Value)} {occG kVcG dccG pmcG cdcG ctcG : Value} {c1R P1R : Addr} {dP : Addr} {esP : Array DictEntry} {nP : Nat} {tk1 tk2 tk3 : Tok} (X : K.In h) (G : h.Ns mainGlobals mg) (hfa : mg "law" = some (.ref fa))
    (n_int : PySem.W.nsIn K mainGlobals "int" = some none)
    (n_len : PySem.W.nsIn K mainGlobals "len" = some none)
    (n_abs : PySem.W.nsIn K mainGlobals "abs" = some none)
    (n_range : PySem.W.nsIn K mainGlobals "range" = some none)
    (n_repr : PySem.W.nsIn K mainGlobals "repr" = some none)
    (n_max : PySem.W.nsIn K mainGlobals "max" = some none)
    (n_min : PySem.W.nsIn K mainGlobals "min" = some none)
    (n_all : PySem.W.nsIn K mainGlobals "all" = some none)
    (n_list : PySem.W.nsIn K mainGlobals "list" = some none)
    (n_sorted : PySem.W.nsIn K mainGlobals "sorted" = some none)
    (n_set : PySem.W.nsIn K mainGlobals "set" = some none)
    (n_tuple : PySem.W.nsIn K mainGlobals "tuple" = some none)
    (n_str : PySem.W.nsIn K mainGlobals "str" = some none)
    (n_bool : PySem.W.nsIn K mainGlobals "bool" = some none)
    (n_isinstance : PySem.W.nsIn K mainGlobals "isinstance" = some none)
    (n_enumerate : PySem.W.nsIn K mainGlobals "enumerate" = some none)
    (n_super : PySem.W.nsIn K mainGlobals "super" = some none)
    (n_sum : PySem.W.nsIn K mainGlobals "sum" = some none)
    (n_zip : PySem.W.nsIn K mainGlobals "zip" = some none)
    (c_LEAST_THINGS : PySem.W.nsIn K mainGlobals "LEAST_THINGS" = some (some (.int 3 t_LEAST_THINGS)))
    (c_MOST_THINGS : PySem.W.nsIn K mainGlobals "MOST_THINGS" = some (some (.int 6 t_MOST_THINGS)))
    (c_MOST_ORDERS : PySem.W.nsIn K mainGlobals "MOST_ORDERS" = some (some (.int 48 t_MOST_ORDERS)))
    (aJ : PySem.W.nsIn K mainGlobals "_law_jar" = some (some (.ref fJ)))
    (lJ : K.lookup fJ = some ⟨ocJ, odJ, .func (PySem.W.fnOf "_law_jar" "_law_jar" (defArgs sJar) (defBody sJar) (defScope sJar) .none kVJ dcJ pmJ anJ cdJ ctJ), slJ⟩)
    (ccJ : PySem.W.codeIn K cdJ "_law_jar" = true)
    (kkJ : PySem.W.keepIn K (.ref fJ) = true)
    (aW : PySem.W.nsIn K mainGlobals "law" = some (some (.ref fW)))
    (lW : K.lookup fW = some ⟨ocW, odW, .func (PySem.W.fnOf "law" "law" (defArgs sLaw) (defBody sLaw) (defScope sLaw) .none kVW dcW pmW anW cdW ctW), slW⟩)
    (ccW : PySem.W.codeIn K cdW "law" = true)
    (kkW : PySem.W.keepIn K (.ref fW) = true)
    (aR0 : PySem.W.nsIn K mainGlobals "_law_right" = some (some (.ref fR0)))
    (lR0 : K.lookup fR0 = some ⟨ocR0, odR0, .func (PySem.W.fnOf "_law_right" "_law_right" (defArgs sRgt) (defBody sRgt) (defScope sRgt) .none kVR0 dcR0 pmR0 anR0 cdR0 ctR0), slR0⟩)
    (ccR0 : PySem.W.codeIn K cdR0 "_law_right" = true)
    (kkR0 : PySem.W.keepIn K (.ref fR0) = true)
    (aAw : PySem.W.nsIn K mainGlobals "_law_answers" = some (some (.ref fAw)))
    (lAw : K.lookup fAw = some ⟨ocAw, odAw, .func (PySem.W.fnOf "_law_answers" "_law_answers" (defArgs sAnw) (defBody sAnw) (defScope sAnw) .none kVAw dcAw pmAw anAw cdAw ctAw), slAw⟩)
    (ccAw : PySem.W.codeIn K cdAw "_law_answers" = true)
    (kkAw : PySem.W.keepIn K (.ref fAw) = true)
    (aCn : PySem.W.nsIn K mainGlobals "_law_counts" = some (some (.ref fCn)))
    (lCn : K.lookup fCn = some ⟨ocCn, odCn, .func (PySem.W.fnOf "_law_counts" "_law_counts" (defArgs sCnt) (defBody sCnt) (defScope sCnt) .none kVCn dcCn pmCn anCn cdCn ctCn), slCn⟩)
    (ccCn : PySem.W.codeIn K cdCn "_law_counts" = true)
    (kkCn : PySem.W.keepIn K (.ref fCn) = true)
    (aPi : PySem.W.nsIn K mainGlobals "_law_pick" = some (some (.ref fPi)))
    (lPi : K.lookup fPi = some ⟨ocPi, odPi, .func (PySem.W.fnOf "_law_pick" "_law_pick" (defArgs sPick) (defBody sPick) (defScope sPick) .none kVPi dcPi pmPi anPi cdPi ctPi), slPi⟩)
    (ccPi : PySem.W.codeIn K cdPi "_law_pick" = true)
    (kkPi : PySem.W.keepIn K (.ref fPi) = true)
    (aRo : PySem.W.nsIn K mainGlobals "_law_roster" = some (some (.ref fRo)))
    (lRo : K.lookup fRo = some ⟨ocRo, odRo, .func (PySem.W.fnOf "_law_roster" "_law_roster" (defArgs sRos) (defBody sRos) (defScope sRos) .none kVRo dcRo pmRo anRo cdRo ctRo), slRo⟩)
    (ccRo : PySem.W.codeIn K cdRo "_law_roster" = true)
    (kkRo : PySem.W.keepIn K (.ref fRo) = true)
    (aL : PySem.W.nsIn K mainGlobals "_law_lot_of" = some (some (.ref fL)))
    (lL : K.lookup fL = some ⟨ocL, odL, .func (PySem.W.fnOf "_law_lot_of" "_law_lot_of" (defArgs sLot) (defBody sLot) (defScope sLot) .none kVL dcL pmL anL cdL ctL), slL⟩)
    (ccL : PySem.W.codeIn K cdL "_law_lot_of" = true)
    (kkL : PySem.W.keepIn K (.ref fL) = true)
    (aA : PySem.W.nsIn K mainGlobals "_law_letters" = some (some (.ref fA)))
    (lA : K.lookup fA = some ⟨ocA, odA, .func (PySem.W.fnOf "_law_letters" "_law_letters" (defArgs sLett) (defBody sLett) (defScope sLett) .none kVA dcA pmA anA cdA ctA), slA⟩)
    (ccA : PySem.W.codeIn K cdA "_law_letters" = true)
    (kkA : PySem.W.keepIn K (.ref fA) = true)
    (aD : PySem.W.nsIn K mainGlobals "_law_dip" = some (some (.ref fD)))
    (lD : K.lookup fD = some ⟨ocD, odD, .func (PySem.W.fnOf "_law_dip" "_law_dip" (defArgs sDip) (defBody sDip) (defScope sDip) .none kVD dcD pmD anD cdD ctD), slD⟩)
    (ccD : PySem.W.codeIn K cdD "_law_dip" = true)
    (kkD : PySem.W.keepIn K (.ref fD) = true)
    (aS : PySem.W.nsIn K mainGlobals "_law_shuffled" = some (some (.ref fS)))
    (lS : K.lookup fS = some ⟨ocS, odS, .func (PySem.W.fnOf "_law_shuffled" "_law_shuffled" (defArgs sShuf) (defBody sShuf) (defScope sShuf) .none kVS dcS pmS anS cdS ctS), slS⟩)
    (ccS : PySem.W.codeIn K cdS "_law_shuffled" = true)
    (kkS : PySem.W.keepIn K (.ref fS) = true)
    (aH : PySem.W.nsIn K mainGlobals "_law_hill" = some (some (.ref fH)))
    (lH : K.lookup fH = some ⟨ocH, odH, .func (PySem.W.fnOf "_law_hill" "_law_hill" (defArgs sHill) (defBody sHill) (defScope sHill) .none kVH dcH pmH anH cdH ctH), slH⟩)
    (ccH : PySem.W.codeIn K cdH "_law_hill" = true)
    (kkH : PySem.W.keepIn K (.ref fH) = true)
    (aR : PySem.W.nsIn K mainGlobals "right_ahead" = some (some (.ref fR)))
    (lR : K.lookup fR = some ⟨ocR, odR, .func (PySem.W.fnOf "right_ahead" "right_ahead" (defArgs sRah) (defBody sRah) (defScope sRah) .none kVR dcR pmR anR cdR ctR), slR⟩)
    (ccR : PySem.W.codeIn K cdR "right_ahead" = true)
    (kkR : PySem.W.keepIn K (.ref fR) = true)
    (aI : PySem.W.nsIn K mainGlobals "is_order" = some (some (.ref fI)))
    (lI : K.lookup fI = some ⟨ocI, odI, .func (PySem.W.fnOf "is_order" "is_order" (defArgs sIsO) (defBody sIsO) (defScope sIsO) .none kVI dcI pmI anI cdI ctI), slI⟩)
    (ccI : PySem.W.codeIn K cdI "is_order" = true)
    (kkI : PySem.W.keepIn K (.ref fI) = true)
    (aT : PySem.W.nsIn K mainGlobals "things_of" = some (some (.ref fT)))
    (lT : K.lookup fT = some ⟨ocT, odT, .func (PySem.W.fnOf "things_of" "things_of" (defArgs sThO) (defBody sThO) (defScope sThO) .none kVT dcT pmT anT cdT ctT), slT⟩)
    (ccT : PySem.W.codeIn K cdT "things_of" = true)
    (kkT : PySem.W.keepIn K (.ref fT) = true)
    (aM : PySem.W.nsIn K mainGlobals "right_numbers" = some (some (.ref fM)))
    (lM : K.lookup fM = some ⟨ocM, odM, .func (PySem.W.fnOf "right_numbers" "right_numbers" (defArgs sRnu) (defBody sRnu) (defScope sRnu) .none kVM dcM pmM anM cdM ctM), slM⟩)
    (ccM : PySem.W.codeIn K cdM "right_numbers" = true)
    (kkM : PySem.W.keepIn K (.ref fM) = true)
    (aN : PySem.W.nsIn K mainGlobals "is_number" = some (some (.ref fN)))
    (lN : K.lookup fN = some ⟨ocN, odN, .func (PySem.W.fnOf "is_number" "is_number" (defArgs sNum) (defBody sNum) (defScope sNum) .none kVN dcN pmN anN cdN ctN), slN⟩)
    (ccN : PySem.W.codeIn K cdN "is_number" = true)
    (kkN : PySem.W.keepIn K (.ref fN) = true)
    (aK : PySem.W.nsIn K mainGlobals "check_roll" = some (some (.ref fK)))
    (lK : K.lookup fK = some ⟨ocK, odK, .func (PySem.W.fnOf "check_roll" "check_roll" (defArgs sChk) (defBody sChk) (defScope sChk) .none kVK dcK pmK anK cdK ctK), slK⟩)
    (ccK : PySem.W.codeIn K cdK "check_roll" = true)
    (kkK : PySem.W.keepIn K (.ref fK) = true)
    (aChT : PySem.W.nsIn K mainGlobals "check_thing" = some (some (.ref fChT)))
    (lChT : K.lookup fChT = some ⟨ocChT, odChT, .func (PySem.W.fnOf "check_thing" "check_thing" (defArgs sChT) (defBody sChT) (defScope sChT) .none kVChT dcChT pmChT anChT cdChT ctChT), slChT⟩)
    (ccChT : PySem.W.codeIn K cdChT "check_thing" = true)
    (kkChT : PySem.W.keepIn K (.ref fChT) = true)
    (aRn : PySem.W.nsIn K mainGlobals "round_among" = some (some (.ref fRn)))
    (lRn : K.lookup fRn = some ⟨ocRn, odRn, .func (PySem.W.fnOf "round_among" "round_among" (defArgs sRnd) (defBody sRnd) (defScope sRnd) .none kVRn dcRn pmRn anRn cdRn ctRn), slRn⟩)
    (ccRn : PySem.W.codeIn K cdRn "round_among" = true)
    (kkRn : PySem.W.keepIn K (.ref fRn) = true)
    (aGa : PySem.W.nsIn K mainGlobals "goes_against_none" = some (some (.ref fGa)))
    (lGa : K.lookup fGa = some ⟨ocGa, odGa, .func (PySem.W.fnOf "goes_against_none" "goes_against_none" (defArgs sGan) (defBody sGan) (defScope sGan) .none kVGa dcGa pmGa anGa cdGa ctGa), slGa⟩)
    (ccGa : PySem.W.codeIn K cdGa "goes_against_none" = true)
    (kkGa : PySem.W.keepIn K (.ref fGa) = true)
    (aIsC : PySem.W.nsIn K mainGlobals "is_calm" = some (some (.ref fIsC)))
    (lIsC : K.lookup fIsC = some ⟨ocIsC, odIsC, .func (PySem.W.fnOf "is_calm" "is_calm" (defArgs sIsC) (defBody sIsC) (defScope sIsC) .none kVIsC dcIsC pmIsC anIsC cdIsC ctIsC), slIsC⟩)
    (ccIsC : PySem.W.codeIn K cdIsC "is_calm" = true)
    (kkIsC : PySem.W.keepIn K (.ref fIsC) = true)
    (aRou : PySem.W.nsIn K mainGlobals "rough" = some (some (.ref fRou)))
    (lRou : K.lookup fRou = some ⟨ocRou, odRou, .func (PySem.W.fnOf "rough" "rough" (defArgs sRou) (defBody sRou) (defScope sRou) .none kVRou dcRou pmRou anRou cdRou ctRou), slRou⟩)
    (ccRou : PySem.W.codeIn K cdRou "rough" = true)
    (kkRou : PySem.W.keepIn K (.ref fRou) = true)
    (aThs : PySem.W.nsIn K mainGlobals "threes_of" = some (some (.ref fThs)))
    (lThs : K.lookup fThs = some ⟨ocThs, odThs, .func (PySem.W.fnOf "threes_of" "threes_of" (defArgs sThs) (defBody sThs) (defScope sThs) .none kVThs dcThs pmThs anThs cdThs ctThs), slThs⟩)
    (ccThs : PySem.W.codeIn K cdThs "threes_of" = true)
    (kkThs : PySem.W.keepIn K (.ref fThs) = true)
    (aSta : PySem.W.nsIn K mainGlobals "standing" = some (some (.ref fSta)))
    (lSta : K.lookup fSta = some ⟨ocSta, odSta, .func (PySem.W.fnOf "standing" "standing" (defArgs sSta) (defBody sSta) (defScope sSta) .none kVSta dcSta pmSta anSta cdSta ctSta), slSta⟩)
    (ccSta : PySem.W.codeIn K cdSta "standing" = true)
    (kkSta : PySem.W.keepIn K (.ref fSta) = true)
    (aWup : PySem.W.nsIn K mainGlobals "wheels_upon" = some (some (.ref fWup)))
    (lWup : K.lookup fWup = some ⟨ocWup, odWup, .func (PySem.W.fnOf "wheels_upon" "wheels_upon" (defArgs sWup) (defBody sWup) (defScope sWup) .none kVWup dcWup pmWup anWup cdWup ctWup), slWup⟩)
    (ccWup : PySem.W.codeIn K cdWup "wheels_upon" = true)
    (kkWup : PySem.W.keepIn K (.ref fWup) = true)
    (aWam : PySem.W.nsIn K mainGlobals "wheel_among" = some (some (.ref fWam)))
    (lWam : K.lookup fWam = some ⟨ocWam, odWam, .func (PySem.W.fnOf "wheel_among" "wheel_among" (defArgs sWam) (defBody sWam) (defScope sWam) .none kVWam dcWam pmWam anWam cdWam ctWam), slWam⟩)
    (ccWam : PySem.W.codeIn K cdWam "wheel_among" = true)
    (kkWam : PySem.W.keepIn K (.ref fWam) = true)
    (aThr : PySem.W.nsIn K mainGlobals "threes" = some (some (.ref fThr)))
    (lThr : K.lookup fThr = some ⟨ocThr, odThr, .func (PySem.W.fnOf "threes" "threes" (defArgs sThr) (defBody sThr) (defScope sThr) .none kVThr dcThr pmThr anThr cdThr ctThr), slThr⟩)
    (ccThr : PySem.W.codeIn K cdThr "threes" = true)
    (kkThr : PySem.W.keepIn K (.ref fThr) = true)
    (aPla : PySem.W.nsIn K mainGlobals "places" = some (some (.ref fPla)))
    (lPla : K.lookup fPla = some ⟨ocPla, odPla, .func (PySem.W.fnOf "places" "places" (defArgs sPla) (defBody sPla) (defScope sPla) .none kVPla dcPla pmPla anPla cdPla ctPla), slPla⟩)
    (ccPla : PySem.W.codeIn K cdPla "places" = true)
    (kkPla : PySem.W.keepIn K (.ref fPla) = true)
    (aCkT : PySem.W.nsIn K mainGlobals "check_three" = some (some (.ref fCkT)))
    (lCkT : K.lookup fCkT = some ⟨ocCkT, odCkT, .func (PySem.W.fnOf "check_three" "check_three" (defArgs sCkT) (defBody sCkT) (defScope sCkT) .none kVCkT dcCkT pmCkT anCkT cdCkT ctCkT), slCkT⟩)
    (ccCkT : PySem.W.codeIn K cdCkT "check_three" = true)
    (kkCkT : PySem.W.keepIn K (.ref fCkT) = true)
    (gC : PySem.W.nsIn K mainGlobals "Roll" = some (some (.ref C)))
    (gCr : PySem.W.nsIn K mainGlobals "Crowd" = some (some (.ref Cr)))
    (omN : PySem.W.findIn K (.ref C) "__init__" = some (some (.ref fmN)))
    (ymN : PySem.W.typeIn K (.ref fmN) = some (.type "function"))
    (lmN : K.lookup fmN = some ⟨ocmN, odmN, .func (PySem.W.fnOf "__init__" "Roll.__init__" (defArgs sIni) (defBody sIni) (defScope sIni) .none kVmN dcmN pmmN anmN cdmN ctmN), slmN⟩)
    (ccmN : PySem.W.codeIn K cdmN "Roll.__init__" = true)
    (kkmN : PySem.W.keepIn K (.ref fmN) = true)
    (omT : PySem.W.findIn K (.ref C) "things" = some (some (.ref pr_mT)))
    (gmT : PySem.W.specialIn K (.ref pr_mT) "__get__" = some (some (.builtin "property.__get__")))
    (tmT : PySem.W.takesIn K (.ref pr_mT) = some true)
    (rmT : PySem.W.recIn K pr_mT "property" = some (.ref fmT :: remT))
    (lmT : K.lookup fmT = some ⟨ocmT, odmT, .func (PySem.W.fnOf "things" "Roll.things" (defArgs sThi) (defBody sThi) (defScope sThi) .none kVmT dcmT pmmT anmT cdmT ctmT), slmT⟩)
    (ccmT : PySem.W.codeIn K cdmT "Roll.things" = true)
    (kkmT : PySem.W.keepIn K (.ref fmT) = true)
    (omO : PySem.W.findIn K (.ref C) "orders" = some (some (.ref pr_mO)))
    (gmO : PySem.W.specialIn K (.ref pr_mO) "__get__" = some (some (.builtin "property.__get__")))
    (tmO : PySem.W.takesIn K (.ref pr_mO) = some true)
    (rmO : PySem.W.recIn K pr_mO "property" = some (.ref fmO :: remO))
    (lmO : K.lookup fmO = some ⟨ocmO, odmO, .func (PySem.W.fnOf "orders" "Roll.orders" (defArgs sOrd) (defBody sOrd) (defScope sOrd) .none kVmO dcmO pmmO anmO cdmO ctmO), slmO⟩)
    (ccmO : PySem.W.codeIn K cdmO "Roll.orders" = true)
    (kkmO : PySem.W.keepIn K (.ref fmO) = true)
    (omL : PySem.W.findIn K (.ref C) "__len__" = some (some (.ref fmL)))
    (ymL : PySem.W.typeIn K (.ref fmL) = some (.type "function"))
    (lmL : K.lookup fmL = some ⟨ocmL, odmL, .func (PySem.W.fnOf "__len__" "Roll.__len__" (defArgs sLen) (defBody sLen) (defScope sLen) .none kVmL dcmL pmmL anmL cdmL ctmL), slmL⟩)
    (ccmL : PySem.W.codeIn K cdmL "Roll.__len__" = true)
    (kkmL : PySem.W.keepIn K (.ref fmL) = true)
    (omS : PySem.W.findIn K (.ref C) "__str__" = some (some (.ref fmS)))
    (ymS : PySem.W.typeIn K (.ref fmS) = some (.type "function"))
    (lmS : K.lookup fmS = some ⟨ocmS, odmS, .func (PySem.W.fnOf "__str__" "Roll.__str__" (defArgs sStr) (defBody sStr) (defScope sStr) .none kVmS dcmS pmmS anmS cdmS ctmS), slmS⟩)
    (ccmS : PySem.W.codeIn K cdmS "Roll.__str__" = true)
    (kkmS : PySem.W.keepIn K (.ref fmS) = true)
    (ocR : PySem.W.findIn K (.ref Cr) "roll" = some (some (.ref pr_cR)))
    (gcR : PySem.W.specialIn K (.ref pr_cR) "__get__" = some (some (.builtin "property.__get__")))
    (tcR : PySem.W.takesIn K (.ref pr_cR) = some true)
    (rcR : PySem.W.recIn K pr_cR "property" = some (.ref fcR :: recR))
    (lcR : K.lookup fcR = some ⟨occR, odcR, .func (PySem.W.fnOf "roll" "Crowd.roll" (defArgs sCRo) (defBody sCRo) (defScope sCRo) .none kVcR dccR pmcR ancR cdcR ctcR), slcR⟩)
    (cccR : PySem.W.codeIn K cdcR "Crowd.roll" = true)
    (kkcR : PySem.W.keepIn K (.ref fcR) = true)
    (ocM : PySem.W.findIn K (.ref Cr) "numbers" = some (some (.ref pr_cM)))
    (gcM : PySem.W.specialIn K (.ref pr_cM) "__get__" = some (some (.builtin "property.__get__")))
    (tcM : PySem.W.takesIn K (.ref pr_cM) = some true)
    (rcM : PySem.W.recIn K pr_cM "property" = some (.ref fcM :: recM))
    (lcM : K.lookup fcM = some ⟨occM, odcM, .func (PySem.W.fnOf "numbers" "Crowd.numbers" (defArgs sCNu) (defBody sCNu) (defScope sCNu) .none kVcM dccM pmcM ancM cdcM ctcM), slcM⟩)
    (cccM : PySem.W.codeIn K cdcM "Crowd.numbers" = true)
    (kkcM : PySem.W.keepIn K (.ref fcM) = true)
    (ocP : PySem.W.findIn K (.ref Cr) "people" = some (some (.ref pr_cP)))
    (gcP : PySem.W.specialIn K (.ref pr_cP) "__get__" = some (some (.builtin "property.__get__")))
    (tcP : PySem.W.takesIn K (.ref pr_cP) = some true)
    (rcP : PySem.W.recIn K pr_cP "property" = some (.ref fcP :: recP))
    (lcP : K.lookup fcP = some ⟨occP, odcP, .func (PySem.W.fnOf "people" "Crowd.people" (defArgs sCPe) (defBody sCPe) (defScope sCPe) .none kVcP dccP pmcP ancP cdcP ctcP), slcP⟩)
    (cccP : PySem.W.codeIn K cdcP "Crowd.people" = true)
    (kkcP : PySem.W.keepIn K (.ref fcP) = true)
    (ocI : PySem.W.findIn K (.ref Cr) "__init__" = some (some (.ref fcI)))
    (ycI : PySem.W.typeIn K (.ref fcI) = some (.type "function"))
    (lcI : K.lookup fcI = some ⟨occI, odcI, .func (PySem.W.fnOf "__init__" "Crowd.__init__" (defArgs sCIn) (defBody sCIn) (defScope sCIn) .none kVcI dccI pmcI ancI cdcI ctcI), slcI⟩)
    (cccI : PySem.W.codeIn K cdcI "Crowd.__init__" = true)
    (kkcI : PySem.W.keepIn K (.ref fcI) = true)
    (ocA : PySem.W.findIn K (.ref Cr) "_above" = some (some (.ref fcA)))
    (ycA : PySem.W.typeIn K (.ref fcA) = some (.type "function"))
    (lcA : K.lookup fcA = some ⟨occA, odcA, .func (PySem.W.fnOf "_above" "Crowd._above" (defArgs sAb_) (defBody sAb_) (defScope sAb_) .none kVcA dccA pmcA ancA cdcA ctcA), slcA⟩)
    (cccA : PySem.W.codeIn K cdcA "Crowd._above" = true)
    (kkcA : PySem.W.keepIn K (.ref fcA) = true)
    (ocB : PySem.W.findIn K (.ref Cr) "beats" = some (some (.ref fcB)))
    (ycB : PySem.W.typeIn K (.ref fcB) = some (.type "function"))
    (lcB : K.lookup fcB = some ⟨occB, odcB, .func (PySem.W.fnOf "beats" "Crowd.beats" (defArgs sBts) (defBody sBts) (defScope sBts) .none kVcB dccB pmcB ancB cdcB ctcB), slcB⟩)
    (cccB : PySem.W.codeIn K cdcB "Crowd.beats" = true)
    (kkcB : PySem.W.keepIn K (.ref fcB) = true)
    (ocN : PySem.W.findIn K (.ref Cr) "_beaten" = some (some (.ref fcN)))
    (ycN : PySem.W.typeIn K (.ref fcN) = some (.type "function"))
    (lcN : K.lookup fcN = some ⟨occN, odcN, .func (PySem.W.fnOf "_beaten" "Crowd._beaten" (defArgs sBtn) (defBody sBtn) (defScope sBtn) .none kVcN dccN pmcN ancN cdcN ctcN), slcN⟩)
    (cccN : PySem.W.codeIn K cdcN "Crowd._beaten" = true)
    (kkcN : PySem.W.keepIn K (.ref fcN) = true)
    (ocS : PySem.W.findIn K (.ref Cr) "some_round" = some (some (.ref fcS)))
    (ycS : PySem.W.typeIn K (.ref fcS) = some (.type "function"))
    (lcS : K.lookup fcS = some ⟨occS, odcS, .func (PySem.W.fnOf "some_round" "Crowd.some_round" (defArgs sSmr) (defBody sSmr) (defScope sSmr) .none kVcS dccS pmcS ancS cdcS ctcS), slcS⟩)
    (cccS : PySem.W.codeIn K cdcS "Crowd.some_round" = true)
    (kkcS : PySem.W.keepIn K (.ref fcS) = true)
    (ocW : PySem.W.findIn K (.ref Cr) "winner" = some (some (.ref fcW)))
    (ycW : PySem.W.typeIn K (.ref fcW) = some (.type "function"))
    (lcW : K.lookup fcW = some ⟨occW, odcW, .func (PySem.W.fnOf "winner" "Crowd.winner" (defArgs sWin) (defBody sWin) (defScope sWin) .none kVcW dccW pmcW ancW cdcW ctcW), slcW⟩)
    (cccW : PySem.W.codeIn K cdcW "Crowd.winner" = true)
    (kkcW : PySem.W.keepIn K (.ref fcW) = true)
    (ocT : PySem.W.findIn K (.ref Cr) "ties" = some (some (.ref fcT)))
    (ycT : PySem.W.typeIn K (.ref fcT) = some (.type "function"))
    (lcT : K.lookup fcT = some ⟨occT, odcT, .func (PySem.W.fnOf "ties" "Crowd.ties" (defArgs sTie) (defBody sTie) (defScope sTie) .none kVcT dccT pmcT ancT cdcT ctcT), slcT⟩)
    (cccT : PySem.W.codeIn K cdcT "Crowd.ties" = true)
    (kkcT : PySem.W.keepIn K (.ref fcT) = true)
    (ocD : PySem.W.findIn K (.ref Cr) "order" = some (some (.ref fcD)))
    (ycD : PySem.W.typeIn K (.ref fcD) = some (.type "function"))
    (lcD : K.lookup fcD = some ⟨occD, odcD, .func (PySem.W.fnOf "order" "Crowd.order" (defArgs sOdr) (defBody sOdr) (defScope sOdr) .none kVcD dccD pmcD ancD cdcD ctcD), slcD⟩)
    (cccD : PySem.W.codeIn K cdcD "Crowd.order" = true)
    (kkcD : PySem.W.keepIn K (.ref fcD) = true)
    (ocG : PySem.W.findIn K (.ref Cr) "agreeing" = some (some (.ref fcG)))
    (ycG : PySem.W.typeIn K (.ref fcG) = some (.type "function"))
    (lcG : K.lookup fcG = some ⟨occG, odcG, .func (PySem.W.fnOf "agreeing" "Crowd.agreeing" (defArgs sAgr) (defBody sAgr) (defScope sAgr) .none kVcG dccG pmcG ancG cdcG ctcG), slcG⟩)
    (cccG : PySem.W.codeIn K cdcG "Crowd.agreeing" = true)
    (kkcG : PySem.W.keepIn K (.ref fcG) = true)
    (mkm : PySem.W.makesIn K C = true)
    (mkk : PySem.W.keepIn K (.ref C) = true)
    (cpg : PySem.W.plainGet K C Str.empty = true)
    (chd : PySem.W.hasDictIn K C = true)
    (cpo : PySem.W.plainOver K C = true)
    (csa : PySem.W.findIn K (.ref C) "__setattr__" = some (some (.builtin "object.__setattr__")))
    (no1 : PySem.W.findIn K (.ref C) "_orders" = some none)
    (no2 : PySem.W.findIn K (.ref C) "_things" = some none)
    (dcl : PySem.W.findIn K (.ref C) "__class__" = some (some (.builtin "object.__class__")))
    (dget : PySem.W.specialIn K (.builtin "object.__class__") "__get__" = some (some (.builtin "getset_descriptor.__get__")))
    (dtk : PySem.W.takesIn K (.builtin "object.__class__") = some true)
    (mobj : PySem.W.mroIn K C (.type "object") = some true)
    (dkm : PySem.W.makesIn K Cr = true)
    (dkk : PySem.W.keepIn K (.ref Cr) = true)
    (dpg : PySem.W.plainGet K Cr Str.empty = true)
    (dhd : PySem.W.hasDictIn K Cr = true)
    (dpo : PySem.W.plainOver K Cr = true)
    (dsa : PySem.W.findIn K (.ref Cr) "__setattr__" = some (some (.builtin "object.__setattr__")))
    (dn1 : PySem.W.findIn K (.ref Cr) "_roll" = some none)
    (dn2 : PySem.W.findIn K (.ref Cr) "_numbers" = some none)
    (dn3 : PySem.W.findIn K (.ref Cr) "_people" = some none)
    (ddcl : PySem.W.findIn K (.ref Cr) "__class__" = some (some (.builtin "object.__class__")))
    (dmobj : PySem.W.mroIn K Cr (.type "object") = some true)
    (nper : PySem.W.nsIn K mainGlobals "permutations" = some (some (.type "itertools.permutations")))
    (fncA : PySem.W.isFn K (.ref fcA) = true)
    (fncB : PySem.W.isFn K (.ref fcB) = true)
    (fncN : PySem.W.isFn K (.ref fcN) = true)
    (fncS : PySem.W.isFn K (.ref fcS) = true)
    (fncW : PySem.W.isFn K (.ref fcW) = true)
    (fncT : PySem.W.isFn K (.ref fcT) = true)
    (fncD : PySem.W.isFn K (.ref fcD) = true)
    (fncG : PySem.W.isFn K (.ref fcG) = true)
    (gP : PySem.W.nsIn K mainGlobals "POSITIONS" = some (some (.ref dP)))
    (lP : K.lookup dP = some ⟨.type "dict", none, .dict esP nP, #[]⟩)
    (litP : PySem.W.KeysLit w.params esP.toList)
    (kaP : keyTxts esP = posOf.map fun q => some q.1)
    (lowP : (dP == sysModules) = false)
    (q1P : PySem.W.nsIn K dP "first" = some (some (.int 0 tk1)))
    (q2P : PySem.W.nsIn K dP "last" = some (some (.int 2 tk2)))
    (q3P : PySem.W.nsIn K dP "middle" = some (some (.int 1 tk3)))
    (hc1R : cdcD = .ref c1R) :
    ∃ fd : FuncData, (∀ (s : Shared) (u : Value), BindsTo s fd ⟨[u], []⟩ [("_law_script", u)]) ∧ ∀ base : Heap, K.In base → base.Ns mainGlobals mg → (∀ p ∈ [(c1R, P1R)], LamX.TabB base mg p.1 p.2) → FnOkG P w K mg base CX0 9 fa fd ["_law_script"] (spLaw K [(P1R, ordQ)]) := by
  have e := hfa.symm.trans (PySem.W.mg_of X G aW)
  cases e
  have DJ := def_at (st := sJar) (ps := ["_law_script", "_law_k"]) X G aJ lJ ccJ kkJ fun _ _ _ _ _ _ us hl => match us, hl with | [_, _], _ => rfl
  have DW := def_at (st := sLaw) (ps := ["_law_script"]) X G aW lW ccW kkW fun _ _ _ _ _ _ us hl => match us, hl with | [_], _ => rfl
  have DR0 := def_at (st := sRgt) (ps := ["_law_jar_here"]) X G aR0 lR0 ccR0 kkR0 fun _ _ _ _ _ _ us hl => match us, hl with | [_], _ => rfl
  have DAw := def_at (st := sAnw) (ps := ["_law_mine"]) X G aAw lAw ccAw kkAw fun _ _ _ _ _ _ us hl => match us, hl with | [_], _ => rfl
  have DCn := def_at (st := sCnt) (ps := ["_law_jar_here", "_law_lot"]) X G aCn lCn ccCn kkCn fun _ _ _ _ _ _ us hl => match us, hl with | [_, _], _ => rfl
  have DPi := def_at (st := sPick) (ps := ["_law_jar_here", "_law_menu"]) X G aPi lPi ccPi kkPi fun _ _ _ _ _ _ us hl => match us, hl with | [_, _], _ => rfl
  have DRo := def_at (st := sRos) (ps := ["_law_jar_here", "_law_size", "_law_many"]) X G aRo lRo ccRo kkRo fun _ _ _ _ _ _ us hl => match us, hl with | [_, _, _], _ => rfl
  have DL := def_at (st := sLot) (ps := ["_law_jar_here", "_law_things_here", "_law_many"]) X G aL lL ccL kkL fun _ _ _ _ _ _ us hl => match us, hl with | [_, _, _], _ => rfl
  have DA := def_at (st := sLett) (ps := ["_law_jar_here", "_law_many"]) X G aA lA ccA kkA fun _ _ _ _ _ _ us hl => match us, hl with | [_, _], _ => rfl
  have DD := def_at (st := sDip) (ps := ["_law_jar_here", "_law_wide"]) X G aD lD ccD kkD fun _ _ _ _ _ _ us hl => match us, hl with | [_, _], _ => rfl
  have DS := def_at (st := sShuf) (ps := ["_law_jar_here", "_law_things_here"]) X G aS lS ccS kkS fun _ _ _ _ _ _ us hl => match us, hl with | [_, _], _ => rfl
  have DH := def_at (st := sHill) (ps := ["_law_jar_here", "_law_line_here"]) X G aH lH ccH kkH fun _ _ _ _ _ _ us hl => match us, hl with | [_, _], _ => rfl
  have DR := def_at (st := sRah) (ps := ["orders"]) X G aR lR ccR kkR fun _ _ _ _ _ _ us hl => match us, hl with | [_], _ => rfl
  have DI := def_at (st := sIsO) (ps := ["value"]) X G aI lI ccI kkI fun _ _ _ _ _ _ us hl => match us, hl with | [_], _ => rfl
  have DT := def_at (st := sThO) (ps := ["order"]) X G aT lT ccT kkT fun _ _ _ _ _ _ us hl => match us, hl with | [_], _ => rfl
  have DM := def_at (st := sRnu) (ps := ["numbers", "many"]) X G aM lM ccM kkM fun _ _ _ _ _ _ us hl => match us, hl with | [_, _], _ => rfl
  have DN := def_at (st := sNum) (ps := ["value"]) X G aN lN ccN kkN fun _ _ _ _ _ _ us hl => match us, hl with | [_], _ => rfl
  have DK := def_at (st := sChk) (ps := ["roll"]) X G aK lK ccK kkK fun _ _ _ _ _ _ us hl => match us, hl with | [_], _ => rfl
  have DChT := def_at (st := sChT) (ps := ["things", "thing"]) X G aChT lChT ccChT kkChT fun _ _ _ _ _ _ us hl => match us, hl with | [_, _], _ => rfl
  have DRn := def_at (st := sRnd) (ps := ["things", "beaten"]) X G aRn lRn ccRn kkRn fun _ _ _ _ _ _ us hl => match us, hl with | [_, _], _ => rfl
  have DGa := def_at (st := sGan) (ps := ["order", "beaten"]) X G aGa lGa ccGa kkGa fun _ _ _ _ _ _ us hl => match us, hl with | [_, _], _ => rfl
  have DIsC := def_at (st := sIsC) (ps := ["roll"]) X G aIsC lIsC ccIsC kkIsC fun _ _ _ _ _ _ us hl => match us, hl with | [_], _ => rfl
  have DRou := def_at (st := sRou) (ps := ["roll"]) X G aRou lRou ccRou kkRou fun _ _ _ _ _ _ us hl => match us, hl with | [_], _ => rfl
  have DThs := def_at (st := sThs) (ps := ["things"]) X G aThs lThs ccThs kkThs fun _ _ _ _ _ _ us hl => match us, hl with | [_], _ => rfl
  have DSta := def_at (st := sSta) (ps := ["order", "three"]) X G aSta lSta ccSta kkSta fun _ _ _ _ _ _ us hl => match us, hl with | [_, _], _ => rfl
  have DWup := def_at (st := sWup) (ps := ["three"]) X G aWup lWup ccWup kkWup fun _ _ _ _ _ _ us hl => match us, hl with | [_], _ => rfl
  have DWam := def_at (st := sWam) (ps := ["orders", "three"]) X G aWam lWam ccWam kkWam fun _ _ _ _ _ _ us hl => match us, hl with | [_, _], _ => rfl
  have DThr := def_at (st := sThr) (ps := ["roll"]) X G aThr lThr ccThr kkThr fun _ _ _ _ _ _ us hl => match us, hl with | [_], _ => rfl
  have DPla := def_at (st := sPla) (ps := ["roll", "three"]) X G aPla lPla ccPla kkPla fun _ _ _ _ _ _ us hl => match us, hl with | [_, _], _ => rfl
  have DCkT := def_at (st := sCkT) (ps := ["things", "three"]) X G aCkT lCkT ccCkT kkCkT fun _ _ _ _ _ _ us hl => match us, hl with | [_, _], _ => rfl
  have MmN := meth_at (st := sIni) (ps := ["self", "orders"]) lmN ccmN kkmN fun _ _ _ _ _ _ us hl => match us, hl with | [_, _], _ => rfl
  have MmT := meth_at (st := sThi) (ps := ["self"]) lmT ccmT kkmT fun _ _ _ _ _ _ us hl => match us, hl with | [_], _ => rfl
  have MmO := meth_at (st := sOrd) (ps := ["self"]) lmO ccmO kkmO fun _ _ _ _ _ _ us hl => match us, hl with | [_], _ => rfl
  have MmL := meth_at (st := sLen) (ps := ["self"]) lmL ccmL kkmL fun _ _ _ _ _ _ us hl => match us, hl with | [_], _ => rfl
  have MmS := meth_at (st := sStr) (ps := ["self"]) lmS ccmS kkmS fun _ _ _ _ _ _ us hl => match us, hl with | [_], _ => rfl
  have McR := meth_at (st := sCRo) (ps := ["self"]) lcR cccR kkcR fun _ _ _ _ _ _ us hl => match us, hl with | [_], _ => rfl
  have McM := meth_at (st := sCNu) (ps := ["self"]) lcM cccM kkcM fun _ _ _ _ _ _ us hl => match us, hl with | [_], _ => rfl
  have McP := meth_at (st := sCPe) (ps := ["self"]) lcP cccP kkcP fun _ _ _ _ _ _ us hl => match us, hl with | [_], _ => rfl
  have McI := meth_at (st := sCIn) (ps := ["self", "roll", "numbers"]) lcI cccI kkcI fun _ _ _ _ _ _ us hl => match us, hl with | [_, _, _], _ => rfl
  have McA := meth_at (st := sAb_) (ps := ["self", "thing", "other"]) lcA cccA kkcA fun _ _ _ _ _ _ us hl => match us, hl with | [_, _, _], _ => rfl
  have McB := meth_at (st := sBts) (ps := ["self", "thing", "other"]) lcB cccB kkcB fun _ _ _ _ _ _ us hl => match us, hl with | [_, _, _], _ => rfl
  have McN := meth_at (st := sBtn) (ps := ["self"]) lcN cccN kkcN fun _ _ _ _ _ _ us hl => match us, hl with | [_], _ => rfl
  have McS := meth_at (st := sSmr) (ps := ["self"]) lcS cccS kkcS fun _ _ _ _ _ _ us hl => match us, hl with | [_], _ => rfl
  have McW := meth_at (st := sWin) (ps := ["self"]) lcW cccW kkcW fun _ _ _ _ _ _ us hl => match us, hl with | [_], _ => rfl
  have McT := meth_at (st := sTie) (ps := ["self"]) lcT cccT kkcT fun _ _ _ _ _ _ us hl => match us, hl with | [_], _ => rfl
  have McD := meth_at (st := sOdr) (ps := ["self"]) lcD cccD kkcD fun _ _ _ _ _ _ us hl => match us, hl with | [_], _ => rfl
  have McG := meth_at (st := sAgr) (ps := ["self"]) lcG cccG kkcG fun _ _ _ _ _ _ us hl => match us, hl with | [_], _ => rfl
  have T : Txt mg := ⟨PySem.W.mg_none_of X G n_int, PySem.W.mg_none_of X G n_len, PySem.W.mg_none_of X G n_abs, PySem.W.mg_none_of X G n_range, PySem.W.mg_none_of X G n_repr, PySem.W.mg_none_of X G n_max, PySem.W.mg_none_of X G n_min, PySem.W.mg_none_of X G n_all, PySem.W.mg_none_of X G n_list, PySem.W.mg_none_of X G n_sorted, PySem.W.mg_none_of X G n_set, PySem.W.mg_none_of X G n_tuple, PySem.W.mg_none_of X G n_str, PySem.W.mg_none_of X G n_bool, PySem.W.mg_none_of X G n_isinstance, PySem.W.mg_none_of X G n_enumerate, PySem.W.mg_none_of X G n_super⟩
  have Lm : Lims mg := ⟨⟨_, PySem.W.mg_of X G c_LEAST_THINGS⟩, ⟨_, PySem.W.mg_of X G c_MOST_THINGS⟩, ⟨_, PySem.W.mg_of X G c_MOST_ORDERS⟩⟩
  have R : RollC K mg C := ⟨PySem.W.mg_of X G gC, ⟨cpg, chd, cpo, csa⟩, no1, no2, dcl, dget, dtk, mobj⟩
  have MK : Mk K C fmN := ⟨mkm, omN, beq_iff_eq.mpr ymN, mkk⟩
  have RCr : CrC K mg Cr := ⟨PySem.W.mg_of X G gCr, ⟨dpg, dhd, dpo, dsa⟩, dn1, dn2, dn3, ddcl, dget, dtk, dmobj⟩
  have MKc : Mk K Cr fcI := ⟨dkm, ocI, beq_iff_eq.mpr ycI, dkk⟩
  exact ⟨_, fun s u => .of_eq rfl, fun base _ _ tb => ok_law DW DJ DR0 DAw DCn DPi DRo DL DA DD DS DH (MmN.1) (MmN.2) MK DR DI DT (McI.1) (McI.2) MKc DM DN (MmL.1) (MmL.2) (⟨omL, ymL⟩) (MmS.1) (⟨omS, ymS⟩) (MmS.2) (⟨ocR, gcR, tcR, ⟨_, rcR⟩⟩) (McR.1) (McR.2) (⟨ocM, gcM, tcM, ⟨_, rcM⟩⟩) (McM.1) (McM.2) (⟨ocP, gcP, tcP, ⟨_, rcP⟩⟩) (McP.1) (McP.2) DK DChT (⟨omT, gmT, tmT, ⟨_, rmT⟩⟩) (MmT.1) (MmT.2) (⟨omO, gmO, tmO, ⟨_, rmO⟩⟩) (MmO.1) (MmO.2) (McA.1) (⟨ocA, fncA, kkcA⟩) (McA.2) (McB.1) (⟨ocB, fncB, kkcB⟩) (McB.2) (McN.1) (⟨ocN, fncN, kkcN⟩) (McN.2) (McS.1) (⟨ocS, fncS, kkcS⟩) (McS.2) DRn (PySem.W.mg_of X G nper) (McW.1) (⟨ocW, fncW, kkcW⟩) (McW.2) (McT.1) (⟨ocT, fncT, kkcT⟩) (McT.2) (McD.1) (⟨ocD, fncD, kkcD⟩) (McD.2) (hc1R) (tb (c1R, P1R) List.mem_cons_self) (List.mem_cons_self) ((fun z hz e => by rw [List.mem_singleton.mp hz])) (McG.1) (⟨ocG, fncG, kkcG⟩) (McG.2) DGa DIsC DRou DThs DSta DWup DWam DThr DPla DCkT (pos_at (PySem.W.mg_of X G gP) lP litP kaP lowP q1P q2P q3P) (PySem.W.mg_none_of X G n_sum) (PySem.W.mg_none_of X G n_zip) T Lm R (RCr)⟩
end L2.Cal
end

open PySem PySem.W PyProof.Rows
theorem L2.Cal.kIn_ofM {K : Params → Frag} {as : List Addr} {e : ∀ (P : Params), as = List.map (fun x => x.fst) (K P)} {ts : List Addr} {w : World} {h : Heap} (Y : (kmHook K as e ts).says w h) : (K w.params).In h := kIn_of (as := as) (e := e) Y.1
set_option maxRecDepth 100000 in
set_option maxHeartbeats 0 in
theorem PySem.Challenge.cw_calmlists_k22_again_the_same_holds : PySem.Challenge.rw_calmlists_k22_again_the_same.Holds := by
  w_on; o_law; k_head; (case hw => w_witness2)
  k_fill
  refine L2.Cal.walkGT (l := PySem.Challenge.rw_calmlists_k22_again_the_same) (n := 63) (k := 9) (x := "_law_script") (CX := fun _ => L2.CX0) (sp := fun w => L2.Cal.spLaw _ [(584, L2.Cal.ordQ)]) [(586, 584)] rfl (by decide) rfl ⟨rfl, by decide, by decide⟩ (fun w h Y => ⟨PySem.W.km_in_of Y, PySem.W.km_tabs_of Y⟩) (fun p hp => by rw [List.mem_singleton.mp hp]; first | exact List.mem_cons_self | exact List.mem_cons_of_mem _ List.mem_cons_self) (fun w p hp => by rw [List.mem_singleton.mp hp]; kernel_rfl) (fun w p hp => by rw [List.mem_singleton.mp hp]; kernel_rfl) ?F (fun _ _ a ns hl hT hS => ⟨a, ns, rfl, hS, hl, fun p hp => by rw [List.mem_singleton.mp hp]; exact LamX.TabS.nil (hT _ List.mem_cons_self), fun _ => rfl⟩) (fun _ _ _ _ _ h => h)
  case F =>
    intro w mg fa h KX G hmg
    refine' L2.Cal.all_mk KX G hmg ?cm_n_int ?cm_n_len ?cm_n_abs ?cm_n_range ?cm_n_repr ?cm_n_max ?cm_n_min ?cm_n_all ?cm_n_list ?cm_n_sorted ?cm_n_set ?cm_n_tuple ?cm_n_str ?cm_n_bool ?cm_n_isinstance ?cm_n_enumerate ?cm_n_super ?cm_n_sum ?cm_n_zip ?cm_c_LEAST_THINGS ?cm_c_MOST_THINGS ?cm_c_MOST_ORDERS ?cm_aJ ?cm_lJ ?cm_ccJ ?cm_kkJ ?cm_aW ?cm_lW ?cm_ccW ?cm_kkW ?cm_aR0 ?cm_lR0 ?cm_ccR0 ?cm_kkR0 ?cm_aAw ?cm_lAw ?cm_ccAw ?cm_kkAw ?cm_aCn ?cm_lCn ?cm_ccCn ?cm_kkCn ?cm_aPi ?cm_lPi ?cm_ccPi ?cm_kkPi ?cm_aRo ?cm_lRo ?cm_ccRo ?cm_kkRo ?cm_aL ?cm_lL ?cm_ccL ?cm_kkL ?cm_aA ?cm_lA ?cm_ccA ?cm_kkA ?cm_aD ?cm_lD ?cm_ccD ?cm_kkD ?cm_aS ?cm_lS ?cm_ccS ?cm_kkS ?cm_aH ?cm_lH ?cm_ccH ?cm_kkH ?cm_aR ?cm_lR ?cm_ccR ?cm_kkR ?cm_aI ?cm_lI ?cm_ccI ?cm_kkI ?cm_aT ?cm_lT ?cm_ccT ?cm_kkT ?cm_aM ?cm_lM ?cm_ccM ?cm_kkM ?cm_aN ?cm_lN ?cm_ccN ?cm_kkN ?cm_aK ?cm_lK ?cm_ccK ?cm_kkK ?cm_aChT ?cm_lChT ?cm_ccChT ?cm_kkChT ?cm_aRn ?cm_lRn ?cm_ccRn ?cm_kkRn ?cm_aGa ?cm_lGa ?cm_ccGa ?cm_kkGa ?cm_aIsC ?cm_lIsC ?cm_ccIsC ?cm_kkIsC ?cm_aRou ?cm_lRou ?cm_ccRou ?cm_kkRou ?cm_aThs ?cm_lThs ?cm_ccThs ?cm_kkThs ?cm_aSta ?cm_lSta ?cm_ccSta ?cm_kkSta ?cm_aWup ?cm_lWup ?cm_ccWup ?cm_kkWup ?cm_aWam ?cm_lWam ?cm_ccWam ?cm_kkWam ?cm_aThr ?cm_lThr ?cm_ccThr ?cm_kkThr ?cm_aPla ?cm_lPla ?cm_ccPla ?cm_kkPla ?cm_aCkT ?cm_lCkT ?cm_ccCkT ?cm_kkCkT ?cm_gC ?cm_gCr ?cm_omN ?cm_ymN ?cm_lmN ?cm_ccmN ?cm_kkmN ?cm_omT ?cm_gmT ?cm_tmT ?cm_rmT ?cm_lmT ?cm_ccmT ?cm_kkmT ?cm_omO ?cm_gmO ?cm_tmO ?cm_rmO ?cm_lmO ?cm_ccmO ?cm_kkmO ?cm_omL ?cm_ymL ?cm_lmL ?cm_ccmL ?cm_kkmL ?cm_omS ?cm_ymS ?cm_lmS ?cm_ccmS ?cm_kkmS ?cm_ocR ?cm_gcR ?cm_tcR ?cm_rcR ?cm_lcR ?cm_cccR ?cm_kkcR ?cm_ocM ?cm_gcM ?cm_tcM ?cm_rcM ?cm_lcM ?cm_cccM ?cm_kkcM ?cm_ocP ?cm_gcP ?cm_tcP ?cm_rcP ?cm_lcP ?cm_cccP ?cm_kkcP ?cm_ocI ?cm_ycI ?cm_lcI ?cm_cccI ?cm_kkcI ?cm_ocA ?cm_ycA ?cm_lcA ?cm_cccA ?cm_kkcA ?cm_ocB ?cm_ycB ?cm_lcB ?cm_cccB ?cm_kkcB ?cm_ocN ?cm_ycN ?cm_lcN ?cm_cccN ?cm_kkcN ?cm_ocS ?cm_ycS ?cm_lcS ?cm_cccS ?cm_kkcS ?cm_ocW ?cm_ycW ?cm_lcW ?cm_cccW ?cm_kkcW ?cm_ocT ?cm_ycT ?cm_lcT ?cm_cccT ?cm_kkcT ?cm_ocD ?cm_ycD ?cm_lcD ?cm_cccD ?cm_kkcD ?cm_ocG ?cm_ycG ?cm_lcG ?cm_cccG ?cm_kkcG ?cm_mkm ?cm_mkk ?cm_cpg ?cm_chd ?cm_cpo ?cm_csa ?cm_no1 ?cm_no2 ?cm_dcl ?cm_dget ?cm_dtk ?cm_mobj ?cm_dkm ?cm_dkk ?cm_dpg ?cm_dhd ?cm_dpo ?cm_dsa ?cm_dn1 ?cm_dn2 ?cm_dn3 ?cm_ddcl ?cm_dmobj ?cm_nper ?cm_fncA ?cm_fncB ?cm_fncN ?cm_fncS ?cm_fncW ?cm_fncT ?cm_fncD ?cm_fncG ?cm_gP ?cm_lP ?cm_litP ?cm_kaP ?cm_lowP ?cm_q1P ?cm_q2P ?cm_q3P ?cm_hc1R
    (case cm_n_int => k_is)
    (case cm_n_len => k_is)
    (case cm_n_abs => k_is)
    (case cm_n_range => k_is)
    (case cm_n_repr => k_is)
    (case cm_n_max => k_is)
    (case cm_n_min => k_is)
    (case cm_n_all => k_is)
    (case cm_n_list => k_is)
    (case cm_n_sorted => k_is)
    (case cm_n_set => k_is)
    (case cm_n_tuple => k_is)
    (case cm_n_str => k_is)
    (case cm_n_bool => k_is)
    (case cm_n_isinstance => k_is)
    (case cm_n_enumerate => k_is)
    (case cm_n_super => k_is)
    (case cm_n_sum => k_is)
    (case cm_n_zip => k_is)
    (case cm_c_LEAST_THINGS => k_is)
    (case cm_c_MOST_THINGS => k_is)
    (case cm_c_MOST_ORDERS => k_is)
    (case cm_aJ => k_is)
    (case cm_lJ => k_is)
    (case cm_ccJ => k_is)
    (case cm_kkJ => k_is)
    (case cm_aW => k_is)
    (case cm_lW => k_is)
    (case cm_ccW => k_is)
    (case cm_kkW => k_is)
    (case cm_aR0 => k_is)
    (case cm_lR0 => k_is)
    (case cm_ccR0 => k_is)
    (case cm_kkR0 => k_is)
    (case cm_aAw => k_is)
    (case cm_lAw => k_is)
    (case cm_ccAw => k_is)
    (case cm_kkAw => k_is)
    (case cm_aCn => k_is)
    (case cm_lCn => k_is)
    (case cm_ccCn => k_is)
    (case cm_kkCn => k_is)
    (case cm_aPi => k_is)
    (case cm_lPi => k_is)
    (case cm_ccPi => k_is)
    (case cm_kkPi => k_is)
    (case cm_aRo => k_is)
    (case cm_lRo => k_is)
    (case cm_ccRo => k_is)
    (case cm_kkRo => k_is)
    (case cm_aL => k_is)
    (case cm_lL => k_is)
    (case cm_ccL => k_is)
    (case cm_kkL => k_is)
    (case cm_aA => k_is)
    (case cm_lA => k_is)
    (case cm_ccA => k_is)
    (case cm_kkA => k_is)
    (case cm_aD => k_is)
    (case cm_lD => k_is)
    (case cm_ccD => k_is)
    (case cm_kkD => k_is)
    (case cm_aS => k_is)
    (case cm_lS => k_is)
    (case cm_ccS => k_is)
    (case cm_kkS => k_is)
    (case cm_aH => k_is)
    (case cm_lH => k_is)
    (case cm_ccH => k_is)
    (case cm_kkH => k_is)
    (case cm_aR => k_is)
    (case cm_lR => k_is)
    (case cm_ccR => k_is)
    (case cm_kkR => k_is)
    (case cm_aI => k_is)
    (case cm_lI => k_is)
    (case cm_ccI => k_is)
    (case cm_kkI => k_is)
    (case cm_aT => k_is)
    (case cm_lT => k_is)
    (case cm_ccT => k_is)
    (case cm_kkT => k_is)
    (case cm_aM => k_is)
    (case cm_lM => k_is)
    (case cm_ccM => k_is)
    (case cm_kkM => k_is)
    (case cm_aN => k_is)
    (case cm_lN => k_is)
    (case cm_ccN => k_is)
    (case cm_kkN => k_is)
    (case cm_aK => k_is)
    (case cm_lK => k_is)
    (case cm_ccK => k_is)
    (case cm_kkK => k_is)
    (case cm_aChT => k_is)
    (case cm_lChT => k_is)
    (case cm_ccChT => k_is)
    (case cm_kkChT => k_is)
    (case cm_aRn => k_is)
    (case cm_lRn => k_is)
    (case cm_ccRn => k_is)
    (case cm_kkRn => k_is)
    (case cm_aGa => k_is)
    (case cm_lGa => k_is)
    (case cm_ccGa => k_is)
    (case cm_kkGa => k_is)
    (case cm_aIsC => k_is)
    (case cm_lIsC => k_is)
    (case cm_ccIsC => k_is)
    (case cm_kkIsC => k_is)
    (case cm_aRou => k_is)
    (case cm_lRou => k_is)
    (case cm_ccRou => k_is)
    (case cm_kkRou => k_is)
    (case cm_aThs => k_is)
    (case cm_lThs => k_is)
    (case cm_ccThs => k_is)
    (case cm_kkThs => k_is)
    (case cm_aSta => k_is)
    (case cm_lSta => k_is)
    (case cm_ccSta => k_is)
    (case cm_kkSta => k_is)
    (case cm_aWup => k_is)
    (case cm_lWup => k_is)
    (case cm_ccWup => k_is)
    (case cm_kkWup => k_is)
    (case cm_aWam => k_is)
    (case cm_lWam => k_is)
    (case cm_ccWam => k_is)
    (case cm_kkWam => k_is)
    (case cm_aThr => k_is)
    (case cm_lThr => k_is)
    (case cm_ccThr => k_is)
    (case cm_kkThr => k_is)
    (case cm_aPla => k_is)
    (case cm_lPla => k_is)
    (case cm_ccPla => k_is)
    (case cm_kkPla => k_is)
    (case cm_aCkT => k_is)
    (case cm_lCkT => k_is)
    (case cm_ccCkT => k_is)
    (case cm_kkCkT => k_is)
    (case cm_gC => k_is)
    (case cm_gCr => k_is)
    (case cm_omN => k_is)
    (case cm_ymN => k_is)
    (case cm_lmN => k_is)
    (case cm_ccmN => k_is)
    (case cm_kkmN => k_is)
    (case cm_omT => k_is)
    (case cm_gmT => k_is)
    (case cm_tmT => k_is)
    (case cm_rmT => k_is)
    (case cm_lmT => k_is)
    (case cm_ccmT => k_is)
    (case cm_kkmT => k_is)
    (case cm_omO => k_is)
    (case cm_gmO => k_is)
    (case cm_tmO => k_is)
    (case cm_rmO => k_is)
    (case cm_lmO => k_is)
    (case cm_ccmO => k_is)
    (case cm_kkmO => k_is)
    (case cm_omL => k_is)
    (case cm_ymL => k_is)
    (case cm_lmL => k_is)
    (case cm_ccmL => k_is)
    (case cm_kkmL => k_is)
    (case cm_omS => k_is)
    (case cm_ymS => k_is)
    (case cm_lmS => k_is)
    (case cm_ccmS => k_is)
    (case cm_kkmS => k_is)
    (case cm_ocR => k_is)
    (case cm_gcR => k_is)
    (case cm_tcR => k_is)
    (case cm_rcR => k_is)
    (case cm_lcR => k_is)
    (case cm_cccR => k_is)
    (case cm_kkcR => k_is)
    (case cm_ocM => k_is)
    (case cm_gcM => k_is)
    (case cm_tcM => k_is)
    (case cm_rcM => k_is)
    (case cm_lcM => k_is)
    (case cm_cccM => k_is)
    (case cm_kkcM => k_is)
    (case cm_ocP => k_is)
    (case cm_gcP => k_is)
    (case cm_tcP => k_is)
    (case cm_rcP => k_is)
    (case cm_lcP => k_is)
    (case cm_cccP => k_is)
    (case cm_kkcP => k_is)
    (case cm_ocI => k_is)
    (case cm_ycI => k_is)
    (case cm_lcI => k_is)
    (case cm_cccI => k_is)
    (case cm_kkcI => k_is)
    (case cm_ocA => k_is)
    (case cm_ycA => k_is)
    (case cm_lcA => k_is)
    (case cm_cccA => k_is)
    (case cm_kkcA => k_is)
    (case cm_ocB => k_is)
    (case cm_ycB => k_is)
    (case cm_lcB => k_is)
    (case cm_cccB => k_is)
    (case cm_kkcB => k_is)
    (case cm_ocN => k_is)
    (case cm_ycN => k_is)
    (case cm_lcN => k_is)
    (case cm_cccN => k_is)
    (case cm_kkcN => k_is)
    (case cm_ocS => k_is)
    (case cm_ycS => k_is)
    (case cm_lcS => k_is)
    (case cm_cccS => k_is)
    (case cm_kkcS => k_is)
    (case cm_ocW => k_is)
    (case cm_ycW => k_is)
    (case cm_lcW => k_is)
    (case cm_cccW => k_is)
    (case cm_kkcW => k_is)
    (case cm_ocT => k_is)
    (case cm_ycT => k_is)
    (case cm_lcT => k_is)
    (case cm_cccT => k_is)
    (case cm_kkcT => k_is)
    (case cm_ocD => k_is)
    (case cm_ycD => k_is)
    (case cm_lcD => k_is)
    (case cm_cccD => k_is)
    (case cm_kkcD => k_is)
    (case cm_ocG => k_is)
    (case cm_ycG => k_is)
    (case cm_lcG => k_is)
    (case cm_cccG => k_is)
    (case cm_kkcG => k_is)
    (case cm_mkm => kernel_rfl)
    (case cm_mkk => k_is)
    (case cm_cpg => kernel_rfl)
    (case cm_chd => kernel_rfl)
    (case cm_cpo => kernel_rfl)
    (case cm_csa => k_is)
    (case cm_no1 => k_is)
    (case cm_no2 => k_is)
    (case cm_dcl => k_is)
    (case cm_dget => k_is)
    (case cm_dtk => k_is)
    (case cm_mobj => k_is)
    (case cm_dkm => kernel_rfl)
    (case cm_dkk => k_is)
    (case cm_dpg => kernel_rfl)
    (case cm_dhd => kernel_rfl)
    (case cm_dpo => kernel_rfl)
    (case cm_dsa => k_is)
    (case cm_dn1 => k_is)
    (case cm_dn2 => k_is)
    (case cm_dn3 => k_is)
    (case cm_ddcl => k_is)
    (case cm_dmobj => k_is)
    (case cm_nper => k_is)
    (case cm_fncA => first | k_is | kernel_rfl)
    (case cm_fncB => first | k_is | kernel_rfl)
    (case cm_fncN => first | k_is | kernel_rfl)
    (case cm_fncS => first | k_is | kernel_rfl)
    (case cm_fncW => first | k_is | kernel_rfl)
    (case cm_fncT => first | k_is | kernel_rfl)
    (case cm_fncD => first | k_is | kernel_rfl)
    (case cm_fncG => first | k_is | kernel_rfl)
    (case cm_gP => k_is)
    (case cm_lP => k_is)
    (case cm_litP => exact ⟨⟨_, _, rfl, rfl⟩, ⟨_, _, rfl, rfl⟩, ⟨_, _, rfl, rfl⟩, trivial⟩)
    (case cm_kaP => rfl)
    (case cm_lowP => rfl)
    (case cm_q1P => k_is)
    (case cm_q2P => k_is)
    (case cm_q3P => k_is)
    (case cm_hc1R => rfl)
