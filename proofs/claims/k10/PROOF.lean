import PyProof.Rows.All
import Wide.All
import OpenK.AllK
import Wide.FinOn
import HandS.ForMost
import HandS.Wide
import HandS.Flow
import HandS.TupAny
import HandS.SetTxt0
import HandS.SetTxtIn
import HandS.SetFor
import HandS.TupSets
import HandS.SortOrd
import HandS.Strs
import HandS.IsInst
import HandS.Walk
import HandS.Iter
import KE.GoesMore
import KE.GoesEnum
import HandS.Property
import HandS.OwnEq
import HandS.ClsMeth
import HandS.MakeKw
import KE.KCallOwn
import OpenK.KMeth
import PyProof.InstEq
import PyProof.InstNe
import PyProof.EqKinds
import PyProof.Conv_bool
import HandS.Base
import HandS.Comp
import PyProof.Rows.TmSorted
import HandS.Codes
import HandS.SetKeys
import HandS.Text
import PySem.Challenge.RW_calmlists_k10_whole_known_calm_and_rough
set_option Elab.async false
set_option linter.all false
section
set_option maxRecDepth 100000
set_option maxHeartbeats 4000000
/-! what all laws of this program share: a def where it stands, the jar of drawn numbers -/
namespace L2.Cal
open PySem PySem.Spec PyProof.Rows L2
/-- a def of the top: its function, its name, how it binds -/
structure DefAt (K : PySem.W.Frag) (mg : Str → Option Value) (x : Str) (st : Stmt) (ps : List Str) (f : Addr) (fd : FuncData) : Prop where
  F : Fun K x x st f fd
  g : mg x = some (.ref f)
  b : Binds K fd ps []
/-- the jar: three numbers, none below nought -/
def Jar (H : Hp) (j : Addr) : Prop := ∃ d s c : Int, H j = some (.lst [.int d, .int s, .int c]) ∧ 0 ≤ d ∧ 0 ≤ s ∧ s < 2147483648 ∧ 0 ≤ c
theorem Jar.up {H : Hp} {j : Addr} {d s c : Int} (h1 : 0 ≤ d) (h2 : 0 ≤ s) (h3 : s < 2147483648) (h4 : 0 ≤ c) : Jar (upd H j (.lst [.int d, .int s, .int c])) j := ⟨d, s, c, upd_same, h1, h2, h3, h4⟩
/-- all that was tracked is as it was, but the jar -/
def Kp (j : Addr) (H H' : Hp) : Prop := ∀ b o, b ≠ j → H b = some o → H' b = some o
theorem Kp.refl {j : Addr} {H : Hp} : Kp j H H := fun _ _ _ h => h
theorem Kp.trans {j : Addr} {H H1 H2 : Hp} (a : Kp j H H1) (b : Kp j H1 H2) : Kp j H H2 := fun c o n h => b c o n (a c o n h)
theorem Kp.new {j p : Addr} {o : HO} {H : Hp} (h : H p = none) : Kp j H (upd H p o) := fun b u _ e => by rw [upd_ne (ne_of_none e h)]; exact e
theorem Kp.jar {j : Addr} {o : HO} {H : Hp} : Kp j H (upd H j o) := fun b u n e => by rw [upd_ne n]; exact e
theorem Kp.of {j : Addr} {H H' : Hp} (h : Same H H') : Kp j H H' := fun b o _ e => h b o e
theorem Jar.new {H : Hp} {j p : Addr} {o : HO} (h : Jar H j) (n : H p = none) : Jar (upd H p o) j := by
  obtain ⟨d, s, c, e, r⟩ := h
  exact ⟨d, s, c, by rw [upd_ne (ne_of_none e n)]; exact e, r⟩
theorem Jar.same {H H' : Hp} {j : Addr} (h : Jar H j) (e : Same H H') : Jar H' j := by
  obtain ⟨d, s, c, q, r⟩ := h
  exact ⟨d, s, c, e _ _ q, r⟩
theorem Kp.seqL {K : PySem.W.Frag} {j a : Addr} {H H' : Hp} {xs : List V} (k : Kp j H H') (n : a ≠ j) (h : SqL K H a xs) : SqL K H' a xs := by
  rcases h with (h | ⟨o, h⟩) | h
  · exact .inl (.inl (k _ _ n h))
  · exact .inl (.inr ⟨o, k _ _ n h⟩)
  · exact .inr h
theorem Kp.seqT {K : PySem.W.Frag} {j a : Addr} {H H' : Hp} {xs : List V} (k : Kp j H H') (n : a ≠ j) (h : SqT K H a xs) : SqT K H' a xs := by
  rcases h with (h | ⟨o, h⟩) | h
  · exact .inl (.inl (k _ _ n h))
  · exact .inl (.inr ⟨o, k _ _ n h⟩)
  · exact .inr h
/-! ### promises -/
def spDip : Sp := fun vs H Q _ => ∃ (j : Addr) (w d s c : Int), vs = [.ref j, .int w] ∧ H j = some (.lst [.int d, .int s, .int c]) ∧ 0 ≤ d ∧ 0 ≤ s ∧ s < 2147483648 ∧ 0 ≤ c ∧ 0 < w ∧ w < 1073741824 ∧
  ∀ r d' s' c' : Int, 0 ≤ r → r < w → 0 ≤ d' → 0 ≤ s' → s' < 2147483648 → 0 ≤ c' → Q (.int r) (upd H j (.lst [.int d', .int s', .int c']))
def spJar (K : PySem.W.Frag) : Sp := fun vs H Q _ => ∃ (a : Addr) (ns : List Int) (k : Int), vs = [.ref a, .int k] ∧ SqL K H a (ns.map V.int) ∧ ns.length ≤ 63 ∧ 0 ≤ k ∧ k ≤ 100 ∧
  ∀ H' p, Same H H' → H p = none → Jar H' p → Q (.ref p) H'
/-- one of a list, a tuple or a text's signs -/
def spPick (K : PySem.W.Frag) : Sp := fun vs H Q _ => ∃ (j m : Addr) (xs : List V) (d s c : Int), vs = [.ref j, .ref m] ∧ H j = some (.lst [.int d, .int s, .int c]) ∧ 0 ≤ d ∧ 0 ≤ s ∧ s < 2147483648 ∧ 0 ≤ c ∧ m ≠ j ∧ (SqL K H m xs ∨ SqT K H m xs) ∧ 0 < xs.length ∧ xs.length ≤ 1000 ∧
  ∀ (i : Nat) (v : V) (d' s' c' : Int), xs[i]? = some v → 0 ≤ d' → 0 ≤ s' → s' < 2147483648 → 0 ≤ c' → Q v (upd H j (.lst [.int d', .int s', .int c']))
end L2.Cal
end

section
set_option maxRecDepth 100000
set_option maxHeartbeats 4000000
/-! new objects, told by what stays and what stands there, not by the heap as a term -/
namespace L2.Cal
open PySem PySem.Spec PyProof.Rows L2
theorem same_new {H : Hp} {p : Addr} {o : HO} (h : H p = none) : Same H (upd H p o) := fun b u e => by rw [upd_ne (ne_of_none e h)]; exact e
/-- a new object o at p -/
abbrev New (H : Hp) (o : HO) (Q : VK) : Prop := ∀ (p : Addr) (H2 : Hp), Same H H2 → H p = none → H2 p = some o → Q (.ref p) H2
theorem New.use {H : Hp} {o : HO} {Q : VK} (h : New H o Q) {p : Addr} (n : H p = none) : Q (.ref p) (upd H p o) := h p _ (same_new n) n upd_same
def tLstS (t : TA) : TE := fun σ H Q => t σ H fun xs H1 => xs.length ≤ sizeLine ∧ New H1 (.lst xs) Q
def tTupS (t : TA) : TE := fun σ H Q => t σ H fun xs H1 => xs.length ≤ sizeLine ∧ New H1 (.tup xs) Q
section
variable {X : Cx} {es : List Expr} {t : TA} {pos : Pos}
theorem pe_lstS (h : PA X es t) : PE X (.List es pos) (tLstS t) := ⟨fun pins s σ H Q I hq => wpAny_List_spliced (thn (h.run pos pins s σ H _ I hq) fun us s1 hh => by
  obtain ⟨xs, H1, I1, r, z, q⟩ := hh
  refine ⟨by rw [← r.length]; exact z, .ref s1.heap.objs.size, _, I1.laid (t' := s1.toks) (a := s1.heap.objs.size) (o := .lst xs) (fun b u e => Heap.get?_push_of_some _ e) (Nat.le_refl _) ⟨z, us, 0, r, Heap.get?_push_size _ rfl⟩, rfl, q.use (I1.hok.fresh (Nat.le_refl _))⟩)⟩
theorem pe_tupS {k} (h : PA X es t) : PE X (.Tuple es k pos) (tTupS t) := ⟨fun pins s σ H Q I hq => wpAny_Tuple_spliced (thn (h.run pos pins s σ H _ I hq) fun us s1 hh => by
  obtain ⟨xs, H1, I1, r, z, q⟩ := hh
  refine ⟨by rw [← r.length]; exact z, .ref s1.heap.objs.size, _, I1.laid (t' := s1.toks) (a := s1.heap.objs.size) (o := .tup xs) (fun b u e => Heap.get?_push_of_some _ e) (Nat.le_refl _) ⟨z, us, r, ⟨_, Heap.get?_push_size _ rfl, rfl, _, rfl⟩⟩, rfl, q.use (I1.hok.fresh (Nat.le_refl _))⟩)⟩
theorem pe_dnewS : PE X (.Dict [] [] pos) (fun _ H Q => New H (.dK []) Q) := ⟨fun pins s σ H Q I h => pe_dnewK.run pins s σ H Q I fun p n => h.use n⟩
end
/-- a class of the program, a built-in class, as a value -/
theorem pe_cls {X : Cx} {x : Str} {C : Addr} {pos : Pos} (hg : Gl X x) (hm : X.mg x = some (.ref C)) (hd : (x == ("__debug__" : Str)) = false := by decide) : PE X (.Name x pos) (tC (.ref C)) := pe_glob (v := .ref C) hg hm rfl hd
theorem pe_bty {X : Cx} {x : Str} {n : String} {pos : Pos} (hg : Gl X x) (hm : X.mg x = none) (hv : bootBuiltins x = some (.type n)) (hn : x ≠ "__name__" := by decide) (hd : (x == ("__debug__" : Str)) = false := by decide) : PE X (.Name x pos) (tC (.ty n)) := pe_bltn (v := .ty n) hg hm hv rfl hn hd
def rCatS : R2 := fun x y H Q => ∃ l b xs zs, x = .ref l ∧ y = .ref b ∧ H l = some (.lst xs) ∧ H b = some (.lst zs) ∧ xs.length + zs.length ≤ sizeLine ∧ New H (.lst (xs ++ zs)) Q
theorem op_catS {X : Cx} : OpR X (binaryOp .Add) rCatS := fun pins s σ H x y v u Q I rx ry h => by
  obtain ⟨l, b, xs, zs, ex, ey, h1, h2, hz, q⟩ := h
  exact op_cat pins s σ H x y v u Q I rx ry ⟨l, b, xs, zs, ex, ey, h1, h2, hz, fun p n => q.use n⟩
end L2.Cal
end

section
set_option maxRecDepth 100000
set_option maxHeartbeats 4000000
namespace L2.Cal
open PySem PySem.Spec PyProof.Rows L2
def topS (i : Nat) : Stmt := PySem.Challenge.pw_calmlists_k10_whole_known_calm_and_rough.main.body.getD i (.Pass ⟨0, 0, 0, 0⟩)
abbrev sJar : Stmt := topS 23
abbrev sDip : Stmt := topS 24
abbrev sPick : Stmt := topS 25
theorem scJar : FnScope ["_law_script", "_law_k", "_law_churned", "_law_cell", "_law_own", "_law_digits"] ["_law_script", "_law_k"] (defScope sJar) := ⟨rfl, rfl, rfl, by decide +kernel, rfl, by decide +kernel, by decide +kernel⟩
theorem scDip : FnScope ["_law_jar_here", "_law_wide", "_law_digit", "_law_seed"] ["_law_jar_here", "_law_wide"] (defScope sDip) := ⟨rfl, rfl, rfl, by decide +kernel, rfl, by decide +kernel, by decide +kernel⟩
theorem scPick : FnScope ["_law_jar_here", "_law_menu", "_law_at"] ["_law_jar_here", "_law_menu"] (defScope sPick) := ⟨rfl, rfl, rfl, by decide +kernel, rfl, by decide +kernel, by decide +kernel⟩
structure Txt (mg : Str → Option Value) : Prop where
  b_int : mg "int" = none
  b_len : mg "len" = none
  b_abs : mg "abs" = none
  b_range : mg "range" = none
  b_repr : mg "repr" = none
  b_max : mg "max" = none
  b_min : mg "min" = none
  b_all : mg "all" = none
  b_list : mg "list" = none
  b_sorted : mg "sorted" = none
  b_set : mg "set" = none
  b_tuple : mg "tuple" = none
  b_str : mg "str" = none
  b_bool : mg "bool" = none
  b_isinstance : mg "isinstance" = none
  b_enumerate : mg "enumerate" = none
  b_super : mg "super" = none
section
variable {P : Program} {w : World} {K : PySem.W.Frag} {mg : Str → Option Value} {base : Heap}
theorem ok_dip {f : Addr} {fd : FuncData} (D : DefAt K mg "_law_dip" sDip ["_law_jar_here", "_law_wide"] f fd) (T : Txt mg) : FnOk P w K mg base CX0 1 f fd ["_law_jar_here", "_law_wide"] spDip := by
  refine D.F.ok scDip (fun vs H Q E h => ?_) (fun cdv A outer sh H vs Q E hr h => ?_)
  · obtain ⟨j, w, d, s, c, rfl, _⟩ := h
    rfl
  · obtain ⟨j, w, d, s, c, rfl, hj, hd, hs, hs2, hc, hw, hw2, q⟩ := h
    refine ⟨_, (pss_cons (ps_asg (pe_op op_add (pe_ix ix_list (pv 0) pe_int (fun _ _ => rfl)) pe_int) (pg_sub (pv 0) pe_int set_list))
  (pss_cons (ps_if (pt_cmpR op_gt (pe_ix ix_list (pv 0) pe_int (fun _ _ => rfl)) pe_int (nomark _))
   (pss_cons (ps_set (i := 2) scDip.nd rfl (.inl rfl) (pe_op op_mod (pe_callTy call_int1 (by rfl) T.b_int (by decide +kernel) (pa_cons (pe_ix ix_list (pv 0) pe_int (fun _ _ => rfl)) pa_nil)) (pv 1)))
  (pss_cons (ps_asg (pe_op op_fdiv (pe_callTy call_int1 (by rfl) T.b_int (by decide +kernel) (pa_cons (pe_ix ix_list (pv 0) pe_int (fun _ _ => rfl)) pa_nil)) (pv 1)) (pg_sub (pv 0) pe_int set_list))
  (pss_one (ps_ret (pv 2)))))
   pss_nil)
  (pss_cons (ps_set (i := 3) scDip.nd rfl (.inl rfl) (pe_callTy call_int1 (by rfl) T.b_int (by decide +kernel) (pa_cons (pe_ix ix_list (pv 0) pe_int (fun _ _ => rfl)) pa_nil)))
  (pss_cons (ps_asg (pe_op op_mod (pe_callTy call_int1 (by rfl) T.b_int (by decide +kernel) (pa_cons (pe_op op_add (pe_op op_add (pe_op op_mul (pv 3) pe_int) (pe_op op_mul (pe_ix ix_list (pv 0) pe_int (fun _ _ => rfl)) pe_int)) pe_int) pa_nil)) pe_int) (pg_sub (pv 0) pe_int set_list))
  (pss_one (ps_ret (pe_op op_mod (pe_callTy call_int1 (by rfl) T.b_int (by decide +kernel) (pa_cons (pe_op op_fdiv (pe_ix ix_list (pv 0) pe_int (fun _ _ => rfl)) pe_int) pa_nil)) (pv 1)))))))), ?_⟩
    have i0 : ∀ a b c : Int, atI [V.int a, V.int b, V.int c] 0 = some (.int a) := fun a b c => atI_nat (j := 0) rfl
    have i1 : ∀ a b c : Int, atI [V.int a, V.int b, V.int c] 1 = some (.int b) := fun a b c => atI_nat (j := 1) rfl
    have i2 : ∀ a b c : Int, atI [V.int a, V.int b, V.int c] 2 = some (.int c) := fun a b c => atI_nat (j := 2) rfl
    -- jar[2] = jar[2] + 1
    refine ⟨_, rfl, j, _, _, _, rfl, rfl, SqL.of hj, i2 _ _ _, _, _, rfl, rfl, _, rfl, j, _, _, 2, rfl, rfl, hj, rfl, ?_⟩
    refine ⟨_, rfl, j, _, _, _, rfl, rfl, SqL.of upd_same, i0 _ _ _, _, _, rfl, rfl, _, rfl, ite2 (fun e => ?_) (fun e => ?_)⟩
    · have e0 : 0 < d := of_decide_eq_true e
      refine ⟨_, rfl, j, _, _, _, rfl, rfl, SqL.of upd_same, i0 _ _ _, .inl ⟨_, rfl, _, rfl, _, _, rfl, rfl, hw, ?_⟩⟩
      refine ⟨_, rfl, j, _, _, _, rfl, rfl, SqL.of upd_same, i0 _ _ _, .inl ⟨_, rfl, _, rfl, _, _, rfl, rfl, ⟨hw, hw2⟩, _, rfl, j, _, _, 0, rfl, rfl, upd_same, rfl, ?_⟩⟩
      refine ⟨_, rfl, ?_⟩
      rw [upd_upd]
      exact q _ _ _ _ (Int.emod_nonneg _ (by omega)) (Int.emod_lt_of_pos _ hw) (Int.ediv_nonneg (by omega) (by omega)) hs hs2 (by omega)
    · refine ⟨_, rfl, j, _, _, _, rfl, rfl, SqL.of upd_same, i1 _ _ _, .inl ⟨_, rfl, ?_⟩⟩
      refine ⟨_, rfl, _, _, rfl, rfl, .inr ⟨by decide, by decide⟩, _, rfl, j, _, _, _, rfl, rfl, SqL.of upd_same, i2 _ _ _, _, _, rfl, rfl, .inr ⟨by decide, by decide⟩, _, _, rfl, rfl, _, _, rfl, rfl, .inl ⟨_, rfl, _, _, rfl, rfl, (by show (0:Int) < 2147483399; decide), _, rfl, j, _, _, 1, rfl, rfl, upd_same, rfl, ?_⟩⟩
      refine ⟨_, rfl, j, _, _, _, rfl, rfl, SqL.of upd_same, i1 _ _ _, _, _, rfl, rfl, ⟨by decide, by decide⟩, .inl ⟨_, rfl, _, rfl, _, _, rfl, rfl, hw, ?_⟩⟩
      rw [upd_upd]
      exact q _ _ _ _ (Int.emod_nonneg _ (by omega)) (Int.emod_lt_of_pos _ hw) (by omega) (Int.emod_nonneg _ (by omega)) (by have := Int.emod_lt_of_pos (s * 40692 + (c + 1) * 52021 + 31) (b := 2147483399) (by decide); omega) (by omega)
end
end L2.Cal
end

section
set_option maxRecDepth 100000
set_option maxHeartbeats 4000000
namespace L2.Cal
open PySem PySem.Spec PyProof.Rows L2
section
variable {P : Program} {w : World} {K : PySem.W.Frag} {mg : Str → Option Value} {base : Heap}

theorem ok_jar {f : Addr} {fd : FuncData} (D : DefAt K mg "_law_jar" sJar ["_law_script", "_law_k"] f fd) (T : Txt mg) : FnOk P w K mg base CX0 1 f fd ["_law_script", "_law_k"] (spJar K) := by
  refine D.F.ok scJar (fun vs H Q E h => ?_) (fun cdv A outer sh H vs Q E hr h => ?_)
  · obtain ⟨a, ns, k, rfl, _⟩ := h
    rfl
  · obtain ⟨a, ns, k, rfl, hS, hn, h0, h1, q⟩ := h
    refine ⟨_, (pss_cons (ps_set (i := 2) scJar.nd rfl (.inl rfl) (pe_op op_add (pe_op op_mul (pe_op op_mul pe_int (pe_op op_add (pv 1) pe_int)) (pe_op op_add (pv 1) pe_int)) (pe_op op_mul pe_int (pe_callB call_len_seq (by rfl) T.b_len (by decide +kernel) (pa_cons (pv 0) pa_nil)))))
  (pss_cons (ps_for PassesOwn.never rfl (pi_list (pe_slice sl_list (pv 0) po_none (po_some pe_int))) (pg_name (i := 3) scJar.nd rfl (.inl rfl))
   (pss_one (ps_set (i := 2) scJar.nd rfl (.inl rfl) (pe_op op_mod (pe_callTy call_int1 (by rfl) T.b_int (by decide +kernel) (pa_cons (pe_op op_add (pe_op op_mul (pv 2) pe_int) (pv 3)) pa_nil)) pe_int))))
  (pss_cons (ps_set (i := 4) scJar.nd rfl (.inl rfl) (pe_ifExp (pt_cmpR op_lt (pv 1) (pe_callB call_len_seq (by rfl) T.b_len (by decide +kernel) (pa_cons (pv 0) pa_nil)) (nomark _)) (pe_ix ix_list (pv 0) (pv 1) (fun _ _ => rfl)) pe_int))
  (pss_cons (ps_set (i := 5) scJar.nd rfl (.inl rfl) (pe_ifExp (PW.pt (pw_or (pt_cmpR op_lt (pv 4) pe_int (nomark _)) (pw_or1 (pt_cmpR op_ge (pv 4) (pe_op op_pow pe_int pe_int) (nomark _))))) (pe_callB call_abs (by rfl) T.b_abs (by decide +kernel) (pa_cons (pv 4) pa_nil)) pe_int))
  (pss_one (ps_ret (pe_lstS (pa_cons (pv 5) (pa_cons (pe_op op_mod (pe_callTy call_int1 (by rfl) T.b_int (by decide +kernel) (pa_cons (pe_op op_add (pe_op op_add (pe_op op_mul (pv 2) pe_int) (pe_op op_mul (pv 4) pe_int)) (pe_op op_mul pe_int (pe_op op_add (pv 1) pe_int))) pa_nil)) pe_int) (pa_cons pe_int pa_nil)))))))))), ?_⟩
    -- churned
    refine ⟨_, rfl, _, _, rfl, rfl, _, _, rfl, rfl, .inl ⟨by decide, by decide⟩, _, rfl, _, _, rfl, rfl, _, _, rfl, rfl, .inr ⟨by omega, by omega⟩, _, rfl, a, _, rfl, .inl hS, _, _, rfl, rfl, .inl ⟨by decide, by decide⟩, _, _, rfl, rfl, ?_⟩
    refine ⟨_, rfl, 4, rfl, a, _, rfl, hS, fun p np => ?_⟩
    have s1 : Same H (upd H p (.lst (cutV (ns.map V.int) none (some 4)))) := same_new np
    have ec : cutV (ns.map V.int) none (some 4) = (ns.take 4).map V.int := by
      unfold cutV
      rw [HT.sIx_none, show HT.sIx (ns.map V.int).length (ns.map V.int).length (some 4) = min 4 (ns.map V.int).length from HT.sIx_nat _ _ 4, List.drop_zero, List.map_take]
      simp [List.take_eq_take_iff]
    rw [ec] at s1 ⊢
    refine ⟨p, rfl, ⟨_, SqL.of upd_same⟩, for_list (xs := (ns.take 4).map V.int) (fun i σ H' => ∃ c y3, σ = [some (.ref a), some (.int k), some (.int c), y3, none, none] ∧ H' = upd H p (.lst ((ns.take 4).map V.int))) ⟨_, none, rfl, rfl⟩ (fun i σ H' _ hP => ?_) (fun i x σ H' hx hP => ?_) (fun σ H' hP => ?_)⟩
    · obtain ⟨c, y3, rfl, rfl⟩ := hP
      exact SqL.of upd_same
    · obtain ⟨c, y3, rfl, rfl⟩ := hP
      obtain ⟨z, hz, rfl⟩ : ∃ z, (ns.take 4)[i]? = some z ∧ V.int z = x := by
        rw [List.getElem?_map] at hx
        cases e : (ns.take 4)[i]? with
        | none =>
          rw [e] at hx
          cases hx
        | some z =>
          rw [e] at hx
          exact ⟨z, rfl, Option.some.inj hx⟩
      refine ⟨_, rfl, _, _, rfl, rfl, .inr ⟨by decide, by decide⟩, _, rfl, _, _, rfl, rfl, .inl ⟨_, rfl, _, _, rfl, rfl, (by show (0:Int) < 1000000009; decide), ?_⟩⟩
      exact ⟨_, _, rfl, rfl⟩
    · obtain ⟨c, y3, rfl, rfl⟩ := hP
      have hS' : SqL K (upd H p (.lst ((ns.take 4).map V.int))) a (ns.map V.int) := s1.seq hS
      -- own, digits, the jar
      have last : ∀ dg : Int, 0 ≤ dg → ∀ v : Int, 0 ≤ v → v < 2147483563 → ∀ p' H', Same (upd H p (.lst ((ns.take 4).map V.int))) H' → (upd H p (.lst ((ns.take 4).map V.int))) p' = none → H' p' = some (.lst [.int dg, .int v, .int 0]) → Q (.ref p') H' := fun dg hdg v h0 h1 p' H' s' np' e' => by
        exact q _ p' (s1.trans s') (s1.free np') ⟨_, _, _, e', hdg, h0, by omega, by decide⟩
      refine ⟨_, rfl, _, rfl, a, _, rfl, .inl hS', _, _, rfl, rfl, _, rfl, ite2 (fun e => ?A) (fun e => ?B)⟩
      case' A =>
        have e0 : k < (ns.length : Int) := by
          have := of_decide_eq_true e
          rw [List.length_map] at this
          exact this
        have hk : k.toNat < ns.length := by omega
        have hg : atI (ns.map V.int) k = some (.int ns[k.toNat]) := at_of (j := k.toNat) (by omega) (by rw [List.getElem?_map, List.getElem?_eq_getElem hk]; rfl)
        refine ⟨_, rfl, _, rfl, a, _, _, _, rfl, rfl, hS', hg, ?_⟩
        generalize ns[k.toNat] = own
      all_goals
        refine ⟨_, rfl, _, _, rfl, rfl, _, rfl, ite2 (fun e => ?_) (fun e => ?_)⟩
        all_goals first
          | (refine iteT ?_
             have e1 := of_decide_eq_true e
             refine ⟨_, rfl, _, rfl, ?_⟩)
          | (have e1 := fun z => e (decide_eq_true z)
             refine ⟨_, rfl, _, _, rfl, rfl, ⟨by decide, by decide, by decide⟩, _, _, rfl, rfl, _, rfl, ite2 (fun e => ⟨_, rfl, _, rfl, ?_⟩) (fun e => ?_)⟩)
        all_goals
          refine ⟨_, rfl, _, rfl, _, _, rfl, rfl, .inr ⟨by decide, by decide⟩, _, rfl, _, _, rfl, rfl, .inr ⟨by decide, by decide⟩, _, _, rfl, rfl, _, rfl, _, _, rfl, rfl, _, _, rfl, rfl, .inl ⟨by decide, by decide⟩, _, _, rfl, rfl, .inl ⟨_, rfl, _, _, rfl, rfl, (by show (0:Int) < 2147483563; decide), ?_⟩⟩
          refine ⟨by show 3 ≤ sizeLine; decide, fun p' H' s' np' e' => ?_⟩
          exact last _ (by first | exact Int.le_refl _ | (split <;> omega)) _ (Int.emod_nonneg _ (by decide)) (Int.emod_lt_of_pos _ (by decide)) p' H' s' np' e'
theorem ok_pick {f fD : Addr} {fd fdD : FuncData} (D : DefAt K mg "_law_pick" sPick ["_law_jar_here", "_law_menu"] f fd) (DD : DefAt K mg "_law_dip" sDip ["_law_jar_here", "_law_wide"] fD fdD) (T : Txt mg) : FnOk P w K mg base CX0 2 f fd ["_law_jar_here", "_law_menu"] (spPick K) := by
  have GD : FnOk P w K mg base CX0 1 fD fdD ["_law_jar_here", "_law_wide"] spDip := ok_dip DD T
  refine D.F.ok scPick (fun vs H Q E h => ?_) (fun cdv A outer sh H vs Q E hr h => ?_)
  · obtain ⟨j, m, xs, d, s, c, rfl, _⟩ := h
    rfl
  · obtain ⟨j, m, xs, d, s, c, rfl, hj, hd, hs, hs2, hc, hm, hx, hl, hl2, q⟩ := h
    refine ⟨_, (pss_cons (ps_set (i := 2) scPick.nd rfl (.inl rfl) (pe_call GD (hr.mono (by decide)) (by rfl) DD.g DD.F.kp DD.b .nil pass0 (pa_cons (pv 0) (pa_cons (pe_callB call_len_seq (by rfl) T.b_len (by decide +kernel) (pa_cons (pv 1) pa_nil)) pa_nil))))
  (pss_one (ps_ret (pe_ix ix_seq (pv 1) (pv 2) (fun _ _ => rfl))))), ?_⟩
    refine ⟨_, rfl, _, rfl, m, xs, rfl, hx, j, _, d, s, c, rfl, hj, hd, hs, hs2, hc, by omega, by omega, fun r d' s' c' h0 h1 hd' hs' hs2' hc' => ?_⟩
    have kp : Kp j H (upd H j (.lst [.int d', .int s', .int c'])) := Kp.jar
    have hr' : r.toNat < xs.length := by omega
    have hg : atI xs r = some (xs[r.toNat]) := at_of (j := r.toNat) (by omega) (List.getElem?_eq_getElem hr')
    rcases hx with hx | hx
    · exact ⟨_, rfl, _, rfl, .inl ⟨m, _, _, _, rfl, rfl, kp.seqL hm hx, hg, q r.toNat _ _ _ _ (List.getElem?_eq_getElem hr') hd' hs' hs2' hc'⟩⟩
    · exact ⟨_, rfl, _, rfl, .inr (.inl ⟨m, _, _, _, rfl, rfl, kp.seqT hm hx, hg, q r.toNat _ _ _ _ (List.getElem?_eq_getElem hr') hd' hs' hs2' hc'⟩)⟩
end
end L2.Cal
end

section
set_option maxRecDepth 100000
set_option maxHeartbeats 4000000
/-! sets of texts: made of a list of texts or of a text's signs; their number; sorted -/
namespace L2.Cal
open PySem PySem.Spec PyProof.Rows PySem.Froz L2
section
variable {P : Program} {w : World}
/-- the payload can be walked -/
structure Way (w : World) (D : SD) : Prop where
  ris : Ris D.2.2.place.toList
  led : w.params.followText "set-order" = true ∨ D.2.2.led = true
/-- the payload holds the texts l, each once -/
structure Has (P : Program) (w : World) (D : SD) (l : List Str) : Prop where
  ok : TxOk P w D l
  way : Way w D
  one : l.Nodup
theorem Way.add {D : SD} (W : Way w D) (h : Int) (v : Value) : Way w (addTx h v D) := by
  obtain ⟨es, ep, t⟩ := D
  have r1 := layNew_ris t es h v W.ris
  have d1 := layNew_led t es h v
  unfold addTx tailTx
  dsimp only
  have w2 : Way w ((layNew t es h v).1, ep, if (layNew t es h v).2.1.plain = true then { (layNew t es h v).2.1 with plain := false } else (layNew t es h v).2.1) := by
    refine ⟨?_, ?_⟩
    · dsimp only
      split <;> exact r1
    · dsimp only
      rw [show (if (layNew t es h v).2.1.plain = true then { (layNew t es h v).2.1 with plain := false } else (layNew t es h v).2.1).led = t.led by split <;> exact d1]
      exact W.led
  generalize (if (layNew t es h v).2.1.plain = true then { (layNew t es h v).2.1 with plain := false } else (layNew t es h v).2.1) = t2 at w2 ⊢
  split
  · exact ⟨relayAll_ris _ _ _, by dsimp only; rw [relayAll_led]; exact w2.led⟩
  · exact ⟨w2.ris, w2.led⟩
theorem Has.add {D : SD} {l : List Str} {k : Str} (u : Tok) (S : Has P w D l) (n : k ∉ l) : Has P w (addTx (hashStr w k) (.str k u) D) (k :: l) :=
  ⟨add_ok u S.ok, S.way.add _ _, List.nodup_cons.mpr ⟨n, S.one⟩⟩
theorem Has.none (ep : Nat) : Has P w (#[], ep, .fresh 0 0 (!w.params.followText "set-order")) [] := by
  refine ⟨TxOk.nil rfl, ⟨?_, ?_⟩, .nil⟩
  · exact List.Pairwise.nil
  · cases e : w.params.followText "set-order"
    · exact .inr rfl
    · exact .inl rfl
variable {A : Around} {E : Value → Shared → Prop} {s : Shared} {a : Addr} {T : String} {D : SD} {l : List Str} {k : Str} {u : Tok}
/-- a text that is there already -/
theorem put_old {Q : Bool → Shared → Prop} (ho : s.heap.get? a = some (sObj T D)) (S : Has P w D l) (hk : k ∈ l) (hb : l.length < scanBound) (q : Q false s) : wpAny (model P w) A (setAddHashed a (.str k u) (hashStr w k)) Q E s := by
  obtain ⟨es, ep, t⟩ := D
  have dat : (sObj T (es, ep, t)).data = .set es ep t := rfl
  have few : es.size < scanBound := by
    have z : es.size = l.length := S.ok.sz
    rw [z]
    exact hb
  unfold setAddHashed setAddHashedIn
  refine wpAny_holding (wpAny_bind (wpAny_setState_of ho dat S.ok.fit ?_))
  dsimp only
  rw [byScan_of rfl few S.ok.el, if_pos rfl]
  unfold setAddByScan
  refine wpAny_bind (wpAny_bind (wpAny_rule (wpAny_bind (wpAny_setScan_of (knd := strKind P w) (k := k) (is_str k u) ho dat S.ok.fit S.ok.el ?_))))
  cases z : List.findIdx? (fun e => (strKind P w).is k e.2) es.toList with
  | none =>
    obtain ⟨e, he, p⟩ := (S.ok.mem k).mp hk
    have no := List.findIdx?_eq_none_iff.mp z e he
    rw [p] at no
    cases no
  | some j => exact wpAny_pure (wpAny_pure q)
/-- s.add(k), new or old -/
theorem put_any {Q : Bool → Shared → Prop} (ho : s.heap.get? a = some (sObj T D)) (S : Has P w D l) (hb : l.length + 1 < scanBound)
    (q : ∀ (b : Bool) (D' : SD) (l' : List Str) (h' : Heap), (∀ c o, c ≠ a → s.heap.get? c = some o → h'.get? c = some o) → h'.get? a = some (sObj T D') → Has P w D' l' → (∀ x, x ∈ l' ↔ x ∈ l ∨ x = k) → l'.length ≤ l.length + 1 → Q b { s with heap := h', toks := s.toks + 1 }) :
    wpAny (model P w) A (setAdd a (.str k u)) Q E s := by
  unfold setAdd
  refine wpAny_holding (wpAny_bind ((strKind P w).pyHash (k := k) (is_str k u) ?_))
  by_cases c : k ∈ l
  · refine put_old (s := { s with toks := s.toks + 1 }) (l := l) ho S c (by omega) (q _ D l s.heap (fun _ _ _ z => z) ho S (fun x => ⟨.inl, fun z => z.elim id fun e => e ▸ c⟩) (Nat.le_succ _))
  · refine add_x (s := { s with toks := s.toks + 1 }) (l := l) ho S.ok c hb (q _ _ (k :: l) _ (fun b o n z => PySem.Heap.get?_update_of_ne _ n.symm z) (get_upd _ ho rfl) (S.add u c) (fun x => ?_) (Nat.le_refl _))
    rw [List.mem_cons]
    exact Or.comm
/-- the rest of a walk over texts goes into the set -/
theorem fill {R : Result → Shared → Prop} {I S : Addr} {fp wr : List Addr} {n : Nat} {Pv : Nat → Value → Prop} {St : Nat → Heap → Prop} {val : Nat → Str} (W : Walks P w A.in1 I fp wr n Pv St) (away : S ∉ fp) (is : ∀ i v, Pv i v → ∃ t, v = .str (val i) t) (few : n + 1 < scanBound)
    (done : ∀ (h' : Heap) (tk : Nat) (D' : SD) (l' : List Str), (∀ b o, b ≠ S → b ∉ wr → s.heap.get? b = some o → h'.get? b = some o) → h'.get? S = some (sObj T D') → Has P w D' l' → (∀ x, x ∈ l' ↔ ∃ j, j < n ∧ val j = x) → R (.ok (.ret .none)) { s with heap := h', toks := tk }) :
    ∀ (m i : Nat) (h : Heap) (tk : Nat) (D : SD) (l : List Str), n - i = m → i ≤ n → St i h → (∀ b o, b ≠ S → b ∉ wr → s.heap.get? b = some o → h.get? b = some o) → h.get? S = some (sObj T D) → Has P w D l → (∀ x, x ∈ l ↔ ∃ j, j < i ∧ val j = x) → l.length ≤ i →
      codeAny (model P w) A (.builtin "set.update.loop" ⟨[.ref S, .ref I], []⟩) R { s with heap := h, toks := tk } := by
  intro m
  have awr : S ∉ wr := fun z => away (W.sub _ z)
  induction m with
  | zero =>
    intro i h tk D l hm hi hst keep at_ H mem len
    have e : i = n := by omega
    subst e
    refine codeAny_builtin PyProof.Rows.F.entry_set_update_loop ?_
    rw [Around.under_plainId PyProof.Rows.F.plain_set_update_loop _]
    show wpAny _ A.in1 (pyNext (.ref I) >>= _) _ _ _
    refine wpAny_bind (W.done _ _ _ hst fun h2 tk2 k2 => wpAny_pure ?_)
    exact done h2 tk2 D l (fun b o n1 n2 z => k2 b o n2 (keep b o n1 n2 z)) (k2 _ _ awr at_) H mem
  | succ m ih =>
    intro i h tk D l hm hi hst keep at_ H mem len
    refine codeAny_builtin PyProof.Rows.F.entry_set_update_loop ?_
    rw [Around.under_plainId PyProof.Rows.F.plain_set_update_loop _]
    show wpAny _ A.in1 (pyNext (.ref I) >>= _) _ _ _
    refine wpAny_bind (W.item i _ _ _ (by omega) hst fun v h2 tk2 hv hst2 k2 => ?_)
    obtain ⟨t, rfl⟩ := is i v hv
    show wpAny _ A.in1 (holding [Value.str (val i) t] (setAdd S (.str (val i) t)) >>= _) _ _ _
    refine wpAny_bind (wpAny_holding (put_any (k := val i) (l := l) (D := D) (T := T) (k2 _ _ awr at_) H (by omega) fun b D' l' h3 k3 at3 H3 mem3 len3 => ?_))
    refine wpAny_pure ⟨plainId_quiet PyProof.Rows.F.plain_set_update_loop _, ih (i + 1) h3 _ D' l' (by omega) (by omega) (W.frame _ _ _ hst2 fun b hb o z => k3 b o (fun e => away (e ▸ hb)) z) (fun b o n1 n2 z => k3 b o n1 (k2 b o n2 (keep b o n1 n2 z))) at3 H3 (fun x => ?_) (by omega)⟩
    rw [mem3 x, mem x]
    constructor
    · rintro (⟨j, hj, e⟩ | e)
      · exact ⟨j, by omega, e⟩
      · exact ⟨i, by omega, e.symm⟩
    · rintro ⟨j, hj, e⟩
      by_cases c : j = i
      · subst c
        exact .inr e.symm
      · exact .inl ⟨j, by omega, e⟩
/-- set(x): x's own texts go into a fresh set -/
theorem fresh_set {src : Value} {mem : Str → Prop} {Q : Value → Shared → Prop}
    (run : ∀ (A' : Around) (E' : Value → Shared → Prop) (Q' : Unit → Shared → Prop), A'.handled = A.handled →
      (∀ (h' : Heap) (tk : Nat) (D : SD) (l : List Str), (∀ b o, s.heap.get? b = some o → h'.get? b = some o) → h'.get? s.heap.objs.size = some (sObj "set" D) → Has P w D l → (∀ x, x ∈ l ↔ mem x) → Q' () { s with heap := h', toks := tk }) →
      wpAny (model P w) A' (Builtin.Frozenset.updateFrom "set.__init__" s.heap.objs.size src) Q' E' { s with heap := s.heap.push (sObj "set" (#[], 0, .fresh 0 0 (!w.params.followText "set-order"))) })
    (q : ∀ (h' : Heap) (tk : Nat) (D : SD) (l : List Str), (∀ b o, s.heap.get? b = some o → h'.get? b = some o) → h'.get? s.heap.objs.size = some (sObj "set" D) → Has P w D l → (∀ x, x ∈ l ↔ mem x) → Q (.ref s.heap.objs.size) { s with heap := h', toks := tk }) :
    wpAny (model P w) A (call (.type "set") [src]) Q E s := by
  obtain ⟨c, tl, chain⟩ := PySem.F.called_set.mro
  have made := PySem.F.called_set.made
  have below := PySem.F.called_set.sub
  have plain1 := PySem.F.called_set.notType
  have plain2 := PySem.F.called_set.canCreate
  have ask := PySem.F.typeCall_set_1 src
  refine wpAny_call (codeAny_of_tree (show wpAny _ _ (callAny (.type "set") _) _ _ _ from wpAny_pure ⟨Code.quiet_builtin _ (by decide +kernel), codeAny_builtin F.entry_type_call ?_⟩))
  rw [Around.under_plain (weight_type_call_type "set" [src] []) rfl]
  repeat (any_goals (first | assumption | wp_step))
  have laid : (s.heap.push (sObj "set" (#[], 0, .fresh 0 0 (!w.params.followText "set-order")))).get? s.heap.objs.size = some (sObj "set" (#[], 0, .fresh 0 0 (!w.params.followText "set-order"))) := Heap.get?_push_size _ rfl
  have kind : Shared.TypeIs { s with heap := s.heap.push (sObj "set" (#[], 0, .fresh 0 0 (!w.params.followText "set-order"))) } (.ref s.heap.objs.size) "set" := ⟨_, laid, rfl⟩
  have look := PySem.F.called_set.init.lookup
  have tie := PySem.F.called_set.init.bind (.ref s.heap.objs.size)
  refine codeAny_mono (code_set_led1 src (E := E) (Q₁ := fun v s1 => v = .ref s.heap.objs.size ∧ s1 = { s with heap := s.heap.push (sObj "set" (#[], 0, .fresh 0 0 (!w.params.followText "set-order"))) }) ⟨rfl, rfl⟩) fun r s1 hr => ?_
  match r, hr with
  | .error _, hr => exact hr
  | .ok (.ret v), ⟨e1, e2⟩ =>
    subst e1 e2
    repeat (any_goals (first | assumption | wp_step))
    refine codeAny_mono (codeAny_call_builtin (R := wants (fun v s2 => v = .none ∧ ∃ h' tk D l, s2 = { s with heap := h', toks := tk } ∧ (∀ b o, s.heap.get? b = some o → h'.get? b = some o) ∧ h'.get? s.heap.objs.size = some (sObj "set" D) ∧ Has P w D l ∧ (∀ x, x ∈ l ↔ mem x)) E)
      PySem.F.called_set.init.plain PySem.F.entry_set_init (PySem.check_set_init_1 kind ?_)) fun r2 s2 hr2 => ?_
    · unfold Builtin.«set.__init__» noKeywords
      generalize hU : Builtin.Frozenset.updateFrom "set.__init__" = U
      wp_walk
      subst hU
      refine run _ _ _ (by simp) fun h' tk D l k1 k2 k3 k4 => ?_
      show wpAny _ _ _ _ _ _
      first
        | exact wpAny_pure ⟨rfl, h', tk, D, l, rfl, k1, k2, k3, k4⟩
        | exact wpAny_pure (wpAny_pure ⟨rfl, h', tk, D, l, rfl, k1, k2, k3, k4⟩)
        | (wp_walk
           exact ⟨rfl, h', tk, D, l, rfl, k1, k2, k3, k4⟩)
    · match r2, hr2 with
      | .error _, hr2 => exact hr2
      | .ok (.ret v), ⟨e1, h', tk, D, l, e2, k1, k2, k3, k4⟩ =>
        subst e1 e2
        repeat (any_goals (first | assumption | wp_step))
        exact q _ _ _ _ k1 k2 k3 k4
end
end L2.Cal
end

section
set_option maxRecDepth 100000
set_option maxHeartbeats 4000000
namespace L2.Cal
open PySem PySem.Spec PyProof.Rows PySem.Froz L2
section
variable {P : Program} {w : World} {A : Around} {E : Value → Shared → Prop} {s : Shared}
theorem are_length {vs : List Value} {ss : List Str} (h : StrsAre vs ss) : vs.length = ss.length := by
  induction h with
  | nil => rfl
  | cons _ _ _ ih => simp [ih]
theorem are_at {vs : List Value} {ss : List Str} (h : StrsAre vs ss) : ∀ (i : Nat) (v : Value), vs[i]? = some v → ∃ t, v = .str (ss.getD i ⟨#[]⟩) t := by
  induction h with
  | nil => intro i v z; simp at z
  | cons y t _ ih =>
    intro i v z
    cases i with
    | zero => exact ⟨t, (Option.some.inj z).symm⟩
    | succ i => exact ih i v z
/-- set(xs), xs a list of texts -/
theorem set_list {b : Addr} {items : Array Value} {ss : List Str} {Q : Value → Shared → Prop} (hh : A.handled = none) (at_ : s.heap.IsList b items) (are : StrsAre items.toList ss) (few : ss.length + 1 < scanBound)
    (q : ∀ (h' : Heap) (tk : Nat) (D : SD) (l : List Str), (∀ b o, s.heap.get? b = some o → h'.get? b = some o) → h'.get? s.heap.objs.size = some (sObj "set" D) → Has P w D l → (∀ x, x ∈ l ↔ x ∈ ss) → Q (.ref s.heap.objs.size) { s with heap := h', toks := tk }) :
    wpAny (model P w) A (call (.type "set") [.ref b]) Q E s := by
  refine fresh_set (mem := fun x => x ∈ ss) (fun A' E' Q' hA k => ?_) q
  have h2 : A'.handled = none := hA.trans hh
  obtain ⟨ol, hol, hcl, nl, hdl⟩ := at_
  have lt : b < s.heap.objs.size := Heap.lt_size hol
  obtain ⟨ocls, odict, odata, oslots⟩ := ol
  simp only at hcl hdl
  subst hcl; subst hdl
  have there : (s.heap.push (sObj "set" (#[], 0, .fresh 0 0 (!w.params.followText "set-order")))).get? b = some { cls := .type "list", dict := odict, data := .seq items nl, slots := oslots } := Heap.get?_push_of_some _ hol
  have no1 := PySem.F.sub_list_set
  have no2 := PySem.F.sub_list_frozenset
  have no3 : (Value.type "list" == Value.type "dict") = false := by decide
  have isl : (s.heap.push (sObj "set" (#[], 0, .fresh 0 0 (!w.params.followText "set-order")))).IsList b items := ⟨_, there, rfl, nl, rfl⟩
  unfold Builtin.Frozenset.updateFrom
  generalize hI : pyIter = it
  wp_walk
  subst hI
  refine wpAny_pyIter_list isl (wpAny_bind (wpAny_runValue ?_))
  have sz : (s.heap.push (sObj "set" (#[], 0, .fresh 0 0 (!w.params.followText "set-order")))).objs.size = s.heap.objs.size + 1 := Heap.size_push ..
  have off : b ≠ (s.heap.push (sObj "set" (#[], 0, .fresh 0 0 (!w.params.followText "set-order")))).objs.size := by rw [sz]; exact Nat.ne_of_lt (Nat.lt_succ_of_lt lt)
  have n : items.size = ss.length := by rw [← Array.length_toList]; exact are_length are
  refine fill (s := s) (T := "set") (val := fun i => ss.getD i ⟨#[]⟩) (Walks.list (by simp [h2]) _ b off items) (S := s.heap.objs.size) ?_ (fun i v hv => ?_) (by omega) (fun h' tk D l keep at1 H mem => wpAny_pure (k h' tk D l (fun c o z => keep c o (Nat.ne_of_lt (Heap.lt_size z)) (fun m => ?_) z) at1 H fun x => (mem x).trans ?_))
    (items.size - 0) 0 _ _ _ [] rfl (Nat.zero_le _) ⟨⟨_, Heap.get?_push_size _ rfl, rfl, rfl⟩, isl.push _⟩ (fun c o _ _ z => Heap.get?_push_of_some _ (Heap.get?_push_of_some _ z)) (Heap.get?_push_of_some _ (Heap.get?_push_size _ rfl)) (Has.none 0) (fun x => by simp) (Nat.zero_le _)
  · rw [sz]
    intro z
    rcases List.mem_cons.mp z with z | z
    · exact absurd z (Nat.ne_of_lt (Nat.lt_succ_self _))
    · exact absurd (List.mem_singleton.mp z) (Nat.ne_of_gt lt)
  · exact are_at are i v (by rw [Array.getElem?_toList]; exact hv)
  · rw [List.mem_singleton.mp m, sz] at z
    exact absurd (Heap.lt_size z) (Nat.not_lt.mpr (Nat.le_succ _))
  · rw [n]
    constructor
    · rintro ⟨j, hj, e⟩
      rw [List.getD_eq_getElem?_getD, List.getElem?_eq_getElem hj] at e
      exact e ▸ List.getElem_mem hj
    · intro hx
      obtain ⟨j, hj, e⟩ := List.getElem_of_mem hx
      exact ⟨j, hj, by rw [List.getD_eq_getElem?_getD, List.getElem?_eq_getElem hj]; exact e⟩
/-- set(x), x a text -/
theorem set_text {y : Str} {t : Tok} {Q : Value → Shared → Prop} (hh : A.handled = none) (few : y.cps.size + 1 < scanBound)
    (q : ∀ (h' : Heap) (tk : Nat) (D : SD) (l : List Str), (∀ b o, s.heap.get? b = some o → h'.get? b = some o) → h'.get? s.heap.objs.size = some (sObj "set" D) → Has P w D l → (∀ x, x ∈ l ↔ ∃ c ∈ y.cps.toList, x = ⟨#[c]⟩) → Q (.ref s.heap.objs.size) { s with heap := h', toks := tk }) :
    wpAny (model P w) A (call (.type "set") [.str y t]) Q E s := by
  refine fresh_set (mem := fun x => ∃ c ∈ y.cps.toList, x = ⟨#[c]⟩) (fun A' E' Q' hA k => ?_) q
  have h2 : A'.handled = none := hA.trans hh
  unfold Builtin.Frozenset.updateFrom
  refine wpAny_bind (L2.Fz.anySet ?_)
  rw [if_neg Bool.false_ne_true]
  refine wpAny_bind (wpAny_of_eq (typeIs_str s y t) ?_)
  rw [if_neg (by decide)]
  refine wpAny_bind (wpAny_pyIter_str fun o St hW hst => ?_)
  have sz : (s.heap.push (sObj "set" (#[], 0, .fresh 0 0 (!w.params.followText "set-order")))).objs.size = s.heap.objs.size + 1 := Heap.size_push ..
  refine wpAny_bind (wpAny_runValue ?_)
  refine fill (s := s) (T := "set") (val := fun i => ⟨#[y.cps.getD i 0]⟩) (hW _ (by simp [h2])) (S := s.heap.objs.size) ?_ (fun i v hv => ?_) few (fun h' tk D l keep at1 H mem => wpAny_pure (k h' tk D l (fun c o z => keep c o (Nat.ne_of_lt (Heap.lt_size z)) (fun m => ?_) z) at1 H fun x => (mem x).trans ?_))
    y.cps.size 0 _ _ _ [] rfl (Nat.zero_le _) hst (fun c o _ _ z => Heap.get?_push_of_some _ (Heap.get?_push_of_some _ z)) (Heap.get?_push_of_some _ (Heap.get?_push_size _ rfl)) (Has.none 0) (fun x => by simp) (Nat.zero_le _)
  · rw [sz]
    intro z
    exact absurd (List.mem_singleton.mp z) (Nat.ne_of_lt (Nat.lt_succ_self _))
  · obtain ⟨c, u, hc, rfl⟩ := hv
    refine ⟨u, ?_⟩
    rw [Array.getD_eq_getD_getElem?, hc] <;> rfl
  · rw [List.mem_singleton.mp m, sz] at z
    exact absurd (Heap.lt_size z) (Nat.not_lt.mpr (Nat.le_succ _))
  · constructor
    · rintro ⟨j, hj, e⟩
      rw [Array.getD_eq_getD_getElem?, Array.getElem?_eq_getElem hj] at e
      exact ⟨_, by rw [Array.mem_toList_iff]; exact Array.getElem_mem hj, e.symm⟩
    · rintro ⟨c, hc, rfl⟩
      obtain ⟨j, hj, e⟩ := List.getElem_of_mem hc
      rw [Array.length_toList] at hj
      refine ⟨j, hj, ?_⟩
      rw [Array.getD_eq_getD_getElem?, Array.getElem?_eq_getElem hj]
      rw [Array.getElem_toList] at e
      rw [← e] <;> rfl
end
end L2.Cal
end

section
set_option maxRecDepth 100000
set_option maxHeartbeats 4000000
namespace L2.Cal
open PySem PySem.Spec PyProof.Rows PySem.Froz L2
/-! ### texts in order -/
theorem same_of_both : ∀ a b : List Nat, ltCps a b = false → ltCps b a = false → a = b
  | [], [], _, _ => rfl
  | [], b :: t, h, _ => by simp [ltCps] at h
  | a :: r, [], _, h => by simp [ltCps] at h
  | a :: r, b :: t, h1, h2 => by
    simp only [ltCps, Bool.or_eq_false_iff, Bool.and_eq_false_imp, decide_eq_false_iff_not, beq_iff_eq] at h1 h2
    have e : a = b := by omega
    subst e
    rw [same_of_both r t (h1.2 rfl) (h2.2 rfl)]
def Below (a b : Str) : Prop := ltCps a.cps.toList b.cps.toList = true
theorem below_of {a b : Str} (h : ltCps b.cps.toList a.cps.toList = false) (n : a ≠ b) : Below a b := by
  cases e : ltCps a.cps.toList b.cps.toList with
  | true => exact e
  | false =>
    have z := same_of_both _ _ e h
    exact absurd (by cases a; cases b; exact congrArg Str.mk (Array.toList_inj.mp z)) n
/-- each text is below the next one -/
def Climbs : List Str → Prop
  | a :: b :: r => Below a b ∧ Climbs (b :: r)
  | _ => True
theorem climbs_rising : ∀ (r : List Str) (p : Str), risingS p r = true → (p :: r).Nodup → Climbs (p :: r)
  | [], _, _, _ => trivial
  | x :: r, p, h, n => by
    simp only [risingS, Bool.and_eq_true, Bool.not_eq_true'] at h
    have n2 := List.nodup_cons.mp n
    exact ⟨below_of h.1 fun e => n2.1 (e ▸ List.mem_cons_self ..), climbs_rising r x h.2 n2.2⟩
theorem climbs_sorted {ys : List Str} (h : sortedS ys = true) (n : ys.Nodup) : Climbs ys := by
  cases ys with
  | nil => trivial
  | cons x r => exact climbs_rising r x h n
theorem Climbs.at {ys : List Str} : ∀ (i : Nat) (a b : Str), Climbs ys → ys[i]? = some a → ys[i + 1]? = some b → Below a b := by
  induction ys with
  | nil => intro i a b _ h; simp at h
  | cons x r ih =>
    intro i a b c h1 h2
    cases r with
    | nil => simp at h2
    | cons y r =>
      cases i with
      | zero =>
        simp at h1 h2
        subst h1 h2
        exact c.1
      | succ i => exact ih i a b c.2 (by simpa using h1) (by simpa using h2)
/-! ### as many and all there -/
theorem perm_of_into {α : Type} : ∀ (l m : List α), l.Nodup → (∀ x, x ∈ l → x ∈ m) → m.length ≤ l.length → m.Perm l
  | [], m, _, _, h => by
    have : m = [] := List.length_eq_zero_iff.mp (Nat.le_zero.mp h)
    subst this
    exact .nil
  | a :: l, m, n, sub, h => by
    obtain ⟨m1, m2, rfl⟩ := List.append_of_mem (sub a (List.mem_cons_self ..))
    have n2 := List.nodup_cons.mp n
    refine List.perm_middle.trans (.cons a (perm_of_into l (m1 ++ m2) n2.2 (fun x hx => ?_) ?_))
    · have z := sub x (List.mem_cons_of_mem _ hx)
      have ne : x ≠ a := fun e => n2.1 (e ▸ hx)
      rcases List.mem_append.mp z with z | z
      · exact List.mem_append_left _ z
      · rcases List.mem_cons.mp z with z | z
        · exact absurd z ne
        · exact List.mem_append_right _ z
    · simp only [List.length_append, List.length_cons] at h ⊢
      omega
section
variable {P : Program} {w : World} {A : Around} {E : Value → Shared → Prop} {s : Shared}
def txtOf : Value → Str | .str k _ => k | _ => ⟨#[]⟩
theorem are_of : ∀ (l : List Value), (∀ v ∈ l, ∃ k u, v = Value.str k u) → StrsAre l (l.map txtOf)
  | [], _ => .nil
  | v :: l, h => by
    obtain ⟨k, u, rfl⟩ := h v (List.mem_cons_self ..)
    exact .cons k u (are_of l fun x hx => h x (List.mem_cons_of_mem _ hx))
theorem Has.vals {D : SD} {l : List Str} (H : Has P w D l) : (∀ v ∈ D.1.toList.map (·.2), ∃ k u, v = Value.str k u) ∧ ((D.1.toList.map (·.2)).map txtOf).Perm l := by
  have el : ∀ e ∈ D.1.toList, ∃ k u, e.2 = Value.str k u ∧ (strKind P w).is k e.2 = true := fun e he => by
    obtain ⟨⟨k, hk, _⟩, _⟩ := H.ok.el e he
    obtain ⟨u, hu⟩ := Value.isStrOf_shape (show Value.isStrOf k e.2 = true from hk)
    exact ⟨k, u, hu, hk⟩
  refine ⟨fun v hv => ?_, perm_of_into _ _ H.one (fun x hx => ?_) ?_⟩
  · obtain ⟨e, he, rfl⟩ := List.mem_map.mp hv
    obtain ⟨k, u, h1, _⟩ := el e he
    exact ⟨k, u, h1⟩
  · obtain ⟨e, he, h1⟩ := (H.ok.mem x).mp hx
    obtain ⟨u, hu⟩ := Value.isStrOf_shape (show Value.isStrOf x e.2 = true from h1)
    exact List.mem_map.mpr ⟨e.2, List.mem_map.mpr ⟨e, he, rfl⟩, by rw [hu] <;> rfl⟩
  · rw [List.length_map, List.length_map, Array.length_toList]
    exact Nat.le_of_eq H.ok.sz
/-- sorted(x) of what gives texts -/
theorem sort_texts {src : Value} {good : Shared → List Str → Prop} {Q : Value → Shared → Prop} (few : ∀ s1 ss, good s1 ss → ss.length < 64)
    (col : ∀ (E' : Value → Shared → Prop) (Q' : List Value → Shared → Prop), (∀ s1 vs ss, good s1 ss → StrsAre vs ss → Q' vs s1) → wpAny (model P w) A.in1 (collect src) Q' E' s)
    (q : ∀ s1 s' (out : Array Value) (c : Nat) (ys ss : List Str), good s1 ss → (∀ b o, s1.heap.get? b = some o → s'.heap.get? b = some o) → s'.gens = s1.gens → s'.os = s1.os → s'.heap.get? s1.heap.objs.size = some (seqObj "list" out c) → StrsAre out.toList ys → ys.Perm ss → sortedS ys = true → Q (.ref s1.heap.objs.size) s') :
    wpAny (model P w) A (call (.builtin "sorted") [src]) Q E s := by
  refine Calls.call_function_entry kind_sorted plain_sorted entry_sorted (args_sorted1 _) ?_
  unfold Builtin.«sorted»
  refine wpAny_bind (m := checkCount "sorted" 1 1 _) (wpAny_pure (wpAny_bind (col _ _ fun s1 vs ss ok are => ?_)))
  have n : vs.length = ss.length := are_length are
  have lt := few s1 ss ok
  refine wpAny_bind (wpAny_newList ?_ (by rw [n, sizeLine_eq]; omega))
  have at1 : (s1.heap.push (seqObj "list" vs.toArray 0)).get? s1.heap.objs.size = some (seqObj "list" vs.toArray 0) := Heap.get?_push_size _ rfl
  refine wpAny_bind (wpAny_holding (wpAny_call_entry slot_list_sort ⟨_, at1, rfl⟩ entry_list_sort
    (list_sort_treeK strKind_oneLt (s := { s1 with heap := s1.heap.push (seqObj "list" vs.toArray 0) }) at1 are.keysOf (fun v1 v2 rest e => keyKind_strs (by rw [← e]; exact are)) (by rw [n]; exact lt) fun st' hp hs => ⟨_, rfl, ?_⟩) (args_list_sort _)))
  obtain ⟨ys, h1, h2, h3⟩ := sorted_out_str are hp hs
  obtain ⟨c, hc⟩ := sortedHeap_at (vs := vs) (out := (arrOf st').map (·.2)) at1
  refine wpAny_pure ⟨_, rfl, q s1 _ _ c ys ss ok (fun b o z1 => ?_) rfl rfl hc h1 h2 h3⟩
  have lt1 := Heap.lt_size z1
  show (sortedHeap (s1.heap.push (seqObj "list" vs.toArray 0)) s1.heap.objs.size vs _).get? b = some o
  rw [sortedHeap_old (Nat.ne_of_lt lt1) (by rw [size_push']; exact Nat.lt_succ_of_lt lt1)]
  exact Heap.get?_push_of_some _ z1
/-- sorted(a set of texts) -/
theorem sort_set {a : Addr} {D : SD} {l : List Str} {Q : Value → Shared → Prop} (hh : A.handled = none) (ho : s.heap.get? a = some (sObj "set" D)) (H : Has P w D l) (few : l.length < 64)
    (q : ∀ s' p (out : Array Value) (c : Nat) (ys : List Str), (∀ b o, s.heap.get? b = some o → s'.heap.get? b = some o) → s'.gens = s.gens → s'.os = s.os → s.heap.objs.size ≤ p → s'.heap.get? p = some (seqObj "list" out c) → StrsAre out.toList ys → ys.Perm l → Climbs ys → Q (.ref p) s') :
    wpAny (model P w) A (call (.builtin "sorted") [.ref a]) Q E s := by
  obtain ⟨v1, v2⟩ := H.vals
  refine sort_texts (good := fun s1 ss => ss.Perm l ∧ (∀ b o, s.heap.get? b = some o → s1.heap.get? b = some o) ∧ s.heap.objs.size ≤ s1.heap.objs.size ∧ s1.gens = s.gens ∧ s1.os = s.os) (fun s1 ss h => by rw [h.1.length_eq]; exact few) (fun E' Q' k => ?_)
    fun s1 s' out c ys ss ⟨ok, k1, z, g1, o1⟩ k g o at1 are pm so => q s' _ out c ys (fun b o e => k b o (k1 b o e)) (g.trans g1) (o.trans o1) z at1 are (pm.trans ok) (climbs_sorted so ((pm.trans ok).nodup_iff.mpr H.one))
  obtain ⟨es, ep, t⟩ := D
  have sz : es.size = l.length := H.ok.sz
  refine collect_set (A := A.in1) (by simpa using hh) ⟨_, ho, rfl, rfl⟩ H.ok.fit (by show es.size < scanBound; unfold scanBound; omega) H.way.ris H.way.led fun s1 vs k1 z g1 o1 pm => ?_
  exact k s1 vs _ ⟨(pm.map txtOf).trans v2, k1, z, g1, o1⟩ (are_of vs fun v hv => v1 v (pm.mem_iff.mp hv))
/-- the signs of a text -/
theorem are_signs {y : Str} {acc : Array Value} (h : ItemsOf (SignAt y) acc y.cps.size) : StrsAre acc.toList (signs y) := by
  have z : acc.toList.map txtOf = signs y := by
    apply List.ext_getElem?
    intro i
    unfold signs
    rw [List.getElem?_map, List.getElem?_map, Array.getElem?_toList, Array.getElem?_toList]
    cases e : acc[i]? with
    | none =>
      have n : acc.size ≤ i := Array.getElem?_eq_none_iff.mp e
      rw [h.1] at n
      rw [Array.getElem?_eq_none_iff.mpr n] <;> rfl
    | some v =>
      obtain ⟨c, u, hc, rfl⟩ := h.2 i v e
      rw [hc] <;> rfl
  rw [← z]
  refine are_of _ fun v hv => ?_
  obtain ⟨i, hi, e⟩ := List.getElem_of_mem hv
  obtain ⟨c, u, _, z⟩ := h.2 i v (by rw [← Array.getElem?_toList, List.getElem?_eq_getElem hi, e])
  exact ⟨_, u, z⟩
end
section
variable {X : Cx}
theorem inv_list {pins : List (Addr × Obj)} {σ : St} {H : Hp} {s s' : Shared} {p : Addr} {out : Array Value} {c : Nat} {ys : List Str} (I : Inv X pins σ H s) (k : ∀ b o, s.heap.get? b = some o → s'.heap.get? b = some o) (g : s'.gens = s.gens) (o : s'.os = s.os) (z : s.heap.objs.size ≤ p)
    (at1 : s'.heap.get? p = some (seqObj "list" out c)) (are : StrsAre out.toList ys) (few : ys.length < 64) : Inv X pins σ (upd H p (.lst (ys.map V.str))) s' ∧ H p = none := by
  have n : H p = none := I.hok.fresh z
  have len : (ys.map V.str).length ≤ sizeLine := by rw [List.length_map, sizeLine_eq]; omega
  have J : Inv X pins σ (upd H p (.lst (ys.map V.str))) { s with heap := s'.heap, gens := s'.gens, drawn := s'.drawn, toks := s'.toks } :=
    I.call (ch := []) (Un.laid k z n) (I.hok.laid k z ⟨len, out.toList, c, vals_of_strs are, at1⟩) (by rw [g]; exact I.bare) (fun _ z => nomatch z)
  have e : s' = { s with heap := s'.heap, gens := s'.gens, drawn := s'.drawn, toks := s'.toks } := by
    cases s'
    cases s
    cases o
    rfl
  rw [e]
  exact ⟨J, n⟩
/-- a list or a tuple of texts: sorted(set(xs)) -/
def tSortedSet (K : PySem.W.Frag) (ta : TE) : TE := fun σ H Q => ta σ H fun x H1 => ∃ (l : Addr) (xs : List Str), x = V.ref l ∧ SqL K H1 l (xs.map V.str) ∧ xs.length < 64 ∧
  ∀ (ys : List Str) (p : Addr), Climbs ys → ys.Nodup → (∀ x, x ∈ ys ↔ x ∈ xs) → H1 p = none → Q (.ref p) (upd H1 p (.lst (ys.map V.str)))
theorem pe_sortedSet {a : Expr} {ta : TE} {p p2 q pos : Pos} (hc : X.calm = true) (hg : Gl X "sorted") (hm : X.mg "sorted" = none) (hg2 : Gl X "set") (hm2 : X.mg "set" = none) (ha : PE X a ta)
    (na : starEach [a] X.env = (false, eval a X.env) :: starEach [] X.env := by rfl) : PE X (.Call (.Name "sorted" p) [.Call (.Name "set" p2) [a] [] q] [] pos) (tSortedSet X.K ta) := by
  refine ⟨fun pins s σ H Q I h => Call_ (ld_blt I hg hm PyProof.Rows.boot_sorted (PyProof.Rows.callWith_builtin1 (PyProof.Rows.args_cons ?_ rfl) rfl rfl))⟩
  refine Call_ (ld_blt I hg2 hm2 PyProof.Rows.boot_set (PyProof.Rows.callWith_type1 (PyProof.Rows.args_cons (thn (ha.run pins s σ H _ I h) fun v s1 ⟨x, H1, I1, r1, q1⟩ => PyProof.Rows.args_nil ?_) na) na rfl))
  obtain ⟨l, xs, rfl, hq, few, fin⟩ := q1
  cases r1
  obtain ⟨its, r, pl, _⟩ := I1.list hq
  refine set_list (I1.ok.hd hc) pl.isList (by simpa using r.strs) (by unfold scanBound; omega) fun h' tk D L k1 at1 S mem => PyProof.Rows.args_nil ?_
  have I2 : Inv X pins σ H1 { s1 with heap := h', toks := tk } := I1.kept k1
  have short : L.length < 64 := by
    refine Nat.lt_of_le_of_lt ?_ few
    exact (List.Nodup.length_le_of_subset S.one fun x hx => (mem x).mp hx)
  refine sort_set (I2.ok.hd hc) at1 S short fun s' b out c ys k g o z at2 are pm cl => ?_
  obtain ⟨J, n⟩ := inv_list I2 k g o z at2 are (by rw [pm.length_eq]; exact short)
  exact ⟨.ref b, _, J, rfl, fin ys b cl (pm.nodup_iff.mpr S.one) (fun x => pm.mem_iff.trans (mem x)) n⟩
/-- len(set(y)), y a text -/
def tLenSetS (ta : TE) : TE := fun σ H Q => ta σ H fun x H1 => ∃ y : Str, x = .str y ∧ y.cps.size ≤ 1000 ∧ ∀ l : List Str, l.Nodup → (∀ x, x ∈ l ↔ ∃ c ∈ y.cps.toList, x = ⟨#[c]⟩) → Q (.int l.length) H1
theorem pe_lenSetS {a : Expr} {ta : TE} {p p2 q pos : Pos} (hc : X.calm = true) (hg : Gl X "len") (hm : X.mg "len" = none) (hg2 : Gl X "set") (hm2 : X.mg "set" = none) (ha : PE X a ta)
    (na : starEach [a] X.env = (false, eval a X.env) :: starEach [] X.env := by rfl) : PE X (.Call (.Name "len" p) [.Call (.Name "set" p2) [a] [] q] [] pos) (tLenSetS ta) := by
  refine ⟨fun pins s σ H Q I h => Call_ (ld_blt I hg hm PySem.boot_len (PyProof.Rows.callWith_builtin1 (PyProof.Rows.args_cons ?_ rfl) rfl rfl))⟩
  refine Call_ (ld_blt I hg2 hm2 PyProof.Rows.boot_set (PyProof.Rows.callWith_type1 (PyProof.Rows.args_cons (thn (ha.run pins s σ H _ I h) fun v s1 ⟨x, H1, I1, r1, q1⟩ => PyProof.Rows.args_nil ?_) na) na rfl))
  obtain ⟨y, rfl, few, fin⟩ := q1
  obtain ⟨t, rfl⟩ := r1
  refine set_text (I1.ok.hd hc) (by unfold scanBound; omega) fun h' tk D L k1 at1 S mem => PyProof.Rows.args_nil ?_
  have I2 : Inv X pins σ H1 { s1 with heap := h', toks := tk } := I1.kept k1
  have short : D.1.size = L.length := S.ok.sz
  have le : L.length ≤ y.cps.size := by
    have z := List.Nodup.length_le_of_subset S.one (l₂ := y.cps.toList.map fun c => (⟨#[c]⟩ : Str)) fun x hx => by
      obtain ⟨c, hc, rfl⟩ := (mem x).mp hx
      exact List.mem_map.mpr ⟨c, hc, rfl⟩
    simpa using z
  refine call_len_set at1 ⟨rfl, rfl, rfl⟩ rfl S.ok.fit (by rw [short] <;> omega) ⟨.int L.length, H1, I2.tok _, ⟨_, by rw [short]⟩, fin L S.one mem⟩
/-- sorted(y), y a text -/
def rSortText : List V → Hp → VK → Prop := fun vs H Q => ∃ y : Str, vs = [.str y] ∧ y.cps.size < 64 ∧ ∀ (ys : List Str) (p : Addr), ys.Perm (signs y) → sortedS ys = true → H p = none → Q (.ref p) (upd H p (.lst (ys.map V.str)))
theorem cr_sortText (hc : X.calm = true) : CallR X (.builtin "sorted") rSortText := by
  intro pins s σ H vs us Q I r h
  obtain ⟨y, rfl, few, q⟩ := h
  cases r with
  | cons r rr =>
    cases rr
    obtain ⟨t, rfl⟩ := r
    refine sort_texts (good := fun s1 ss => ss = signs y ∧ (∀ b o, s.heap.get? b = some o → s1.heap.get? b = some o) ∧ s1.gens = s.gens ∧ s1.drawn = s.drawn ∧ s1.os = s.os) (fun s1 ss h => by rw [h.1, signs_length]; exact few) (fun E' Q' k => ?_)
      fun s1 s' out c ys ss ⟨e, k1, g1, d1, o1⟩ k g o at1 are pm so => ?_
    · exact wpAny_collect_str (by simpa using I.ok.hd hc) y t (fun s1 acc k1 g d o it => k s1 acc.toList _ ⟨rfl, k1, g, d, o⟩ (are_signs it)) (by rw [sizeLine_eq]; omega)
    · subst e
      have I1 : Inv X pins σ H s1 := by
        have z : s1 = { s with heap := s1.heap, toks := s1.toks } := by
          cases s1
          cases s
          cases g1
          cases d1
          cases o1
          rfl
        rw [z]
        exact I.kept k1
      obtain ⟨J, n⟩ := inv_list I1 k g o (Nat.le_refl _) at1 are (by rw [pm.length_eq, signs_length]; exact few)
      exact ⟨.ref _, _, J, rfl, q ys _ pm so n⟩
/-- list(y), y a text -/
def rListText : List V → Hp → VK → Prop := fun vs H Q => ∃ y : Str, vs = [.str y] ∧ y.cps.size ≤ 1000 ∧ ∀ p : Addr, H p = none → Q (.ref p) (upd H p (.lst ((signs y).map V.str)))
theorem cr_listText (hc : X.calm = true) : CallR X (.type "list") rListText := by
  intro pins s σ H vs us Q I r h
  obtain ⟨y, rfl, few, q⟩ := h
  cases r with
  | cons r rr =>
    cases rr
    obtain ⟨t, rfl⟩ := r
    refine call_list_str (I.ok.hd hc) y t (fun h' tk acc c k at1 it => ?_) (by rw [sizeLine_eq]; omega)
    have are := are_signs it
    have len : ((signs y).map V.str).length ≤ sizeLine := by
      rw [List.length_map, signs_length, sizeLine_eq]
      show y.cps.size ≤ _
      omega
    exact ⟨.ref s.heap.objs.size, _, I.laid (t' := tk) k (Nat.le_refl _) (show ObjOk X.prog X.w _ h' _ (.lst ((signs y).map V.str)) from ⟨len, acc.toList, c, vals_of_strs are, at1⟩), rfl, q _ (I.hok.fresh (Nat.le_refl _))⟩
end
end L2.Cal
end

section
set_option maxRecDepth 100000
set_option maxHeartbeats 4000000
namespace L2.Cal
open PySem PySem.Spec PyProof.Rows L2
abbrev sShuf : Stmt := topS 26
theorem scShuf : FnScope ["_law_jar_here", "_law_things_here", "_law_rest", "_law_found", "_law_turn"] ["_law_jar_here", "_law_things_here"] (defScope sShuf) := ⟨rfl, rfl, rfl, by decide +kernel, rfl, by decide +kernel, by decide +kernel⟩

theorem app_cps (a b : Str) : (a ++ b).cps.toList = a.cps.toList ++ b.cps.toList := by
  show (Array.append _ _).toList = _
  simp
theorem sign_cps (a : Str) (c : Nat) : (a ++ (⟨#[c]⟩ : Str)).cps.toList = a.cps.toList ++ [c] := app_cps _ _
theorem Jar.keep {H H' : Hp} {j p : Addr} (J : Jar H j) (n : H p = none) (k : ∀ b o, b ≠ p → H b = some o → H' b = some o) : Jar H' j := by
  obtain ⟨d, s, c, e, r⟩ := J
  exact ⟨d, s, c, k _ _ (fun z => by rw [z, n] at e; cases e) e, r⟩
theorem seq_in {r : Int} {n : Nat} (h0 : 0 ≤ r) (h1 : r < n) : seqIndex? r n = some r.toNat := by
  unfold seqIndex?
  dsimp only
  rw [if_neg (by omega : ¬ r < 0), if_pos (by rw [Bool.and_eq_true]; exact ⟨decide_eq_true h0, decide_eq_true h1⟩)]
theorem erase_map {α β : Type} (f : α → β) : ∀ (l : List α) (k : Nat), (l.map f).eraseIdx k = (l.eraseIdx k).map f
  | [], _ => rfl
  | _ :: _, 0 => rfl
  | a :: l, k + 1 => congrArg (f a :: ·) (erase_map f l k)
theorem erase_perm {α : Type} : ∀ {l : List α} {k : Nat} (h : k < l.length), ([l[k]] ++ l.eraseIdx k).Perm l
  | a :: l, 0, _ => .refl _
  | a :: l, k + 1, h => (List.Perm.swap a _ _).trans (.cons a (erase_perm (l := l) (Nat.lt_of_succ_lt_succ h)))
def spShuf : Sp := fun vs H Q _ => ∃ (j : Addr) (y : Str), vs = [.ref j, .str y] ∧ Jar H j ∧ y.cps.size ≤ 100 ∧ ∀ (z : Str) (H' : Hp), Kp j H H' → Jar H' j → z.cps.toList.Perm y.cps.toList → Q (.str z) H'
section
variable {P : Program} {w : World} {K : PySem.W.Frag} {mg : Str → Option Value} {base : Heap}
theorem ok_shuf {f fD : Addr} {fd fdD : FuncData} (D : DefAt K mg "_law_shuffled" sShuf ["_law_jar_here", "_law_things_here"] f fd) (DD : DefAt K mg "_law_dip" sDip ["_law_jar_here", "_law_wide"] fD fdD) (T : Txt mg) : FnOk P w K mg base CX0 2 f fd ["_law_jar_here", "_law_things_here"] spShuf := by
  have GD : FnOk P w K mg base CX0 1 fD fdD ["_law_jar_here", "_law_wide"] spDip := ok_dip DD T
  refine D.F.ok scShuf (fun vs H Q E h => ?_) (fun cdv A outer sh H vs Q E hr h => ?_)
  · obtain ⟨j, y, rfl, _⟩ := h
    rfl
  · obtain ⟨j, y, rfl, hj, hy, q⟩ := h
    refine ⟨_, (pss_cons (ps_par (i := 2) (j := 3) (by rfl) scShuf.nd rfl rfl (by decide) rfl rfl (pa_cons (pe_callTy (cr_listText rfl) (by rfl) T.b_list (by decide +kernel) (pa_cons (pv 1) pa_nil)) (pa_cons pe_str pa_nil)) (by rfl))
  (pss_cons (ps_for PassesOwn.never rfl (pi_range1 (by rfl) T.b_range (pa_cons (pe_callB call_len_seq (by rfl) T.b_len (by decide +kernel) (pa_cons (pv 2) pa_nil)) pa_nil)) (pg_name (i := 4) scShuf.nd rfl (.inl rfl))
   (pss_one (ps_set (i := 3) scShuf.nd rfl (.inl rfl) (pe_op op_add_str (pv 3) (pe_bm PySem.F.plainAttrs_list PySem.F.slot_list_pop PySem.F.type_list_pop mt_popAt (pv 2) (pa_cons (pe_call GD (hr.mono (by decide)) (by rfl) DD.g DD.F.kp DD.b .nil pass0 (pa_cons (pv 0) (pa_cons (pe_callB call_len_seq (by rfl) T.b_len (by decide +kernel) (pa_cons (pv 2) pa_nil)) pa_nil))) pa_nil))))))
  (pss_one (ps_ret (pv 3))))), ?_⟩
    refine ⟨_, rfl, y, rfl, by omega, fun p np => ⟨_, _, rfl, _, rfl, p, _, rfl, .inl (SqL.of upd_same), ?_⟩⟩
    rw [List.length_map, signs_length]
    have hp : j ≠ p := by
      obtain ⟨d, s, c, e, _⟩ := hj
      exact fun z => by rw [z, np] at e; cases e
    have hly : y.length = y.cps.size := rfl
    refine ⟨(y.length : Int), rfl, by omega, by omega, for_range (n := y.cps.size) (fun i σ H' => ∃ (z : Str) (cs : List Nat) (v : Option V), σ = [some (.ref j), some (.str y), some (.ref p), some (.str z), v] ∧
      H' p = some (.lst (cs.map fun c => V.str ⟨#[c]⟩)) ∧ Jar H' j ∧ (∀ b o, b ≠ j → b ≠ p → H b = some o → H' b = some o) ∧ (z.cps.toList ++ cs).Perm y.cps.toList ∧ z.cps.toList.length = i)
      ⟨⟨#[]⟩, y.cps.toList, none, rfl, ?_, hj.new np, fun b o _ n e => by rw [upd_ne n]; exact e, .refl _, rfl⟩ (fun i σ H' hi hP => ?_) (fun σ H' hP => ?_)⟩
    · rw [upd_same]
      unfold signs
      rw [List.map_map] <;> rfl
    · obtain ⟨z, cs, v, rfl, hl, hJ, hk, hpm, hz⟩ := hP
      obtain ⟨d, s, c, ej, h0, h1, h2, h3⟩ := hJ
      have hlen := hpm.length_eq
      simp only [List.length_append, Array.length_toList] at hlen hz
      have hcs : 0 < cs.length := by omega
      refine ⟨_, rfl, _, rfl, .inl ⟨rfl, _, SqL.of hl⟩, _, rfl, _, rfl, p, _, rfl, .inl (SqL.of hl), j, _, d, s, c, rfl, ej, h0, h1, h2, h3, by rw [List.length_map]; omega, by rw [List.length_map]; omega, fun r d' s' c' r0 r1 a0 a1 a2 a3 => ?_⟩
      rw [List.length_map] at r1
      have hk1 : r.toNat < cs.length := by omega
      have up : (upd H' j (.lst [.int d', .int s', .int c'])) p = some (.lst (cs.map fun c => V.str ⟨#[c]⟩)) := by rw [upd_ne hp.symm]; exact hl
      have hsi : seqIndex? r (cs.map fun c => V.str ⟨#[c]⟩).length = some r.toNat := by
        rw [List.length_map]
        exact seq_in r0 r1
      refine ⟨p, _, r, r.toNat, _, rfl, rfl, up, by omega, by omega, hsi, (by rw [List.getElem?_map, List.getElem?_eq_getElem hk1] <;> rfl), _, _, rfl, rfl, ?_, ?_⟩
      · rw [sizeLine_eq]
        show z.cps.size + 1 ≤ _
        have : z.cps.size = i := by rw [← Array.length_toList]; exact hz
        omega
      · refine ⟨_, cs.eraseIdx r.toNat, _, rfl, ?_, ?_, fun b o n1 n2 e => ?_, ?_, ?_⟩
        · rw [upd_same, erase_map]
        · exact ⟨d', s', c', by rw [upd_ne hp, upd_same], a0, a1, a2, a3⟩
        · rw [upd_ne n2, upd_ne n1]
          exact hk b o n1 n2 e
        · rw [sign_cps, List.append_assoc]
          exact (List.Perm.append_left _ (erase_perm hk1)).trans hpm
        · rw [sign_cps]
          simp only [List.length_append, List.length_cons, List.length_nil, Array.length_toList] at hz ⊢
          omega
    · obtain ⟨z, cs, v, rfl, hl, hJ, hk, hpm, hz⟩ := hP
      have hlen := hpm.length_eq
      simp only [List.length_append, Array.length_toList] at hlen hz
      have hcs : cs = [] := List.length_eq_zero_iff.mp (by omega)
      subst hcs
      rw [List.append_nil] at hpm
      exact ⟨_, rfl, q z _ (fun b o n e => hk b o n (fun z => by rw [z, np] at e; cases e) e) hJ hpm⟩
end
end L2.Cal
end

section
set_option maxRecDepth 100000
set_option maxHeartbeats 4000000
namespace L2.Cal
open PySem PySem.Spec PyProof.Rows L2
abbrev sLett : Stmt := topS 27
theorem scLett : FnScope ["_law_jar_here", "_law_many", "_law_rest", "_law_found", "_law_turn"] ["_law_jar_here", "_law_many"] (defScope sLett) := ⟨rfl, rfl, rfl, by decide +kernel, rfl, by decide +kernel, by decide +kernel⟩

def one (c : Nat) : Str := ⟨#[c]⟩
theorem join_signs (z : Str) : Txt.join (PySem.Str.ofString "") (signs z) = z := by
  have e : Txt.join (PySem.Str.ofString "") (signs z) = PySem.Str.join (PySem.Str.ofString "") (signs z) := eq_of_beq (join_plain_closes _ _)
  rw [e, show PySem.Str.ofString "" = (⟨#[]⟩ : Str) by decide +kernel]
  exact join_nil_signs z
theorem ones_back {ys : List Str} {cs : List Nat} (h : ys.Perm (cs.map one)) : ∃ z : Str, ys = signs z ∧ z.cps.toList.Perm cs := by
  have g : (cs.map one).map (fun s => s.cps.getD 0 0) = cs := by
    rw [List.map_map]
    exact (List.map_congr_left fun c _ => rfl).trans (List.map_id _)
  refine ⟨⟨(ys.map fun s => s.cps.getD 0 0).toArray⟩, ?_, ?_⟩
  · unfold signs
    dsimp only
    rw [List.map_map]
    refine (List.map_id' ys).symm.trans (List.map_congr_left fun s hs => ?_)
    obtain ⟨c, _, rfl⟩ := List.mem_map.mp (h.mem_iff.mp hs)
    rfl
  · dsimp only
    have := h.map (fun s => s.cps.getD 0 0)
    rw [g] at this
    exact this
/-- letters, each once -/
def Lett (z : Str) : Prop := z.cps.toList.Nodup ∧ ∀ c ∈ z.cps.toList, 97 ≤ c ∧ c ≤ 122
theorem Lett.perm {y z : Str} (h : Lett y) (p : z.cps.toList.Perm y.cps.toList) : Lett z := ⟨p.nodup_iff.mpr h.1, fun c hc => h.2 c (p.mem_iff.mp hc)⟩
theorem sum_ones : ∀ l : List Nat, (l.map fun _ => 1).sum = l.length
  | [] => rfl
  | a :: l => by rw [List.map_cons, List.sum_cons, sum_ones l, List.length_cons, Nat.add_comm]
def spLett : Sp := fun vs H Q _ => ∃ (j : Addr) (m : Nat), vs = [.ref j, .int m] ∧ Jar H j ∧ m ≤ 11 ∧ ∀ (z : Str) (H' : Hp), Kp j H H' → Jar H' j → Lett z → z.cps.size = m → sortedS (signs z) = true → Q (.str z) H'
section
variable {P : Program} {w : World} {K : PySem.W.Frag} {mg : Str → Option Value} {base : Heap}
theorem ok_lett {f fD : Addr} {fd fdD : FuncData} (D : DefAt K mg "_law_letters" sLett ["_law_jar_here", "_law_many"] f fd) (DD : DefAt K mg "_law_dip" sDip ["_law_jar_here", "_law_wide"] fD fdD) (T : Txt mg) : FnOk P w K mg base CX0 2 f fd ["_law_jar_here", "_law_many"] spLett := by
  have GD : FnOk P w K mg base CX0 1 fD fdD ["_law_jar_here", "_law_wide"] spDip := ok_dip DD T
  refine D.F.ok scLett (fun vs H Q E h => ?_) (fun cdv A outer sh H vs Q E hr h => ?_)
  · obtain ⟨j, m, rfl, _⟩ := h
    rfl
  · obtain ⟨j, m, rfl, hj, hm, q⟩ := h
    refine ⟨_, (pss_cons (ps_par (i := 2) (j := 3) (by rfl) scLett.nd rfl rfl (by decide) rfl rfl (pa_cons (pe_callTy (cr_listText rfl) (by rfl) T.b_list (by decide +kernel) (pa_cons pe_str pa_nil)) (pa_cons (pe_lstS pa_nil) pa_nil)) (by rfl))
  (pss_cons (ps_for PassesOwn.never rfl (pi_range1 (by rfl) T.b_range (pa_cons (pv 1) pa_nil)) (pg_name (i := 4) scLett.nd rfl (.inl rfl))
   (pss_one (ps_expr (pe_bm PySem.F.plainAttrs_list PySem.F.slot_list_append PySem.F.type_list_append mt_append (pv 3) (pa_cons (pe_bm PySem.F.plainAttrs_list PySem.F.slot_list_pop PySem.F.type_list_pop mt_popAt (pv 2) (pa_cons (pe_call GD (hr.mono (by decide)) (by rfl) DD.g DD.F.kp DD.b .nil pass0 (pa_cons (pv 0) (pa_cons (pe_callB call_len_seq (by rfl) T.b_len (by decide +kernel) (pa_cons (pv 2) pa_nil)) pa_nil))) pa_nil)) pa_nil)))))
  (pss_one (ps_ret (pe_join pe_str (pe_callB cr_sortedS (by rfl) T.b_sorted (by decide +kernel) (pa_cons (pv 3) pa_nil))))))), ?_⟩
    refine ⟨_, rfl, by decide +kernel, fun p np => ⟨(by show 0 ≤ sizeLine; decide), fun l H1 s1 nl el => ?_⟩⟩
    have hp : j ≠ p := by
      obtain ⟨d, s, c, e, _⟩ := hj
      exact fun z => by rw [z, np] at e; cases e
    have abc : (Str.ofString "abcdefkmxyz").cps.toList = [97, 98, 99, 100, 101, 102, 107, 109, 120, 121, 122] := by decide +kernel
    have ep : H1 p = some (.lst ([97, 98, 99, 100, 101, 102, 107, 109, 120, 121, 122].map fun c => V.str (one c))) := by
      refine s1 _ _ ?_
      rw [upd_same]
      unfold signs
      rw [abc, List.map_map] <;> rfl
    have hjl : j ≠ l := by
      obtain ⟨d, s, c, e, _⟩ := (hj.new np).same s1
      exact fun z => by
        obtain ⟨d2, s2, c2, e2, _⟩ := hj.new (o := .lst ((signs (Str.ofString "abcdefkmxyz")).map V.str)) np
        rw [z, nl] at e2
        cases e2
    have hpl : p ≠ l := fun z => by rw [← z, upd_same] at nl; cases nl
    have nl0 : H l = none := by
      cases e : H l with
      | none => rfl
      | some o => rw [upd_ne hpl.symm, e] at nl; cases nl
    refine ⟨_, _, rfl, _, rfl, (m : Int), rfl, by omega, by omega, for_range (n := m) (fun i σ H' => ∃ (cs fs : List Nat) (v : Option V), σ = [some (.ref j), some (.int m), some (.ref p), some (.ref l), v] ∧
      H' p = some (.lst (cs.map fun c => V.str (one c))) ∧ H' l = some (.lst (fs.map fun c => V.str (one c))) ∧ Jar H' j ∧ (∀ b o, b ≠ j → b ≠ p → b ≠ l → H b = some o → H' b = some o) ∧ (fs ++ cs).Perm [97, 98, 99, 100, 101, 102, 107, 109, 120, 121, 122] ∧ fs.length = i)
      ⟨_, [], none, rfl, ep, el, (hj.new np).same s1, fun b o _ n _ e => s1 _ _ (by rw [upd_ne n]; exact e), .refl _, rfl⟩ (fun i σ H' hi hP => ?_) (fun σ H' hP => ?_)⟩
    · obtain ⟨cs, fs, v, rfl, hc, hf, hJ, hk, hpm, hz⟩ := hP
      obtain ⟨d, s, c, ej, h0, h1, h2, h3⟩ := hJ
      have hlen := hpm.length_eq
      rw [List.length_append, hz] at hlen
      simp only [List.length_cons, List.length_nil] at hlen
      have hcs : 0 < cs.length := by omega
      refine ⟨_, rfl, .inl ⟨rfl, _, SqL.of hf⟩, _, rfl, .inl ⟨rfl, _, SqL.of hc⟩, _, rfl, _, rfl, p, _, rfl, .inl (SqL.of hc), j, _, d, s, c, rfl, ej, h0, h1, h2, h3, by rw [List.length_map]; omega, by rw [List.length_map]; omega, fun r d' s' c' r0 r1 a0 a1 a2 a3 => ?_⟩
      rw [List.length_map] at r1
      have hk1 : r.toNat < cs.length := by omega
      have up : (upd H' j (.lst [.int d', .int s', .int c'])) p = some (.lst (cs.map fun c => V.str (one c))) := by rw [upd_ne hp.symm]; exact hc
      have ul : (upd (upd H' j (.lst [.int d', .int s', .int c'])) p (.lst ((cs.map fun c => V.str (one c)).eraseIdx r.toNat))) l = some (.lst (fs.map fun c => V.str (one c))) := by rw [upd_ne hpl.symm, upd_ne hjl.symm]; exact hf
      have hsi : seqIndex? r (cs.map fun c => V.str (one c)).length = some r.toNat := by
        rw [List.length_map]
        exact seq_in r0 r1
      refine ⟨p, _, r, r.toNat, _, rfl, rfl, up, by omega, by omega, hsi, (by rw [List.getElem?_map, List.getElem?_eq_getElem hk1] <;> rfl), l, _, _, rfl, rfl, ul, ?_, ?_⟩
      · rw [List.length_map, hz, sizeLine_eq]
        omega
      · refine ⟨cs.eraseIdx r.toNat, fs ++ [cs[r.toNat]], _, rfl, ?_, ?_, ?_, fun b o n1 n2 n3 e => ?_, ?_, ?_⟩
        · rw [upd_ne hpl, upd_same, erase_map]
        · rw [upd_same, List.map_append]
          rfl
        · exact ⟨d', s', c', by rw [upd_ne hjl, upd_ne hp, upd_same], a0, a1, a2, a3⟩
        · rw [upd_ne n3, upd_ne n2, upd_ne n1]
          exact hk b o n1 n2 n3 e
        · rw [List.append_assoc]
          exact (List.Perm.append_left _ (erase_perm hk1)).trans hpm
        · simp [hz]
    · obtain ⟨cs, fs, v, rfl, hc, hf, hJ, hk, hpm, hz⟩ := hP
      refine ⟨⟨_, rfl⟩, _, rfl, l, fs.map one, rfl, SqL.of (by rw [hf, List.map_map] <;> rfl), by rw [List.length_map]; omega, fun ys p2 pm so n2 => ?_⟩
      obtain ⟨z, rfl, hzp⟩ := ones_back pm
      have sub := List.Nodup.sublist (List.sublist_append_left fs cs) (hpm.nodup_iff.mpr (by decide))
      have zl : z.cps.size = m := by
        rw [← Array.length_toList, hzp.length_eq, hz]
      refine ⟨_, p2, _, rfl, rfl, .inl (SqL.of upd_same), ?_, ?_⟩
      · have e1 : ((signs z).map (·.length)).sum = m := by
          unfold signs
          rw [List.map_map, show ((fun x : Str => x.length) ∘ fun n => (⟨#[n]⟩ : Str)) = fun _ => 1 from rfl, sum_ones, Array.length_toList]
          exact zl
        rw [e1, signs_length, show (PySem.Str.ofString "").length = 0 by decide +kernel]
        omega
      · rw [join_signs]
        refine q z _ (fun b o n e => ?_) ?_ ⟨hzp.nodup_iff.mpr sub, fun c hc => ?_⟩ zl so
        · have nb : b ≠ p := fun z => by rw [z, np] at e; cases e
          have nb2 : b ≠ l := fun z => by rw [z, nl0] at e; cases e
          rw [upd_ne (ne_of_none (hk b o n nb nb2 e) n2)]
          exact hk b o n nb nb2 e
        · exact hJ.new n2
        · have := hpm.mem_iff.mp (List.mem_append_left cs (hzp.mem_iff.mp hc))
          simp only [List.mem_cons, List.not_mem_nil, or_false] at this
          omega
end
end L2.Cal
end

section
set_option maxRecDepth 100000
set_option maxHeartbeats 4000000
namespace L2.Cal
open PySem PySem.Spec PyProof.Rows L2
theorem len_app (a b : Str) : (a ++ b).length = a.length + b.length := by
  show (a ++ b).cps.size = a.cps.size + b.cps.size
  rw [← Array.length_toList, app_cps, List.length_append, Array.length_toList, Array.length_toList]
theorem swap_perm (x : Str) (a : Nat) (h : a + 1 < x.cps.size) :
    (cutS x none (some (a : Int)) ++ ((⟨#[x.cps.toList[a + 1]'(by rw [Array.length_toList]; omega)]⟩ : Str) ++ (⟨#[x.cps.toList[a]'(by rw [Array.length_toList]; omega)]⟩ : Str)) ++ cutS x (some ((a : Int) + 2)) none).cps.toList.Perm x.cps.toList := by
  have sz : x.cps.toList.length = x.length := Array.length_toList
  have e1 : (cutS x none (some (a : Int))).cps.toList = x.cps.toList.take a := by
    unfold cutS
    rw [HT.sIx_none, show HT.sIx x.length x.length (some (a : Int)) = min a x.length from HT.sIx_nat _ _ a]
    have : min a x.length = a := Nat.min_eq_left (by show a ≤ x.cps.size; omega)
    rw [this]
    simp
  have e2 : (cutS x (some ((a : Int) + 2)) none).cps.toList = x.cps.toList.drop (a + 2) := by
    unfold cutS
    rw [HT.sIx_none, show HT.sIx x.length 0 (some ((a : Int) + 2)) = min (a + 2) x.length from HT.sIx_nat _ _ (a + 2)]
    have : min (a + 2) x.length = a + 2 := Nat.min_eq_left (by show a + 2 ≤ x.cps.size; omega)
    rw [this]
    dsimp only
    rw [List.take_of_length_le]
    rw [List.length_drop, sz]
    exact Nat.le_refl _
  rw [app_cps, app_cps, app_cps, e1, e2]
  have d1 : x.cps.toList.drop a = x.cps.toList[a]'(by rw [sz]; show a < x.cps.size; omega) :: x.cps.toList[a + 1]'(by rw [sz]; exact h) :: x.cps.toList.drop (a + 2) := by
    rw [List.drop_eq_getElem_cons (by rw [sz]; show a < x.cps.size; omega), List.drop_eq_getElem_cons (by rw [sz]; exact h)]
  refine .trans ?_ (List.Perm.of_eq (List.take_append_drop a x.cps.toList))
  rw [d1, List.append_assoc]
  exact List.Perm.append_left _ (.swap _ _ _)
/-- a lot of orders of the letters of y -/
structure Lot (ys : List Str) (y : Str) : Prop where
  up : Climbs ys
  one : ys.Nodup
  some : 0 < ys.length
  of : ∀ z, z ∈ ys → z.cps.toList.Perm y.cps.toList
end L2.Cal
end

section
set_option maxRecDepth 100000
set_option maxHeartbeats 4000000
namespace L2.Cal
open PySem PySem.Spec PyProof.Rows L2
abbrev sIsO : Stmt := topS 10
theorem scIsO : FnScope ["value", "letter"] ["value"] (defScope sIsO) := ⟨rfl, rfl, rfl, by decide +kernel, rfl, by decide +kernel, by decide +kernel⟩

theorem one_lt (a b : Nat) : decide (([a] : List Nat) < [b]) = decide (a < b) := by
  rw [← ltCps_eq]
  simp [ltCps]
theorem nodup_back {l : List Nat} (h : (l.map fun n => (⟨#[n]⟩ : Str)).Nodup) : l.Nodup := List.Pairwise.of_map _ (fun a b n e => n (by rw [e])) h
theorem nodup_signs {y : Str} (h : y.cps.toList.Nodup) : (signs y).Nodup := by
  refine List.Pairwise.map _ (fun a b n e => n ?_) h
  have : ([a] : List Nat) = [b] := congrArg (fun z : Str => z.cps.toList) e
  exact (List.cons.inj this).1
theorem ca : (Str.ofString "a").cps.toList = [97] := by decide +kernel
theorem cz : (Str.ofString "z").cps.toList = [122] := by decide +kernel
structure Lims (mg : Str → Option Value) : Prop where
  c1 : ∃ t, mg "LEAST_THINGS" = some (.int 3 t)
  c2 : ∃ t, mg "MOST_THINGS" = some (.int 6 t)
  c3 : ∃ t, mg "MOST_ORDERS" = some (.int 48 t)
def ordB (y : Str) : Bool := decide (3 ≤ y.cps.size ∧ y.cps.size ≤ 6) && (decide y.cps.toList.Nodup && y.cps.toList.all fun c => decide (97 ≤ c) && decide (c ≤ 122))
def spIsO : Sp := fun vs H Q _ => ∃ y : Str, vs = [.str y] ∧ y.cps.size ≤ 1000 ∧ ∀ H', Same H H' → Q (.bl (ordB y)) H'
section
variable {P : Program} {w : World} {K : PySem.W.Frag} {mg : Str → Option Value} {base : Heap}
theorem ok_iso {f : Addr} {fd : FuncData} (D : DefAt K mg "is_order" sIsO ["value"] f fd) (T : Txt mg) (Lm : Lims mg) : FnOk P w K mg base CX0 1 f fd ["value"] spIsO := by
  obtain ⟨_, c1⟩ := Lm.c1
  obtain ⟨_, c2⟩ := Lm.c2
  refine D.F.ok scIsO (fun vs H Q E h => ?_) (fun cdv A outer sh H vs Q E hr h => ?_)
  · obtain ⟨y, rfl, _⟩ := h
    rfl
  · obtain ⟨y, rfl, hy, q⟩ := h
    refine ⟨_, (pss_cons (ps_if (PW.pt (pw_or (pt_not (pt_val (pe_callB call_isi (by rfl) T.b_isinstance (by decide +kernel) (pa_cons (pv 0) (pa_cons (pe_bty (n := "str") (by rfl) T.b_str (by decide +kernel)) pa_nil))))) (pw_or1 (pt_not (pt_chain op_le op_le (pe_glob (v := .int 3) (by rfl) c1 ⟨_, rfl⟩) (pe_callB call_len_str (by rfl) T.b_len (by decide +kernel) (pa_cons (pv 0) pa_nil)) (pe_glob (v := .int 6) (by rfl) c2 ⟨_, rfl⟩))))))
   (pss_one (ps_ret pe_bl))
   pss_nil)
  (pss_one (ps_ret (pe_and (pe_cmpR op_eq (pe_lenSetS rfl (by rfl) T.b_len (by rfl) T.b_set (pv 0)) (pe_callB call_len_str (by rfl) T.b_len (by decide +kernel) (pa_cons (pv 0) pa_nil)) (nomark _)) (pe_one (pe_callB (cr_all rfl) (by rfl) T.b_all (by decide +kernel) (pa_cons (pe_lc (own := [("letter", 1)]) (g := gName 1) (tt := tYes) rfl scIsO.nd (pi_str (pv 0)) (blkOk_by (own := [("letter", 1)]) (N := ["value", "letter"]) (sc := (defScope sIsO)) (by decide +kernel)) (fun _ _ _ _ _ => pg_name (i := 1) scIsO.nd rfl (Or.inl rfl)) (fun _ _ _ _ _ => pts_nil) (fun _ _ _ _ _ => (pe_chain op_le_str op_le_str pe_str (pv 1) pe_str))) pa_nil))))))), ?_⟩
    have sz : y.length = y.cps.size := rfl
    have fit : y.length ≤ sizeLine := by rw [sizeLine_eq, sz]; omega
    refine ⟨_, rfl, .str y, .ty "str", .type "str", .type "str", true, rfl, .ty _, .base (.str y), rfl, true, rfl, iteF ?_⟩
    refine ⟨_, rfl, y, rfl, fit, _, _, rfl, rfl, _, rfl, ite2 (fun e => ⟨_, _, rfl, rfl, _, rfl, ?_⟩) (fun e => ⟨_, rfl, ?_⟩)⟩
    · have e3 : 3 ≤ y.cps.size := by
        have := of_decide_eq_true e
        rw [sz] at this
        omega
      by_cases c6 : y.cps.size ≤ 6
      · rw [decide_eq_true (show (y.length : Int) ≤ 6 by rw [sz]; omega)]
        refine iteF ?_
        have e36 : decide (3 ≤ y.cps.size ∧ y.cps.size ≤ 6) = true := decide_eq_true ⟨e3, c6⟩
        refine ⟨_, rfl, y, rfl, hy, fun l nd mem => ⟨_, rfl, y, rfl, fit, rfl, _, rfl, ite2 (fun e => ?_) (fun e => ?_)⟩⟩
        · have ndy : y.cps.toList.Nodup := by
            have el : l.length = y.cps.size := by
              have := V.int.inj (of_decide_eq_true e)
              rw [sz] at this
              omega
            have pm : (signs y).Perm l := perm_of_into l (signs y) nd (fun x hx => by
              obtain ⟨c, hc, rfl⟩ := (mem x).mp hx
              exact List.mem_map.mpr ⟨c, hc, rfl⟩) (by rw [signs_length, el]; exact Nat.le_refl _)
            have := pm.nodup_iff.mpr nd
            unfold signs at this
            exact nodup_back this
          refine ⟨_, rfl, y, rfl, fun D nD => lc_it walk_str (fun k H' => Same H H' ∧ H' D = some (.lst ((y.cps.toList.take k).map fun c => V.bl (decide (97 ≤ c) && decide (c ≤ 122))))) ⟨same_new nD, upd_same⟩ (fun _ _ _ _ => trivial) (fun k x H1 H2 hk hP hY => ?_) (fun H1 hP => ?_)⟩
          · obtain ⟨sm, eD⟩ := hP
            obtain ⟨rfl, c, hc, rfl⟩ := hY
            have hk2 : k < y.cps.toList.length := by rw [Array.length_toList]; exact hk
            have ec : y.cps.toList[k] = c := by
              rw [Array.getElem_toList]
              exact (Array.getElem?_eq_some_iff.mp hc).2
            have fin : ∀ b, b = (decide (97 ≤ c) && decide (c ≤ 122)) → ∃ acc, H2 D = some (.lst acc) ∧ acc.length < sizeLine ∧ Same H (upd H2 D (.lst (acc ++ [V.bl b]))) ∧ (upd H2 D (.lst (acc ++ [V.bl b]))) D = some (.lst ((y.cps.toList.take (k + 1)).map fun c => V.bl (decide (97 ≤ c) && decide (c ≤ 122)))) := fun b eb => by
              refine ⟨_, eD, ?_, fun a o z => ?_, ?_⟩
              · rw [List.length_map, List.length_take, sizeLine_eq]
                omega
              · rw [upd_ne (ne_of_none z nD)]
                exact sm _ _ z
              · rw [upd_same, List.take_succ, List.getElem?_eq_getElem hk2, ec, List.map_append, eb] <;> rfl
            refine ⟨rfl, _, rfl, _, _, rfl, rfl, _, rfl, ite2 (fun e => ⟨_, _, rfl, rfl, fin _ ?_⟩) (fun e => fin _ ?_)⟩
            · rw [ca, one_lt] at e
              have e97 : 97 ≤ c := by
                have := of_decide_eq_false (by simpa using e : decide (c < 97) = false)
                omega
              rw [cz, one_lt, decide_eq_true e97, Bool.true_and]
              by_cases h : c ≤ 122
              · rw [decide_eq_true h, decide_eq_false (by omega)] <;> rfl
              · rw [decide_eq_false h, decide_eq_true (by omega)] <;> rfl
            · rw [ca, one_lt] at e
              have e97 : ¬ 97 ≤ c := fun z => e (by rw [decide_eq_false (by omega)] <;> rfl)
              rw [decide_eq_false e97, Bool.false_and]
          · obtain ⟨sm, eD⟩ := hP
            rw [List.take_of_length_le (by rw [Array.length_toList]; exact Nat.le_refl _)] at eD
            refine ⟨D, y.cps.toList.map fun c => decide (97 ≤ c) && decide (c ≤ 122), rfl, SqL.of (by rw [eD, List.map_map] <;> rfl), ?_⟩
            have z := q H1 sm
            unfold ordB at z
            rw [e36, decide_eq_true ndy, Bool.true_and, Bool.true_and] at z
            rw [List.all_map]
            exact z
        · have z := q H (fun _ _ z => z)
          unfold ordB at z
          rw [e36, decide_eq_false (show ¬ y.cps.toList.Nodup from fun nd2 => e (decide_eq_true ?_)), Bool.true_and, Bool.false_and] at z
          · exact z
          · have into : ∀ x, x ∈ l → x ∈ signs y := fun x hx => by
              obtain ⟨c, hc, rfl⟩ := (mem x).mp hx
              exact List.mem_map.mpr ⟨c, hc, rfl⟩
            have nds : (signs y).Nodup := nodup_signs nd2
            have le1 := List.Nodup.length_le_of_subset nd into
            have le2 := List.Nodup.length_le_of_subset nds fun x hx => by
              obtain ⟨c, hc, rfl⟩ := List.mem_map.mp hx
              exact (mem _).mpr ⟨c, hc, rfl⟩
            rw [signs_length] at le1 le2
            rw [Nat.le_antisymm le1 le2]
      · rw [decide_eq_false (show ¬ (y.length : Int) ≤ 6 by rw [sz]; omega)]
        refine iteT ?_
        have z := q H (fun _ _ z => z)
        unfold ordB at z
        rw [decide_eq_false (show ¬ (3 ≤ y.cps.size ∧ y.cps.size ≤ 6) by omega), Bool.false_and] at z
        exact z
    · refine iteT ?_
      have z := q H (fun _ _ z => z)
      unfold ordB at z
      rw [decide_eq_false (show ¬ (3 ≤ y.cps.size ∧ y.cps.size ≤ 6) from fun c => e (decide_eq_true (show (3 : Int) ≤ (y.length : Int) by rw [sz]; omega))), Bool.false_and] at z
      exact z
end
end L2.Cal
end

section
set_option maxRecDepth 100000
set_option maxHeartbeats 4000000
/-! `for i, x in enumerate(t)`, t a tuple -/
namespace L2.Cal
open PySem PySem.Spec PyProof.Rows L2
theorem enum_meets {v : Value} {o : Obj} {H : Heap → Prop} (B : Begins v o H) : Meets (Builtin.«enumerate.__new__» ⟨[.type "enumerate", v], []⟩) (fun _ R s => H s.heap ∧
    R (.ok (.ret (.ref (s.heap.push o).objs.size))) { s with heap := (s.heap.push o).push { cls := .type "enumerate", data := .fields #[.none, .bool false, .ref s.heap.objs.size, rawInt 0, .none, .none] } }) :=
  .of_wp fun prog w A R s h => by
    obtain ⟨hp, g, d, tk, os⟩ := s
    obtain ⟨hH, fin⟩ := h
    have below := PySem.sub_enumerate
    have start : ∀ {A' : Around} {E : Value → Shared → Prop} {Q : Value → Shared → Prop}, Q (.ref hp.objs.size) ⟨hp.push o, g, d, tk, os⟩ → wpAny (model prog w) A' (pyIter v) Q E ⟨hp, g, d, tk, os⟩ := fun q => B.iter prog w _ _ ⟨hp, g, d, tk, os⟩ _ hH q
    wp_walk using start
    refine wpAny_stack_any fun _ => wpAny_pure ?_
    split
    · rename_i c _ _ _ _ _
      cases (c == Value.type "enumerate") <;> (wp_walk using start; exact ⟨_, rfl, fin⟩)
    · wp_walk using start
      exact ⟨_, rfl, fin⟩
section
variable {prog : Program} {w : World} {A : Around} {E : Value → Shared → Prop} {s : Shared}
theorem enum_one {v : Value} {o : Obj} {H : Heap → Prop} {Q : Value → Shared → Prop} (B : Begins v o H) (hH : H s.heap)
    (q : ∀ h', IsEnum h' (s.heap.objs.size + 1) s.heap.objs.size 0 .none → h'.get? s.heap.objs.size = some o → (∀ b o, s.heap.get? b = some o → h'.get? b = some o) → Q (.ref (s.heap.objs.size + 1)) { s with heap := h' }) :
    wpAny (model prog w) A (call (.type "enumerate") [v]) Q E s := by
  have z : (s.heap.push o).objs.size = s.heap.objs.size + 1 := Heap.size_push ..
  have at1 : IsEnum ((s.heap.push o).push { cls := .type "enumerate", data := .fields #[.none, .bool false, .ref s.heap.objs.size, rawInt 0, .none, .none] }) (s.heap.objs.size + 1) s.heap.objs.size 0 .none := by
    rw [← z]
    exact Heap.get?_push_size _ rfl
  refine callType_new PySem.F.called_enumerate (by decide) (PySem.F.typeCall_enumerate_1 _) (PySem.F.newCall_enumerate_1 _) (fun obj => PySem.F.args_object_init_2 obj _) PySem.F.entry_enumerate_new (enum_meets B) ⟨hH, ?_⟩
  show _ ∧ _
  rw [z]
  exact ⟨⟨_, at1, rfl⟩, q _ at1 (Heap.get?_push_of_some _ (Heap.get?_push_size _ B.free)) fun b o e => Heap.get?_push_of_some _ (Heap.get?_push_of_some _ e)⟩
end
/-- the tuple at a, each item in a new pair with its place -/
def IteT (K : PySem.W.Frag) (a : Addr) : It :=
  ⟨fun i H => ∃ (xs : List V) (x : V), SqT K H a xs ∧ xs[i]? = some x, fun i H v H' => ∃ T x, v = .ref T ∧ H T = none ∧ H' = upd H T (.tup [.int (i : Nat), x]) ∧ ∀ xs, SqT K H a xs → xs[i]? = some x, fun i H => ∃ xs : List V, SqT K H a xs ∧ xs.length ≤ i⟩
theorem turn_enumT {P : Program} {w : World} {K : PySem.W.Frag} {elts : List Expr} {kk : Nat} {tpos : Pos} (a e it : Addr) :
    Turn P w K (.Tuple elts kk tpos) (IteT K a) [e, it] e (fun i h => (∃ old, IsEnum h e it ((i : Nat) : Int) old) ∧ h.IsTupleIter it a i ∧ e ≠ it) where
  mem := by simp
  obj := fun i h st b hb => by
    obtain ⟨⟨old, he⟩, ⟨o, ho, hc, hd⟩, _⟩ := st
    rcases List.mem_cons.mp hb with z | z
    · rw [z]
      exact ⟨_, he, fun v q => nomatch q⟩
    · rw [List.mem_singleton.mp z]
      exact ⟨o, ho, fun v q => by rw [hd] at q; cases q⟩
  keep := fun i h h' st k => let ⟨⟨old, he⟩, hi, hne⟩ := st; ⟨⟨old, k e (by simp) _ he⟩, hi.at fun o q => k it (by simp) o q, hne⟩
  item := by
    intro X hP hw hK hc i pins s σ H E I hf st hg
    subst hP hw hK
    obtain ⟨⟨old, he⟩, hit, hne⟩ := st
    obtain ⟨xs, x, hq, hx⟩ := hg
    obtain ⟨its, rv, p, hz⟩ := I.tuple hq
    obtain ⟨u, hu, ru⟩ := rv.get hx
    have lt1 : e < s.heap.objs.size := Heap.lt_size he
    have lt2 : it < s.heap.objs.size := by obtain ⟨_, q, _⟩ := hit; exact Heap.lt_size q
    have tup : s.heap.IsTuple a its.toArray := p
    have nai : a ≠ it := fun z => by
      obtain ⟨o1, e1, c1, _⟩ := tup
      obtain ⟨o2, e2, c2, _⟩ := hit
      rw [z, e2] at e1
      cases e1
      rw [c2] at c1
      exact absurd c1 (by decide)
    have nae : e ∉ [it, a] := by
      intro z
      rcases List.mem_cons.mp z with z | z
      · exact hne z
      · have z := List.mem_singleton.mp z
        obtain ⟨o1, e1, c1, _⟩ := tup
        rw [← z, he] at e1
        cases e1
        exact absurd (show Value.type "enumerate" = .type "tuple" from c1) (by decide)
    have isz : i < its.toArray.size := by
      have := (List.getElem?_eq_some_iff.mp hu).1
      simpa using this
    refine wpAny_pyNext_enum_itemD (Draws.tuple (A := X.A.in1) (by simpa using I.ok.hd hc) it a nai its.toArray) he ⟨hit, tup⟩ isz hne nae fun x' h' tk hx' ho hst hT hsz hk => ?_
    have ex : x' = u := by
      have : its.toArray[i]? = some u := by simpa using hu
      rw [this] at hx'
      exact (Option.some.inj hx').symm
    subst ex
    obtain ⟨hit', _⟩ := hst
    refine ⟨_, rfl, wpAny_letOwnedTupleGo_enum (s := { s with heap := h', toks := tk + 1 }) ho fun h'' he' sb => ?_⟩
    have hT2 : h''.get? s.heap.objs.size = some { cls := .type "tuple", data := .seq #[.int i tk, x'] } := (sb.2 _ (Nat.ne_of_gt lt1)).trans hT
    have new : ObjOk X.prog X.w (upd H s.heap.objs.size (.tup [.int (i : Nat), x])) h'' s.heap.objs.size (.tup [.int (i : Nat), x]) := ⟨by show 2 ≤ sizeLine; decide, [.int i tk, x'], .cons ⟨_, rfl⟩ (.cons ru .nil), ⟨_, hT2, rfl, _, rfl⟩⟩
    have J : Inv X pins σ (upd H s.heap.objs.size (.tup [.int (i : Nat), x])) { s with heap := h'', toks := tk + 1 } :=
      I.turnedNew (ch := [e, it]) (fun b ob hb q => (sb.2 b (fun z => hb (by simp [z]))).trans (hk b ob (fun z => hb (by simp [z])) (fun z => hb (by simp [z])) q)) hf (Nat.le_refl _) new
    refine ⟨.ref s.heap.objs.size, _, J, rfl, ⟨_, x, rfl, I.hok.fresh (Nat.le_refl _), rfl, fun ys hy => by rw [I.tuple_inj hy hq]; exact hx⟩, ⟨⟨x', ?_⟩, hit'.at fun o q => (sb.2 it (Ne.symm hne)).trans q, hne⟩, fun b hb => ?_⟩
    · rw [show ((i + 1 : Nat) : Int) = (i : Int) + 1 by omega]
      exact he'
    · have lt : b < s.heap.objs.size := by
        rcases List.mem_cons.mp hb with z | z
        · rw [z]; exact lt1
        · rw [List.mem_singleton.mp z]; exact lt2
      rw [upd_ne (Nat.ne_of_lt lt)]
      exact (hf b hb).1
  done := by
    intro X hP hw hK hc i pins s σ H E I hf st hg
    subst hP hw hK
    obtain ⟨⟨old, he⟩, hit, hne⟩ := st
    obtain ⟨xs, hq, hx⟩ := hg
    obtain ⟨its, rv, p, hz⟩ := I.tuple hq
    obtain ⟨f0, f1, f2, f3, f4, f5⟩ := hf it (by simp)
    have len := rv.length
    have kind : s.TypeIs (.ref e) "enumerate" := ⟨_, he, rfl⟩
    unfold pyNext
    refine wpAny_bind (wpAny_attempt (wpAny_callSpecial?_slot (name := Str.ofString "__next__") kind PySem.F.slot_enumerate_next (wpAny_call_entry PySem.F.slot_enumerate_next kind PySem.F.entry_enumerate_next ?_ (PySem.F.args_enumerate_next_1 _))))
    show wpAny _ _ (field (.ref e) 2 >>= _) _ _ _
    refine wpAny_bind (wpAny_field he rfl (x := .ref it) rfl (wpAny_bind (wpAny_nextOf_tuple_end (by simpa using I.ok.hd hc) hit (show s.heap.IsTuple a its.toArray from p) (by simp; omega) fun h' x he' ⟨o, ho, hc'⟩ => ?_)))
    exact wpAny_bind (wpAny_isInstance (T := "StopIteration") (b := true) ⟨o, ho, hc'⟩ isSubtype_stop (wpAny_pure ⟨rfl, I.turned (t' := s.toks) (fun b o hb q => he' b o hb q) f0 f1 f3 f4 f5⟩))
  self := fun A i s Q E st h => let ⟨⟨_, he⟩, _⟩ := st; wpAny_pyIter_enum he h
def iEnumT (K : PySem.W.Frag) (ta : TA) : TI := fun σ H R => ta σ H fun vs H1 => ∃ a xs, vs = [.ref a] ∧ SqT K H1 a xs ∧ R (IteT K a) H1
theorem pi_enumT {X : Cx} {e : Expr} {ta : TA} {p pos tpos : Pos} {elts : List Expr} {kk : Nat} (hg : Gl X "enumerate") (hm : X.mg "enumerate" = none) (ha : PA X [e] ta) (hs : starEach [e] X.env = [(false, eval e X.env)] := by rfl) :
    PI X (.Tuple elts kk tpos) (.Call (.Name "enumerate" p) [e] [] pos) (iEnumT X.K ta) := by
  refine ⟨fun pins s σ H R I h => Call_ (ld_blt I hg hm boot_enumerate (PyProof.Rows.callWith_type1 (thn (ha.run pos pins s σ H _ I h) fun us s1 ⟨vs, H1, I1, r1, q1⟩ => ?_) hs rfl))⟩
  obtain ⟨a, xs, rfl, hq, q⟩ := q1
  match us, r1 with
  | _, .cons r .nil =>
    cases r
    obtain ⟨its, rv, tup, _⟩ := I1.tuple hq
    refine enum_one (begins_tuple a its.toArray) tup fun h' he hit k => wpAny_pyIter_enum he ?_
    have I2 : Inv X pins σ H1 { s1 with heap := h' } := I1.kept (t' := s1.toks) k
    refine ⟨s1.heap.objs.size + 1, [s1.heap.objs.size + 1, s1.heap.objs.size], _, _, H1, rfl, I2, turn_enumT a (s1.heap.objs.size + 1) s1.heap.objs.size, ⟨⟨.none, he⟩, ⟨_, hit, rfl, rfl⟩, Nat.succ_ne_self _⟩, fun b hb => ?_, q⟩
    have le : s1.heap.objs.size ≤ b := by
      rcases List.mem_cons.mp hb with z | z
      · rw [z]; exact Nat.le_add_right _ _
      · rw [List.mem_singleton.mp z]; exact Nat.le_refl _
    exact I1.fpOk le (I1.hok.fresh le)
theorem walk_enumT {K : PySem.W.Frag} {a : Addr} {xs : List V} : Walk (IteT K a) xs.length (fun H => SqT K H a xs) (YPair (fun i => some (.int (i : Nat))) (fun i => xs[i]?)) :=
  ⟨fun i H hi hq => ⟨xs, _, hq, List.getElem?_eq_getElem hi⟩, fun H hq => ⟨xs, hq, Nat.le_refl _⟩, fun i H v H' hi hq ⟨T, x, e1, e2, e3, e4⟩ => ⟨T, _, x, e1, e2, e3, rfl, e4 xs hq⟩⟩
end L2.Cal
end

section
set_option maxRecDepth 100000
set_option maxHeartbeats 4000000
namespace L2.Cal
open PySem PySem.Spec PyProof.Rows L2
abbrev sThO : Stmt := topS 11
theorem scThO : FnScope ["order"] ["order"] (defScope sThO) := ⟨rfl, rfl, rfl, by decide +kernel, rfl, by decide +kernel, by decide +kernel⟩
abbrev sRah : Stmt := topS 12
theorem scRah : FnScope ["orders", "index", "order"] ["orders"] (defScope sRah) := ⟨rfl, rfl, rfl, by decide +kernel, rfl, by decide +kernel, by decide +kernel⟩

/-- a text's letters in order -/
def tidy (y : Str) : Str := ⟨(y.cps.toList.mergeSort fun a b => decide (a ≤ b)).toArray⟩
theorem rising_ones : ∀ (r : List Nat) (p : Nat), risingS ⟨#[p]⟩ (r.map fun n => ⟨#[n]⟩) = true → (p :: r).Pairwise (· ≤ ·)
  | [], _, _ => List.pairwise_singleton _ _
  | x :: r, p, h => by
    simp only [List.map_cons, risingS, Bool.and_eq_true, Bool.not_eq_true'] at h
    have le : p ≤ x := by
      have z := h.1
      simp [ltCps] at z
      omega
    have ih := rising_ones r x h.2
    refine List.pairwise_cons.mpr ⟨fun y hy => ?_, ih⟩
    rcases List.mem_cons.mp hy with e | hy
    · omega
    · exact Nat.le_trans le ((List.pairwise_cons.mp ih).1 y hy)
theorem signs_cps (z : Str) : (signs z).map (fun s => s.cps.getD 0 0) = z.cps.toList := by
  unfold signs
  rw [List.map_map]
  exact (List.map_congr_left fun c _ => rfl).trans (List.map_id _)
theorem tidy_perm (y : Str) : (tidy y).cps.toList.Perm y.cps.toList := List.mergeSort_perm _ _
theorem tidy_up (y : Str) : (tidy y).cps.toList.Pairwise (· ≤ ·) := by
  have := List.pairwise_mergeSort (le := fun a b : Nat => decide (a ≤ b)) (fun a b c h1 h2 => decide_eq_true (Nat.le_trans (of_decide_eq_true h1) (of_decide_eq_true h2))) (fun a b => by
    rcases Nat.le_total a b with h | h <;> simp [h]) y.cps.toList
  exact this.imp fun h => of_decide_eq_true h
theorem str_ext {a b : Str} (h : a.cps.toList = b.cps.toList) : a = b := by
  cases a
  cases b
  exact congrArg Str.mk (Array.toList_inj.mp h)
theorem tidy_of {y z : Str} (p : (signs z).Perm (signs y)) (s : sortedS (signs z) = true) : z = tidy y := by
  have p2 := p.map fun s => s.cps.getD 0 0
  rw [signs_cps, signs_cps] at p2
  have up : z.cps.toList.Pairwise (· ≤ ·) := by
    unfold signs at s
    cases e : z.cps.toList with
    | nil => exact .nil
    | cons a r =>
      rw [e] at s
      exact rising_ones r a s
  exact str_ext (List.Perm.eq_of_pairwise (fun a b _ _ h1 h2 => Nat.le_antisymm h1 h2) up (tidy_up y) (p2.trans (tidy_perm y).symm))
theorem tidy_same {x y : Str} (p : x.cps.toList.Perm y.cps.toList) : tidy x = tidy y :=
  str_ext (List.Perm.eq_of_pairwise (fun a b _ _ h1 h2 => Nat.le_antisymm h1 h2) (tidy_up x) (tidy_up y) ((tidy_perm x).trans (p.trans (tidy_perm y).symm)))
theorem sign_sum (z : Str) : ((signs z).map (·.length)).sum = z.cps.size := by
  unfold signs
  rw [List.map_map, show ((fun x : Str => x.length) ∘ fun n => (⟨#[n]⟩ : Str)) = fun _ => 1 from rfl, sum_ones, Array.length_toList]
theorem ys_signs {ys : List Str} {y : Str} (h : ys.Perm (signs y)) : ∃ z : Str, ys = signs z ∧ z.cps.toList.Perm y.cps.toList := ones_back (cs := y.cps.toList) h
theorem same_seqT {K : PySem.W.Frag} {a : Addr} {H H' : Hp} {xs : List V} (h : SqT K H a xs) (s : Same H H') : SqT K H' a xs := by
  rcases h with (z | ⟨o, z⟩) | z
  · exact .inl (.inl (s _ _ z))
  · exact .inl (.inr ⟨o, s _ _ z⟩)
  · exact .inr z
def spThO : Sp := fun vs H Q _ => ∃ y : Str, vs = [.str y] ∧ y.cps.size < 64 ∧ ∀ H', Same H H' → Q (.str (tidy y)) H'
def spRah (K : PySem.W.Frag) : Sp := fun vs H Q _ => ∃ (t : Addr) (ys : List Str) (y : Str), vs = [.ref t] ∧ SqT K H t (ys.map V.str) ∧ Lot ys y ∧ Lett y ∧ 3 ≤ y.cps.size ∧ y.cps.size ≤ 6 ∧ ys.length ≤ 48 ∧ ∀ H', Same H H' → Q (.int ys.length) H'
section
variable {P : Program} {w : World} {K : PySem.W.Frag} {mg : Str → Option Value} {base : Heap}
theorem ok_tho {f : Addr} {fd : FuncData} (D : DefAt K mg "things_of" sThO ["order"] f fd) (T : Txt mg) : FnOk P w K mg base CX0 1 f fd ["order"] spThO := by
  refine D.F.ok scThO (fun vs H Q E h => ?_) (fun cdv A outer sh H vs Q E hr h => ?_)
  · obtain ⟨y, rfl, _⟩ := h
    rfl
  · obtain ⟨y, rfl, hy, q⟩ := h
    refine ⟨_, (pss_one (ps_ret (pe_join pe_str (pe_callB (cr_sortText rfl) (by rfl) T.b_sorted (by decide +kernel) (pa_cons (pv 0) pa_nil))))), ?_⟩
    refine ⟨⟨_, rfl⟩, _, rfl, y, rfl, hy, fun ys p pm so np => ?_⟩
    obtain ⟨z, rfl, hz⟩ := ys_signs pm
    refine ⟨_, p, _, rfl, rfl, .inl (SqL.of upd_same), ?_, ?_⟩
    · rw [sign_sum, signs_length, show (PySem.Str.ofString "").length = 0 by decide +kernel]
      have : z.cps.size = y.cps.size := by rw [← Array.length_toList, hz.length_eq, Array.length_toList]
      omega
    · rw [join_signs, tidy_of pm so]
      exact q _ (same_new np)
theorem Lot.fine {ys : List Str} {y z : Str} (L : Lot ys y) (ly : Lett y) (h3 : 3 ≤ y.cps.size) (h6 : y.cps.size ≤ 6) (hz : z ∈ ys) : z.cps.size = y.cps.size ∧ ordB z = true := by
  have pm := L.of z hz
  have e : z.cps.size = y.cps.size := by rw [← Array.length_toList, pm.length_eq, Array.length_toList]
  have lz := ly.perm pm
  refine ⟨e, ?_⟩
  unfold ordB
  rw [decide_eq_true (show 3 ≤ z.cps.size ∧ z.cps.size ≤ 6 by omega), decide_eq_true lz.1, Bool.true_and, Bool.true_and, List.all_eq_true]
  intro c hc
  have := lz.2 c hc
  rw [decide_eq_true this.1, decide_eq_true this.2] <;> rfl
theorem ok_rah {f fI fT : Addr} {fd fdI fdT : FuncData} (D : DefAt K mg "right_ahead" sRah ["orders"] f fd) (DI : DefAt K mg "is_order" sIsO ["value"] fI fdI) (DT : DefAt K mg "things_of" sThO ["order"] fT fdT) (T : Txt mg) (Lm : Lims mg) : FnOk P w K mg base CX0 2 f fd ["orders"] (spRah K) := by
  have GI : FnOk P w K mg base CX0 1 fI fdI ["value"] spIsO := ok_iso DI T Lm
  have GT : FnOk P w K mg base CX0 1 fT fdT ["order"] spThO := ok_tho DT T
  obtain ⟨_, c3⟩ := Lm.c3
  refine D.F.ok scRah (fun vs H Q E h => ?_) (fun cdv A outer sh H vs Q E hr h => ?_)
  · obtain ⟨t, ys, y, rfl, _⟩ := h
    rfl
  · obtain ⟨t, ys, y, rfl, hT, L, ly, h3, h6, hl, q⟩ := h
    refine ⟨_, (pss_cons (ps_for PassesOwn.never rfl (pi_enumT (by rfl) T.b_enumerate (pa_cons (pv 0) pa_nil)) (pg_tup rfl (pgs_cons (pg_name (i := 1) scRah.nd rfl (.inl rfl)) (pgs_cons (pg_name (i := 2) scRah.nd rfl (.inl rfl)) pgs_nil)))
   (pss_cons (ps_if (PW.pt (pw_or (pt_cmpR op_eq (pv 1) (pe_glob (v := .int 48) (by rfl) c3 ⟨_, rfl⟩) (nomark _)) (pw_or1 (pt_not (pt_val (pe_call GI (hr.mono (by decide)) (by rfl) DI.g DI.F.kp DI.b .nil pass0 (pa_cons (pv 2) pa_nil)))))))
   (pss_one (ps_ret (pv 1)))
   pss_nil)
  (pss_cons (ps_if (pt_cmpR op_ne (pe_call GT (hr.mono (by decide)) (by rfl) DT.g DT.F.kp DT.b .nil pass0 (pa_cons (pv 2) pa_nil)) (pe_call GT (hr.mono (by decide)) (by rfl) DT.g DT.F.kp DT.b .nil pass0 (pa_cons (pe_ix ix_tup (pv 0) pe_int (fun _ _ => rfl)) pa_nil)) (nomark _))
   (pss_one (ps_ret (pv 1)))
   pss_nil)
  (pss_one (ps_if (PW.pt (pw_and (pt_cmpR op_gt (pv 1) pe_int (nomark _)) (pw_and1 (pt_cmpR op_le_str (pv 2) (pe_ix ix_tup (pv 0) (pe_op op_sub (pv 1) pe_int) (fun _ _ => rfl)) (nomark _)))))
   (pss_one (ps_ret (pv 1)))
   pss_nil)))))
  (pss_one (ps_ret (pe_callB call_len_seq (by rfl) T.b_len (by decide +kernel) (pa_cons (pv 0) pa_nil))))), ?_⟩
    refine ⟨_, rfl, t, _, rfl, hT, for_it (walk_enumT (xs := ys.map V.str)) (fun i σ H' => ∃ v1 v2, σ = [some (.ref t), v1, v2] ∧ Same H H') ⟨none, none, rfl, fun _ _ z => z⟩ (fun i σ H' _ hP => ?_) (fun i x σ H1 H2 hi hP hY => ?_) (fun σ H' hP => ?_)⟩
    · obtain ⟨_, _, _, sm⟩ := hP
      exact same_seqT hT sm
    · obtain ⟨v1, v2, rfl, sm⟩ := hP
      obtain ⟨T', a, b, rfl, nT, rfl, e1, e2⟩ := hY
      cases e1
      rw [List.length_map] at hi
      have e2 : (ys.map V.str)[i]? = some b := e2
      rw [List.getElem?_map, List.getElem?_eq_getElem hi] at e2
      cases e2
      have zin : ys[i] ∈ ys := List.getElem_mem hi
      obtain ⟨sz, oz⟩ := L.fine ly h3 h6 zin
      have sm1 : Same H (upd H1 T' (.tup [.int (i : Nat), .str ys[i]])) := fun b o e => by
        rw [upd_ne (ne_of_none (sm _ _ e) nT)]
        exact sm _ _ e
      have at_ : ∀ k, (hk : k < ys.length) → atI (ys.map V.str) (k : Int) = some (.str ys[k]) := fun k hk => atI_nat (by rw [List.getElem?_map, List.getElem?_eq_getElem hk] <;> rfl)
      have h0 : 0 < ys.length := L.some
      obtain ⟨sz0, _⟩ := L.fine ly h3 h6 (List.getElem_mem h0)
      refine ⟨T', _, rfl, SqT.of upd_same, rfl, _, _, rfl, _, _, rfl, rfl, ?_⟩
      refine ⟨_, rfl, rfl, _, rfl, ite2 (fun e => absurd (V.int.inj (of_decide_eq_true e)) (by omega)) (fun e => ⟨_, rfl, ys[i], rfl, by omega, fun H3 s3 => ⟨_, rfl, ?_⟩⟩)⟩
      rw [oz]
      have sm3 : Same H H3 := sm1.trans s3
      refine iteF ⟨_, rfl, ys[i], rfl, by omega, fun H4 s4 => ⟨_, rfl, t, _, 0, _, rfl, rfl, same_seqT hT (sm3.trans s4), at_ 0 h0, ys[0], rfl, by omega, fun H5 s5 => ⟨rfl, _, rfl, iteNS (by rw [tidy_same ((L.of _ zin).trans (L.of _ (List.getElem_mem h0)).symm)]) ?_⟩⟩⟩
      have sm5 : Same H H5 := sm3.trans (s4.trans s5)
      refine ⟨_, rfl, _, _, rfl, rfl, _, rfl, ite2 (fun e => ?_) (fun e => iteF ⟨_, _, rfl, sm5⟩)⟩
      have i0 : 0 < i := by
        have := of_decide_eq_true e
        omega
      have e1 : ((i : Int) - 1) = ((i - 1 : Nat) : Int) := by omega
      have up : Below ys[i - 1] ys[i] := L.up.at (i - 1) _ _ (List.getElem?_eq_getElem (by omega)) (by rw [Nat.sub_add_cancel i0]; exact List.getElem?_eq_getElem hi)
      refine ⟨_, rfl, _, rfl, _, rfl, _, _, rfl, rfl, t, _, _, _, rfl, rfl, same_seqT hT sm5, (by show atI _ ((i : Int) - 1) = _; rw [e1]; exact at_ (i - 1) (by omega)), _, _, rfl, rfl, _, rfl, ?_⟩
      have lt : decide (ys[i - 1].cps.toList < ys[i].cps.toList) = true := by rw [← ltCps_eq]; exact up
      rw [lt]
      exact iteF ⟨_, _, rfl, sm5⟩
    · obtain ⟨v1, v2, rfl, sm⟩ := hP
      exact ⟨_, rfl, t, _, rfl, .inr (same_seqT hT sm), by rw [List.length_map]; exact q _ sm⟩
end
end L2.Cal
end

section
set_option maxRecDepth 100000
set_option maxHeartbeats 4000000
/-! what built-in functions and operators ask of an object of an own class -/
namespace L2.Cal
open PySem PySem.Spec PyProof.Rows L2
section
variable {X : Cx} {CX : CXT} {k : Nat} {C f : Addr} {fd : FuncData} {ps : List Str} {sp : Sp} {E : XK} {pins : List (Addr × Obj)} {σ : St} {H : Hp} {s : Shared}
/-- a def at work further in -/
theorem run_at {A : Around} {E' : Value → Shared → Prop} {vs : List V} {us : List Value} {Q : VK} (e0 : Env0 X.prog X.w X.K X.mg X.base A X.stack s H) (hr : Room k A) (I : Inv X pins σ H s) (F : FnOk X.prog X.w X.K X.mg X.base CX k f fd ps sp) (hb : Binds X.K fd ps []) (r : Vals vs us) (hx : Passes CX X.nox E) (h : sp vs H Q E) :
    wpAny (model X.prog X.w) A (call (.ref f) us) (EP X pins σ Q) E' s := by
  have hl : (us ++ []).length = ps.length := by
    rw [List.append_nil, ← F.len _ _ _ _ h]
    exact r.length.symm
  have bind := hb s us I.kIn hl
  rw [List.append_nil] at bind
  refine wpAny_call (codeAny_mono (F.run A X.stack s H ⟨us, []⟩ us vs Q E hr e0 bind r h) fun r s' hq => ?_)
  match r, hq with
  | .error er, hq => exact False.elim (hx pins σ H s er s' (I.wish _) hq)
  | .ok (.ret u), hq => exact I.after hq
theorem ins_at {a dx : Addr} {fs : List (Str × V)} (I : Inv X pins σ H s) (ea : H a = some (.ins C dx fs)) : ∃ ox od, PySem.W.InstAt s.heap a ox C (some od) := by
  obtain ⟨mA, O, _⟩ := ins_get I.hok ea
  obtain ⟨od, J, _⟩ := O.look
  exact ⟨_, od, J⟩
/-- an own method that stands in the class -/
structure Own (K : PySem.W.Frag) (C : Addr) (m : Str) (f : Addr) : Prop where
  at_ : PySem.W.findIn K (.ref C) m = some (some (.ref f))
  fn : PySem.W.typeIn K (.ref f) = some (.type "function")
theorem Own.isFn {K : PySem.W.Frag} {m : Str} (o : Own K C m f) : PySem.W.isFn K (.ref f) = true := beq_iff_eq.mpr o.fn
/-- len(o) -/
def rLenO (C : Addr) (sp : Sp) (E : XK) : List V → Hp → VK → Prop := fun xs H Q => ∃ (a dx : Addr) (fs : List (Str × V)), xs = [.ref a] ∧ H a = some (.ins C dx fs) ∧ sp [.ref a] H (fun v H' => ∃ n : Nat, v = .int n ∧ n < 2 ^ 62 ∧ Q (.int n) H') E
theorem call_lenO (o : Own X.K C "__len__" f) (F : FnOk X.prog X.w X.K X.mg X.base CX k f fd ps sp) (hr : Room (k + 1) X.A) (hb : Binds X.K fd ps []) (hx : Passes CX X.nox E) : CallR X (.builtin "len") (rLenO C sp E) := by
  intro pins s σ H xs us Q I r h
  obtain ⟨a, dx, fs, rfl, ea, h⟩ := h
  rw [Vals.ref1 r]
  obtain ⟨ox, od, J⟩ := ins_at I ea
  refine Calls.call_function_entry kind_len plain_len entry_len (args_len1 _) ?_
  unfold Builtin.«len»
  refine wpAny_bind (m := oneArg "len" _) (wpAny_pure (wpAny_bind (m := callSpecial? (.ref a) (Str.ofString "__len__")) (PySem.W.special_fn I.kIn J o.at_ o.fn (wpAny_mono (run_at (A := X.A.in1) I.env0.in1 hr.in1 (vs := [.ref a]) I F hb (.cons rfl .nil) hx h) (fun u s' hq => ?_) fun _ _ z => z))))
  obtain ⟨v, H', I', rv, n, rfl, lt, q⟩ := hq
  obtain ⟨t, rfl⟩ := rv
  refine wpAny_bind (wpAny_holding (wpAny_pure (wpAny_bind (wpAny_letGo ?_))))
  show wpAny _ _ (if ((n : Int) < 0) then _ else _) _ _ _
  rw [if_neg (by omega)]
  show wpAny _ _ (if ((n : Int) ≥ 2 ^ 63) then _ else _) _ _ _
  rw [if_neg (by omega)]
  exact wpAny_bind (wpAny_mkInt (wpAny_pure ⟨_, rfl, .int n, H', I'.tok _, ⟨_, rfl⟩, q⟩))
/-- str(o) -/
def rStrO (C : Addr) (sp : Sp) (E : XK) : List V → Hp → VK → Prop := fun xs H Q => ∃ (a dx : Addr) (fs : List (Str × V)), xs = [.ref a] ∧ H a = some (.ins C dx fs) ∧ sp [.ref a] H (fun v H' => ∃ y : Str, v = .str y ∧ Q (.str y) H') E
theorem call_strO (o : Own X.K C "__str__" f) (F : FnOk X.prog X.w X.K X.mg X.base CX k f fd ps sp) (hr : Room (k + 2) X.A) (hb : Binds X.K fd ps []) (hx : Passes CX X.nox E) : CallR X (.type "str") (rStrO C sp E) := by
  intro pins s σ H xs us Q I r h
  obtain ⟨a, dx, fs, rfl, ea, h⟩ := h
  rw [Vals.ref1 r]
  obtain ⟨ox, od, J⟩ := ins_at I ea
  refine PySem.W.kso_call (by have := hr.in1.in1.units; omega) I.kIn J o.at_ o.isFn (wpAny_mono (run_at (A := X.A.in1.in1) I.env0.in1.in1 hr.in1.in1 (vs := [.ref a]) I F hb (.cons rfl .nil) hx h) (fun u s' hq => ?_) fun _ _ z => z)
  obtain ⟨v, H', I', rv, y, rfl, q⟩ := hq
  obtain ⟨t, rfl⟩ := rv
  exact ⟨.str y, H', I', ⟨t, rfl⟩, q⟩
/-- x in o -/
def rInO (C : Addr) (sp : Sp) (E : XK) : V → V → Hp → VK → Prop := fun x y H Q => ∃ (a dx : Addr) (fs : List (Str × V)), y = .ref a ∧ H a = some (.ins C dx fs) ∧ sp [.ref a, x] H (fun v H' => ∃ b : Bool, v = .bl b ∧ Q (.bl b) H') E
theorem op_inO (o : Own X.K C "__contains__" f) (F : FnOk X.prog X.w X.K X.mg X.base CX k f fd ps sp) (hr : Room k X.A) (hb : Binds X.K fd ps []) (hx : Passes CX X.nox E) : OpR X (compareOp .In) (rInO C sp E) := by
  intro pins s σ H x y v u Q I rx ry h
  obtain ⟨a, dx, fs, rfl, ea, h⟩ := h
  cases ry
  obtain ⟨ox, od, J⟩ := ins_at I ea
  refine wpAny_bind (m := contains _ _) ?_
  unfold contains
  refine wpAny_holding (wpAny_bind (wpAny_bind (J.type.here ((PySem.W.looks_findIn I.kIn o.at_).here ?_))))
  rw [if_neg (by simp)]
  refine wpAny_bind (PySem.W.unlessNone_K I.kIn J o.at_ o.isFn (wpAny_mono (run_at (vs := [.ref a, x]) I.env0 hr I F hb (.cons rfl (.cons rx .nil)) hx h) (fun u s' hq => ?_) fun _ _ z => z))
  obtain ⟨v', H', I', rv, b, rfl, q⟩ := hq
  cases rv
  exact wpAny_pure (wpAny_pure ⟨.bl b, H', I', rfl, q⟩)
end
end L2.Cal
end

section
set_option maxRecDepth 100000
set_option maxHeartbeats 4000000
namespace L2.Cal
open PySem PySem.Spec PyProof.Rows L2
section
variable {X : Cx} {CX : CXT} {k : Nat} {C f : Addr} {fd : FuncData} {ps : List Str} {sp : Sp} {E : XK} {pins : List (Addr × Obj)} {σ : St} {H : Hp} {s : Shared}
/-- o == y, o's own `__eq__` asked first -/
def rEqO (K : PySem.W.Frag) (C : Addr) (sp : Sp) (E : XK) (g : Bool → Bool) : V → V → Hp → VK → Prop := fun x y H Q => ∃ (a dx : Addr) (fs : List (Str × V)) (t : Value), x = .ref a ∧ H a = some (.ins C dx fs) ∧ TyX K H y t ∧ PySem.W.notFirst K C t = true ∧
  sp [.ref a, y] H (fun v H' => ∃ b : Bool, v = .bl b ∧ Q (.bl (g b)) H') E
theorem op_eqO (o : Own X.K C "__eq__" f) (F : FnOk X.prog X.w X.K X.mg X.base CX k f fd ps sp) (hr : Room k X.A) (hb : Binds X.K fd ps []) (hx : Passes CX X.nox E) : OpR X (compareOp .Eq) (rEqO X.K C sp E id) := by
  intro pins s σ H x y v u Q I rx ry h
  obtain ⟨a, dx, fs, t, rfl, ea, ty, nf, h⟩ := h
  cases rx
  obtain ⟨ox, od, J⟩ := ins_at I ea
  obtain ⟨Pt, kt, hP, _⟩ := kit_of I ry ty
  obtain ⟨m, hF⟩ := I.fr
  refine PySem.W.cmp_K (op := .Eq) hr.units0 hF I.ok.mod.kin J (kt.ty _ _ I.kIn hP) nf o.at_ o.isFn (wpAny_mono (run_at (vs := [.ref a, y]) I.env0 hr I F hb (.cons rfl (.cons ry .nil)) hx h) (fun u' s' hq => ?_) fun _ _ z => z)
  obtain ⟨v', H', I', rv, b, rfl, q⟩ := hq
  cases rv
  exact ⟨.bl b, H', I', rfl, q⟩
/-- o's `__ne__` is object's, which asks o's own `__eq__` -/
theorem try_ne {a dx : Addr} {fs : List (Str × V)} {y : V} {u : Value} {Q : VK} (o : Own X.K C "__eq__" f) (hne : PySem.W.findIn X.K (.ref C) "__ne__" = some (some (.builtin "object.__ne__"))) (hob : PySem.W.mroIn X.K C (.type "object") = some true)
    (F : FnOk X.prog X.w X.K X.mg X.base CX k f fd ps sp) (hr : Room (k + 1) X.A) (hb : Binds X.K fd ps []) (hx : Passes CX X.nox E) (I : Inv X pins σ H s) (ea : H a = some (.ins C dx fs)) (ry : RelV y u) (h : sp [.ref a, y] H (fun v H' => ∃ b : Bool, v = .bl b ∧ Q (.bl (!b)) H') E) :
    wpAny (model X.prog X.w) X.A (tryCompare (.ref a) "__ne__" u) (fun r s' => ∃ v, r = some v ∧ EP X pins σ Q v s') X.xe s := by
  obtain ⟨ox, od, J⟩ := ins_at I ea
  have S := PySem.F.cmp_object.ne
  have sub : PySem.W.Looks (model X.prog X.w) s.heap (isInstance (.ref a) (.type "object")) true := J.type.andThen (PySem.W.looks_mroIn I.kIn hob)
  have body : wpAny (model X.prog X.w) X.A (call (.builtin "object.__ne__") [.ref a, u]) (fun v s' => ∃ (b : Bool) (H' : Hp), v = .bool b ∧ Inv X pins σ H' s' ∧ Q (.bl b) H') X.xe s := by
    refine wpAny_call (codeAny_call_builtin S.plain PySem.F.cmpEntry_ne (@PySem.W.check_slot (model X.prog X.w) _ _ s "object.__ne__" "object" "__ne__" (.ref a) [u] [] _ PySem.F.cmpKind_ne PySem.F.cmpSplit_ne sub (PySem.F.cmpArgs_ne _ _) ?_))
    unfold Builtin.«object.__ne__»
    have room : X.A.in1.units < cLine := hr.in1.units0
    have asked : wpAny (model X.prog X.w) X.A.in1 (callSpecialIfBound? (.ref a) (Str.ofString "__eq__") [u]) (fun r s' => ∃ (b : Bool) (H' : Hp), r = some (.bool b) ∧ Inv X pins σ H' s' ∧ Q (.bl (!b)) H') X.xe s := by
      refine PySem.W.ifBound_K I.kIn J o.at_ o.isFn (wpAny_mono (run_at (vs := [.ref a, y]) I.env0.in1 hr.in1 I F hb (.cons rfl (.cons ry .nil)) hx h) (fun u' s' hq => ?_) fun _ _ z => z)
      obtain ⟨v', H', I', rv, b, rfl, q⟩ := hq
      cases rv
      exact ⟨b, H', rfl, I', q⟩
    repeat (first
      | with_reducible refine wpAny_cRoomFor room ?_
      | (refine wpAny_bind (m := callSpecialIfBound? (.ref a) (Str.ofString "__eq__") [u]) (wpAny_mono asked (fun r s' hq => ?_) fun _ _ z => z))
      | wp_step)
    obtain ⟨b, H', rfl, I', q⟩ := hq
    exact wpAny_bind (wpAny_truthy_bool (wpAny_pure ⟨!b, H', rfl, I', q⟩))
  unfold tryCompare callSpecialIfBound? bindSpecialIfBound?
  have fin : wpAny (model X.prog X.w) X.A (call (.builtin "object.__ne__") ([.ref a] ++ [u]) >>= fun v => pure (some v)) (fun r s' => ∃ (b : Bool) (H' : Hp), r = some (.bool b) ∧ Inv X pins σ H' s' ∧ Q (.bl b) H') X.xe s := wpAny_bind (wpAny_mono body (fun v s' z => let ⟨b, H', e, r⟩ := z; wpAny_pure ⟨b, H', congrArg some e, r⟩) fun _ _ z => z)
  refine wpAny_bind (wpAny_mono (Q := fun r s' => ∃ (b : Bool) (H' : Hp), r = some (.bool b) ∧ Inv X pins σ H' s' ∧ Q (.bl b) H') ?_ (fun r s' z => ?_) fun _ _ z => z)
  · refine wpAny_holding (wpAny_bind (wpAny_bind (wpAny_bind (J.type.here ((PySem.W.looks_findIn I.kIn hne).here ?_)))))
    simp only [S.bind]
    refine wpAny_bind (wpAny_askSetting (wpAny_ite ?_))
    split
    · exact wpAny_bind (wpAny_pure (wpAny_pure fin))
    · exact wpAny_tryCatch (wpAny_bind (wpAny_pure (wpAny_pure fin)))
  · obtain ⟨b, H', rfl, I', q⟩ := z
    exact wpAny_pure ⟨_, rfl, .bl b, H', I', rfl, q⟩
theorem op_neO (o : Own X.K C "__eq__" f) (hne : PySem.W.findIn X.K (.ref C) "__ne__" = some (some (.builtin "object.__ne__"))) (hob : PySem.W.mroIn X.K C (.type "object") = some true) (F : FnOk X.prog X.w X.K X.mg X.base CX k f fd ps sp) (hr : Room (k + 1) X.A) (hb : Binds X.K fd ps []) (hx : Passes CX X.nox E) :
    OpR X (compareOp .NotEq) (rEqO X.K C sp E fun b => !b) := by
  intro pins s σ H x y v u Q I rx ry h
  obtain ⟨a, dx, fs, t, rfl, ea, ty, nf, h⟩ := h
  cases rx
  obtain ⟨ox, od, J⟩ := ins_at I ea
  obtain ⟨Pt, kt, hP, _⟩ := kit_of I ry ty
  have ask := try_ne o hne hob F hr hb hx I ea ry h
  show wpAny (model X.prog X.w) X.A (richCompare .NotEq (.ref a) u) (EP X pins σ Q) X.xe s
  unfold richCompare
  simp only [oneThing_ref]
  refine wpAny_holding (wpAny_bind (wpAny_cRoomFor hr.units0 (wpAny_bind (J.type.here (wpAny_bind ((kt.ty _ _ I.kIn hP).here ?_))))))
  split
  · rename_i q
    have e : PySem.W.subIn X.K t (.ref C) = some false := by
      rcases Bool.or_eq_true_iff.mp nf with e | e
      · rw [beq_iff_eq.mp e] at q
        simp at q
      · exact beq_iff_eq.mp e
    refine wpAny_bind ((PySem.W.looks_subIn I.kIn e).here ?_)
    simp only [Bool.false_eq_true, if_false]
    refine wpAny_bind (wpAny_mono ask (fun r s' z => ?_) fun _ _ e => e)
    obtain ⟨v, rfl, hq⟩ := z
    exact wpAny_pure hq
  · refine wpAny_bind (wpAny_pure ?_)
    simp only [Bool.false_eq_true, if_false]
    refine wpAny_bind (wpAny_mono ask (fun r s' z => ?_) fun _ _ e => e)
    obtain ⟨v, rfl, hq⟩ := z
    exact wpAny_pure hq
end
end L2.Cal
end

section
set_option maxRecDepth 100000
set_option maxHeartbeats 4000000
/-! `v == o`, v of a built-in type that declines: o's own `__eq__` is asked -/
namespace L2.Cal
open PySem PySem.Spec PyProof.Rows L2
open PySem.AutoSeq1 (wpAny_loadPart')
section
variable {P : Program} {w : World} {A : Around} {E : Value → Shared → Prop} {s : Shared} {C b dx l : Addr} {Q : Value → Shared → Prop}
theorem nay_list {o : Obj} (hl : s.heap.get? l = some o) (hc : o.cls = .type "list") (no : PySem.W.Looks (model P w) s.heap (isInstance (.ref b) (.type "list")) false) (q : Q .notImplemented s) : wpAny (model P w) A (call (.builtin "list.__eq__") [.ref l, .ref b]) Q E s := by
  refine wpAny_call_entry PySem.F.slot_list_eq ⟨_, hl, hc⟩ PySem.F.entry_list_eq ?_ (PySem.F.args_list_eq_2 _ _)
  unfold Builtin.«list.__eq__»
  repeat (first | with_reducible refine no.here ?_ | wp_step)
  exact ⟨_, rfl, q⟩
theorem nay_tuple {o : Obj} (hl : s.heap.get? l = some o) (hc : o.cls = .type "tuple") (no : PySem.W.Looks (model P w) s.heap (isInstance (.ref b) (.type "tuple")) false) (q : Q .notImplemented s) : wpAny (model P w) A (call (.builtin "tuple.__eq__") [.ref l, .ref b]) Q E s := by
  refine wpAny_call_entry PySem.F.slot_tuple_eq ⟨_, hl, hc⟩ PySem.F.entry_tuple_eq ?_ (PySem.F.args_tuple_eq_2 _ _)
  unfold Builtin.«tuple.__eq__»
  repeat (first | with_reducible refine no.here ?_ | wp_step)
  exact ⟨_, rfl, q⟩
theorem nay_dict {o : Obj} (hl : s.heap.get? l = some o) (hc : o.cls = .type "dict") (no : PySem.W.Looks (model P w) s.heap (isInstance (.ref b) (.type "dict")) false) (q : Q .notImplemented s) : wpAny (model P w) A (call (.builtin "dict.__eq__") [.ref l, .ref b]) Q E s := by
  refine wpAny_call_entry PySem.F.slot_dict_eq ⟨_, hl, hc⟩ PySem.F.entry_dict_eq ?_ (PySem.F.args_dict_eq_2 _ _)
  unfold Builtin.«dict.__eq__»
  repeat (first | with_reducible refine no.here ?_ | wp_step)
  exact ⟨_, rfl, q⟩
theorem nay_none (q : Q .notImplemented s) : wpAny (model P w) A (call (.builtin "NoneType.__eq__") [.none, .ref b]) Q E s := by
  refine wpAny_call_entry PySem.F.slot_NoneType_eq rfl PySem.F.entry_NoneType_eq ?_ (PySem.F.args_NoneType_eq_2 _ _)
  wp_walk
  exact ⟨_, rfl, q⟩
theorem nay_str {y : Str} {t : Tok} (hb : s.heap.get? b = some (PySem.W.instObj C dx)) (q : Q .notImplemented s) : wpAny (model P w) A (call (.builtin "str.__eq__") [.str y t, .ref b]) Q E s := by
  refine wpAny_call_entry PySem.F.slot_str_eq (typeIs_str s y t) PySem.F.entry_str_eq ?_ (PySem.F.args_str_eq_2 _ _)
  wp_walk using wpAny_loadPart' hb, wpAny_load hb
  exact ⟨_, rfl, q⟩
theorem nay_int {i : Int} {t : Tok} (hb : s.heap.get? b = some (PySem.W.instObj C dx)) (q : Q .notImplemented s) : wpAny (model P w) A (call (.builtin "int.__eq__") [.int i t, .ref b]) Q E s := by
  refine wpAny_call_entry PySem.F.slot_int_eq rfl PySem.F.entry_int_eq ?_ (PySem.F.args_int_eq_2 _ _)
  wp_walk using wpAny_loadPart' hb, wpAny_load hb
  exact ⟨_, rfl, q⟩
end
/-- values whose type declines -/
inductive Dcl (H : Hp) : V → String → Prop where
  | non : Dcl H .non "NoneType"
  | int (i : Int) : Dcl H (.int i) "int"
  | str (y : Str) : Dcl H (.str y) "str"
  | lst {l : Addr} {xs : List V} (e : H l = some (.lst xs)) : Dcl H (.ref l) "list"
  | tup {l : Addr} {xs : List V} (e : H l = some (.tup xs)) : Dcl H (.ref l) "tuple"
  | dct {l : Addr} {kvs : List (Key × V)} (e : H l = some (.dK kvs)) : Dcl H (.ref l) "dict"
section
variable {X : Cx} {CX : CXT} {k : Nat} {C f : Addr} {fd : FuncData} {ps : List Str} {sp : Sp} {E : XK} {pins : List (Addr × Obj)} {σ : St} {H : Hp} {s : Shared}
theorem Dcl.ty {K : PySem.W.Frag} {x : V} {T : String} (d : Dcl H x T) : TyX K H x (.type T) := by
  cases d with
  | non => exact .base .non
  | int i => exact .base (.int i)
  | str y => exact .base (.str y)
  | lst e => exact .base (.lst e)
  | tup e => exact .base (.tup e)
  | dct e => exact .base (.dK e)
theorem Dcl.try_ {A : Around} {E' : Value → Shared → Prop} {Q : Option Value → Shared → Prop} {x : V} {v : Value} {T : String} {b dx : Addr} {fs : List (Str × V)} (d : Dcl H x T) (I : Inv X pins σ H s) (rx : RelV x v) (eb : H b = some (.ins C dx fs)) (no : PySem.W.mroIn X.K C (.type T) = some false) (q : Q none s) :
    wpAny (model X.prog X.w) A (tryCompare v "__eq__" (.ref b)) Q E' s := by
  obtain ⟨mA, O, _⟩ := ins_get I.hok eb
  have ob := O.obj
  obtain ⟨od, J, _⟩ := O.look
  have isi : PySem.W.Looks (model X.prog X.w) s.heap (isInstance (.ref b) (.type T)) false := J.type.andThen (PySem.W.looks_mroIn I.kIn no)
  obtain ⟨Pt, kt, hP, _⟩ := kit_of I rx (d.ty (K := X.K))
  cases d with
  | non =>
    cases (show v = Value.none from rx)
    exact wpAny_tryCompare_declines (T := "NoneType") rfl PySem.F.slot_NoneType_eq (nay_none ⟨rfl, q⟩)
  | int i =>
    obtain ⟨t, rfl⟩ := (show ∃ t, v = Value.int i t from rx)
    exact wpAny_tryCompare_declines (T := "int") rfl PySem.F.slot_int_eq (nay_int ob ⟨rfl, q⟩)
  | str y =>
    obtain ⟨t, rfl⟩ := (show ∃ t, v = Value.str y t from rx)
    exact wpAny_tryCompare_declines (T := "str") (typeIs_str s y t) PySem.F.slot_str_eq (nay_str ob ⟨rfl, q⟩)
  | @lst l xs e =>
    cases (show v = Value.ref l from rx)
    obtain ⟨_, _, n, _, h1⟩ := (show ObjOk X.prog X.w H s.heap l (.lst xs) from I.hok l _ e)
    exact wpAny_tryCompare_declines (T := "list") ⟨_, h1, rfl⟩ PySem.F.slot_list_eq (nay_list h1 rfl isi ⟨rfl, q⟩)
  | @tup l xs e =>
    cases (show v = Value.ref l from rx)
    obtain ⟨_, _, _, o, h1, h2, _⟩ := (show ObjOk X.prog X.w H s.heap l (.tup xs) from I.hok l _ e)
    exact wpAny_tryCompare_declines (T := "tuple") ⟨_, h1, h2⟩ PySem.F.slot_tuple_eq (nay_tuple h1 h2 isi ⟨rfl, q⟩)
  | @dct l kvs e =>
    cases (show v = Value.ref l from rx)
    obtain ⟨_, _, vs, _, o, es, ep, h1, h2, _⟩ := (show ObjOk X.prog X.w H s.heap l (.dK kvs) from I.hok l _ e)
    exact wpAny_tryCompare_declines (T := "dict") ⟨_, h1, h2.1⟩ PySem.F.slot_dict_eq (nay_dict h1 h2.1 isi ⟨rfl, q⟩)
/-- v == o -/
def rEqR (K : PySem.W.Frag) (C : Addr) (sp : Sp) (E : XK) : V → V → Hp → VK → Prop := fun x y H Q => ∃ (b dx : Addr) (fs : List (Str × V)) (T : String), y = .ref b ∧ H b = some (.ins C dx fs) ∧ Dcl H x T ∧ PySem.W.mroIn K C (.type T) = some false ∧ PySem.W.subIn K (.ref C) (.type T) = some false ∧
  sp [.ref b, x] H (fun v H' => ∃ b : Bool, v = .bl b ∧ Q (.bl b) H') E
theorem op_eqR (o : Own X.K C "__eq__" f) (F : FnOk X.prog X.w X.K X.mg X.base CX k f fd ps sp) (hr : Room k X.A) (hb : Binds X.K fd ps []) (hx : Passes CX X.nox E) : OpR X (compareOp .Eq) (rEqR X.K C sp E) := by
  intro pins s σ H x y v u Q I rx ry h
  obtain ⟨b, dx, fs, T, rfl, eb, d, nm, ns, h⟩ := h
  cases ry
  obtain ⟨ox, od, J⟩ := ins_at I eb
  obtain ⟨Pt, kt, hP, _⟩ := kit_of I rx (d.ty (K := X.K))
  show wpAny (model X.prog X.w) X.A (richCompare .Eq v (.ref b)) (EP X pins σ Q) X.xe s
  have one : oneThing? .Eq v (.ref b) = none := by
    cases d <;> first
      | (cases (show v = Value.none from rx); rfl)
      | (obtain ⟨t, rfl⟩ := (show ∃ t, v = Value.int _ t from rx); rfl)
      | (obtain ⟨t, rfl⟩ := (show ∃ t, v = Value.str _ t from rx); rfl)
      | (cases (show v = Value.ref _ from rx); exact oneThing_ref ..)
  unfold richCompare
  simp only [one]
  refine wpAny_holding (wpAny_bind (wpAny_cRoomFor hr.units0 (wpAny_bind ((kt.ty _ _ I.kIn hP).here (wpAny_bind (J.type.here ?_))))))
  have fin : wpAny (model X.prog X.w) X.A (tryCompare (.ref b) "__eq__" v) (fun r s' => ∃ z, r = some z ∧ EP X pins σ Q z s') X.xe s := by
    unfold tryCompare
    refine wpAny_bind (PySem.W.ifBound_K I.kIn J o.at_ o.isFn (wpAny_mono (run_at (vs := [.ref b, x]) I.env0 hr I F hb (.cons rfl (.cons rx .nil)) hx h) (fun u' s' hq => ?_) fun _ _ z => z))
    obtain ⟨v', H', I', rv, c, rfl, q⟩ := hq
    cases rv
    exact wpAny_pure ⟨_, rfl, .bl c, H', I', rfl, q⟩
  have nt : (Value.type T != Value.ref C) = true := by simp
  rw [if_pos nt]
  refine wpAny_bind ((PySem.W.looks_subIn I.kIn ns).here ?_)
  simp only [Bool.false_eq_true, if_false]
  refine wpAny_bind (m := tryCompare v _ (.ref b)) (d.try_ I rx eb nm ?_)
  simp only [Bool.not_false, if_true]
  refine wpAny_bind (m := tryCompare (.ref b) _ v) (wpAny_mono fin (fun r s' z => ?_) fun _ _ e => e)
  obtain ⟨z, rfl, hq⟩ := z
  exact wpAny_pure hq
end
end L2.Cal
end

section
set_option maxRecDepth 100000
set_option maxHeartbeats 4000000
namespace L2.Cal
open PySem PySem.Spec PyProof.Rows L2
section
variable {X : Cx} {CX : CXT} {k : Nat} {C f : Addr} {fd : FuncData} {ps : List Str} {sp : Sp} {E : XK} {pins : List (Addr × Obj)} {σ : St} {H : Hp} {s : Shared}
/-- truth of an object that has a length -/
theorem truth_len {A : Around} {E' : Value → Shared → Prop} {Q : Bool → Hp → Prop} {a dx : Addr} {fs : List (Str × V)} (e0 : Env0 X.prog X.w X.K X.mg X.base A.in1 X.stack s H) (hr : Room k A.in1) (I : Inv X pins σ H s) (ea : H a = some (.ins C dx fs)) (o : Own X.K C "__len__" f) (nb : PySem.W.findIn X.K (.ref C) "__bool__" = some none)
    (F : FnOk X.prog X.w X.K X.mg X.base CX k f fd ps sp) (hb : Binds X.K fd ps []) (hx : Passes CX X.nox E) (h : sp [.ref a] H (fun v H' => ∃ n : Nat, v = .int n ∧ n < 2 ^ 62 ∧ Q (decide (n ≠ 0)) H') E) :
    wpAny (model X.prog X.w) A (truthy (.ref a)) (fun b s' => ∃ H', Inv X pins σ H' s' ∧ Q b H') E' s := by
  obtain ⟨ox, od, J⟩ := ins_at I ea
  unfold truthy
  refine wpAny_bind (m := callSpecial? (.ref a) (Str.ofString "__bool__")) (wpAny_bind (wpAny_bind (J.type.here ((PySem.W.looks_findIn I.kIn nb).here (wpAny_pure ?_)))))
  refine wpAny_bind (wpAny_bind (J.type.here ((PySem.W.looks_findIn I.kIn o.at_).here ?_)))
  rw [if_neg (by simp)]
  refine wpAny_bind (wpAny_runValue (codeAny_builtin entry_len ?_))
  rw [Around.under_plainId plain_len _]
  unfold Builtin.«len»
  refine wpAny_bind (m := oneArg "len" _) (wpAny_pure (wpAny_bind (m := callSpecial? (.ref a) (Str.ofString "__len__")) (PySem.W.special_fn I.kIn J o.at_ o.fn (wpAny_mono (run_at (vs := [.ref a]) e0 hr I F hb (.cons rfl .nil) hx h) (fun u s' hq => ?_) fun _ _ z => z))))
  obtain ⟨v, H', I', rv, n, rfl, lt, q⟩ := hq
  obtain ⟨t, rfl⟩ := rv
  refine wpAny_bind (wpAny_holding (wpAny_pure (wpAny_bind (wpAny_letGo ?_))))
  show wpAny _ _ (if ((n : Int) < 0) then _ else _) _ _ _
  rw [if_neg (by omega)]
  show wpAny _ _ (if ((n : Int) ≥ 2 ^ 63) then _ else _) _ _ _
  rw [if_neg (by omega)]
  refine wpAny_bind (wpAny_mkInt (wpAny_pure ?_))
  show wpAny _ _ (pure ((n : Int) != 0)) _ _ _
  have e : ((n : Int) != 0) = decide (n ≠ 0) := by
    by_cases c : n = 0
    · subst c; rfl
    · rw [decide_eq_true c]
      exact bne_iff_ne.mpr (by omega)
  rw [e]
  exact wpAny_pure ⟨H', I'.tok _, q⟩
/-- bool(o) -/
def rBoolO (C : Addr) (sp : Sp) (E : XK) : List V → Hp → VK → Prop := fun xs H Q => ∃ (a dx : Addr) (fs : List (Str × V)), xs = [.ref a] ∧ H a = some (.ins C dx fs) ∧ sp [.ref a] H (fun v H' => ∃ n : Nat, v = .int n ∧ n < 2 ^ 62 ∧ Q (.bl (decide (n ≠ 0))) H') E
theorem call_boolO (o : Own X.K C "__len__" f) (nb : PySem.W.findIn X.K (.ref C) "__bool__" = some none) (F : FnOk X.prog X.w X.K X.mg X.base CX k f fd ps sp) (hr : Room (k + 3) X.A) (hb : Binds X.K fd ps []) (hx : Passes CX X.nox E) : CallR X (.type "bool") (rBoolO C sp E) := by
  intro pins s σ H xs us Q I r h
  obtain ⟨a, dx, fs, rfl, ea, h⟩ := h
  rw [Vals.ref1 r]
  have tr : ∀ E', wpAny (model X.prog X.w) X.A.in1.in1 (truthy (.ref a)) (fun b s' => ∃ H', Inv X pins σ H' s' ∧ Q (.bl b) H') E' s := fun E' => truth_len (Q := fun b H' => Q (.bl b) H') I.env0.in1.in1.in1 hr.in1.in1.in1 I ea o nb F hb hx h
  refine callType_codes (T := "bool") (Bi := Builtin.«object.__init__») (Q₁ := fun r s₁ => ∃ (b : Bool) (H' : Hp), r = .bool b ∧ Inv X pins σ H' s₁ ∧ Q (.bl b) H') PySem.F.called_bool (PySem.F.typeCall_bool_1 _) PySem.F.entry_object_init ?_ ?_
  · refine codeAny_of_tree ?_
    show wpAny _ X.A.in1.in1 (do checkBuiltinCall "bool.__new__" ⟨[.type "bool", .ref a], []⟩; again (.builtin "bool.__new__" ⟨[.type "bool", .ref a], []⟩)) _ _ s
    refine wpAny_bind (wpAny_of_eq (PySem.F.newCall_bool_1 _) (wpAny_pure ⟨plainId_quiet (by decide +kernel) _, codeAny_builtin PySem.F.entry_bool_new ?_⟩))
    rw [Around.under_plainId (by decide +kernel) _]
    unfold Builtin.«bool.__new__»
    have below := PySem.F.conv_sub_bool
    generalize hT : truthy = T
    repeat (first | assumption | wp_step)
    subst hT
    refine wpAny_mono (tr _) (fun b s' hq => ?_) fun _ _ z => z
    obtain ⟨H', I', q⟩ := hq
    exact wpAny_pure ⟨b, H', rfl, I', q⟩
  · rintro obj s₁ ⟨b, H', rfl, I', q⟩
    exact ⟨rfl, PySem.F.args_object_init_2 _ _, object_init_meets PySem.F.called_bool.init.lookup PySem.F.called_bool.made (by decide) X.prog X.w X.A.in1 _ s₁ ⟨rfl, rfl, ⟨.bl b, H', I', rfl, q⟩⟩⟩
end
end L2.Cal
end

section
set_option maxRecDepth 100000
set_option maxHeartbeats 4000000
namespace L2.Cal
open PySem PySem.Spec PyProof.Rows L2
def clsBody (s : Stmt) : List Stmt := match s with
  | .ClassDef _ _ _ b _ _ _ _ _ _ _ => b
  | _ => []
def methS (j : Nat) : Stmt := (clsBody (topS 13)).getD j (.Pass ⟨0, 0, 0, 0⟩)
abbrev sIni : Stmt := methS 0
theorem scIni : FnScope ["self", "orders", "right"] ["self", "orders"] (defScope sIni) := ⟨rfl, rfl, rfl, by decide +kernel, rfl, by decide +kernel, by decide +kernel⟩
abbrev sOrd : Stmt := methS 2
theorem scOrd : FnScope ["self"] ["self"] (defScope sOrd) := ⟨rfl, rfl, rfl, by decide +kernel, rfl, by decide +kernel, by decide +kernel⟩
abbrev sThi : Stmt := methS 3
theorem scThi : FnScope ["self"] ["self"] (defScope sThi) := ⟨rfl, rfl, rfl, by decide +kernel, rfl, by decide +kernel, by decide +kernel⟩
abbrev sLen : Stmt := methS 4
theorem scLen : FnScope ["self"] ["self"] (defScope sLen) := ⟨rfl, rfl, rfl, by decide +kernel, rfl, by decide +kernel, by decide +kernel⟩
abbrev sStr : Stmt := methS 5
theorem scStr : FnScope ["self"] ["self"] (defScope sStr) := ⟨rfl, rfl, rfl, by decide +kernel, rfl, by decide +kernel, by decide +kernel⟩
abbrev sCon : Stmt := methS 6
theorem scCon : FnScope ["self", "x"] ["self", "x"] (defScope sCon) := ⟨rfl, rfl, rfl, by decide +kernel, rfl, by decide +kernel, by decide +kernel⟩
abbrev sEqu : Stmt := methS 7
theorem scEqu : FnScope ["self", "other"] ["self", "other"] (defScope sEqu) := ⟨rfl, rfl, rfl, by decide +kernel, rfl, by decide +kernel, by decide +kernel⟩
/-- what the class is asked for -/
structure RollC (K : PySem.W.Frag) (mg : Str → Option Value) (C : Addr) : Prop where
  g : mg "Roll" = some (.ref C)
  cls : Cls K C
  no1 : NoAttr K C "_orders"
  no2 : NoAttr K C "_things"
  dcl : PySem.W.findIn K (.ref C) "__class__" = some (some (.builtin "object.__class__"))
  dget : PySem.W.specialIn K (.builtin "object.__class__") "__get__" = some (some (.builtin "getset_descriptor.__get__"))
  dtk : PySem.W.takesIn K (.builtin "object.__class__") = some true
  mobj : PySem.W.mroIn K C (.type "object") = some true
def RollAt (C : Addr) (H : Hp) (a t : Addr) (z : Str) : Prop := ∃ dx fs, H a = some (.ins C dx fs) ∧ fs.lookup ("_orders" : Str) = some (.ref t) ∧ fs.lookup ("_things" : Str) = some (.str z)
theorem RollAt.same {C : Addr} {H H' : Hp} {a t : Addr} {z : Str} (r : RollAt C H a t z) (s : Same H H') : RollAt C H' a t z := by
  obtain ⟨dx, fs, h, r⟩ := r
  exact ⟨dx, fs, s _ _ h, r⟩
/-- a lot that a roll takes -/
structure Good (ys : List Str) (y : Str) : Prop where
  lot : Lot ys y
  let_ : Lett y
  h3 : 3 ≤ y.cps.size
  h6 : y.cps.size ≤ 6
  few : ys.length ≤ 48
theorem seqT_off {K : PySem.W.Frag} {a t C dx : Addr} {fs : List (Str × V)} {H H' : Hp} {xs : List V} (h : SqT K H t xs) (ha : H a = some (.ins C dx fs)) (k : ∀ b o, b ≠ a → H b = some o → H' b = some o) : SqT K H' t xs := by
  rcases h with (z | ⟨o, z⟩) | z
  · exact .inl (.inl (k _ _ (fun e => by rw [e, ha] at z; cases z) z))
  · exact .inl (.inr ⟨o, k _ _ (fun e => by rw [e, ha] at z; cases z) z⟩)
  · exact .inr z
def spIni (K : PySem.W.Frag) (C : Addr) : Sp := fun vs H Q _ => ∃ (a t dx : Addr) (ys : List Str) (y : Str), vs = [.ref a, .ref t] ∧ H a = some (.ins C dx []) ∧ SqT K H t (ys.map V.str) ∧ TyX K H (.ref t) (.type "tuple") ∧ Good ys y ∧
  ∀ H' : Hp, (∀ b o, b ≠ a → H b = some o → H' b = some o) → RollAt C H' a t (tidy y) → Q .non H'
def spOrd (C : Addr) : Sp := fun vs H Q _ => ∃ (a t : Addr) (z : Str), vs = [.ref a] ∧ RollAt C H a t z ∧ Q (.ref t) H
def spThi (C : Addr) : Sp := fun vs H Q _ => ∃ (a t : Addr) (z : Str), vs = [.ref a] ∧ RollAt C H a t z ∧ Q (.str z) H
def spLen (K : PySem.W.Frag) (C : Addr) : Sp := fun vs H Q _ => ∃ (a t : Addr) (z : Str) (xs : List V), vs = [.ref a] ∧ RollAt C H a t z ∧ SqT K H t xs ∧ Q (.int xs.length) H
def spStr (K : PySem.W.Frag) (C : Addr) : Sp := fun vs H Q _ => ∃ (a t : Addr) (z : Str) (ys : List Str), vs = [.ref a] ∧ RollAt C H a t z ∧ SqT K H t (ys.map V.str) ∧ (ys.map (·.length)).sum + ys.length ≤ 10000 ∧ Q (.str (Txt.join (PySem.Str.ofString "\n") ys)) H
section
variable {P : Program} {w : World} {K : PySem.W.Frag} {mg : Str → Option Value} {base : Heap} {C : Addr}
theorem ok_ini {f fR fT : Addr} {fd fdR fdT fdI : FuncData} (F : Fun K "__init__" "Roll.__init__" sIni f fd) (DR : DefAt K mg "right_ahead" sRah ["orders"] fR fdR) {fI : Addr} (DI : DefAt K mg "is_order" sIsO ["value"] fI fdI) (DT : DefAt K mg "things_of" sThO ["order"] fT fdT) (T : Txt mg) (Lm : Lims mg) (R : RollC K mg C) :
    FnOk P w K mg base CX0 3 f fd ["self", "orders"] (spIni K C) := by
  have GT : FnOk P w K mg base CX0 1 fT fdT ["order"] spThO := ok_tho DT T
  have GR : FnOk P w K mg base CX0 2 fR fdR ["orders"] (spRah K) := ok_rah DR DI DT T Lm
  refine F.ok scIni (fun vs H Q E h => ?_) (fun cdv A outer sh H vs Q E hr h => ?_)
  · obtain ⟨a, t, dx, ys, y, rfl, _⟩ := h
    rfl
  · obtain ⟨a, t, dx, ys, y, rfl, ha, hT, ty, G, q⟩ := h
    refine ⟨_, (pss_cons (ps_if (PW.pt (pw_or (pt_not (pt_val (pe_callB call_isi (by rfl) T.b_isinstance (by decide +kernel) (pa_cons (pv 1) (pa_cons (pe_bty (n := "tuple") (by rfl) T.b_tuple (by decide +kernel)) pa_nil))))) (pw_or1 (pt_cmpR op_eq (pe_callB call_len_seq (by rfl) T.b_len (by decide +kernel) (pa_cons (pv 1) pa_nil)) pe_int (nomark _)))))
   (pss_one ps_never)
   pss_nil)
  (pss_cons (ps_set (i := 2) scIni.nd rfl (.inl rfl) (pe_call GR (hr.mono (by decide)) (by rfl) DR.g DR.F.kp DR.b .nil pass0 (pa_cons (pv 1) pa_nil)))
  (pss_cons (ps_if (pt_cmpR op_lt (pv 2) (pe_callB call_len_seq (by rfl) T.b_len (by decide +kernel) (pa_cons (pv 1) pa_nil)) (nomark _))
   (pss_one ps_never)
   pss_nil)
  (pss_cons (ps_fld (pv 0) (pv 1) rfl)
  (pss_one (ps_fld (pv 0) (pe_call GT (hr.mono (by decide)) (by rfl) DT.g DT.F.kp DT.b .nil pass0 (pa_cons (pe_ix ix_tup (pv 1) pe_int (fun _ _ => rfl)) pa_nil)) rfl)))))), ?_⟩
    have h0 : 0 < ys.length := G.lot.some
    refine ⟨_, rfl, .ref t, .ty "tuple", .type "tuple", .type "tuple", true, rfl, .ty _, ty, rfl, true, rfl, iteF ?_⟩
    refine ⟨_, rfl, t, _, rfl, .inr hT, rfl, _, rfl, ite2 (fun e => ?_) (fun e => ?_)⟩
    · have := V.int.inj (of_decide_eq_true e)
      rw [List.length_map] at this
      omega
    refine ⟨_, rfl, t, ys, y, rfl, hT, G.lot, G.let_, G.h3, G.h6, G.few, fun H1 s1 => ?_⟩
    refine ⟨_, rfl, _, rfl, t, _, rfl, .inr (same_seqT hT s1), _, _, rfl, rfl, _, rfl, ite2 (fun e => ?_) (fun e => ?_)⟩
    · have := of_decide_eq_true e
      rw [List.length_map] at this
      omega
    refine ⟨_, rfl, _, rfl, a, C, dx, [], rfl, s1 _ _ ha, R.cls, R.no1, by decide, ?_⟩
    have off : ∀ b o, b ≠ a → H1 b = some o → (upd H1 a (.ins C dx (putF "_orders" (.ref t) []))) b = some o := fun b o n e => by rw [upd_ne n]; exact e
    have hT2 := seqT_off (same_seqT hT s1) (s1 _ _ ha) off
    have at0 : atI (ys.map V.str) 0 = some (.str ys[0]) := atI_nat (j := 0) (by rw [List.getElem?_map, List.getElem?_eq_getElem h0] <;> rfl)
    obtain ⟨sz0, _⟩ := G.lot.fine G.let_ G.h3 G.h6 (List.getElem_mem h0)
    refine ⟨_, rfl, t, _, 0, _, rfl, rfl, hT2, at0, ys[0], rfl, (by have := G.h6; omega), fun H2 s2 => ⟨_, rfl, a, C, dx, _, rfl, s2 _ _ upd_same, R.cls, R.no2, Nat.lt_of_le_of_lt (length_putF _ _ _) (by decide), ?_⟩⟩
    rw [tidy_same (G.lot.of _ (List.getElem_mem h0))]
    refine q _ (fun b o n e => ?_) ⟨dx, _, upd_same, ?_, ?_⟩
    · rw [upd_ne n]
      exact s2 _ _ (off b o n (s1 _ _ e))
    · rw [lookup_putF, if_neg (by decide), lookup_putF, if_pos rfl]
    · rw [lookup_putF, if_pos rfl]
theorem ok_ord {f : Addr} {fd : FuncData} (F : Fun K "orders" "Roll.orders" sOrd f fd) (R : RollC K mg C) : FnOk P w K mg base CX0 1 f fd ["self"] (spOrd C) := by
  refine F.ok scOrd (fun vs H Q E h => ?_) (fun cdv A outer sh H vs Q E hr h => ?_)
  · obtain ⟨a, t, z, rfl, _⟩ := h
    rfl
  · obtain ⟨a, t, z, rfl, ⟨dx, fs, ha, l1, l2⟩, q⟩ := h
    exact ⟨_, (pss_one (ps_ret (pe_fld (pv 0) rfl))), _, rfl, a, C, dx, fs, _, rfl, ha, R.cls, R.no1, l1, q⟩
theorem ok_thi {f : Addr} {fd : FuncData} (F : Fun K "things" "Roll.things" sThi f fd) (R : RollC K mg C) : FnOk P w K mg base CX0 1 f fd ["self"] (spThi C) := by
  refine F.ok scThi (fun vs H Q E h => ?_) (fun cdv A outer sh H vs Q E hr h => ?_)
  · obtain ⟨a, t, z, rfl, _⟩ := h
    rfl
  · obtain ⟨a, t, z, rfl, ⟨dx, fs, ha, l1, l2⟩, q⟩ := h
    exact ⟨_, (pss_one (ps_ret (pe_fld (pv 0) rfl))), _, rfl, a, C, dx, fs, _, rfl, ha, R.cls, R.no2, l2, q⟩
theorem ok_len {f : Addr} {fd : FuncData} (F : Fun K "__len__" "Roll.__len__" sLen f fd) (T : Txt mg) (R : RollC K mg C) : FnOk P w K mg base CX0 1 f fd ["self"] (spLen K C) := by
  refine F.ok scLen (fun vs H Q E h => ?_) (fun cdv A outer sh H vs Q E hr h => ?_)
  · obtain ⟨a, t, z, xs, rfl, _⟩ := h
    rfl
  · obtain ⟨a, t, z, xs, rfl, ⟨dx, fs, ha, l1, l2⟩, hT, q⟩ := h
    exact ⟨_, (pss_one (ps_ret (pe_callB call_len_seq (by rfl) T.b_len (by decide +kernel) (pa_cons (pe_fld (pv 0) rfl) pa_nil)))), _, rfl, a, C, dx, fs, _, rfl, ha, R.cls, R.no1, l1, t, _, rfl, .inr hT, q⟩
theorem ok_str {f : Addr} {fd : FuncData} (F : Fun K "__str__" "Roll.__str__" sStr f fd) (T : Txt mg) (R : RollC K mg C) : FnOk P w K mg base CX0 1 f fd ["self"] (spStr K C) := by
  refine F.ok scStr (fun vs H Q E h => ?_) (fun cdv A outer sh H vs Q E hr h => ?_)
  · obtain ⟨a, t, z, ys, rfl, _⟩ := h
    rfl
  · obtain ⟨a, t, z, ys, rfl, ⟨dx, fs, ha, l1, l2⟩, hT, hl, q⟩ := h
    refine ⟨_, (pss_one (ps_ret (pe_join pe_str (pe_fld (pv 0) rfl)))), ⟨_, rfl⟩, _, rfl, a, C, dx, fs, _, rfl, ha, R.cls, R.no1, l1, _, t, ys, rfl, rfl, .inr hT, ?_, q⟩
    rw [show (PySem.Str.ofString "\n").length = 1 by decide +kernel]
    omega
/-- x is a text of ys -/
def inB : V → List Str → Bool
  | .str y, ys => decide (y ∈ ys)
  | _, _ => false
/-- x in o: only texts are in it -/
def spCon (K : PySem.W.Frag) (C : Addr) : Sp := fun vs H Q _ => ∃ (a t : Addr) (z : Str) (ys : List Str) (x : V) (T : Value) (b : Bool), vs = [.ref a, x] ∧ RollAt C H a t z ∧ SqT K H t (ys.map V.str) ∧ TyX K H x T ∧ PySem.W.kitOne K T (.type "str") = some b ∧ (b = true → ∃ y, x = .str y) ∧
  Q (.bl (b && inB x ys)) H
theorem ok_con {f : Addr} {fd : FuncData} (F : Fun K "__contains__" "Roll.__contains__" sCon f fd) (T : Txt mg) (R : RollC K mg C) : FnOk P w K mg base CX0 1 f fd ["self", "x"] (spCon K C) := by
  refine F.ok scCon (fun vs H Q E h => ?_) (fun cdv A outer sh H vs Q E hr h => ?_)
  · obtain ⟨a, t, z, ys, x, T, b, rfl, _⟩ := h
    rfl
  · obtain ⟨a, t, z, ys, x, Ty, b, rfl, ⟨dx, fs, ha, l1, l2⟩, hT, ty, kit, bt, q⟩ := h
    refine ⟨_, (pss_one (ps_ret (pe_and (pe_callB call_isi (by rfl) T.b_isinstance (by decide +kernel) (pa_cons (pv 1) (pa_cons (pe_bty (n := "str") (by rfl) T.b_str (by decide +kernel)) pa_nil))) (pe_one (pe_cmpR op_in_seq (pv 1) (pe_fld (pv 0) rfl) (by rfl)))))), ?_⟩
    refine ⟨_, rfl, x, .ty "str", Ty, .type "str", b, rfl, .ty _, ty, kit, b, rfl, ?_⟩
    cases b with
    | false => exact iteF q
    | true =>
      obtain ⟨y, rfl⟩ := bt rfl
      refine iteT ⟨_, rfl, _, rfl, a, C, dx, fs, _, rfl, ha, R.cls, R.no1, l1, t, _, rfl, .inr hT, rfl, by simp [List.all_eq_true, flatV], ?_⟩
      have e : inV (.str y) (ys.map V.str) = inB (.str y) ys := by
        unfold inV inB
        rw [Bool.eq_iff_iff, decide_eq_true_eq, List.any_eq_true]
        constructor
        · rintro ⟨v, hv, e⟩
          obtain ⟨y', hy, rfl⟩ := List.mem_map.mp hv
          have : y' = y := by simpa [eqV] using e
          exact this ▸ hy
        · intro hy
          exact ⟨.str y, List.mem_map.mpr ⟨y, hy, rfl⟩, by simp [eqV]⟩
      rw [Bool.true_and, ← e] at q
      exact q
theorem dp_strs {H0 : Hp} : ∀ ys : List Str, DpAll K H0 (ys.map V.str) (ys.map PyData.str)
  | [] => .nil
  | y :: ys => .cons (.str y) (dp_strs ys)
theorem shaped_strs (ys : List Str) (ok : ∀ y, y ∈ ys → PyData.strOk y = true) : SeqAt.shaped (.tuple (ys.map PyData.str)) = true := by
  have lay : ∀ ys : List Str, (∀ y, y ∈ ys → PyData.strOk y = true) → PyData.canLayAll0 (ys.map PyData.str) = true := fun ys => by
    induction ys with
    | nil => intro _; simp [PyData.canLayAll0]
    | cons y ys ih =>
      intro ok
      have h1 := ok y (List.mem_cons_self ..)
      simp [PyData.canLayAll0, PyData.canLay0, h1, ih fun z hz => ok z (List.mem_cons_of_mem _ hz)]
  have deep : ∀ ys : List Str, PyData.depthAll (ys.map PyData.str) = 0 := fun ys => by
    induction ys with
    | nil => simp [PyData.depthAll]
    | cons y ys ih => simp [PyData.depthAll, PyData.depth, ih]
  simp [SeqAt.shaped, PyData.canLay0, lay ys ok, PyData.depth, deep]
theorem eqv_strs (ys zs : List Str) : PyData.eqv (.tuple (ys.map PyData.str)) (.tuple (zs.map PyData.str)) = decide (ys = zs) := by
  have all : ∀ ys zs : List Str, PyData.eqvAll (ys.map PyData.str) (zs.map PyData.str) = decide (ys = zs) := fun ys => by
    induction ys with
    | nil => intro zs; cases zs <;> simp [PyData.eqvAll]
    | cons y ys ih =>
      intro zs
      cases zs with
      | nil => simp [PyData.eqvAll]
      | cons z zs =>
        simp only [List.map_cons, PyData.eqvAll, ih]
        simp [PyData.eqv, show (y == z) = decide (y = z) by rw [Bool.eq_iff_iff]; simp]
  simp [PyData.eqv, all]
/-- o == x -/
def spEqu (K : PySem.W.Frag) (C : Addr) : Sp := fun vs H Q _ => ∃ (a t : Addr) (z : Str) (x : V), vs = [.ref a, x] ∧ RollAt C H a t z ∧
  ((∃ (b t2 : Addr) (z2 : Str) (ys zs : List Str), x = .ref b ∧ RollAt C H b t2 z2 ∧ SqT K H t (ys.map V.str) ∧ SqT K H t2 (zs.map V.str) ∧ (∀ y, y ∈ ys → PyData.strOk y = true) ∧ (∀ y, y ∈ zs → PyData.strOk y = true) ∧ Q (.bl (decide (ys = zs))) H) ∨ (∃ T : Value, TyX K H x T ∧ PySem.W.kitOne K T (.ref C) = some false ∧ Q (.bl false) H))
theorem ok_equ {f : Addr} {fd : FuncData} (F : Fun K "__eq__" "Roll.__eq__" sEqu f fd) (T : Txt mg) (R : RollC K mg C) : FnOk P w K mg base CX0 1 f fd ["self", "other"] (spEqu K C) := by
  refine F.ok scEqu (fun vs H Q E h => ?_) (fun cdv A outer sh H vs Q E hr h => ?_)
  · obtain ⟨a, t, z, x, rfl, _⟩ := h
    rfl
  · obtain ⟨a, t, z, x, rfl, ⟨dx, fs, ha, l1, l2⟩, h⟩ := h
    have hu := hr.units
    refine ⟨_, (pss_one (ps_ret (pe_and (pe_callB call_isi (by rfl) T.b_isinstance (by decide +kernel) (pa_cons (pv 1) (pa_cons (pe_cls (by rfl) R.g) pa_nil))) (pe_one (pe_cmpR (op_eqD hu) (pe_fld (pv 0) rfl) (pe_fld (pv 1) rfl) (nomark _)))))), ?_⟩
    rcases h with ⟨b, t2, z2, ys, zs, rfl, ⟨dx2, fs2, hb, m1, m2⟩, hT, hT2, o1, o2, q⟩ | ⟨Ty, ty, kit, q⟩
    · have ty : TyX K H (.ref b) (.ref C) := .base (.ins hb R.cls R.dcl R.dget R.dtk R.mobj)
      have kit : PySem.W.kitOne K (.ref C) (.ref C) = some true := by unfold PySem.W.kitOne; rw [if_pos (by simp)]
      refine ⟨_, rfl, .ref b, .ref C, .ref C, .ref C, true, rfl, .own C, ty, kit, true, rfl, iteT ?_⟩
      refine ⟨_, rfl, a, C, dx, fs, _, rfl, ha, R.cls, R.no1, l1, _, rfl, b, C, dx2, fs2, _, rfl, hb, R.cls, R.no1, m1, _, _, .tup hT (dp_strs ys), .tup hT2 (dp_strs zs), shaped_strs _ o1, shaped_strs _ o2, ?_⟩
      rw [eqv_strs]
      exact q
    · exact ⟨_, rfl, x, .ref C, Ty, .ref C, false, rfl, .own C, ty, kit, false, rfl, iteF q⟩
end
end L2.Cal
end

section
set_option maxRecDepth 100000
set_option maxHeartbeats 4000000
/-! comprehensions of three clauses -/
namespace L2.C3
open PySem PySem.Spec PyProof.Rows L2
abbrev TB := St → Hp → (Hp → Prop) → Prop
/-- a later clause: its own walk in each turn of the one ahead, Nx behind it -/
def tCl (wi : TI) (g : TG) (tt : TT) (vs : List Nat) (body : TB) : TB := fun σ H Nx => wi σ H fun J H1 => ∃ W : Nat → Nat → Hp → Prop, (∃ m, W 0 m H1) ∧ ∀ i m H, W i m H →
  (J.stop i H ∧ Nx H) ∨ (J.go i H ∧ ∃ N1 : Hp → Prop, (∀ H', N1 H' → ∃ m', m' < m ∧ W (i + 1) m' H') ∧ ∀ x H', J.yld i H x H' → g x (wipe σ vs) H' fun σ2 H2 => wipe σ2 vs = wipe σ vs ∧ tt σ2 H2 fun b H3 => if b = true then body σ2 H3 N1 else N1 H3)
/-- the element is put behind the others -/
def tPut (te : TE) (D : Addr) : TB := fun σ H Nx => te σ H fun y H' => ∃ acc, H' D = some (.lst acc) ∧ acc.length < sizeLine ∧ Nx (upd H' D (.lst (acc ++ [y])))
/-- the first clause -/
def tTop (wi : TI) (g : TG) (tt : TT) (vs : List Nat) (body : Addr → TB) : TE := fun σ H Q => wi σ H fun J H1 => ∀ D, H1 D = none → ∃ W : Nat → Nat → Hp → Prop, (∃ m, W 0 m (upd H1 D (.lst []))) ∧ ∀ i m H, W i m H →
  (J.stop i H ∧ Q (.ref D) H) ∨ (J.go i H ∧ ∃ N1 : Hp → Prop, (∀ H', N1 H' → ∃ m', m' < m ∧ W (i + 1) m' H') ∧ ∀ x H', J.yld i H x H' → g x (wipe σ vs) H' fun σ2 H2 => wipe σ2 vs = wipe σ vs ∧ tt σ2 H2 fun b H3 => if b = true then body D σ2 H3 N1 else N1 H3)
abbrev No : Value → Shared → Prop := fun _ _ => False
section
variable {prog : Program} {w : World} {A : Around} {R : Result → Shared → Prop} {s : Shared} {elt t i1 : Expr} {gs : List Comprehension} {ifs : List Expr} {scope : Scope} {pos p : Pos} {it acc : Value} {env : Env} {k : Nat}
/-- what all turns share -/
abbrev TurnW (prog : Program) (w : World) (A : Around) (env : Env) (t : Expr) (ifs : List Expr) (it : Value) (stop : Shared → Prop) (body next : Shared → Prop) (E : Value → Shared → Prop) (s : Shared) : Prop :=
  wpAny (model prog w) A (pyNext it) (fun r s1 => match r with
    | none => stop s1
    | some v => wpAny (model prog w) A (letOwnedTupleGo t it v) (fun _ s2 => wpAny (model prog w) A (assign t env v) (fun _ s3 =>
        wpAny (model prog w) A (forIn ifs true fun c r => if r = true then do let y ← isTrue c env (eval c env); pure (ForInStep.yield y) else pure (ForInStep.yield r)) (fun y s4 => if y = true then body s4 else next s4) E s3) E s2) E s1) E s
abbrev MidW (prog : Program) (w : World) (A : Around) (e i1 : Expr) (k : Nat) (acc : Value) (env : Env) (E : Value → Shared → Prop) (R : Shared → Prop) (s : Shared) : Prop :=
  wpAny (model prog w) A (eval i1 env) (fun x s1 => wpAny (model prog w) A (pyIter x) (fun j s2 => codeAny (model prog w) A (.compStart e k j acc env) (fun r s3 => match r with | .ok _ => R s3 | .error _ => False) s2) E s1) E s
abbrev EndW (prog : Program) (w : World) (A : Around) (elt : Expr) (acc : Value) (env : Env) (E : Value → Shared → Prop) (R : Shared → Prop) (s : Shared) : Prop :=
  wpAny (model prog w) A (eval elt env) (fun x s1 => wpAny (model prog w) A (call (.builtin "list.append") [acc, x]) (fun _ s2 => R s2) E s1) E s
theorem loop_mid (ht : compTurn (.ListComp elt gs scope pos) k it acc env = (do
      standAt p
      match ← pyNext it with
      | none => pure (.done .next)
      | some v =>
        letOwnedTupleGo t it v
        assign t env v
        let mut ok := true
        for c in ifs do
          if ok then ok ← isTrue c env (eval c env)
        if ok then
          let x ← eval i1 env
          standAt i1.pos
          let x ← foldedSetIterable i1 env x
          let _ ← runOwn (.compStart (.ListComp elt gs scope pos) (k + 1) (← holding [x] (pyIter x)) acc env) env
        again (.compLoop (.ListComp elt gs scope pos) k it acc env)))
    (hs : ∀ x, foldedSetIterable i1 env x = pure x) (I : Nat → Shared → Prop)
    (turn : ∀ n s, I n s → TurnW prog w A env t ifs it (R (.ok .next)) (MidW prog w A (.ListComp elt gs scope pos) i1 (k + 1) acc env (notedBy (model prog w) A env fun e z => R (.error e) z) fun z => ∃ m, m < n ∧ I m z) (fun z => ∃ m, m < n ∧ I m z) (notedBy (model prog w) A env fun e z => R (.error e) z) s)
    (n : Nat) (h : I n s) : codeAny (model prog w) A (.compLoop (.ListComp elt gs scope pos) k it acc env) R s := by
  refine codeAny_loop rfl I (fun n s hI => ?_) n h
  show wpAny _ A (Sem.onRaise (compTurn (.ListComp elt gs scope pos) k it acc env) fun x => do noteFrame x env; theTreesLotGoes x) _ _ s
  refine wpAny_noted ?_
  rw [ht]
  refine wpAny_bind (wpAny_standAt (wpAny_bind (wpAny_mono (turn n s hI) (fun r z1 h1 => ?_) fun _ _ q => q)))
  cases r with
  | none => exact wpAny_pure h1
  | some v =>
    refine wpAny_bind (wpAny_mono h1 (fun _ z2 h2 => wpAny_bind (wpAny_mono h2 (fun _ z3 h3 => wpAny_bind (wpAny_mono h3 (fun y z4 h4 => ?_) fun _ _ q => q)) fun _ _ q => q)) fun _ _ q => q)
    cases y with
    | false => exact wpAny_pure ⟨rfl, h4⟩
    | true =>
      refine wpAny_bind (wpAny_mono h4 (fun x z5 h5 => wpAny_bind (wpAny_standAt (wpAny_bind (wpAny_of_eq (hs x) (wpAny_bind (wpAny_holding (wpAny_mono h5 (fun j z6 h6 => ?_) fun _ _ q => q))))))) fun _ _ q => q)
      refine wpAny_bind (wpAny_runOwn ?_)
      rw [Around.mark_none]
      refine codeAny_mono h6 fun r z7 hr => ?_
      cases r with
      | error e => exact hr.elim
      | ok f => first | exact wpAny_pure ⟨rfl, hr⟩ | exact wpAny_bind (wpAny_pure (wpAny_pure ⟨rfl, hr⟩))
theorem loop_end (ht : compTurn (.ListComp elt gs scope pos) k it acc env = (do
      standAt p
      match ← pyNext it with
      | none => pure (.done .next)
      | some v =>
        letOwnedTupleGo t it v
        assign t env v
        let mut ok := true
        for c in ifs do
          if ok then ok ← isTrue c env (eval c env)
        if ok then
          (do let _ ← call (.builtin "list.append") [acc, ← eval elt env])
        again (.compLoop (.ListComp elt gs scope pos) k it acc env)))
    (I : Nat → Shared → Prop)
    (turn : ∀ n s, I n s → TurnW prog w A env t ifs it (R (.ok .next)) (EndW prog w A elt acc env (notedBy (model prog w) A env fun e z => R (.error e) z) fun z => ∃ m, m < n ∧ I m z) (fun z => ∃ m, m < n ∧ I m z) (notedBy (model prog w) A env fun e z => R (.error e) z) s)
    (n : Nat) (h : I n s) : codeAny (model prog w) A (.compLoop (.ListComp elt gs scope pos) k it acc env) R s := by
  refine codeAny_loop rfl I (fun n s hI => ?_) n h
  show wpAny _ A (Sem.onRaise (compTurn (.ListComp elt gs scope pos) k it acc env) fun x => do noteFrame x env; theTreesLotGoes x) _ _ s
  refine wpAny_noted ?_
  rw [ht]
  refine wpAny_bind (wpAny_standAt (wpAny_bind (wpAny_mono (turn n s hI) (fun r z1 h1 => ?_) fun _ _ q => q)))
  cases r with
  | none => exact wpAny_pure h1
  | some v =>
    refine wpAny_bind (wpAny_mono h1 (fun _ z2 h2 => wpAny_bind (wpAny_mono h2 (fun _ z3 h3 => wpAny_bind (wpAny_mono h3 (fun y z4 h4 => ?_) fun _ _ q => q)) fun _ _ q => q)) fun _ _ q => q)
    cases y with
    | false => exact wpAny_pure ⟨rfl, h4⟩
    | true => exact wpAny_bind (wpAny_bind (wpAny_mono h4 (fun x z5 h5 => wpAny_bind (wpAny_mono h5 (fun _ z6 h6 => wpAny_pure (wpAny_pure ⟨rfl, h6⟩)) fun _ _ q => q)) fun _ _ q => q))
/-- a later clause begins -/
theorem start_by {c : Comprehension} (hk : gs[k]? = some c) (hna : c.is_async = 0) (h0 : codeAny (model prog w) A (.compLoop (.ListComp elt gs scope pos) k it acc env) R s)
    (h : wpAny (model prog w) A (pyIter it) (fun j z => codeAny (model prog w) A (.compLoop (.ListComp elt gs scope pos) k j acc env) R z) (notedBy (model prog w) A env fun x z => R (.error x) z) s) :
    codeAny (model prog w) A (.compStart (.ListComp elt gs scope pos) k it acc env) R s := by
  refine codeAny_of_tree ?_
  show wpAny _ _ (Sem.onRaise (compStart (.ListComp elt gs scope pos) k it acc env) fun x => do noteFrame x env; standAt theWindowsPlace) _ _ s
  refine wpAny_notedAt ?_
  have hcl : (clausesOf (.ListComp elt gs scope pos))[k]? = some c := hk
  unfold compStart
  rw [hcl]
  have ha : (Option.elim (some c) false fun x => x.is_async != 0) = false := by show (c.is_async != 0) = false; rw [hna]; rfl
  simp only [ha, Bool.false_eq_true, if_false]
  show wpAny _ _ (ask >>= _) _ _ s
  refine wpAny_bind (wpAny_askSetting (wpAny_ite ?_))
  split
  · first | exact wpAny_bind (wpAny_pure (wpAny_pure (And.intro rfl h0))) | exact wpAny_pure (And.intro rfl h0)
  · refine wpAny_bind (wpAny_rule ?_)
    show wpAny _ _ (standAt c.iter.pos >>= _) _ _ s
    exact wpAny_bind (wpAny_standAt (wpAny_bind (wpAny_mono h (fun j z q => wpAny_pure (And.intro rfl q)) fun _ _ x => x)))
end

theorem noX {α : Type} {t : Sem α} {Q Q' : α → Shared → Prop} {M : Model} {A : Around} {E : Value → Shared → Prop} {s : Shared} (hx : E = No) (h : wpAny M A t Q E s) (hQ : ∀ a s, Q a s → Q' a s) : wpAny M A t Q' No s := by
  rw [hx] at h
  exact wpAny_mono h hQ fun _ _ z => z
section
variable {prog : Program} {w : World} {A : Around} {E : Value → Shared → Prop}
theorem TurnW.any {env : Env} {t : Expr} {ifs : List Expr} {it : Value} {stop body body' next : Shared → Prop} {s : Shared} (h : TurnW prog w A env t ifs it stop body next No s) (hb : ∀ s, body s → body' s) : TurnW prog w A env t ifs it stop body' next E s := by
  refine wpAny_mono h (fun r s1 h1 => ?_) fun _ _ z => z.elim
  cases r with
  | none => exact h1
  | some v =>
    refine wpAny_mono h1 (fun _ s2 h2 => wpAny_mono h2 (fun _ s3 h3 => wpAny_mono h3 (fun y s4 h4 => ?_) fun _ _ z => z.elim) fun _ _ z => z.elim) fun _ _ z => z.elim
    cases y with
    | false => exact h4
    | true => exact hb _ h4
theorem MidW.any {e i1 : Expr} {k : Nat} {acc : Value} {env : Env} {R : Shared → Prop} {s : Shared} (h : MidW prog w A e i1 k acc env No R s) : MidW prog w A e i1 k acc env E R s :=
  wpAny_mono h (fun _ s1 h1 => wpAny_mono h1 (fun _ _ h2 => h2) fun _ _ z => z.elim) fun _ _ z => z.elim
theorem EndW.any {elt : Expr} {acc : Value} {env : Env} {R : Shared → Prop} {s : Shared} (h : EndW prog w A elt acc env No R s) : EndW prog w A elt acc env E R s :=
  wpAny_mono h (fun _ s1 h1 => wpAny_mono h1 (fun _ _ h2 => h2) fun _ _ z => z.elim) fun _ _ z => z.elim
end
/-- what a turn does behind its tests: slots beyond vs stay -/
def PB (X : Cx) (run : (Shared → Prop) → Shared → Prop) (vs : List Nat) (t : TB) : Prop :=
  ∀ (pins : List (Addr × Obj)) (s : Shared) (σ : St) (H : Hp) (Nx : Hp → Prop) (R : Shared → Prop), Inv X pins σ H s → t σ H Nx →
    (∀ z σ' H', Inv X pins σ' H' z → σ'.length = σ.length → (∀ (j : Nat) v, j ∉ vs → σ[j]? = some (some v) → σ'[j]? = some (some v)) → Nx H' → R z) → run R s
theorem pb_end {X : Cx} {elt : Expr} {te : TE} {D : Addr} (hx : X.xe = No) (he : PE X elt te) : PB X (EndW X.prog X.w X.A elt (.ref D) X.env No) [] (tPut te D) := by
  intro pins s σ H Nx R I h q
  refine noX hx (he.run pins s σ H _ I h) fun u z ⟨y, H', I', r, acc, hD, hz, nx⟩ => ?_
  exact app_ok I' hD hz r fun z2 I2 => q z2 σ _ I2 rfl (fun _ _ _ e => e) nx
/-- how the loop of a clause runs -/
def LoopBy (X : Cx) (e : Expr) (k : Nat) (t : Expr) (ifs : List Expr) (D : Addr) (run : (Shared → Prop) → Shared → Prop) : Prop :=
  ∀ (it : Addr) (R : Result → Shared → Prop) (I : Nat → Shared → Prop) (turn : ∀ n s, I n s → TurnW X.prog X.w X.A X.env t ifs (.ref it) (R (.ok .next)) (run fun z => ∃ m, m < n ∧ I m z) (fun z => ∃ m, m < n ∧ I m z) No s) (n : Nat) (s : Shared), I n s →
    codeAny (model X.prog X.w) X.A (.compLoop e k (.ref it) (.ref D) X.env) R s
theorem turn_go {X : Cx} {t1 : Expr} {ifs : List Expr} {g : TG} {tt : TT} {run : (Shared → Prop) → Shared → Prop} {vs vs1 : List Nat} {t : TB} {it : Addr} {fp : List Addr} {tn : Nat → Heap → Prop} {J : It} {W : Nat → Nat → Hp → Prop} {σ : St} {pins : List (Addr × Obj)} {stop : Shared → Prop} {End : Hp → Prop}
    (hx : X.xe = No) (hc : X.calm = true) (hg : PG X t1 g) (htt : PTs X ifs tt) (pb : PB X run vs1 t) (sub : ∀ j ∈ vs1, j ∈ vs)
    (T : Turn X.prog X.w X.K t1 J fp it tn) (hf : ∀ b ∈ fp, ∀ H', H' b = none → FpOk X pins H' b)
    (turn : ∀ i m H, W i m H → (J.stop i H ∧ End H) ∨ (J.go i H ∧ ∃ N1 : Hp → Prop, (∀ H', N1 H' → ∃ m', m' < m ∧ W (i + 1) m' H') ∧ ∀ x H', J.yld i H x H' → g x (wipe σ vs) H' fun σ2 H2 => wipe σ2 vs = wipe σ vs ∧ tt σ2 H2 fun b H3 => if b = true then t σ2 H3 N1 else N1 H3))
    (q : ∀ z H', Inv X pins (wipe σ vs) H' z → End H' → stop z) (n : Nat) (z : Shared)
    (h : ∃ i H', Inv X pins (wipe σ vs) H' z ∧ tn i z.heap ∧ (∀ b ∈ fp, H' b = none) ∧ W i n H') :
    TurnW X.prog X.w X.A X.env t1 ifs (.ref it) stop (run fun z => ∃ m, m < n ∧ ∃ i H', Inv X pins (wipe σ vs) H' z ∧ tn i z.heap ∧ (∀ b ∈ fp, H' b = none) ∧ W i m H') (fun z => ∃ m, m < n ∧ ∃ i H', Inv X pins (wipe σ vs) H' z ∧ tn i z.heap ∧ (∀ b ∈ fp, H' b = none) ∧ W i m H') No z := by
  obtain ⟨i, H5, I5, st5, n5, w5⟩ := h
  rcases turn i n H5 w5 with ⟨hstop, nx⟩ | ⟨hgo, N1, hN1, step⟩
  · refine thnF (T.done X rfl rfl rfl hc i pins z _ H5 No I5 (fun b hb => hf b hb _ (n5 b hb)) st5 hstop) fun r z2 ⟨hr, I6⟩ => ?_
    subst hr
    exact q z2 H5 I6 nx
  · refine thnF (T.item X rfl rfl rfl hc i pins z _ H5 No I5 (fun b hb => hf b hb _ (n5 b hb)) st5 hgo) fun r z2 ⟨u, hr, h6⟩ => ?_
    subst hr
    refine thnF h6 fun _ z3 ⟨x, H7, I7, r7, y7, st7, n7⟩ => ?_
    have I7' := I7.pinned (fun b hb => hf b hb _ (n7 b hb)) (T.obj _ _ st7)
    refine noX hx (hg.run _ z3 (wipe σ vs) H7 x u _ I7' r7 (step x H7 y7)) fun _ z4 ⟨σ8, H8, I8, hw8, q8⟩ => ?_
    refine noX hx (htt.run _ z4 σ8 H8 _ I8 q8) fun b z5 ⟨H9, I9, q9⟩ => ?_
    have fin : ∀ {z6 : Shared} {σ9 : St} {H' : Hp}, Inv X (pins ++ pinsAt fp z3.heap) σ9 H' z6 → σ9.length = σ8.length → (∀ (j : Nat) v, j ∉ vs1 → σ8[j]? = some (some v) → σ9[j]? = some (some v)) → N1 H' →
        ∃ m, m < n ∧ ∃ i H', Inv X pins (wipe σ vs) H' z6 ∧ tn i z6.heap ∧ (∀ b ∈ fp, H' b = none) ∧ W i m H' := fun {z6 σ9 H'} I' hl hk nx => by
      obtain ⟨m', hm, w'⟩ := hN1 H' nx
      have pin' : ∀ b ∈ fp, ∀ o, z3.heap.get? b = some o → z6.heap.get? b = some o ∧ H' b = none := fun b hb o e => by
        have y := I'.pin (b, o) (List.mem_append_right _ (List.mem_append_right _ (mem_pinsAt hb e)))
        exact ⟨y.1, y.2.1⟩
      refine ⟨m', hm, i + 1, H', I'.unpinned.weak ?_ (fun j v e => ?_), T.keep _ _ _ st7 fun b hb o e => (pin' b hb o e).1, fun b hb => ?_, w'⟩
      · rw [← hw8, wipe_length, hl]
      · rw [← hw8] at e
        obtain ⟨e1, e2⟩ := wipe_some e
        exact hk j v (fun z => e2 (sub j z)) e1
      · obtain ⟨o, e, _⟩ := T.obj _ _ st7 b hb
        exact (pin' b hb o e).2
    cases b with
    | false =>
      simp only [Bool.false_eq_true, if_false] at q9 ⊢
      exact fin I9 rfl (fun _ _ _ e => e) q9
    | true =>
      simp only [if_true] at q9 ⊢
      exact pb _ z5 σ8 H9 N1 _ I9 q9 fun z6 σ' H' I' hl hk nx => fin I' hl hk nx
theorem pb_cl {X : Cx} {elt t1 i1 : Expr} {gs : List Comprehension} {ifs : List Expr} {scope : Scope} {pos : Pos} {k : Nat} {D : Addr} {wi : TI} {g : TG} {tt : TT} {run : (Shared → Prop) → Shared → Prop} {vs vs1 : List Nat} {t : TB} (hx : X.xe = No) (hc : X.calm = true)
    (hk : gs[k]? = some ⟨t1, i1, ifs, 0⟩) (hi : PI X t1 i1 wi) (hg : PG X t1 g) (htt : PTs X ifs tt) (lp : LoopBy X (.ListComp elt gs scope pos) k t1 ifs D run) (pb : PB X run vs1 t) (sub : ∀ j ∈ vs1, j ∈ vs) :
    PB X (MidW X.prog X.w X.A (.ListComp elt gs scope pos) i1 k (.ref D) X.env No) vs (tCl wi g tt vs t) := by
  intro pins s σ H Nx R I h q
  refine noX hx (hi.run pins s σ H _ I h) fun v z1 h1 => noX hx h1 fun j z2 h2 => ?_
  obtain ⟨it, fp, tn, J, H2, e, I2, T, st2, f2, W, ⟨m0, w0⟩, turn⟩ := h2
  subst e
  have loop : codeAny (model X.prog X.w) X.A (.compLoop (.ListComp elt gs scope pos) k (.ref it) (.ref D) X.env) (fun r z => match r with | .ok _ => R z | .error _ => False) z2 := by
    refine lp it _ (fun n z => ∃ i H', Inv X pins (wipe σ vs) H' z ∧ tn i z.heap ∧ (∀ b ∈ fp, H' b = none) ∧ W i n H') (fun n z hh => ?_) m0 z2 ⟨0, H2, I2.weak (wipe_length _ _) (fun j v e => (wipe_some e).1), st2, fun b hb => (f2 b hb).1, w0⟩
    exact turn_go hx hc hg htt pb sub T (fun b hb H' hn => ⟨hn, (f2 b hb).2⟩) turn (fun z3 H' I' nx => q z3 _ H' I' (wipe_length _ _) (fun j v hj e => by rw [wipe_out hj]; exact e) nx) n z hh
  exact start_by hk rfl loop (T.self X.A 0 _ _ _ st2 loop)

section
variable {X : Cx}
/-- a rule for whatever block a comprehension makes -/
abbrev InBlk (X : Cx) (scope : Scope) (p : Cx → Prop) : Prop := ∀ (s : Shared) (H : Hp) (C : Addr) (cl : List (Str × Addr)) (fp : List Addr), p (X.blk s H scope (compEnvC scope cl C X.env) fp)
theorem top_core {pins : List (Addr × Obj)} {s : Shared} {σ : St} {H : Hp} {Q : VK} {elt tg iter : Expr} {ifs : List Expr} {gs : List Comprehension} {scope : Scope} {own : List (Str × Nat)} {vs1 : List Nat} {pos pos' : Pos} {wi : TI} {g : TG} {tt : TT} {t : Addr → TB} {use : Option (Value → Sem Unit)} {Qf : Value → Shared → Prop} {run : Cx → Addr → (Shared → Prop) → Shared → Prop}
    (hc : X.calm = true) (hN : X.N.Nodup) (I : Inv X pins σ H s) (hi : PI X tg iter wi) (ok : BlkOk X.N X.env.scope scope own) (sub : ∀ j ∈ vs1, j ∈ own.map (·.2)) (hs : ∀ x, foldedSetIterable iter X.env x = pure x)
    (hg : InBlk X scope fun Y => PG Y tg g) (ht : InBlk X scope fun Y => PTs Y ifs tt) (hp : InBlk X scope fun Y => ∀ D, PB Y (run Y D) vs1 (t D)) (lp : InBlk X scope fun Y => ∀ D, LoopBy Y (.ListComp elt (⟨tg, iter, ifs, 0⟩ :: gs) scope pos) 0 tg ifs D (run Y D))
    (h : tTop wi g tt (own.map (·.2)) t σ H Q)
    (last : ∀ D C z m H', Inv X pins σ H' z → Q (.ref D) H' → z.heap.Ns C m → FpOk X pins H' C → compPost (model X.prog X.w) X.A X.xe use Qf (.ref D) C (.ok .next) z) :
    wpAny (model X.prog X.w) X.A (comprehension (.ListComp elt (⟨tg, iter, ifs, 0⟩ :: gs) scope pos) scope X.env pos' (newList []) false (eval iter X.env) use) Qf X.xe s := by
  refine wpAny_comprehension_free (use := use) rfl hs (closure_ok fun y hy e => (ok.free y hy e).elim (fun k => I.ok.has _ (.inl k)) fun k => I.ok.has _ (.inr k)) ok.kind (fun y hy e => by rw [ok.uniq y hy, e])
    (thn (hi.run pins s σ H _ I h) fun _ z1 hx => thn hx fun itv z2 h2 => ?_)
  obtain ⟨it, fp, tn, J, H2, e, I2, T, st2, f2, q⟩ := h2
  subst e
  refine wpAny_newObj_type (newEnv_comp ?_) (by show 0 ≤ sizeLine; decide)
  generalize hD : z2.heap.objs.size = D
  obtain ⟨W, ⟨m0, w0⟩, turn⟩ := q D (I2.hok.fresh (Nat.le_of_eq hD))
  generalize hz3 : ({ z2 with heap := z2.heap.push { cls := .type "list", data := .seq ([] : List Value).toArray } } : Shared) = z3
  have kz : ∀ b o, z2.heap.get? b = some o → z3.heap.get? b = some o := fun b o e => by rw [← hz3]; exact Heap.get?_push_of_some _ e
  have I3 : Inv X pins σ (upd H2 D (.lst [])) z3 := by
    rw [← hz3]
    refine I2.laid (t' := z2.toks) (fun b o e => Heap.get?_push_of_some _ e) (Nat.le_of_eq hD) ⟨Nat.zero_le _, [], 0, .nil, ?_⟩
    rw [← hD]; exact Heap.get?_push_size _ rfl
  have f3 : ∀ b ∈ fp, FpOk X pins (upd H2 D (.lst [])) b ∧ b < z3.heap.objs.size := fun b hb => by
    obtain ⟨o, e, _⟩ := T.obj _ _ st2 b hb
    refine ⟨⟨?_, (f2 b hb).2⟩, Heap.lt_size (kz b o e)⟩
    rw [upd_ne (by rw [← hD]; exact Nat.ne_of_lt (Heap.lt_size e))]; exact (f2 b hb).1
  have st3 : tn 0 z3.heap := T.keep _ _ _ st2 fun b _ o e => kz b o e
  have I4 := block_start I3 ok hN f3
  have pg := hg z3 (upd H2 D (.lst [])) z3.heap.objs.size (cellsFrom (z3.heap.objs.size + 1) scope.names (cloFrom X.env.cells scope.names [])) fp
  have pt := ht z3 (upd H2 D (.lst [])) z3.heap.objs.size (cellsFrom (z3.heap.objs.size + 1) scope.names (cloFrom X.env.cells scope.names [])) fp
  have pb := hp z3 (upd H2 D (.lst [])) z3.heap.objs.size (cellsFrom (z3.heap.objs.size + 1) scope.names (cloFrom X.env.cells scope.names [])) fp D
  have pl := lp z3 (upd H2 D (.lst [])) z3.heap.objs.size (cellsFrom (z3.heap.objs.size + 1) scope.names (cloFrom X.env.cells scope.names [])) fp D
  show codeAny _ _ (.compStart (.ListComp elt (⟨tg, iter, ifs, 0⟩ :: gs) scope pos) 0 (.ref it) (.ref D) (compEnvC scope (cellsFrom (z3.heap.objs.size + 1) scope.names (cloFrom X.env.cells scope.names [])) z3.heap.objs.size X.env)) (compPost (model X.prog X.w) X.A X.xe use Qf (.ref D) z3.heap.objs.size) { z3 with heap := pushCells (z3.heap.push { cls := .type "dict", data := .dict #[] }) scope.names }
  generalize hce : compEnvC scope (cellsFrom (z3.heap.objs.size + 1) scope.names (cloFrom X.env.cells scope.names [])) z3.heap.objs.size X.env = ce at I4 pg pt pb pl ⊢
  have cL : ce.locals = z3.heap.objs.size := by subst hce; rfl
  generalize hH3 : upd H2 D (.lst []) = H3 at I3 I4 pg pt pb pl w0 f3
  generalize hz4 : ({ z3 with heap := pushCells (z3.heap.push { cls := .type "dict", data := .dict #[] }) scope.names } : Shared) = z4 at I4 ⊢
  have st4 : tn 0 z4.heap := T.keep _ _ _ st3 fun b _ o e => by rw [← hz4]; exact pushCells_keeps _ _ _ _ (Heap.get?_push_of_some _ e)
  have loop : codeAny (model X.prog X.w) X.A (.compLoop (.ListComp elt (⟨tg, iter, ifs, 0⟩ :: gs) scope pos) 0 (.ref it) (.ref D) ce) (compPost (model X.prog X.w) X.A X.xe use Qf (.ref D) z3.heap.objs.size) z4 := by
    refine pl it _ (fun n z => ∃ i H', Inv (X.blk z3 H3 scope ce fp) [] (wipe σ (own.map (·.2))) H' z ∧ tn i z.heap ∧ (∀ b ∈ fp, H' b = none) ∧ W i n H') (fun n z hh => ?_) m0 z4 ⟨0, H3, I4, st4, fun b hb => (f3 b hb).1.1, w0⟩
    refine turn_go (X := X.blk z3 H3 scope ce fp) rfl hc pg pt pb sub T (fun b hb H' hn => ⟨hn, (I4.ok.exf b hb).1, I4.ok.exfs b hb, .inl hb, fun x c e => (I4.ok.exf b hb).2 x c e, fun p hp => absurd (show p ∈ ([] : List (Addr × Obj)) ++ [] from hp) (by simp)⟩) turn (fun z6 H5 I6 qq => ?_) n z hh
    have I7 : Inv X pins σ H5 z6 := I3.call' (ch := fp) I6.os I6.base I6.hok I6.bare fun b hb => ⟨(f3 b hb).1.2.2.2.1, (f3 b hb).1.2.1, (f3 b hb).1.2.2.2.2.1, (f3 b hb).1.2.2.2.2.2⟩
    have nC : H5 z3.heap.objs.size = none := by
      have y : H5 ce.locals = none := I6.free
      rw [cL] at y; exact y
    obtain ⟨m, hn, _⟩ := I6.loc
    have hn : z6.heap.Ns ce.locals m := hn
    rw [cL] at hn
    exact last D z3.heap.objs.size z6 m H5 I7 qq hn (I3.fpOk (Nat.le_refl _) nC)
  exact codeAny_compStart_list loop (T.self X.A 0 _ _ _ st4 loop)
theorem pe_top {elt tg iter : Expr} {ifs : List Expr} {gs : List Comprehension} {scope : Scope} {own : List (Str × Nat)} {vs1 : List Nat} {pos : Pos} {wi : TI} {g : TG} {tt : TT} {t : Addr → TB} {run : Cx → Addr → (Shared → Prop) → Shared → Prop}
    (hc : X.calm = true) (hN : X.N.Nodup) (hi : PI X tg iter wi) (ok : BlkOk X.N X.env.scope scope own) (sub : ∀ j ∈ vs1, j ∈ own.map (·.2))
    (hg : InBlk X scope fun Y => PG Y tg g) (ht : InBlk X scope fun Y => PTs Y ifs tt) (hp : InBlk X scope fun Y => ∀ D, PB Y (run Y D) vs1 (t D)) (lp : InBlk X scope fun Y => ∀ D, LoopBy Y (.ListComp elt (⟨tg, iter, ifs, 0⟩ :: gs) scope pos) 0 tg ifs D (run Y D)) (hs : ∀ x, foldedSetIterable iter X.env x = pure x := by intro _; rfl) :
    PE X (.ListComp elt (⟨tg, iter, ifs, 0⟩ :: gs) scope pos) (tTop wi g tt (own.map (·.2)) t) := by
  refine ⟨fun pins s σ H Q I h => ?_⟩
  rw [eval_ListComp]
  refine top_core hc hN I hi ok sub hs hg ht hp lp h fun D C z m H' I' q hn f => ⟨m, hn, fun h'' sb => ?_⟩
  obtain ⟨f0, f1, f2, f3, f4, f5⟩ := f
  exact ⟨.ref D, H', I'.turned (t' := z.toks) (fun b o hb e => (sb.2 b hb).trans e) f0 f1 f3 f4 f5, rfl, q⟩
/-- three clauses -/
theorem pe_lc3 {elt t0 i0 t1 i1 t2 i2 : Expr} {f0 f1 f2 : List Expr} {scope : Scope} {own : List (Str × Nat)} {vs1 vs2 : List Nat} {pos : Pos} {w0 w1 w2 : TI} {g0 g1 g2 : TG} {tt0 tt1 tt2 : TT} {te : TE}
    (hc : X.calm = true) (hN : X.N.Nodup) (h0 : PI X t0 i0 w0) (ok : BlkOk X.N X.env.scope scope own) (sub : ∀ j ∈ vs1, j ∈ own.map (·.2)) (sub2 : ∀ j ∈ vs2, j ∈ vs1)
    (hg0 : InBlk X scope fun Y => PG Y t0 g0) (ht0 : InBlk X scope fun Y => PTs Y f0 tt0) (h1 : InBlk X scope fun Y => PI Y t1 i1 w1) (hg1 : InBlk X scope fun Y => PG Y t1 g1) (ht1 : InBlk X scope fun Y => PTs Y f1 tt1)
    (h2 : InBlk X scope fun Y => PI Y t2 i2 w2) (hg2 : InBlk X scope fun Y => PG Y t2 g2) (ht2 : InBlk X scope fun Y => PTs Y f2 tt2) (he : InBlk X scope fun Y => PE Y elt te)
    (hs : ∀ x, foldedSetIterable i0 X.env x = pure x := by intro _; rfl) (hs1 : ∀ env x, foldedSetIterable i1 env x = pure x := by intro _ _; rfl) (hs2 : ∀ env x, foldedSetIterable i2 env x = pure x := by intro _ _; rfl) :
    PE X (.ListComp elt [⟨t0, i0, f0, 0⟩, ⟨t1, i1, f1, 0⟩, ⟨t2, i2, f2, 0⟩] scope pos) (tTop w0 g0 tt0 (own.map (·.2)) fun D => tCl w1 g1 tt1 vs1 (tCl w2 g2 tt2 vs2 (tPut te D))) := by
  refine pe_top (run := fun Y D => MidW Y.prog Y.w Y.A (.ListComp elt [⟨t0, i0, f0, 0⟩, ⟨t1, i1, f1, 0⟩, ⟨t2, i2, f2, 0⟩] scope pos) i1 1 (.ref D) Y.env No) (vs1 := vs1) hc hN h0 ok sub hg0 ht0 (fun s H C cl fp D => ?_) (fun s H C cl fp D it R I turn n z hI => ?_) hs
  · refine pb_cl rfl hc rfl (h1 s H C cl fp) (hg1 s H C cl fp) (ht1 s H C cl fp) (fun it R I turn n z hI => ?_) (pb_cl (elt := elt) (gs := [⟨t0, i0, f0, 0⟩, ⟨t1, i1, f1, 0⟩, ⟨t2, i2, f2, 0⟩]) (scope := scope) (pos := pos) (k := 2) (D := D) rfl hc rfl (h2 s H C cl fp) (hg2 s H C cl fp) (ht2 s H C cl fp) (fun it R I turn n z hI => ?_) (pb_end rfl (he s H C cl fp)) (fun j hj => by cases hj)) sub2
    · exact loop_mid rfl (hs2 _) I (fun n s h => (turn n s h).any fun z y => y.any) n hI
    · exact loop_end rfl I (fun n s h => (turn n s h).any fun z y => y.any) n hI
  · exact loop_mid rfl (hs1 _) I (fun n s h => (turn n s h).any fun z y => y.any) n hI
end
/-- a walk with its places: Pv by the turn and the heap -/
theorem walk_by {J : It} {n : Nat} {G : Hp → Prop} {Y : Nat → Hp → V → Hp → Prop} (w : Walk J n G Y) {g : TG} {tt : TT} {body : TB} {vs : List Nat} {σ : St} {H0 : Hp} {Qd : Hp → Prop} (Pv : Nat → Hp → Prop) (h0 : Pv 0 H0) (hG : ∀ i H, i ≤ n → Pv i H → G H)
    (hs : ∀ i x H H', i < n → Pv i H → Y i H x H' → g x (wipe σ vs) H' fun σ2 H2 => wipe σ2 vs = wipe σ vs ∧ tt σ2 H2 fun b H3 => if b = true then body σ2 H3 (Pv (i + 1)) else Pv (i + 1) H3) (hd : ∀ H, Pv n H → Qd H) :
    ∃ W : Nat → Nat → Hp → Prop, (∃ m, W 0 m H0) ∧ ∀ i m H, W i m H → (J.stop i H ∧ Qd H) ∨ (J.go i H ∧ ∃ N1 : Hp → Prop, (∀ H', N1 H' → ∃ m', m' < m ∧ W (i + 1) m' H') ∧ ∀ x H', J.yld i H x H' → g x (wipe σ vs) H' fun σ2 H2 => wipe σ2 vs = wipe σ vs ∧ tt σ2 H2 fun b H3 => if b = true then body σ2 H3 N1 else N1 H3) := by
  refine ⟨fun i m H => m = n - i ∧ i ≤ n ∧ Pv i H, ⟨n, by simp, Nat.zero_le _, h0⟩, ?_⟩
  rintro i m H ⟨rfl, hi, p⟩
  have q := hG i H hi p
  rcases Nat.lt_or_ge i n with lt | ge
  · exact .inr ⟨w.goes i H lt q, Pv (i + 1), fun H' p' => ⟨n - (i + 1), by omega, rfl, lt, p'⟩, fun x H' y => hs i x H H' lt p (w.yields i H x H' lt q y)⟩
  · cases Nat.le_antisymm hi ge
    exact .inl ⟨w.stops H q, hd H p⟩
end L2.C3
end

section
set_option maxRecDepth 100000
set_option maxHeartbeats 4000000
/-! all three of some signs, pure -/
namespace L2.Cal
open PySem PySem.Spec PyProof.Rows
theorem flat_le {α β : Type} {f : α → List β} {n : Nat} : ∀ l : List α, (∀ a ∈ l, (f a).length ≤ n) → (l.flatMap f).length ≤ l.length * n
  | [], _ => by simp
  | a :: l, h => by
    have := flat_le l fun x hx => h x (List.mem_cons_of_mem _ hx)
    have h1 := h a List.mem_cons_self
    rw [List.flatMap_cons, List.length_append, List.length_cons, Nat.succ_mul]
    omega
def s3 (a b c : Nat) : Str := ⟨#[a, b, c]⟩
/-- as the program walks: first, middle, last -/
def tri (cs : List Nat) : List Str := cs.flatMap fun a => cs.flatMap fun b => (cs.filter fun c => decide (a < b) && decide (b < c)).map fun c => s3 a b c
def row3 (cs : List Nat) (a b : Nat) : List Str := (cs.filter fun c => decide (a < b) && decide (b < c)).map fun c => s3 a b c
def row2 (cs : List Nat) (a : Nat) : List Str := cs.flatMap fun b => row3 cs a b
theorem tri_rows (cs : List Nat) : tri cs = cs.flatMap (row2 cs) := rfl
/-- as the law walks: first, last, middle -/
def tri2 (cs : List Nat) : List Str := cs.flatMap fun a => cs.flatMap fun c => (cs.filter fun b => decide (a < b) && decide (b < c)).map fun b => s3 a b c
theorem s3_inj {a b c a' b' c' : Nat} : s3 a b c = s3 a' b' c' ↔ a = a' ∧ b = b' ∧ c = c' := by simp [s3]
theorem mem_tri {cs : List Nat} {x : Str} : x ∈ tri cs ↔ ∃ a b c, a ∈ cs ∧ b ∈ cs ∧ c ∈ cs ∧ a < b ∧ b < c ∧ x = s3 a b c := by
  simp only [tri, List.mem_flatMap, List.mem_map, List.mem_filter, Bool.and_eq_true, decide_eq_true_eq]
  constructor
  · rintro ⟨a, ha, b, hb, c, ⟨hc, h1, h2⟩, rfl⟩
    exact ⟨a, b, c, ha, hb, hc, h1, h2, rfl⟩
  · rintro ⟨a, b, c, ha, hb, hc, h1, h2, rfl⟩
    exact ⟨a, ha, b, hb, c, ⟨hc, h1, h2⟩, rfl⟩
theorem mem_tri2 {cs : List Nat} {x : Str} : x ∈ tri2 cs ↔ x ∈ tri cs := by
  rw [mem_tri]
  simp only [tri2, List.mem_flatMap, List.mem_map, List.mem_filter, Bool.and_eq_true, decide_eq_true_eq]
  constructor
  · rintro ⟨a, ha, c, hc, b, ⟨hb, h1, h2⟩, rfl⟩
    exact ⟨a, b, c, ha, hb, hc, h1, h2, rfl⟩
  · rintro ⟨a, b, c, ha, hb, hc, h1, h2, rfl⟩
    exact ⟨a, ha, c, hc, b, ⟨hb, h1, h2⟩, rfl⟩
/-- x is below y -/
def Lo (x y : Str) : Prop := ltCps x.cps.toList y.cps.toList = true
theorem lo_s3 {a b c a' b' c' : Nat} : Lo (s3 a b c) (s3 a' b' c') ↔ a < a' ∨ a = a' ∧ (b < b' ∨ b = b' ∧ c < c') := by simp [Lo, s3, ltCps]
theorem tri_up {cs : List Nat} (h : cs.Pairwise (· < ·)) : (tri cs).Pairwise Lo := by
  unfold tri
  refine List.pairwise_flatMap.mpr ⟨fun a ha => List.pairwise_flatMap.mpr ⟨fun b hb => List.pairwise_map.mpr ((h.filter _).imp fun {c c'} e => lo_s3.mpr (.inr ⟨rfl, .inr ⟨rfl, e⟩⟩)), h.imp fun {b b'} e x hx y hy => ?_⟩, h.imp fun {a a'} e x hx y hy => ?_⟩
  · obtain ⟨c, _, rfl⟩ := List.mem_map.mp hx
    obtain ⟨c', _, rfl⟩ := List.mem_map.mp hy
    exact lo_s3.mpr (.inr ⟨rfl, .inl e⟩)
  · obtain ⟨b, _, hx⟩ := List.mem_flatMap.mp hx
    obtain ⟨b', _, hy⟩ := List.mem_flatMap.mp hy
    obtain ⟨c, _, rfl⟩ := List.mem_map.mp hx
    obtain ⟨c', _, rfl⟩ := List.mem_map.mp hy
    exact lo_s3.mpr (.inl e)
theorem tri2_nodup {cs : List Nat} (h : cs.Nodup) : (tri2 cs).Nodup := by
  unfold tri2
  refine List.pairwise_flatMap.mpr ⟨fun a ha => List.pairwise_flatMap.mpr ⟨fun b hb => List.pairwise_map.mpr ((h.filter _).imp fun {c c'} e => fun z => e (s3_inj.mp z).2.1), h.imp fun {b b'} e x hx y hy => ?_⟩, h.imp fun {a a'} e x hx y hy => ?_⟩
  · obtain ⟨c, _, rfl⟩ := List.mem_map.mp hx
    obtain ⟨c', _, rfl⟩ := List.mem_map.mp hy
    exact fun z => e (s3_inj.mp z).2.2
  · obtain ⟨b, _, hx⟩ := List.mem_flatMap.mp hx
    obtain ⟨b', _, hy⟩ := List.mem_flatMap.mp hy
    obtain ⟨c, _, rfl⟩ := List.mem_map.mp hx
    obtain ⟨c', _, rfl⟩ := List.mem_map.mp hy
    exact fun z => e (s3_inj.mp z).1
theorem lo_irrefl : ∀ l : List Nat, ltCps l l = false
  | [] => rfl
  | a :: r => by simp [ltCps, lo_irrefl r]
theorem lo_trans : ∀ a b c : List Nat, ltCps a b = true → ltCps b c = true → ltCps a c = true
  | [], [], _, h, _ => by simp [ltCps] at h
  | [], _ :: _, [], _, h => by simp [ltCps] at h
  | [], _ :: _, _ :: _, _, _ => rfl
  | _ :: _, [], _, h, _ => by simp [ltCps] at h
  | _ :: _, _ :: _, [], _, h => by simp [ltCps] at h
  | x :: r, y :: t, z :: u, h1, h2 => by
    simp only [ltCps, Bool.or_eq_true, decide_eq_true_eq, Bool.and_eq_true, beq_iff_eq] at h1 h2 ⊢
    rcases h1 with h1 | ⟨rfl, h1⟩
    · rcases h2 with h2 | ⟨rfl, h2⟩
      · exact .inl (Nat.lt_trans h1 h2)
      · exact .inl h1
    · rcases h2 with h2 | ⟨rfl, h2⟩
      · exact .inl h2
      · exact .inr ⟨rfl, lo_trans r t u h1 h2⟩
theorem lo_conn : ∀ a b : List Nat, ltCps a b = false → ltCps b a = false → a = b
  | [], [], _, _ => rfl
  | [], b :: t, h, _ => by simp [ltCps] at h
  | a :: r, [], _, h => by simp [ltCps] at h
  | a :: r, b :: t, h1, h2 => by
    simp only [ltCps, Bool.or_eq_false_iff, Bool.and_eq_false_imp, decide_eq_false_iff_not, beq_iff_eq] at h1 h2
    have e : a = b := by omega
    subst e
    rw [lo_conn r t (h1.2 rfl) (h2.2 rfl)]
/-- not above -/
def Le (x y : Str) : Prop := ltCps y.cps.toList x.cps.toList = false
theorem Lo.le {x y : Str} (h : Lo x y) : Le x y := by
  unfold Le
  cases e : ltCps y.cps.toList x.cps.toList with
  | false => rfl
  | true =>
    have := lo_trans _ _ _ h e
    rw [lo_irrefl] at this
    cases this
theorem le_trans {x y z : Str} (h1 : Le x y) (h2 : Le y z) : Le x z := by
  unfold Le at *
  cases e : ltCps z.cps.toList x.cps.toList with
  | false => rfl
  | true =>
    cases e2 : ltCps x.cps.toList y.cps.toList with
    | true =>
      have := lo_trans _ _ _ e e2
      rw [h2] at this
      cases this
    | false =>
      have := lo_conn _ _ e2 h1
      rw [this, h2] at e
      cases e
theorem le_eq {x y : Str} (h1 : Le x y) (h2 : Le y x) : x = y := by
  cases x
  cases y
  exact congrArg Str.mk (Array.toList_inj.mp (lo_conn _ _ h2 h1))
theorem up_rising : ∀ (r : List Str) (p : Str), risingS p r = true → (p :: r).Pairwise Le
  | [], p, _ => List.pairwise_singleton _ _
  | x :: r, p, h => by
    simp only [risingS, Bool.and_eq_true, Bool.not_eq_true'] at h
    have ih := up_rising r x h.2
    refine List.pairwise_cons.mpr ⟨fun y hy => ?_, ih⟩
    rcases List.mem_cons.mp hy with rfl | hy
    · exact h.1
    · exact le_trans (y := x) h.1 ((List.pairwise_cons.mp ih).1 y hy)
theorem up_sorted {ys : List Str} (h : sortedS ys = true) : ys.Pairwise Le := by
  cases ys with
  | nil => exact .nil
  | cons x r => exact up_rising r x h
/-- the one sorted row -/
theorem sorted_is {ys xs : List Str} (p : ys.Perm xs) (s : sortedS ys = true) (u : xs.Pairwise Lo) : ys = xs :=
  List.Perm.eq_of_pairwise (fun a b _ _ h1 h2 => le_eq h1 h2) (up_sorted s) (u.imp Lo.le) p
theorem tri_sorted {cs : List Nat} {ys : List Str} (h : cs.Pairwise (· < ·)) (p : ys.Perm (tri2 cs)) (s : sortedS ys = true) : ys = tri cs := by
  have n : cs.Nodup := h.imp fun e => Nat.ne_of_lt e
  have n1 : (tri cs).Nodup := (tri_up h).imp fun {x y} e z => by
    subst z
    unfold Lo at e
    rw [lo_irrefl] at e
    cases e
  exact sorted_is (p.trans ((List.perm_ext_iff_of_nodup (tri2_nodup n) n1).mpr fun x => mem_tri2)) s (tri_up h)
theorem tri2_map (f : Nat → Nat) (l : List Nat) (h : ∀ a ∈ l, ∀ b ∈ l, (f a < f b ↔ a < b)) : (tri2 (l.map f)).length = (tri2 l).length := by
  unfold tri2
  rw [List.flatMap_map, List.length_flatMap, List.length_flatMap]
  refine congrArg List.sum (List.map_congr_left fun a ha => ?_)
  rw [List.flatMap_map, List.length_flatMap, List.length_flatMap]
  refine congrArg List.sum (List.map_congr_left fun c hc => ?_)
  rw [List.length_map, List.length_map, List.filter_map, List.length_map]
  refine congrArg List.length (List.filter_congr fun b hb => ?_)
  show (decide (f a < f b) && decide (f b < f c)) = (decide (a < b) && decide (b < c))
  rw [decide_eq_decide.mpr (h a ha b hb), decide_eq_decide.mpr (h b hb c hc)]
theorem tri2_few {cs : List Nat} (h : cs.Pairwise (· < ·)) (n : cs.length ≤ 6) : (tri2 cs).length ≤ 20 := by
  have e : cs = (List.range cs.length).map fun i => cs.getD i 0 := by
    refine List.ext_getElem (by simp) fun i h1 h2 => ?_
    simp [h1]
  have mono : ∀ a ∈ List.range cs.length, ∀ b ∈ List.range cs.length, (cs.getD a 0 < cs.getD b 0 ↔ a < b) := fun a ha b hb => by
    have ha := List.mem_range.mp ha
    have hb := List.mem_range.mp hb
    have q := List.pairwise_iff_getElem.mp h
    rw [List.getD_eq_getElem?_getD, List.getD_eq_getElem?_getD, List.getElem?_eq_getElem ha, List.getElem?_eq_getElem hb]
    simp only [Option.getD_some]
    constructor
    · intro lt
      by_cases c : a < b
      · exact c
      · by_cases d : a = b
        · subst d; omega
        · have := q b a hb ha (by omega)
          omega
    · exact fun lt => q a b ha hb lt
  rw [e, tri2_map _ _ mono]
  have all : ∀ n, n ≤ 6 → (tri2 (List.range n)).length ≤ 20 := by decide +kernel
  exact all _ n
theorem row3_take {cs : List Nat} {a b c k : Nat} (h : cs[k]? = some c) : ((cs.take (k + 1)).filter fun c => decide (a < b) && decide (b < c)).map (s3 a b) = ((cs.take k).filter fun c => decide (a < b) && decide (b < c)).map (s3 a b) ++ if decide (a < b) && decide (b < c) then [s3 a b c] else [] := by
  rw [List.take_succ, h, Option.toList_some, List.filter_append, List.map_append]
  congr 1
  cases e : (decide (a < b) && decide (b < c)) <;> simp [List.filter, e]
theorem flat_take {α β : Type} {f : α → List β} {l : List α} {a : α} {k : Nat} (h : l[k]? = some a) : (l.take (k + 1)).flatMap f = (l.take k).flatMap f ++ f a := by
  rw [List.take_succ, h, Option.toList_some, List.flatMap_append]
  simp
theorem row3_len (cs : List Nat) (a b : Nat) : (row3 cs a b).length ≤ cs.length := by
  unfold row3
  rw [List.length_map]
  exact List.length_filter_le _ _
theorem row2_len (cs : List Nat) (a : Nat) : (row2 cs a).length ≤ cs.length * cs.length := flat_le _ fun b _ => row3_len cs a b
def col3 (cs : List Nat) (a c : Nat) : List Str := (cs.filter fun b => decide (a < b) && decide (b < c)).map fun b => s3 a b c
def col2 (cs : List Nat) (a : Nat) : List Str := cs.flatMap fun c => col3 cs a c
theorem tri_cols (cs : List Nat) : tri2 cs = cs.flatMap (col2 cs) := rfl
theorem col3_take {cs : List Nat} {a b c k : Nat} (h : cs[k]? = some b) : ((cs.take (k + 1)).filter fun b => decide (a < b) && decide (b < c)).map (fun b => s3 a b c) = ((cs.take k).filter fun b => decide (a < b) && decide (b < c)).map (fun b => s3 a b c) ++ if decide (a < b) && decide (b < c) then [s3 a b c] else [] := by
  rw [List.take_succ, h, Option.toList_some, List.filter_append, List.map_append]
  congr 1
  cases e : (decide (a < b) && decide (b < c)) <;> simp [List.filter, e]
theorem col3_len (cs : List Nat) (a c : Nat) : (col3 cs a c).length ≤ cs.length := by
  unfold col3
  rw [List.length_map]
  exact List.length_filter_le _ _
theorem col2_len (cs : List Nat) (a : Nat) : (col2 cs a).length ≤ cs.length * cs.length := flat_le _ fun c _ => col3_len cs a c
end L2.Cal
end

section
set_option maxRecDepth 100000
set_option maxHeartbeats 4000000
namespace L2.Cal
open PySem PySem.Spec PyProof.Rows L2
abbrev sChk : Stmt := topS 14
theorem scChk : FnScope ["roll"] ["roll"] (defScope sChk) := ⟨rfl, rfl, rfl, by decide +kernel, rfl, by decide +kernel, by decide +kernel⟩
abbrev sThs : Stmt := topS 16
theorem scThs : FnScope ["things", "a", "b", "c"] ["things"] (defScope sThs) := ⟨rfl, rfl, rfl, by decide +kernel, rfl, by decide +kernel, by decide +kernel⟩
abbrev sSta : Stmt := topS 17
theorem scSta : FnScope ["order", "three", "thing"] ["order", "three"] (defScope sSta) := ⟨rfl, rfl, rfl, by decide +kernel, rfl, by decide +kernel, by decide +kernel⟩
/-- three things as they stand in an order -/
def press (y x : Str) : Str := ⟨(y.cps.toList.filter fun c => decide (c ∈ x.cps.toList)).toArray⟩
def spChk (C : Addr) : Sp := fun vs H Q _ => ∃ (a t : Addr) (z : Str), vs = [.ref a] ∧ RollAt C H a t z ∧ Q .non H
def spThs : Sp := fun vs H Q _ => ∃ y : Str, vs = [.str y] ∧ y.cps.size ≤ 6 ∧ ∀ (p : Addr) (H' : Hp), Same H H' → H p = none → H' p = some (.tup ((tri y.cps.toList).map V.str)) → Q (.ref p) H'
def spSta : Sp := fun vs H Q _ => ∃ y x : Str, vs = [.str y, .str x] ∧ y.cps.size ≤ 6 ∧ ∀ H', Same H H' → Q (.str (press y x)) H'
theorem s3_of (a b c : Nat) : ((⟨#[a]⟩ : Str) ++ ⟨#[b]⟩) ++ ⟨#[c]⟩ = s3 a b c := rfl
section
variable {P : Program} {w : World} {K : PySem.W.Frag} {mg : Str → Option Value} {base : Heap} {C : Addr}
theorem ok_chk {f : Addr} {fd : FuncData} (D : DefAt K mg "check_roll" sChk ["roll"] f fd) (T : Txt mg) (R : RollC K mg C) : FnOk P w K mg base CX0 1 f fd ["roll"] (spChk C) := by
  refine D.F.ok scChk (fun vs H Q E h => ?_) (fun cdv A outer sh H vs Q E hr h => ?_)
  · obtain ⟨a, t, z, rfl, _⟩ := h
    rfl
  · obtain ⟨a, t, z, rfl, ⟨dx, fs, ha, l1, l2⟩, q⟩ := h
    have ty : TyX K H (.ref a) (.ref C) := .base (.ins ha R.cls R.dcl R.dget R.dtk R.mobj)
    have kit : PySem.W.kitOne K (.ref C) (.ref C) = some true := by unfold PySem.W.kitOne; rw [if_pos (by simp)]
    refine ⟨_, pss_one (ps_if (pt_not (pt_val (pe_callB call_isi (by rfl) T.b_isinstance (by decide +kernel) (pa_cons (pv 0) (pa_cons (pe_cls (by rfl) R.g) pa_nil))))) (pss_one ps_never) pss_nil), ?_⟩
    exact ⟨_, rfl, .ref a, .ref C, .ref C, .ref C, true, rfl, .own C, ty, kit, true, rfl, iteF q⟩
theorem ok_ths {f : Addr} {fd : FuncData} (D : DefAt K mg "threes_of" sThs ["things"] f fd) (T : Txt mg) : FnOk P w K mg base CX0 1 f fd ["things"] spThs := by
  refine D.F.ok scThs (fun vs H Q E h => ?_) (fun cdv A outer sh H vs Q E hr h => ?_)
  · obtain ⟨y, rfl, _⟩ := h
    rfl
  · obtain ⟨y, rfl, hy, q⟩ := h
    refine ⟨_, pss_one (ps_ret (pe_callTy call_tuple_of (by rfl) T.b_tuple (by decide +kernel) (pa_cons (C3.pe_lc3 (own := [("a", 1), ("b", 2), ("c", 3)]) (vs1 := [2, 3]) (vs2 := [3]) (g0 := gName 1) (g1 := gName 2) (g2 := gName 3) (tt0 := tYes) (tt1 := tYes) rfl scThs.nd (pi_str (pv 0))
      (blkOk_by (own := [("a", 1), ("b", 2), ("c", 3)]) (N := ["things", "a", "b", "c"]) (sc := defScope sThs) (by decide +kernel)) (by decide) (by decide)
      (fun _ _ _ _ _ => pg_name (i := 1) scThs.nd rfl (Or.inl rfl)) (fun _ _ _ _ _ => pts_nil) (fun _ _ _ _ _ => pi_str (pv 0)) (fun _ _ _ _ _ => pg_name (i := 2) scThs.nd rfl (Or.inl rfl)) (fun _ _ _ _ _ => pts_nil) (fun _ _ _ _ _ => pi_str (pv 0)) (fun _ _ _ _ _ => pg_name (i := 3) scThs.nd rfl (Or.inl rfl))
      (fun _ _ _ _ _ => pts_one (pt_chain op_lt_str op_lt_str (pv 1) (pv 2) (pv 3))) (fun _ _ _ _ _ => pe_op op_add_str (pe_op op_add_str (pv 1) (pv 2)) (pv 3))) pa_nil))), ?_⟩
    generalize hcs : y.cps.toList = cs at q
    have len : cs.length = y.cps.size := by rw [← hcs, Array.length_toList]
    have ix : ∀ {k c : Nat}, y.cps[k]? = some c → cs[k]? = some c := fun h => by rw [← hcs, Array.getElem?_toList]; exact h
    have small : ∀ n : Nat, n ≤ 400 → n < sizeLine := fun n h => by rw [sizeLine_eq]; omega
    have l6 : cs.length ≤ 6 := by omega
    have sq : cs.length * cs.length ≤ 36 := Nat.mul_le_mul l6 l6
    have one : ∀ (X : List Str) (D : Addr) (HH H' : Hp) (v : Str), H D = none → Same H HH → HH D = some (.lst (X.map V.str)) → Same H (upd HH D (.lst (X.map V.str ++ [V.str v]))) ∧ (upd HH D (.lst (X.map V.str ++ [V.str v]))) D = some (.lst ((X ++ [v]).map V.str)) := fun X D HH H' v nD sm eD => by
      refine ⟨fun b o e => ?_, by rw [upd_same, List.map_append] <;> rfl⟩
      rw [upd_ne (ne_of_none e nD)]
      exact sm _ _ e
    refine ⟨_, rfl, y, rfl, fun D nD => C3.walk_by walk_str (fun i H' => Same H H' ∧ H' D = some (.lst (((cs.take i).flatMap (row2 cs)).map V.str))) ⟨same_new nD, upd_same⟩ (fun _ _ _ _ => trivial) (fun i x H1 H2 hi hP hY => ?_) (fun H1 hP => ?_)⟩
    · obtain ⟨sm, eD⟩ := hP
      obtain ⟨rfl, a, ha, rfl⟩ := hY
      refine ⟨rfl, _, rfl, y, rfl, C3.walk_by walk_str (fun j H' => Same H H' ∧ H' D = some (.lst (((cs.take i).flatMap (row2 cs) ++ (cs.take j).flatMap (row3 cs a)).map V.str))) ⟨sm, by rw [eD]; simp⟩ (fun _ _ _ _ => trivial) (fun j x H3 H4 hj hP hY => ?_) (fun H3 hP => ?_)⟩
      · obtain ⟨sm, eD⟩ := hP
        obtain ⟨rfl, b, hb, rfl⟩ := hY
        refine ⟨rfl, _, rfl, y, rfl, C3.walk_by walk_str (fun k H' => Same H H' ∧ H' D = some (.lst ((((cs.take i).flatMap (row2 cs) ++ (cs.take j).flatMap (row3 cs a)) ++ ((cs.take k).filter fun c => decide (a < b) && decide (b < c)).map (s3 a b)).map V.str))) ⟨sm, by rw [eD]; simp⟩ (fun _ _ _ _ => trivial) (fun k x H5 H6 hk hP hY => ?_) (fun H5 hP => ?_)⟩
        · obtain ⟨sm, eD⟩ := hP
          obtain ⟨rfl, c, hc, rfl⟩ := hY
          have st := row3_take (a := a) (b := b) (ix hc)
          have few : ((cs.take i).flatMap (row2 cs) ++ (cs.take j).flatMap (row3 cs a) ++ ((cs.take k).filter fun c => decide (a < b) && decide (b < c)).map (s3 a b)).length ≤ 400 := by
            have h1 := flat_le (cs.take i) (f := row2 cs) (n := 36) fun a _ => Nat.le_trans (row2_len cs a) sq
            have h2 := flat_le (cs.take j) (f := row3 cs a) (n := 6) fun b _ => Nat.le_trans (row3_len cs a b) l6
            have h3 := List.length_filter_le (fun c => decide (a < b) && decide (b < c)) (cs.take k)
            have i1 : (cs.take i).length ≤ 6 := by rw [List.length_take]; omega
            have i2 : (cs.take j).length ≤ 6 := by rw [List.length_take]; omega
            have i3 : (cs.take k).length ≤ 6 := by rw [List.length_take]; omega
            rw [List.length_append, List.length_append, List.length_map]
            omega
          have no : (decide (a < b) && decide (b < c)) = false → Same H H6 ∧ H6 D = some (.lst ((((cs.take i).flatMap (row2 cs) ++ (cs.take j).flatMap (row3 cs a)) ++ ((cs.take (k + 1)).filter fun c => decide (a < b) && decide (b < c)).map (s3 a b)).map V.str)) := fun e => by
            rw [st, e]
            refine ⟨sm, ?_⟩
            rw [eD]
            simp
          refine ⟨rfl, _, rfl, _, rfl, _, _, rfl, rfl, decide (a < b), congrArg V.bl (one_lt a b), ite2 (fun h1 => ⟨_, rfl, _, _, rfl, rfl, decide (b < c), congrArg V.bl (one_lt b c), ite2 (fun h2 => ?_) (fun h2 => ?_)⟩) (fun h1 => ⟨false, rfl, ?_⟩)⟩
          · have put := one _ D H6 H6 (s3 a b c) nD sm eD
            refine ⟨_, rfl, _, rfl, _, _, rfl, rfl, Nat.le_of_lt (small 2 (by omega)), _, rfl, _, _, rfl, rfl, Nat.le_of_lt (small 3 (by omega)), _, eD, by rw [List.length_map]; exact small _ few, ?_⟩
            refine ⟨put.1, put.2.trans ?_⟩
            rw [st, h1, h2, List.append_assoc] <;> rfl
          · refine no ?_
            rw [h1, Bool.true_and]
            exact Bool.eq_false_iff.mpr h2
          · refine no ?_
            rw [Bool.eq_false_iff.mpr h1, Bool.false_and]
        · obtain ⟨sm, eD⟩ := hP
          refine ⟨sm, ?_⟩
          rw [flat_take (ix hb), eD, ← len, List.take_length, List.append_assoc] <;> rfl
      · obtain ⟨sm, eD⟩ := hP
        refine ⟨sm, ?_⟩
        rw [flat_take (ix ha), eD, ← len, List.take_length] <;> rfl
    · obtain ⟨sm, eD⟩ := hP
      rw [← len, List.take_length] at eD
      refine ⟨D, _, rfl, .inl ⟨SqL.of eD, fun l nl => q l _ (fun b o e => ?_) ?_ upd_same⟩⟩
      · have e2 := sm _ _ e
        rw [upd_ne (ne_of_none e2 nl)]
        exact e2
      · cases e : H l with
        | none => rfl
        | some o =>
          rw [sm _ _ e] at nl
          cases nl
theorem ok_sta {f : Addr} {fd : FuncData} (D : DefAt K mg "standing" sSta ["order", "three"] f fd) : FnOk P w K mg base CX0 1 f fd ["order", "three"] spSta := by
  refine D.F.ok scSta (fun vs H Q E h => ?_) (fun cdv A outer sh H vs Q E hr h => ?_)
  · obtain ⟨y, x, rfl, _⟩ := h
    rfl
  · obtain ⟨y, x, rfl, hy, q⟩ := h
    refine ⟨_, pss_one (ps_ret (pe_join pe_str (pe_lc (own := [("thing", 2)]) (g := gName 2) (tt := _) rfl scSta.nd (pi_str (pv 0)) (blkOk_by (own := [("thing", 2)]) (N := ["order", "three", "thing"]) (sc := defScope sSta) (by decide +kernel))
      (fun _ _ _ _ _ => pg_name (i := 2) scSta.nd rfl (Or.inl rfl)) (fun _ _ _ _ _ => pts_one (pt_cmpR op_in_str (pv 2) (pv 1) (by rfl))) (fun _ _ _ _ _ => pv 2)))), ?_⟩
    refine ⟨⟨_, rfl⟩, _, rfl, y, rfl, fun D nD => lc_it walk_str (fun k H' => Same H H' ∧ H' D = some (.lst (((y.cps.toList.take k).filter fun c => decide (c ∈ x.cps.toList)).map fun c => V.str ⟨#[c]⟩))) ⟨same_new nD, upd_same⟩ (fun _ _ _ _ => trivial) (fun k v H1 H2 hk hP hY => ?_) (fun H1 hP => ?_)⟩
    · obtain ⟨sm, eD⟩ := hP
      obtain ⟨rfl, c, hc, rfl⟩ := hY
      have ec : y.cps.toList[k]? = some c := by rw [Array.getElem?_toList]; exact hc
      refine ⟨rfl, _, rfl, _, rfl, _, _, rfl, rfl, decide (c ∈ x.cps.toList), congrArg V.bl (PySem.StrLaws.found_one x c), ite2 (fun e => ?_) (fun e => ?_)⟩
      · refine ⟨_, rfl, _, eD, ?_, fun b o h => ?_, ?_⟩
        · rw [List.length_map]
          refine Nat.lt_of_le_of_lt (List.length_filter_le _ _) ?_
          rw [List.length_take, Array.length_toList, sizeLine_eq]
          omega
        · rw [upd_ne (ne_of_none h nD)]
          exact sm _ _ h
        · rw [upd_same, List.take_succ, ec, Option.toList_some, List.filter_append, List.map_append]
          rw [show [c].filter (fun c => decide (c ∈ x.cps.toList)) = [c] by rw [List.filter_cons, if_pos e, List.filter_nil]] <;> rfl
      · refine ⟨sm, ?_⟩
        rw [eD, List.take_succ, ec, Option.toList_some, List.filter_append]
        rw [show [c].filter (fun c => decide (c ∈ x.cps.toList)) = [] by rw [List.filter_cons, if_neg e, List.filter_nil], List.append_nil]
    · obtain ⟨sm, eD⟩ := hP
      rw [List.take_of_length_le (by rw [Array.length_toList]; exact Nat.le_refl _)] at eD
      have e2 : H1 D = some (.lst ((signs (press y x)).map V.str)) := by
        rw [eD]
        unfold signs press
        rw [List.map_map] <;> rfl
      have ps : (press y x).cps.size ≤ 6 := by
        have := List.length_filter_le (fun c => decide (c ∈ x.cps.toList)) y.cps.toList
        have h2 := Array.length_toList (xs := y.cps)
        show (y.cps.toList.filter fun c => decide (c ∈ x.cps.toList)).length ≤ 6
        omega
      refine ⟨_, D, _, rfl, rfl, .inl (SqL.of e2), ?_, ?_⟩
      · rw [sign_sum, signs_length, show (PySem.Str.ofString "").length = 0 by decide +kernel]
        omega
      · rw [join_signs]
        exact q _ sm
end
end L2.Cal
end

section
set_option maxRecDepth 100000
set_option maxHeartbeats 4000000
/-! wheels and places, pure -/
namespace L2.Cal
open PySem PySem.Spec PyProof.Rows L2
def W1 (a b c : Nat) : List Str := [s3 a b c, s3 b c a, s3 c a b]
def W2 (a b c : Nat) : List Str := [s3 c b a, s3 a c b, s3 b a c]
def six (a b c : Nat) : List Str := W1 a b c ++ W2 a b c
structure Apart (a b c : Nat) : Prop where
  ab : a ≠ b
  ac : a ≠ c
  bc : b ≠ c
theorem six_of {a b c : Nat} {z : Str} (d : Apart a b c) (p : z.cps.toList.Perm [a, b, c]) : z ∈ six a b c := by
  obtain ⟨⟨l⟩⟩ := z
  have p : l.Perm [a, b, c] := p
  obtain ⟨ab, ac, bc⟩ := d
  have n : l.Nodup := p.nodup_iff.mpr (by simp [ab, ac, bc])
  have len := p.length_eq
  match l, len with
  | [u, v, w], _ =>
    have hu := p.mem_iff.mp (show u ∈ [u, v, w] by simp)
    have hv := p.mem_iff.mp (show v ∈ [u, v, w] by simp)
    have hw := p.mem_iff.mp (show w ∈ [u, v, w] by simp)
    simp only [List.mem_cons, List.not_mem_nil, or_false] at hu hv hw
    simp only [List.nodup_cons, List.mem_cons, List.not_mem_nil, or_false, not_or, not_false_eq_true, List.nodup_nil, and_true] at n
    have e : (⟨#[u, v, w]⟩ : Str) = s3 u v w := rfl
    show (⟨#[u, v, w]⟩ : Str) ∈ _
    rw [e]
    obtain ⟨⟨n1, n2⟩, n3⟩ := n
    rcases hu with rfl | rfl | rfl <;> rcases hv with rfl | rfl | rfl <;> rcases hw with rfl | rfl | rfl <;> first | exact absurd rfl n1 | exact absurd rfl n2 | exact absurd rfl n3 | simp [six, W1, W2]
theorem all_six {a b c : Nat} {M : List Str} (h : ∀ m ∈ M, m ∈ six a b c) (f : Str → Bool) : M.all f = (six a b c).all fun s => !(decide (s ∈ M)) || f s := by
  rw [Bool.eq_iff_iff]
  simp only [List.all_eq_true, Bool.or_eq_true, Bool.not_eq_true', decide_eq_false_iff_not]
  constructor
  · intro H s hs
    by_cases m : s ∈ M
    · exact .inr (H s m)
    · exact .inl m
  · intro H m hm
    exact (H m (h m hm)).resolve_left fun z => z hm
/-- the sign at a place -/
def atP (m : Str) (p : Nat) : Str := ⟨#[m.cps.getD p 0]⟩
def posOf : List (Str × Nat) := [("first", 0), ("last", 2), ("middle", 1)]
def spotsOf (M : List Str) (t : Str) : List (Str × Str) := (posOf.filter fun q => M.all fun m => !decide (atP m q.2 = t)).map fun q => (t, q.1)
def placesL (M : List Str) (x : Str) : List (Str × Str) := (signs x).flatMap (spotsOf M)
theorem no_place {a b c : Nat} {M : List Str} (d : Apart a b c) (h : ∀ m ∈ M, m ∈ six a b c) : placesL M (s3 a b c) = [] ↔ ((W1 a b c).all fun e => decide (e ∈ M)) = true ∨ ((W2 a b c).all fun e => decide (e ∈ M)) = true := by
  have k : ∀ (t p : Nat), (M.all fun m => !decide (atP m p = ⟨#[t]⟩)) = (six a b c).all fun s => !(decide (s ∈ M)) || !decide (s.cps.getD p 0 = t) := fun t p => by
    rw [all_six h]
    refine congrArg (List.all _) (funext fun s => ?_)
    have : decide (atP s p = ⟨#[t]⟩) = decide (s.cps.getD p 0 = t) := by
      rw [decide_eq_decide]
      simp [atP]
    rw [this]
  obtain ⟨ab, ac, bc⟩ := d
  have ba := ab.symm
  have ca := ac.symm
  have cb := bc.symm
  have g0 : ∀ u v w : Nat, (s3 u v w).cps.getD 0 0 = u := fun _ _ _ => rfl
  have g1 : ∀ u v w : Nat, (s3 u v w).cps.getD 1 0 = v := fun _ _ _ => rfl
  have g2 : ∀ u v w : Nat, (s3 u v w).cps.getD 2 0 = w := fun _ _ _ => rfl
  have sg : signs (s3 a b c) = [⟨#[a]⟩, ⟨#[b]⟩, ⟨#[c]⟩] := rfl
  unfold placesL spotsOf
  rw [sg]
  simp only [List.flatMap_cons, List.flatMap_nil, List.append_eq_nil_iff, List.map_eq_nil_iff, posOf, List.filter_eq_nil_iff, List.mem_cons, List.not_mem_nil, or_false, forall_eq_or_imp, forall_eq, and_true, k, six, W1, W2, List.cons_append, List.nil_append, List.all_cons, List.all_nil, g0, g1, g2,
    decide_true, decide_eq_false ab, decide_eq_false ac, decide_eq_false bc, decide_eq_false ba, decide_eq_false ca, decide_eq_false cb, Bool.not_true, Bool.not_false, Bool.or_false, Bool.or_true, Bool.and_true, Bool.true_and]
  generalize decide (s3 a b c ∈ M) = p1
  generalize decide (s3 b c a ∈ M) = p2
  generalize decide (s3 c a b ∈ M) = p3
  generalize decide (s3 c b a ∈ M) = p4
  generalize decide (s3 a c b ∈ M) = p5
  generalize decide (s3 b a c ∈ M) = p6
  revert p1 p2 p3 p4 p5 p6
  decide
/-! ### the orders that are found -/
def has (pr : Str → Str) (ys : List Str) (e : Str) : Bool := (ys.find? fun z => decide (pr z = e)).isSome
def firstOf (pr : Str → Str) (ys : List Str) (e : Str) : Str := (ys.find? fun z => decide (pr z = e)).getD ⟨#[]⟩
theorem has_map {pr : Str → Str} {ys : List Str} {e : Str} : has pr ys e = decide (e ∈ ys.map pr) := by
  unfold has
  rw [Bool.eq_iff_iff, List.find?_isSome, decide_eq_true_eq, List.mem_map]
  simp only [decide_eq_true_eq]
theorem first_is {pr : Str → Str} {ys : List Str} {e : Str} (h : has pr ys e = true) : firstOf pr ys e ∈ ys ∧ pr (firstOf pr ys e) = e := by
  unfold has at h
  unfold firstOf
  cases q : ys.find? fun z => decide (pr z = e) with
  | none => rw [q] at h; cases h
  | some z =>
    have h2 := List.find?_some q
    exact ⟨List.mem_of_find?_eq_some q, of_decide_eq_true h2⟩
/-- in order -/
def srt (l : List Str) : List Str := l.mergeSort fun a b => !ltCps b.cps.toList a.cps.toList
theorem srt_perm (l : List Str) : (srt l).Perm l := List.mergeSort_perm _ _
theorem srt_up (l : List Str) : (srt l).Pairwise Le := by
  have := List.pairwise_mergeSort (le := fun a b : Str => !ltCps b.cps.toList a.cps.toList) (fun a b c h1 h2 => by
    rw [Bool.not_eq_true'] at h1 h2 ⊢
    exact le_trans (x := a) (y := b) (z := c) h1 h2) (fun a b => by
    cases e : ltCps b.cps.toList a.cps.toList with
    | false => simp
    | true =>
      have : ltCps a.cps.toList b.cps.toList = false := Lo.le (x := b) (y := a) e
      simp [this]) l
  exact this.imp fun h => by
    rw [Bool.not_eq_true'] at h
    exact h
theorem srt_is {ys l : List Str} (p : ys.Perm l) (s : sortedS ys = true) : ys = srt l :=
  List.Perm.eq_of_pairwise (fun a b _ _ h1 h2 => le_eq h1 h2) (up_sorted s) (srt_up l) (p.trans (srt_perm l).symm)
theorem lo_of {x y : Str} (h : Le x y) (n : x ≠ y) : Lo x y := by
  unfold Lo
  cases e : ltCps x.cps.toList y.cps.toList with
  | true => rfl
  | false => exact absurd (le_eq h e) n
theorem climbs_lo : ∀ ys : List Str, Climbs ys → ys.Pairwise Lo
  | [], _ => .nil
  | [a], _ => List.pairwise_singleton _ _
  | a :: b :: r, h => by
    have ih := climbs_lo (b :: r) h.2
    refine List.pairwise_cons.mpr ⟨fun y hy => ?_, ih⟩
    rcases List.mem_cons.mp hy with rfl | hy
    · exact h.1
    · exact lo_trans _ _ _ h.1 ((List.pairwise_cons.mp ih).1 y hy)
/-- what is told of a wheel -/
def wheelR (pr : Str → Str) (ys : List Str) (a b c : Nat) : Option (List Str) :=
  if (W1 a b c).all (has pr ys) = true then some (srt ((W1 a b c).map (firstOf pr ys))) else if (W2 a b c).all (has pr ys) = true then some (srt ((W2 a b c).map (firstOf pr ys))) else none
theorem wheel_none {pr : Str → Str} {ys : List Str} {a b c : Nat} (d : Apart a b c) (h : ∀ z ∈ ys, pr z ∈ six a b c) : wheelR pr ys a b c = none ↔ placesL (ys.map pr) (s3 a b c) ≠ [] := by
  rw [ne_eq, no_place d (fun m hm => by obtain ⟨z, hz, rfl⟩ := List.mem_map.mp hm; exact h z hz)]
  have e : ∀ W : List Str, W.all (has pr ys) = W.all fun e => decide (e ∈ ys.map pr) := fun W => congrArg (List.all W) (funext fun e => has_map)
  unfold wheelR
  rw [e, e]
  generalize ((W1 a b c).all fun e => decide (e ∈ ys.map pr)) = p
  generalize ((W2 a b c).all fun e => decide (e ∈ ys.map pr)) = q
  cases p <;> cases q <;> simp
/-- a wheel that is told is one -/
structure IsWheel (pr : Str → Str) (ys zs : List Str) : Prop where
  three : zs.length = 3
  up : zs.Pairwise Lo
  sub : ∀ z, z ∈ zs → z ∈ ys
  each : ∀ p, p < 3 → ((zs.map pr).map fun m => atP m p).Nodup
  size : ∀ z, z ∈ zs → (pr z).cps.size = 3
theorem wheel_is {pr : Str → Str} {ys zs : List Str} {a b c : Nat} (d : Apart a b c) (h : wheelR pr ys a b c = some zs) : IsWheel pr ys zs := by
  have go : ∀ W : List Str, W.length = 3 → W.Nodup → (∀ p, p < 3 → (W.map fun m => atP m p).Nodup) → (∀ e ∈ W, e.cps.size = 3) → W.all (has pr ys) = true → IsWheel pr ys (srt (W.map (firstOf pr ys))) := fun W l n nd sz all => by
    rw [List.all_eq_true] at all
    have p := srt_perm (W.map (firstOf pr ys))
    have back : (W.map (firstOf pr ys)).map pr = W := by
      rw [List.map_map]
      exact (List.map_congr_left fun e he => (first_is (all e he)).2).trans (List.map_id _)
    have nn : (W.map (firstOf pr ys)).Nodup := by
      exact List.Pairwise.of_map pr (fun x y hne e => hne (by rw [e])) (show ((W.map (firstOf pr ys)).map pr).Nodup by rw [back]; exact n)
    have pw : (((srt (W.map (firstOf pr ys))).map pr)).Perm W := by
      have := p.map pr
      rw [back] at this
      exact this
    refine ⟨?_, ?_, fun z hz => ?_, fun q hq => ?_, fun z hz => ?_⟩
    · rw [p.length_eq, List.length_map, l]
    · exact (List.Pairwise.and (srt_up _) (p.nodup_iff.mpr nn)).imp fun ⟨u, v⟩ => lo_of u v
    · obtain ⟨e, he, rfl⟩ := List.mem_map.mp (p.mem_iff.mp hz)
      exact (first_is (all e he)).1
    · exact (pw.map fun m => atP m q).nodup_iff.mpr (nd q hq)
    · exact sz _ (pw.mem_iff.mp (List.mem_map.mpr ⟨z, hz, rfl⟩))
  obtain ⟨ab, ac, bc⟩ := d
  have ba := ab.symm
  have ca := ac.symm
  have cb := bc.symm
  have at_ : ∀ u v w p : Nat, atP (s3 u v w) p = ⟨#[(s3 u v w).cps.getD p 0]⟩ := fun _ _ _ _ => rfl
  unfold wheelR at h
  split at h
  · cases h
    rename_i q
    refine go _ rfl (by simp [W1, s3, ab, ac, bc, ba, ca, cb]) (fun p hp => ?_) (by simp [W1, s3]) q
    match p, hp with
    | 0, _ => simp [W1, atP, s3, ab, ac, bc, ba, ca, cb]
    | 1, _ => simp [W1, atP, s3, ab, ac, bc, ba, ca, cb]
    | 2, _ => simp [W1, atP, s3, ab, ac, bc, ba, ca, cb]
  · split at h
    · cases h
      rename_i q
      refine go _ rfl (by simp [W2, s3, ab, ac, bc, ba, ca, cb]) (fun p hp => ?_) (by simp [W2, s3]) q
      match p, hp with
      | 0, _ => simp [W2, atP, s3, ab, ac, bc, ba, ca, cb]
      | 1, _ => simp [W2, atP, s3, ab, ac, bc, ba, ca, cb]
      | 2, _ => simp [W2, atP, s3, ab, ac, bc, ba, ca, cb]
    · cases h
end L2.Cal
end

section
set_option maxRecDepth 100000
set_option maxHeartbeats 4000000
/-! a, b, c = a text; sets of texts from tuples and lists -/
namespace L2.Cal
open PySem PySem.Spec PyProof.Rows PySem.Froz L2
section
variable {prog : Program} {w : World} {A : Around} {E : Value → Shared → Prop}
theorem draw_walk {I : Addr} {fp wr : List Addr} {n : Nat} {P : Nat → Value → Prop} {St : Nat → Heap → Prop} (W : Walks prog w A I fp wr n P St) : ∀ (m i : Nat) (s : Shared) (Q : List Value → Shared → Prop), St i s.heap → i + m ≤ n →
    (∀ (vs : List Value) h' tk, vs.length = m → (∀ (j : Nat) v, vs[j]? = some v → P (i + j) v) → St (i + m) h' → (∀ b o, b ∉ wr → s.heap.get? b = some o → h'.get? b = some o) → Q vs { s with heap := h', toks := tk }) → wpAny (model prog w) A (draw (.ref I) m) Q E s
  | 0, i, s, Q, st, _, q => wpAny_pure (q [] s.heap s.toks rfl (fun j v h => by simp at h) st fun _ _ _ e => e)
  | m + 1, i, s, Q, st, hm, q => by
    show wpAny _ _ (pyNext (.ref I) >>= _) Q E s
    refine wpAny_bind (W.item i s _ _ (by omega) st fun v h1 t1 p st1 k1 => ?_)
    refine wpAny_bind (wpAny_holding (draw_walk W m (i + 1) _ _ st1 (by omega) fun vs h2 t2 l p2 st2 k2 => wpAny_pure ?_))
    refine q (v :: vs) h2 t2 (by rw [List.length_cons, l]) (fun j u e => ?_) (by rw [show i + (m + 1) = i + 1 + m by omega]; exact st2) fun b o n e => k2 b o n (k1 b o n e)
    cases j with
    | zero =>
      cases e
      exact p
    | succ j =>
      rw [show i + (j + 1) = i + 1 + j by omega]
      exact p2 j u e
theorem unpack_text {s : Shared} {x : Str} {t : Tok} {Q : List Value → Shared → Prop} (hh : A.handled = none)
    (q : ∀ vs h' tk, StrsAre vs (signs x) → (∀ b o, s.heap.get? b = some o → h'.get? b = some o) → Q vs { s with heap := h', toks := tk }) : wpAny (model prog w) A (unpackItems (.str x t) x.cps.size none) Q E s := by
  unfold unpackItems
  refine wpAny_bind ?_
  unfold notIterableAtAll
  refine wpAny_bind (wpAny_specialOf (typeIs_str s x t) F.slot_str_iter.lookup ?_)
  refine wpAny_pure ?_
  simp only [Bool.false_eq_true, if_false]
  have go : ∀ (ty : String) (W : Walks prog w A s.heap.objs.size [s.heap.objs.size] [s.heap.objs.size] x.cps.size (SignAt x) (fun i h => h.IsStrIter s.heap.objs.size ty x t i)),
      wpAny (model prog w) A (do
        let items ← holding [.ref s.heap.objs.size] (draw (.ref s.heap.objs.size) x.cps.size)
        if items.length < x.cps.size then
          rule "unpack.too-few"; raiseError "ValueError" s!"not enough values to unpack (expected {x.cps.size}, got {items.length})"
        if (← holding items (pyNext (.ref s.heap.objs.size))).isSome then
          rule "unpack.too-many"; raiseError "ValueError" s!"too many values to unpack (expected {x.cps.size})"
        return items) Q E { s with heap := s.heap.push { cls := .type ty, data := .fields #[.str x t, .int 0 0] } } := fun ty W => by
    refine wpAny_bind (wpAny_holding (draw_walk W x.cps.size 0 _ _ ⟨_, Heap.get?_push_size _ rfl, rfl, rfl⟩ (by omega) fun vs h1 t1 l p st k => ?_))
    rw [if_neg (by omega)]
    rw [Nat.zero_add] at st
    refine wpAny_bind (wpAny_holding (W.done _ _ _ st fun h2 t2 k2 => ?_))
    simp only [Option.isSome_none, Bool.false_eq_true, if_false]
    have are : StrsAre vs (signs x) := by
      have z : vs.map txtOf = signs x := by
        apply List.ext_getElem?
        intro i
        unfold signs
        rw [List.getElem?_map, List.getElem?_map, Array.getElem?_toList (xs := x.cps)]
        cases e : vs[i]? with
        | none =>
          rw [List.getElem?_eq_none_iff, l] at e
          rw [Array.getElem?_eq_none_iff.mpr e] <;> rfl
        | some v =>
          obtain ⟨c, u, hc, rfl⟩ := p i v e
          rw [Nat.zero_add] at hc
          rw [hc] <;> rfl
      rw [← z]
      refine are_of _ fun v hv => ?_
      obtain ⟨i, hi, e⟩ := List.getElem_of_mem hv
      obtain ⟨c, u, _, z⟩ := p i v (by rw [List.getElem?_eq_getElem hi, e])
      exact ⟨_, u, z⟩
    refine wpAny_pure (q vs h2 t2 are fun b o e => ?_)
    have nb : b ∉ [s.heap.objs.size] := fun z => Nat.ne_of_lt (Heap.lt_size e) (List.mem_singleton.mp z)
    exact k2 b o nb (k b o nb (Heap.get?_push_of_some _ e))
  cases ha : x.cps.all (· < 128) with
  | true => exact wpAny_bind (wpAny_holding (wpAny_pyIter_ascii ha (go _ (Walks.strAscii hh _ x t))))
  | false => exact wpAny_bind (wpAny_holding (wpAny_pyIter_wide ha (go _ (Walks.strWide hh _ x t))))
end
section
variable {X : Cx} {pos : Pos}
/-- a, b, .. = a text of that length -/
def gTxt (n : Nat) (t : TGs) : TG := fun v σ H Q => ∃ x, v = .str x ∧ x.cps.size = n ∧ t ((signs x).map V.str) σ H Q
theorem pg_txt {es : List Expr} {k : Nat} {t : TGs} {n : Nat} (hc : X.calm = true) (h : PGs X es t)
    (hn : (assignEach es X.env).length = n := by rfl) (hst : (assignEach es X.env).findIdx? (·.1) = none := by rfl) : PG X (.Tuple es k pos) (gTxt n t) := by
  refine ⟨fun pins s σ H v u Q I r hw => ?_⟩
  obtain ⟨x, rfl, hl, hw⟩ := hw
  obtain ⟨tk, rfl⟩ := r
  rw [assign_Tuple]
  refine wpAny_bind (wpAny_standAt ?_)
  unfold unpack
  rw [hn, hst, ← hl]
  refine wpAny_bind (wpAny_holding (unpack_text (I.ok.hd hc) fun vs h' tk' are kk => ?_))
  exact h.run pins _ σ H _ _ Q (I.kept kk) (vals_of_strs are) hw
end
section
variable {P : Program} {w : World} {A : Around} {E : Value → Shared → Prop} {s : Shared}
/-- set(xs), xs a tuple of texts -/
theorem set_tup {b : Addr} {items : Array Value} {ss : List Str} {Q : Value → Shared → Prop} (hh : A.handled = none) (at_ : s.heap.IsTuple b items) (are : StrsAre items.toList ss) (few : ss.length + 1 < scanBound)
    (q : ∀ (h' : Heap) (tk : Nat) (D : SD) (l : List Str), (∀ b o, s.heap.get? b = some o → h'.get? b = some o) → h'.get? s.heap.objs.size = some (sObj "set" D) → Has P w D l → (∀ x, x ∈ l ↔ x ∈ ss) → Q (.ref s.heap.objs.size) { s with heap := h', toks := tk }) :
    wpAny (model P w) A (call (.type "set") [.ref b]) Q E s := by
  refine fresh_set (mem := fun x => x ∈ ss) (fun A' E' Q' hA k => ?_) q
  have h2 : A'.handled = none := hA.trans hh
  obtain ⟨ol, hol, hcl, nl, hdl⟩ := at_
  have lt : b < s.heap.objs.size := Heap.lt_size hol
  obtain ⟨ocls, odict, odata, oslots⟩ := ol
  simp only at hcl hdl
  subst hcl; subst hdl
  have there : (s.heap.push (sObj "set" (#[], 0, .fresh 0 0 (!w.params.followText "set-order")))).get? b = some { cls := .type "tuple", dict := odict, data := .seq items nl, slots := oslots } := Heap.get?_push_of_some _ hol
  have no1 := PySem.F.sub_tuple_set
  have no2 := PySem.F.sub_tuple_frozenset
  have no3 : (Value.type "tuple" == Value.type "dict") = false := by decide
  have isl : (s.heap.push (sObj "set" (#[], 0, .fresh 0 0 (!w.params.followText "set-order")))).IsTuple b items := ⟨_, there, rfl, nl, rfl⟩
  unfold Builtin.Frozenset.updateFrom
  generalize hI : pyIter = it
  wp_walk
  subst hI
  refine wpAny_pyIter_tuple isl (wpAny_bind (wpAny_runValue ?_))
  have sz : (s.heap.push (sObj "set" (#[], 0, .fresh 0 0 (!w.params.followText "set-order")))).objs.size = s.heap.objs.size + 1 := Heap.size_push ..
  have off : b ≠ (s.heap.push (sObj "set" (#[], 0, .fresh 0 0 (!w.params.followText "set-order")))).objs.size := by rw [sz]; exact Nat.ne_of_lt (Nat.lt_succ_of_lt lt)
  have n : items.size = ss.length := by rw [← Array.length_toList]; exact are_length are
  refine fill (s := s) (T := "set") (val := fun i => ss.getD i ⟨#[]⟩) (Walks.tuple (by simp [h2]) _ b off items) (S := s.heap.objs.size) ?_ (fun i v hv => ?_) (by omega) (fun h' tk D l keep at1 H mem => wpAny_pure (k h' tk D l (fun c o z => keep c o (Nat.ne_of_lt (Heap.lt_size z)) (fun m => ?_) z) at1 H fun x => (mem x).trans ?_))
    (items.size - 0) 0 _ _ _ [] rfl (Nat.zero_le _) ⟨⟨_, Heap.get?_push_size _ rfl, rfl, rfl⟩, isl.push _⟩ (fun c o _ _ z => Heap.get?_push_of_some _ (Heap.get?_push_of_some _ z)) (Heap.get?_push_of_some _ (Heap.get?_push_size _ rfl)) (Has.none 0) (fun x => by simp) (Nat.zero_le _)
  · rw [sz]
    intro z
    rcases List.mem_cons.mp z with z | z
    · exact absurd z (Nat.ne_of_lt (Nat.lt_succ_self _))
    · exact absurd (List.mem_singleton.mp z) (Nat.ne_of_gt lt)
  · exact are_at are i v (by rw [Array.getElem?_toList]; exact hv)
  · rw [List.mem_singleton.mp m, sz] at z
    exact absurd (Heap.lt_size z) (Nat.not_lt.mpr (Nat.le_succ _))
  · rw [n]
    constructor
    · rintro ⟨j, hj, e⟩
      rw [List.getD_eq_getElem?_getD, List.getElem?_eq_getElem hj] at e
      exact e ▸ List.getElem_mem hj
    · intro hx
      obtain ⟨j, hj, e⟩ := List.getElem_of_mem hx
      exact ⟨j, hj, by rw [List.getD_eq_getElem?_getD, List.getElem?_eq_getElem hj]; exact e⟩
end
section
variable {X : Cx}
/-- sorted(set(xs)), xs a tuple of texts -/
def tSortedSetT (K : PySem.W.Frag) (ta : TE) : TE := fun σ H Q => ta σ H fun x H1 => ∃ (l : Addr) (xs : List Str), x = V.ref l ∧ SqT K H1 l (xs.map V.str) ∧ xs.length < 64 ∧
  ∀ (ys : List Str) (p : Addr), Climbs ys → ys.Nodup → (∀ x, x ∈ ys ↔ x ∈ xs) → H1 p = none → Q (.ref p) (upd H1 p (.lst (ys.map V.str)))
theorem pe_sortedSetT {a : Expr} {ta : TE} {p p2 q pos : Pos} (hc : X.calm = true) (hg : Gl X "sorted") (hm : X.mg "sorted" = none) (hg2 : Gl X "set") (hm2 : X.mg "set" = none) (ha : PE X a ta)
    (na : starEach [a] X.env = (false, eval a X.env) :: starEach [] X.env := by rfl) : PE X (.Call (.Name "sorted" p) [.Call (.Name "set" p2) [a] [] q] [] pos) (tSortedSetT X.K ta) := by
  refine ⟨fun pins s σ H Q I h => Call_ (ld_blt I hg hm PyProof.Rows.boot_sorted (PyProof.Rows.callWith_builtin1 (PyProof.Rows.args_cons ?_ rfl) rfl rfl))⟩
  refine Call_ (ld_blt I hg2 hm2 PyProof.Rows.boot_set (PyProof.Rows.callWith_type1 (PyProof.Rows.args_cons (thn (ha.run pins s σ H _ I h) fun v s1 ⟨x, H1, I1, r1, q1⟩ => PyProof.Rows.args_nil ?_) na) na rfl))
  obtain ⟨l, xs, rfl, hq, few, fin⟩ := q1
  cases r1
  obtain ⟨its, r, pl, _⟩ := I1.tuple hq
  refine set_tup (I1.ok.hd hc) pl (by simpa using r.strs) (by unfold scanBound; omega) fun h' tk D L k1 at1 S mem => PyProof.Rows.args_nil ?_
  have I2 : Inv X pins σ H1 { s1 with heap := h', toks := tk } := I1.kept k1
  have short : L.length < 64 := Nat.lt_of_le_of_lt (List.Nodup.length_le_of_subset S.one fun x hx => (mem x).mp hx) few
  refine sort_set (I2.ok.hd hc) at1 S short fun s' b out c ys k g o z at2 are pm cl => ?_
  obtain ⟨J, n⟩ := inv_list I2 k g o z at2 are (by rw [pm.length_eq]; exact short)
  exact ⟨.ref b, _, J, rfl, fin ys b cl (pm.nodup_iff.mpr S.one) (fun x => pm.mem_iff.trans (mem x)) n⟩
/-- len(set(xs)), xs a list of texts -/
def tLenSetL (K : PySem.W.Frag) (ta : TE) : TE := fun σ H Q => ta σ H fun x H1 => ∃ (l : Addr) (xs : List Str), x = V.ref l ∧ SqL K H1 l (xs.map V.str) ∧ xs.length < 64 ∧ ∀ ys : List Str, ys.Nodup → (∀ x, x ∈ ys ↔ x ∈ xs) → Q (.int ys.length) H1
theorem pe_lenSetL {a : Expr} {ta : TE} {p p2 q pos : Pos} (hc : X.calm = true) (hg : Gl X "len") (hm : X.mg "len" = none) (hg2 : Gl X "set") (hm2 : X.mg "set" = none) (ha : PE X a ta)
    (na : starEach [a] X.env = (false, eval a X.env) :: starEach [] X.env := by rfl) : PE X (.Call (.Name "len" p) [.Call (.Name "set" p2) [a] [] q] [] pos) (tLenSetL X.K ta) := by
  refine ⟨fun pins s σ H Q I h => Call_ (ld_blt I hg hm PySem.boot_len (PyProof.Rows.callWith_builtin1 (PyProof.Rows.args_cons ?_ rfl) rfl rfl))⟩
  refine Call_ (ld_blt I hg2 hm2 PyProof.Rows.boot_set (PyProof.Rows.callWith_type1 (PyProof.Rows.args_cons (thn (ha.run pins s σ H _ I h) fun v s1 ⟨x, H1, I1, r1, q1⟩ => PyProof.Rows.args_nil ?_) na) na rfl))
  obtain ⟨l, xs, rfl, hq, few, fin⟩ := q1
  cases r1
  obtain ⟨its, r, pl, _⟩ := I1.list hq
  refine set_list (I1.ok.hd hc) pl.isList (by simpa using r.strs) (by unfold scanBound; omega) fun h' tk D L k1 at1 S mem => PyProof.Rows.args_nil ?_
  have I2 : Inv X pins σ H1 { s1 with heap := h', toks := tk } := I1.kept k1
  have short : D.1.size = L.length := S.ok.sz
  have le : L.length ≤ xs.length := List.Nodup.length_le_of_subset S.one fun x hx => (mem x).mp hx
  refine call_len_set at1 ⟨rfl, rfl, rfl⟩ rfl S.ok.fit (by rw [short] <;> omega) ⟨.int L.length, H1, I2.tok _, ⟨_, by rw [short]⟩, fin L S.one mem⟩
end
end L2.Cal
end

section
set_option maxRecDepth 100000
set_option maxHeartbeats 4000000
namespace L2.Cal
open PySem PySem.Spec PyProof.Rows L2
abbrev sWup : Stmt := topS 18
theorem scWup : FnScope ["three", "a", "b", "c"] ["three"] (defScope sWup) := ⟨rfl, rfl, rfl, by decide +kernel, rfl, by decide +kernel, by decide +kernel⟩
abbrev sWam : Stmt := topS 19
theorem scWam : FnScope ["orders", "three", "found", "order", "wheel", "each"] ["orders", "three"] (defScope sWam) := ⟨rfl, rfl, rfl, by decide +kernel, rfl, by decide +kernel, by decide +kernel⟩
def spWup : Sp := fun vs H Q _ => ∃ a b c : Nat, vs = [.str (s3 a b c)] ∧ ∀ (p q1 q2 : Addr) (H' : Hp), Same H H' → H' p = some (.tup [.ref q1, .ref q2]) → H' q1 = some (.tup ((W1 a b c).map V.str)) → H' q2 = some (.tup ((W2 a b c).map V.str)) → Q (.ref p) H'
/-- orders pressed upon three things -/
abbrev prs (a b c : Nat) : Str → Str := fun z => press z (s3 a b c)
def spWam (K : PySem.W.Frag) : Sp := fun vs H Q _ => ∃ (t : Addr) (ys : List Str) (a b c : Nat), vs = [.ref t, .str (s3 a b c)] ∧ SqT K H t (ys.map V.str) ∧ (∀ z, z ∈ ys → z.cps.size ≤ 6) ∧ ys.length ≤ 60 ∧
  (wheelR (prs a b c) ys a b c = none → ∀ H', Same H H' → Q .non H') ∧ ∀ zs, wheelR (prs a b c) ys a b c = some zs → ∀ (p : Addr) (H' : Hp), Same H H' → H' p = some (.tup (zs.map V.str)) → Q (.ref p) H'
theorem find_take {α : Type} {f : α → Bool} {l : List α} {x : α} {k : Nat} (h : l[k]? = some x) : (l.take (k + 1)).find? f = ((l.take k).find? f).or (if f x = true then some x else none) := by
  rw [List.take_succ, h, Option.toList_some, List.find?_append]
  congr 1
  rw [List.find?_cons]
  cases f x <;> rfl
section
variable {P : Program} {w : World} {K : PySem.W.Frag} {mg : Str → Option Value} {base : Heap} {C : Addr}
theorem ok_wup {f : Addr} {fd : FuncData} (D : DefAt K mg "wheels_upon" sWup ["three"] f fd) : FnOk P w K mg base CX0 1 f fd ["three"] spWup := by
  refine D.F.ok scWup (fun vs H Q E h => ?_) (fun cdv A outer sh H vs Q E hr h => ?_)
  · obtain ⟨a, b, c, rfl, _⟩ := h
    rfl
  · obtain ⟨a, b, c, rfl, q⟩ := h
    refine ⟨_, pss_cons (ps_asg (pv 0) (pg_txt rfl (pgs_cons (pg_name (i := 1) scWup.nd rfl (.inl rfl)) (pgs_cons (pg_name (i := 2) scWup.nd rfl (.inl rfl)) (pgs_cons (pg_name (i := 3) scWup.nd rfl (.inl rfl)) pgs_nil)))))
      (pss_one (ps_ret (pe_tupS (pa_cons (pe_tupS (pa_cons (pe_op op_add_str (pe_op op_add_str (pv 1) (pv 2)) (pv 3)) (pa_cons (pe_op op_add_str (pe_op op_add_str (pv 2) (pv 3)) (pv 1)) (pa_cons (pe_op op_add_str (pe_op op_add_str (pv 3) (pv 1)) (pv 2)) pa_nil))))
        (pa_cons (pe_tupS (pa_cons (pe_op op_add_str (pe_op op_add_str (pv 3) (pv 2)) (pv 1)) (pa_cons (pe_op op_add_str (pe_op op_add_str (pv 1) (pv 3)) (pv 2)) (pa_cons (pe_op op_add_str (pe_op op_add_str (pv 2) (pv 1)) (pv 3)) pa_nil)))) pa_nil))))), ?_⟩
    have z : ∀ n : Nat, n ≤ 3 → n ≤ sizeLine := fun n h => by rw [sizeLine_eq]; omega
    have z2 := z 2 (by decide)
    have z3 := z 3 (by decide)
    refine ⟨_, rfl, s3 a b c, rfl, rfl, _, _, rfl, _, _, rfl, _, _, rfl, rfl, ?_⟩
    refine ⟨_, rfl, _, rfl, _, _, rfl, rfl, z2, _, rfl, _, _, rfl, rfl, z3, _, rfl, _, rfl, _, _, rfl, rfl, z2, _, rfl, _, _, rfl, rfl, z3, _, rfl, _, rfl, _, _, rfl, rfl, z2, _, rfl, _, _, rfl, rfl, z3, z3, fun q1 H1 t1 n1 e1 => ?_⟩
    refine ⟨_, rfl, _, rfl, _, _, rfl, rfl, z2, _, rfl, _, _, rfl, rfl, z3, _, rfl, _, rfl, _, _, rfl, rfl, z2, _, rfl, _, _, rfl, rfl, z3, _, rfl, _, rfl, _, _, rfl, rfl, z2, _, rfl, _, _, rfl, rfl, z3, z3, fun q2 H2 t2 n2 e2 => ⟨z2, fun p H3 t3 n3 e3 => ?_⟩⟩
    exact q p q1 q2 H3 (t1.trans (t2.trans t3)) e3 (t3 _ _ (t2 _ _ e1)) (t3 _ _ e2)
theorem ok_wam {f fS fU : Addr} {fd fdS fdU : FuncData} (D : DefAt K mg "wheel_among" sWam ["orders", "three"] f fd) (DS : DefAt K mg "standing" sSta ["order", "three"] fS fdS) (DU : DefAt K mg "wheels_upon" sWup ["three"] fU fdU) (T : Txt mg) :
    FnOk P w K mg base CX0 2 f fd ["orders", "three"] (spWam K) := by
  have GS : FnOk P w K mg base CX0 1 fS fdS ["order", "three"] spSta := ok_sta DS
  have GU : FnOk P w K mg base CX0 1 fU fdU ["three"] spWup := ok_wup DU
  refine D.F.ok scWam (fun vs H Q E h => ?_) (fun cdv A outer sh H vs Q E hr h => ?_)
  · obtain ⟨t, ys, a, b, c, rfl, _⟩ := h
    rfl
  · obtain ⟨t, ys, a, b, c, rfl, hT, h6, few, qn, qs⟩ := h
    have hu := hr.units
    have hu1 : (A.deeper (envOfC (Str.ofString "wheel_among") (defScope sWam) sh.heap.objs.size f cdv)).units + 1 < cLine := by omega
    refine ⟨_, (pss_cons (ps_set (i := 2) scWam.nd rfl (.inr rfl) pe_dnewS)
      (pss_cons (ps_for PassesOwn.never rfl (pi_tup (pv 0)) (pg_name (i := 3) scWam.nd rfl (.inl rfl)) (pss_one (ps_expr (pe_dsetd (pv 2) (pe_call GS (hr.mono (by decide)) (by rfl) DS.g DS.F.kp DS.b .nil pass0 (pa_cons (pv 3) (pa_cons (pv 1) pa_nil))) (pv 3) ⟨rfl, rfl, rfl, rfl⟩))))
      (pss_cons (ps_for PassesOwn.never rfl (pi_tup (pe_call GU (hr.mono (by decide)) (by rfl) DU.g DU.F.kp DU.b .nil pass0 (pa_cons (pv 1) pa_nil))) (pg_name (i := 4) scWam.nd rfl (.inl rfl))
        (pss_one (ps_if (pt_val (pe_callB (cr_all rfl) (by rfl) T.b_all (by decide +kernel) (pa_cons (pe_lc (own := [("each", 5)]) (g := gName 5) (tt := tYes) rfl scWam.nd (pi_tup (pv 4)) (blkOk_by (own := [("each", 5)]) (N := ["orders", "three", "found", "order", "wheel", "each"]) (sc := defScope sWam) (by decide +kernel))
            (fun _ _ _ _ _ => pg_name (i := 5) scWam.nd rfl (Or.inl rfl)) (fun _ _ _ _ _ => pts_nil) (fun _ _ _ _ _ => pe_cmp (pc_din hu1 (pv 5) (pv 2)))) pa_nil)))
          (pss_one (ps_ret (pe_callTy call_tuple_of (by rfl) T.b_tuple (by decide +kernel) (pa_cons (pe_callB cr_sortedS (by rfl) T.b_sorted (by decide +kernel) (pa_cons (pe_lc (own := [("each", 5)]) (g := gName 5) (tt := tYes) rfl scWam.nd (pi_tup (pv 4))
            (blkOk_by (own := [("each", 5)]) (N := ["orders", "three", "found", "order", "wheel", "each"]) (sc := defScope sWam) (by decide +kernel)) (fun _ _ _ _ _ => pg_name (i := 5) scWam.nd rfl (Or.inl rfl)) (fun _ _ _ _ _ => pts_nil) (fun _ _ _ _ _ => pe_dget hu1 (pv 2) (pv 5) (fun _ _ => rfl))) pa_nil)) pa_nil)))) pss_nil)))
      (pss_one (ps_ret pe_non))))), ?_⟩
    generalize hpr : prs a b c = pr at qn qs
    have pre : ∀ z, press z (s3 a b c) = pr z := fun z => by rw [← hpr]
    have small : ∀ n : Nat, n ≤ 100 → n < sizeLine := fun n h => by rw [sizeLine_eq]; omega
    refine fun d H0 s0 n0 e0 => ⟨_, rfl, t, rfl, ⟨_, same_seqT hT s0⟩, for_tup (K := K) (a := t) (xs := ys.map V.str) (fun k σ H' => ∃ v3 v4 v5 kvs, σ = [some (.ref t), some (.str (s3 a b c)), some (.ref d), v3, v4, v5] ∧ Same H H' ∧ H' d = some (.dK kvs) ∧ kvs.length ≤ k ∧
        ∀ e : Str, valV kvs (.inr e) = ((ys.take k).find? fun z => decide (pr z = e)).map V.str)
      ⟨_, _, _, [], rfl, s0, e0, Nat.le_refl _, fun e => by simp [valV]⟩ (fun k σ H' _ hP => ?_) (fun k x σ H1 hx hP => ?_) (fun σ H1 hP => ?_)⟩
    · obtain ⟨_, _, _, _, _, sm, _⟩ := hP
      exact same_seqT hT sm
    · obtain ⟨v3, v4, v5, kvs, rfl, sm, ed, kl, kv⟩ := hP
      rw [List.getElem?_map] at hx
      cases ez : ys[k]? with
      | none =>
        rw [ez] at hx
        cases hx
      | some z =>
        rw [ez] at hx
        cases hx
        have hk := (List.getElem?_eq_some_iff.mp ez).1
        have hz := h6 z (List.mem_of_getElem? ez)
        refine ⟨_, rfl, d, rfl, .inl ⟨kvs, .inl ed⟩, _, rfl, _, rfl, z, s3 a b c, rfl, hz, fun H2 s2 => ⟨_, rfl, kvs, .inr (press z (s3 a b c)), s2 _ _ ed, rfl, small _ (by omega), fun v hv => ?_, fun hn => ?_⟩⟩
        · refine ⟨_, _, _, kvs, rfl, sm.trans s2, s2 _ _ ed, by omega, fun e => ?_⟩
          rw [find_take ez, kv e]
          by_cases q : pr z = e
          · rw [pre, q, kv e] at hv
            cases w : (ys.take k).find? fun z => decide (pr z = e) with
            | none => rw [w] at hv; cases hv
            | some u => rfl
          · rw [decide_eq_false q, if_neg Bool.false_ne_true, Option.or_none]
        · have nd : ∀ y o, H y = some o → y ≠ d := fun y o e z => by rw [z, n0] at e; cases e
          refine ⟨_, _, _, putK kvs (.inr (press z (s3 a b c))) (.str z), rfl, fun y o e => ?_, upd_same, ?_, fun e => ?_⟩
          · rw [upd_ne (nd y o e)]
            exact s2 _ _ (sm _ _ e)
          · have := length_putK kvs (.inr (press z (s3 a b c))) (.str z)
            omega
          · rw [valV_put, find_take ez, kv e]
            by_cases q : pr z = e
            · rw [pre] at hn
              rw [pre, q, if_pos rfl]
              rw [q, kv e] at hn
              cases w : (ys.take k).find? fun z => decide (pr z = e) with
              | none => simp
              | some u => rw [w] at hn; cases hn
            · rw [decide_eq_false q, if_neg Bool.false_ne_true, Option.or_none, if_neg]
              intro w
              rw [pre] at w
              exact q (Sum.inr.inj w).symm
    · obtain ⟨v3, v4, v5, kvs, rfl, sm, ed, kl, kv⟩ := hP
      rw [List.length_map, List.take_length] at kv
      have hs : ∀ e, (valV kvs (.inr e)).isSome = has pr ys e := fun e => by
        rw [kv e, Option.isSome_map]
        rfl
      refine ⟨_, rfl, a, b, c, rfl, fun p q1 q2 H2 s2 ep e1 e2 => ⟨p, rfl, ⟨_, SqT.of ep⟩, for_tup (K := K) (a := p) (xs := [.ref q1, .ref q2]) (fun k σ H' => ∃ v3 v4 v5, σ = [some (.ref t), some (.str (s3 a b c)), some (.ref d), v3, v4, v5] ∧ Same H2 H' ∧
          (0 < k → (W1 a b c).all (has pr ys) = false) ∧ (1 < k → (W2 a b c).all (has pr ys) = false))
        ⟨_, _, _, rfl, fun _ _ z => z, fun z => absurd z (by omega), fun z => absurd z (by omega)⟩ (fun k σ H' _ hP => ?_) (fun k x σ H3 hx hP => ?_) (fun σ H3 hP => ?_)⟩⟩
      · obtain ⟨_, _, _, _, sk, _⟩ := hP
        exact SqT.of (sk _ _ ep)
      · obtain ⟨w3, w4, w5, rfl, sk, no1, no2⟩ := hP
        obtain ⟨qq, W, rfl, eqq, wl, yes, no⟩ : ∃ (qq : Addr) (W : List Str), x = .ref qq ∧ H3 qq = some (.tup (W.map V.str)) ∧ W.length = 3 ∧ (W.all (has pr ys) = true → wheelR pr ys a b c = some (srt (W.map (firstOf pr ys)))) ∧
            (W.all (has pr ys) = false → (0 < k + 1 → (W1 a b c).all (has pr ys) = false) ∧ (1 < k + 1 → (W2 a b c).all (has pr ys) = false)) := by
          match k, hx with
          | 0, hx =>
            cases hx
            exact ⟨q1, W1 a b c, rfl, sk _ _ e1, rfl, fun y => by unfold wheelR; rw [if_pos y], fun n => ⟨fun _ => n, fun z => absurd z (by omega)⟩⟩
          | 1, hx =>
            cases hx
            have z1 := no1 (by omega)
            exact ⟨q2, W2 a b c, rfl, sk _ _ e2, rfl, fun y => by unfold wheelR; rw [z1, if_neg Bool.false_ne_true, if_pos y], fun n => ⟨fun _ => z1, fun _ => n⟩⟩
          | n + 2, hx => simp at hx
        have ed3 : H3 d = some (.dK kvs) := sk _ _ (s2 _ _ ed)
        refine ⟨_, rfl, qq, rfl, ⟨_, SqT.of eqq⟩, fun D nD => lc_tup (K := K) (a := qq) (xs := W.map V.str) (fun j H' => Same H3 H' ∧ H' D = some (.lst (((W.take j).map (has pr ys)).map V.bl))) ⟨same_new nD, upd_same⟩ (fun j H' _ hP => SqT.of (hP.1 _ _ eqq)) (fun j x H4 hx hP => ?_) (fun H4 hP => ?_)⟩
        · obtain ⟨s4, eD⟩ := hP
          rw [List.getElem?_map] at hx
          cases ee : W[j]? with
          | none =>
            rw [ee] at hx
            cases hx
          | some e =>
            rw [ee] at hx
            cases hx
            refine ⟨rfl, _, rfl, _, rfl, d, _, rfl, DGet.k (k := .inr e) (s4 _ _ ed3), _, eD, ?_, fun y o h => ?_, ?_⟩
            · rw [List.length_map, List.length_map, List.length_take]
              exact small _ (by omega)
            · rw [upd_ne (ne_of_none h nD)]
              exact s4 _ _ h
            · rw [upd_same, List.take_succ, ee, Option.toList_some, List.map_append, List.map_append, hs e] <;> rfl
        · obtain ⟨s4, eD⟩ := hP
          rw [List.length_map, List.take_length] at eD
          refine ⟨D, W.map (has pr ys), rfl, SqL.of eD, _, rfl, ite2 (fun y => ?_) (fun n => ?_)⟩
          · have y2 : W.all (has pr ys) = true := by
              rw [List.all_map] at y
              exact y
            have all := List.all_eq_true.mp y2
            have eqq4 := s4 _ _ eqq
            refine ⟨_, rfl, qq, rfl, ⟨_, SqT.of eqq4⟩, fun D2 nD2 => lc_tup (K := K) (a := qq) (xs := W.map V.str) (fun j H' => Same H4 H' ∧ H' D2 = some (.lst (((W.take j).map (firstOf pr ys)).map V.str))) ⟨same_new nD2, upd_same⟩ (fun j H' _ hP => SqT.of (hP.1 _ _ eqq4)) (fun j x H5 hx hP => ?_) (fun H5 hP => ?_)⟩
            · obtain ⟨s5, eD2⟩ := hP
              rw [List.getElem?_map] at hx
              cases ee : W[j]? with
              | none =>
                rw [ee] at hx
                cases hx
              | some e =>
                rw [ee] at hx
                cases hx
                have hv : valV kvs (.inr e) = some (.str (firstOf pr ys e)) := by
                  have he := all e (List.mem_of_getElem? ee)
                  unfold has at he
                  unfold firstOf
                  rw [kv e]
                  cases w : ys.find? fun z => decide (pr z = e) with
                  | none => rw [w] at he; cases he
                  | some u => rfl
                refine ⟨rfl, _, rfl, _, rfl, d, _, rfl, hv ▸ DGet.k (k := .inr e) (s5 _ _ (s4 _ _ ed3)), _, eD2, ?_, fun y o h => ?_, ?_⟩
                · rw [List.length_map, List.length_map, List.length_take]
                  exact small _ (by omega)
                · rw [upd_ne (ne_of_none h nD2)]
                  exact s5 _ _ h
                · rw [upd_same, List.take_succ, ee, Option.toList_some, List.map_append, List.map_append] <;> rfl
            · obtain ⟨s5, eD2⟩ := hP
              rw [List.length_map, List.take_length] at eD2
              refine ⟨D2, W.map (firstOf pr ys), rfl, SqL.of eD2, by rw [List.length_map]; omega, fun zs p2 pm so np => ⟨p2, _, rfl, .inl ⟨SqL.of upd_same, fun l nl => ?_⟩⟩⟩
              have ez := srt_is pm so
              subst ez
              exact qs _ (yes y2) l _ ((sm.trans (s2.trans (sk.trans (s4.trans s5)))).trans ((same_new np).trans (same_new nl))) upd_same
          · have n2 : W.all (has pr ys) = false := by
              rw [List.all_map] at n
              exact Bool.eq_false_iff.mpr n
            exact ⟨_, _, _, rfl, sk.trans s4, no n2⟩
      · obtain ⟨w3, w4, w5, rfl, sk, no1, no2⟩ := hP
        refine qn ?_ _ (sm.trans (s2.trans sk))
        have z1 := no1 (by show 0 < 2; decide)
        have z2 := no2 (by show 1 < 2; decide)
        unfold wheelR
        rw [z1, z2, if_neg Bool.false_ne_true, if_neg Bool.false_ne_true]
end
end L2.Cal
end

section
set_option maxRecDepth 100000
set_option maxHeartbeats 4000000
/-! orders of hills, pure -/
namespace L2.Cal
open PySem PySem.Spec PyProof.Rows L2
theorem nodup_at {l : List Nat} (n : l.Nodup) {i j : Nat} {hi : i < l.length} {hj : j < l.length} (e : l[i] = l[j]) : i = j := by
  have q := List.pairwise_iff_getElem.mp n
  rcases Nat.lt_trichotomy i j with h | h | h
  · exact absurd e (q i j hi hj h)
  · exact h
  · exact absurd e.symm (q j i hj hi h)
theorem mid_in {L : List Nat} {A B i : Nat} (n : L.Nodup) (hi : i < L.length) : L[i] ∈ (L.take B).drop A ↔ A ≤ i ∧ i < B := by
  rw [List.mem_iff_getElem?]
  constructor
  · rintro ⟨k, hk⟩
    rw [List.getElem?_drop, List.getElem?_take] at hk
    split at hk
    · rename_i lt
      obtain ⟨h, e⟩ := List.getElem?_eq_some_iff.mp hk
      have := nodup_at n e
      omega
    · cases hk
  · rintro ⟨h1, h2⟩
    refine ⟨i - A, ?_⟩
    rw [List.getElem?_drop, List.getElem?_take, if_pos (by omega), show A + (i - A) = i by omega, List.getElem?_eq_getElem hi]
theorem hill_last {L z S : List Nat} (n : L.Nodup) (p : z.Perm L) (hil : ∀ n, n ≤ z.length → ∃ A B, (z.take n).Perm ((L.take B).drop A)) {u v w : Nat} (uv : u < v) (vw : v < w) (hw : w < L.length)
    (hu : L[u] ∈ S) (hv : L[v] ∈ S) (hw' : L[w] ∈ S) : (z.filter fun c => decide (c ∈ S)).getLast? ≠ some L[v] := by
  intro e
  have nz : z.Nodup := p.nodup_iff.mpr n
  obtain ⟨s, t, rfl⟩ := List.append_of_mem (p.mem_iff.mpr (List.getElem_mem (show v < L.length by omega)))
  have nd := List.nodup_append.mp nz
  have nt : L[v] ∉ t := (List.nodup_cons.mp nd.2.1).1
  have ns : L[v] ∉ s := fun h => nd.2.2 _ h _ (List.mem_cons_self ..) rfl
  have ft : t.filter (fun c => decide (c ∈ S)) = [] := by
    rw [List.filter_append, List.filter_cons, if_pos (decide_eq_true hv)] at e
    cases q : t.filter (fun c => decide (c ∈ S)) with
    | nil => rfl
    | cons x r =>
      rw [q] at e
      have e2 : (x :: r).getLast? = some L[v] := by
        rw [List.getLast?_append, List.getLast?_cons_cons] at e
        cases h : (x :: r).getLast? with
        | none => simp at h
        | some y =>
          rw [h] at e
          simpa using e
      have := List.mem_of_getLast? e2
      rw [← q] at this
      exact absurd (List.mem_filter.mp this).1 nt
  have ins : ∀ i, (hi : i < L.length) → i ≠ v → L[i] ∈ S → L[i] ∈ s := fun i hi ne hS => by
    rcases List.mem_append.mp (p.mem_iff.mpr (List.getElem_mem hi)) with h | h
    · exact h
    · rcases List.mem_cons.mp h with h | h
      · exact absurd (nodup_at n h) ne
      · have : L[i] ∈ t.filter (fun c => decide (c ∈ S)) := List.mem_filter.mpr ⟨h, decide_eq_true hS⟩
        rw [ft] at this
        cases this
  obtain ⟨A, B, q⟩ := hil s.length (by simp)
  rw [List.take_left] at q
  have h1 := (mid_in n (by omega)).mp (q.mem_iff.mp (ins u (by omega) (by omega) hu))
  have h2 := (mid_in n hw).mp (q.mem_iff.mp (ins w hw (by omega) hw'))
  exact ns (q.mem_iff.mpr ((mid_in n (by omega)).mpr ⟨by omega, by omega⟩))
/-- no wheel if one of the three is never last -/
theorem never_last {pr : Str → Str} {ys : List Str} {a b c m : Nat} (hm : m = a ∨ m = b ∨ m = c) (h : ∀ z, z ∈ ys → (pr z).cps.toList.getLast? ≠ some m) : wheelR pr ys a b c = none := by
  have no : ∀ W : List Str, (∃ e, e ∈ W ∧ e.cps.toList.getLast? = some m) → ¬ W.all (has pr ys) = true := fun W ⟨e, he, hl⟩ y => by
    have := first_is (List.all_eq_true.mp y e he)
    exact h _ this.1 (by rw [this.2]; exact hl)
  unfold wheelR
  rw [if_neg (no _ ?_), if_neg (no _ ?_)]
  · rcases hm with rfl | rfl | rfl
    · exact ⟨s3 c b m, by simp [W2], rfl⟩
    · exact ⟨s3 a c m, by simp [W2], rfl⟩
    · exact ⟨s3 b a m, by simp [W2], rfl⟩
  · rcases hm with rfl | rfl | rfl
    · exact ⟨s3 b c m, by simp [W1], rfl⟩
    · exact ⟨s3 c a m, by simp [W1], rfl⟩
    · exact ⟨s3 a b m, by simp [W1], rfl⟩
/-- fewer orders, no wheel more -/
theorem wheel_sub {pr : Str → Str} {ys zs : List Str} {a b c : Nat} (sub : ∀ z, z ∈ zs → z ∈ ys) (h : wheelR pr ys a b c = none) : wheelR pr zs a b c = none := by
  have up : ∀ W : List Str, W.all (has pr zs) = true → W.all (has pr ys) = true := fun W y => by
    rw [List.all_eq_true] at y ⊢
    intro e he
    have h1 := y e he
    rw [has_map, decide_eq_true_eq] at h1 ⊢
    obtain ⟨z, hz, e⟩ := List.mem_map.mp h1
    exact List.mem_map.mpr ⟨z, sub z hz, e⟩
  have n1 : ¬ (W1 a b c).all (has pr ys) = true := fun y => by
    unfold wheelR at h
    rw [if_pos y] at h
    cases h
  have n2 : ¬ (W2 a b c).all (has pr ys) = true := fun y => by
    unfold wheelR at h
    rw [if_neg n1, if_pos y] at h
    cases h
  unfold wheelR
  rw [if_neg fun y => n1 (up _ y), if_neg fun y => n2 (up _ y)]
end L2.Cal
end

section
set_option maxRecDepth 100000
set_option maxHeartbeats 4000000
set_option synthInstance.maxHeartbeats 400000
namespace L2.Cal
open PySem PySem.Spec PyProof.Rows L2
abbrev sRou : Stmt := topS 20
theorem scRou : FnScope ["roll", "three", "wheel"] ["roll"] (defScope sRou) := ⟨rfl, rfl, rfl, by decide +kernel, rfl, by decide +kernel, by decide +kernel⟩
abbrev sIsC : Stmt := topS 21
theorem scIsC : FnScope ["roll"] ["roll"] (defScope sIsC) := ⟨rfl, rfl, rfl, by decide +kernel, rfl, by decide +kernel, by decide +kernel⟩
/-- the wheel of some orders upon three things -/
def wheelAt (ys : List Str) (x : Str) : Option (List Str) := wheelR (fun z => press z x) ys (x.cps.getD 0 0) (x.cps.getD 1 0) (x.cps.getD 2 0)
theorem wheelAt_s3 (ys : List Str) (a b c : Nat) : wheelAt ys (s3 a b c) = wheelR (prs a b c) ys a b c := rfl
/-- the first three things with a wheel -/
def roughR (ys : List Str) (cs : List Nat) : Option (Str × List Str) := (tri cs).findSome? fun x => (wheelAt ys x).map fun zs => (x, zs)
theorem rough_none {ys : List Str} {cs : List Nat} : roughR ys cs = none ↔ ∀ x, x ∈ tri cs → wheelAt ys x = none := by
  unfold roughR
  rw [List.findSome?_eq_none_iff]
  refine forall_congr' fun x => forall_congr' fun _ => ?_
  cases wheelAt ys x <;> simp
theorem rough_some {ys : List Str} {cs : List Nat} {k : Nat} {x : Str} {zs : List Str} (hx : (tri cs)[k]? = some x) (no : ∀ u, u ∈ (tri cs).take k → wheelAt ys u = none) (h : wheelAt ys x = some zs) : roughR ys cs = some (x, zs) := by
  unfold roughR
  obtain ⟨hk, e⟩ := List.getElem?_eq_some_iff.mp hx
  rw [← List.take_append_drop k (tri cs), List.findSome?_append, List.drop_eq_getElem_cons hk, e, List.findSome?_cons, h]
  rw [List.findSome?_eq_none_iff.mpr fun u hu => by rw [no u hu] <;> rfl]
  rfl
theorem rough_at {ys : List Str} {cs : List Nat} {x : Str} {zs : List Str} (h : roughR ys cs = some (x, zs)) : x ∈ tri cs ∧ wheelAt ys x = some zs := by
  obtain ⟨u, hu, e⟩ := List.exists_of_findSome?_eq_some h
  cases q : wheelAt ys u with
  | none => rw [q] at e; cases e
  | some vs =>
    rw [q] at e
    cases e
    exact ⟨hu, q⟩
/-- a roll with its orders -/
structure RollY (K : PySem.W.Frag) (C : Addr) (H : Hp) (r t : Addr) (y : Str) (ys : List Str) : Prop where
  roll : RollAt C H r t (tidy y)
  tup : SqT K H t (ys.map V.str)
  y6 : (tidy y).cps.size ≤ 6
  z6 : ∀ z, z ∈ ys → z.cps.size ≤ 6
  few : ys.length ≤ 60
theorem RollY.same {K : PySem.W.Frag} {C : Addr} {H H' : Hp} {r t : Addr} {y : Str} {ys : List Str} (h : RollY K C H r t y ys) (s : Same H H') : RollY K C H' r t y ys :=
  ⟨h.roll.same s, same_seqT h.tup s, h.y6, h.z6, h.few⟩
def spRou (K : PySem.W.Frag) (C : Addr) : Sp := fun vs H Q _ => ∃ (r t : Addr) (y : Str) (ys : List Str), vs = [.ref r] ∧ RollY K C H r t y ys ∧
  (roughR ys (tidy y).cps.toList = none → ∀ H', Same H H' → Q .non H') ∧
  ∀ x zs, roughR ys (tidy y).cps.toList = some (x, zs) → ∀ (p q : Addr) (H' : Hp), Same H H' → H' p = some (.tup [.str x, .ref q]) → H' q = some (.tup (zs.map V.str)) → Q (.ref p) H'
def spIsC (K : PySem.W.Frag) (C : Addr) : Sp := fun vs H Q _ => ∃ (r t : Addr) (y : Str) (ys : List Str), vs = [.ref r] ∧ RollY K C H r t y ys ∧ ∀ H', Same H H' → Q (.bl (decide (roughR ys (tidy y).cps.toList = none))) H'
section
variable {P : Program} {w : World} {K : PySem.W.Frag} {mg : Str → Option Value} {base : Heap} {C : Addr}
theorem ok_rou {f fC fO fS fU fW pT fT pO fOr : Addr} {fd fdC fdO fdS fdU fdW fdT fdOr : FuncData} (D : DefAt K mg "rough" sRou ["roll"] f fd) (DC : DefAt K mg "check_roll" sChk ["roll"] fC fdC) (DO : DefAt K mg "threes_of" sThs ["things"] fO fdO)
    (DS : DefAt K mg "standing" sSta ["order", "three"] fS fdS) (DU : DefAt K mg "wheels_upon" sWup ["three"] fU fdU) (DW : DefAt K mg "wheel_among" sWam ["orders", "three"] fW fdW) (T : Txt mg) (R : RollC K mg C)
    (PT : PropOf K C "things" pT fT) (FT : Fun K "things" "Roll.things" sThi fT fdT) (bT : Binds K fdT ["self"] []) (PO : PropOf K C "orders" pO fOr) (FO : Fun K "orders" "Roll.orders" sOrd fOr fdOr) (bO : Binds K fdOr ["self"] []) :
    FnOk P w K mg base CX0 3 f fd ["roll"] (spRou K C) := by
  have GC : FnOk P w K mg base CX0 1 fC fdC ["roll"] (spChk C) := ok_chk DC T R
  have GS : FnOk P w K mg base CX0 1 fO fdO ["things"] spThs := ok_ths DO T
  have GW : FnOk P w K mg base CX0 2 fW fdW ["orders", "three"] (spWam K) := ok_wam DW DS DU T
  have GT : FnOk P w K mg base CX0 1 fT fdT ["self"] (spThi C) := ok_thi FT R
  have GO : FnOk P w K mg base CX0 1 fOr fdOr ["self"] (spOrd C) := ok_ord FO R
  refine D.F.ok scRou (fun vs H Q E h => ?_) (fun cdv A outer sh H vs Q E hr h => ?_)
  · obtain ⟨r, t, y, ys, rfl, _⟩ := h
    rfl
  · obtain ⟨r, t, y, ys, rfl, ro, qn, qs⟩ := h
    obtain ⟨dx, fs, ha, l1, l2⟩ := id ro.roll
    refine ⟨_, pss_cons (ps_expr (pe_call GC (hr.mono (by decide)) (by rfl) DC.g DC.F.kp DC.b .nil pass0 (pa_cons (pv 0) pa_nil)))
      (pss_cons (ps_for PassesOwn.never rfl (pi_tup (pe_call GS (hr.mono (by decide)) (by rfl) DO.g DO.F.kp DO.b .nil pass0 (pa_cons (pe_prop (pv 0) R.cls PT GT (hr.mono (by decide)) bT .nil pass0 rfl) pa_nil))) (pg_name (i := 1) scRou.nd rfl (.inl rfl))
        (pss_cons (ps_set (i := 2) scRou.nd rfl (.inl rfl) (pe_call GW (hr.mono (by decide)) (by rfl) DW.g DW.F.kp DW.b .nil pass0 (pa_cons (pe_prop (pv 0) R.cls PO GO (hr.mono (by decide)) bO .nil pass0 rfl) (pa_cons (pv 1) pa_nil))))
        (pss_one (ps_if (pt_cmp (pc_notN (pv 2))) (pss_one (ps_ret (pe_tupS (pa_cons (pv 1) (pa_cons (pv 2) pa_nil))))) pss_nil))))
      (pss_one (ps_ret pe_non))), ?_⟩
    refine ⟨_, rfl, r, t, _, rfl, ro.roll, ?_⟩
    refine ⟨_, rfl, r, dx, fs, rfl, ha, r, t, _, rfl, ro.roll, tidy y, rfl, ro.y6, fun p H1 s1 np ep => ⟨p, rfl, ⟨_, SqT.of ep⟩, for_tup (K := K) (a := p) (xs := (tri (tidy y).cps.toList).map V.str)
      (fun k σ H' => ∃ v1 v2, σ = [some (.ref r), v1, v2] ∧ Same H1 H' ∧ ∀ u, u ∈ (tri (tidy y).cps.toList).take k → wheelAt ys u = none) ⟨_, _, rfl, fun _ _ z => z, fun u hu => by simp at hu⟩ (fun k σ H' _ hP => ?_) (fun k x σ H2 hx hP => ?_) (fun σ H2 hP => ?_)⟩⟩
    · obtain ⟨_, _, _, sm, _⟩ := hP
      exact SqT.of (sm _ _ ep)
    · obtain ⟨v1, v2, rfl, sm, no⟩ := hP
      rw [List.getElem?_map] at hx
      cases ex : (tri (tidy y).cps.toList)[k]? with
      | none =>
        rw [ex] at hx
        cases hx
      | some u =>
        rw [ex] at hx
        cases hx
        obtain ⟨a, b, c, _, _, _, _, _, rfl⟩ := mem_tri.mp (List.mem_of_getElem? ex)
        have S2 := s1.trans sm
        have ro2 := ro.same S2
        refine ⟨_, rfl, r, dx, fs, rfl, S2 _ _ ha, r, t, _, rfl, ro2.roll, _, rfl, t, ys, a, b, c, rfl, ro2.tup, ro.z6, ro.few, fun e H3 s3' => ?_, fun zs e q H3 s3' eq => ?_⟩
        · refine ⟨_, rfl, false, by simp, iteF ⟨_, _, rfl, sm.trans s3', fun u hu => ?_⟩⟩
          rw [List.take_succ, ex, Option.toList_some, List.mem_append, List.mem_singleton] at hu
          rcases hu with hu | rfl
          · exact no u hu
          · exact e
        · refine ⟨_, rfl, true, by simp, iteT ?_⟩
          refine ⟨_, rfl, _, rfl, (by show 2 ≤ sizeLine; decide), fun q2 H4 s4 n4 e4 => ?_⟩
          exact qs _ zs (rough_some ex no e) q2 q _ (S2.trans (s3'.trans s4)) e4 (s4 _ _ eq)
    · obtain ⟨v1, v2, rfl, sm, no⟩ := hP
      rw [List.length_map, List.take_length] at no
      exact qn (rough_none.mpr no) _ (s1.trans sm)
theorem ok_isc {f fR fC fO fS fU fW pT fT pO fOr : Addr} {fd fdR fdC fdO fdS fdU fdW fdT fdOr : FuncData} (D : DefAt K mg "is_calm" sIsC ["roll"] f fd) (DR : DefAt K mg "rough" sRou ["roll"] fR fdR) (DC : DefAt K mg "check_roll" sChk ["roll"] fC fdC) (DO : DefAt K mg "threes_of" sThs ["things"] fO fdO)
    (DS : DefAt K mg "standing" sSta ["order", "three"] fS fdS) (DU : DefAt K mg "wheels_upon" sWup ["three"] fU fdU) (DW : DefAt K mg "wheel_among" sWam ["orders", "three"] fW fdW) (T : Txt mg) (R : RollC K mg C)
    (PT : PropOf K C "things" pT fT) (FT : Fun K "things" "Roll.things" sThi fT fdT) (bT : Binds K fdT ["self"] []) (PO : PropOf K C "orders" pO fOr) (FO : Fun K "orders" "Roll.orders" sOrd fOr fdOr) (bO : Binds K fdOr ["self"] []) :
    FnOk P w K mg base CX0 4 f fd ["roll"] (spIsC K C) := by
  have GR : FnOk P w K mg base CX0 3 fR fdR ["roll"] (spRou K C) := ok_rou DR DC DO DS DU DW T R PT FT bT PO FO bO
  refine D.F.ok scIsC (fun vs H Q E h => ?_) (fun cdv A outer sh H vs Q E hr h => ?_)
  · obtain ⟨r, t, y, ys, rfl, _⟩ := h
    rfl
  · obtain ⟨r, t, y, ys, rfl, ro, q⟩ := h
    refine ⟨_, pss_one (ps_ret (pe_cmp (pc_isN (pe_call GR (hr.mono (by decide)) (by rfl) DR.g DR.F.kp DR.b .nil pass0 (pa_cons (pv 0) pa_nil))))), ?_⟩
    refine ⟨_, rfl, r, t, y, ys, rfl, ro, fun e H1 s1 => ?_, fun x zs e p q' H1 s1 _ _ => ?_⟩
    · have := q H1 s1
      rw [decide_eq_true e] at this
      simpa using this
    · have := q H1 s1
      rw [decide_eq_false (by rw [e]; exact fun z => by cases z)] at this
      simpa using this
end
end L2.Cal
end

section
set_option maxRecDepth 100000
set_option maxHeartbeats 4000000
/-! known calm and rough rolls, pure -/
namespace L2.Cal
open PySem PySem.Spec PyProof.Rows L2
theorem nod_at {α : Type} {l : List α} (n : l.Nodup) {i j : Nat} {hi : i < l.length} {hj : j < l.length} : l[i] = l[j] ↔ i = j := by
  constructor
  · intro e
    have q := List.pairwise_iff_getElem.mp n
    rcases Nat.lt_trichotomy i j with h | h | h
    · exact absurd e (q i j hi hj h)
    · exact h
    · exact absurd e.symm (q j i hj hi h)
  · rintro rfl
    rfl
/-- letters at some places -/
def pick (L : List Nat) (ix : List Nat) : List Nat := ix.map fun i => L.getD i 0
def pickS (L : List Nat) (ix : List Nat) : Str := ⟨(pick L ix).toArray⟩
theorem pick_list (L : List Nat) (ix : List Nat) : (pickS L ix).cps.toList = pick L ix := rfl
theorem getD_inj {L : List Nat} (n : L.Nodup) {i j : Nat} (hi : i < L.length) (hj : j < L.length) : L.getD i 0 = L.getD j 0 ↔ i = j := by
  rw [List.getD_eq_getElem?_getD, List.getD_eq_getElem?_getD, List.getElem?_eq_getElem hi, List.getElem?_eq_getElem hj]
  exact nod_at n
/-- which letters are pressed -/
def maskOf (L : List Nat) (x : List Nat) (i : Nat) : Bool := decide (L.getD i 0 ∈ x)
theorem press_pick (L ix : List Nat) (x : Str) : (⟨((pickS L ix).cps.toList.filter fun c => decide (c ∈ x.cps.toList)).toArray⟩ : Str) = pickS L (ix.filter (maskOf L x.cps.toList)) := by
  unfold pickS pick
  dsimp only
  rw [List.filter_map] <;> rfl
/-- how many -/
def cnt6 (m : Nat → Bool) : Nat := ((List.range 6).filter m).length
theorem mask_three {L : List Nat} (n : L.Nodup) (l6 : L.length = 6) {a b c : Nat} (ha : a ∈ L) (hb : b ∈ L) (hc : c ∈ L) (d : Apart a b c) : cnt6 (maskOf L [a, b, c]) = 3 := by
  have e : ((List.range 6).filter (maskOf L [a, b, c])).map (fun i => L.getD i 0) = L.filter fun x => decide (x ∈ [a, b, c]) := by
    have : L = (List.range 6).map fun i => L.getD i 0 := by
      apply List.ext_getElem?
      intro i
      rw [List.getElem?_map]
      by_cases h : i < 6
      · rw [List.getElem?_range h, Option.map_some, List.getElem?_eq_getElem (by omega), List.getD_eq_getElem?_getD, List.getElem?_eq_getElem (by omega)] <;> rfl
      · rw [List.getElem?_eq_none_iff.mpr (by omega), List.getElem?_eq_none_iff.mpr (by rw [List.length_range]; omega)] <;> rfl
    conv => rhs; rw [this]
    rw [List.filter_map] <;> rfl
  have p : (L.filter fun x => decide (x ∈ [a, b, c])).Perm [a, b, c] := by
    obtain ⟨ab, ac, bc⟩ := d
    refine (List.perm_ext_iff_of_nodup (n.filter _) (by simp [ab, ac, bc])).mpr fun x => ?_
    rw [List.mem_filter, decide_eq_true_eq]
    refine ⟨fun h => h.2, fun h => ⟨?_, h⟩⟩
    simp only [List.mem_cons, List.not_mem_nil, or_false] at h
    rcases h with rfl | rfl | rfl
    · exact ha
    · exact hb
    · exact hc
  unfold cnt6
  rw [← List.length_map (f := fun i => L.getD i 0), e, p.length_eq] <;> rfl
/-- a fact of masks, by all of them -/
theorem by_masks {Pm : (Nat → Bool) → Prop} (h : ∀ b0 b1 b2 b3 b4 b5 : Bool, Pm fun i => match i with | 0 => b0 | 1 => b1 | 2 => b2 | 3 => b3 | 4 => b4 | 5 => b5 | _ => false)
    (ext : ∀ m m' : Nat → Bool, (∀ i, i < 6 → m i = m' i) → Pm m' → Pm m) (m : Nat → Bool) : Pm m :=
  ext m _ (fun i hi => by match i, hi with | 0, _ => rfl | 1, _ => rfl | 2, _ => rfl | 3, _ => rfl | 4, _ => rfl | 5, _ => rfl) (h (m 0) (m 1) (m 2) (m 3) (m 4) (m 5))
theorem filter_ext {m m' : Nat → Bool} (h : ∀ i, i < 6 → m i = m' i) {ix : List Nat} (s : ∀ i ∈ ix, i < 6) : ix.filter m = ix.filter m' :=
  List.filter_congr fun i hi => h i (s i hi)
/-! ### no wheel where there are two -/
theorem w_nodup {a b c : Nat} (d : Apart a b c) : (W1 a b c).Nodup ∧ (W2 a b c).Nodup := by
  obtain ⟨ab, ac, bc⟩ := d
  have ba := ab.symm
  have ca := ac.symm
  have cb := bc.symm
  exact ⟨by simp [W1, s3, ab, ac, bc, ba, ca, cb], by simp [W2, s3, ab, ac, bc, ba, ca, cb]⟩
theorem wheel_two {pr : Str → Str} {ys : List Str} {a b c : Nat} (d : Apart a b c) {p q : Str} (h : ∀ z, z ∈ ys → pr z = p ∨ pr z = q) : wheelR pr ys a b c = none := by
  have go : ∀ W : List Str, W.length = 3 → W.Nodup → W.all (has pr ys) = true → False := fun W l n all => by
    rw [List.all_eq_true] at all
    have sub : ∀ e, e ∈ W → e ∈ [p, q] := fun e he => by
      have := all e he
      rw [has_map, decide_eq_true_eq] at this
      obtain ⟨z, hz, rfl⟩ := List.mem_map.mp this
      rcases h z hz with e | e <;> rw [e] <;> simp
    have := List.Nodup.length_le_of_subset n sub
    simp [l] at this
  obtain ⟨n1, n2⟩ := w_nodup d
  unfold wheelR
  split
  · rename_i q
    exact absurd q fun q => go _ rfl n1 q
  · split
    · rename_i q
      exact absurd q fun q => go _ rfl n2 q
    · rfl
/-! ### three orders that are a wheel -/
theorem perm_of_sub {l m : List Str} (n : l.Nodup) (nm : m.Nodup) (s : ∀ z, z ∈ l → z ∈ m) (e : l.length = m.length) : l.Perm m := by
  refine (List.perm_ext_iff_of_nodup n nm).mpr fun z => ⟨s z, fun h => ?_⟩
  by_cases q : z ∈ l
  · exact q
  · have := List.Nodup.length_le_of_subset (List.nodup_cons.mpr ⟨q, n⟩) (fun x hx => by
      rcases List.mem_cons.mp hx with rfl | hx
      · exact h
      · exact s x hx : ∀ x, x ∈ z :: l → x ∈ m)
    rw [List.length_cons] at this
    omega
theorem lo_nodup {l : List Str} (h : l.Pairwise Lo) : l.Nodup := h.imp fun {x y} h e => by
  subst e
  unfold Lo at h
  rw [lo_irrefl] at h
  cases h
theorem wheel_whole {pr : Str → Str} {ys zs : List Str} (w : IsWheel pr ys zs) (up : ys.Pairwise Lo) (l : ys.length = 3) : zs = ys := by
  refine List.Perm.eq_of_pairwise (fun a b _ _ h1 h2 => le_eq h1 h2) (w.up.imp Lo.le) (up.imp Lo.le) ?_
  exact perm_of_sub (lo_nodup w.up) (lo_nodup up) w.sub (by rw [w.three, l])
/-! ### all rolls of three things -/
def E3 (a b c : Nat) : List Str := [s3 a b c, s3 a c b, s3 b a c, s3 b c a, s3 c a b, s3 c b a]
def lotsI : Nat → List (List Nat)
  | 0 => [[]]
  | n + 1 => lotsI n ++ (lotsI n).map (· ++ [n])
def lotOf (a b c : Nat) (l : List Nat) : List Str := l.map fun i => (E3 a b c).getD i ⟨#[]⟩
def dueI (l : List Nat) : Bool := !([0, 3, 4].all fun k => decide (k ∈ l)) && !([1, 2, 5].all fun k => decide (k ∈ l))
theorem lots_small : ∀ l ∈ lotsI 6, (∀ i ∈ l, i < 6) ∧ l.Pairwise (· < ·) ∧ l.length ≤ 6 := by decide +kernel
theorem lots_some : ∀ l ∈ (lotsI 6).drop 1, l ≠ [] := by decide +kernel
theorem lots_len : (lotsI 6).length = 64 := by decide +kernel
theorem lots_rough : (((lotsI 6).drop 1).filter fun l => !dueI l).length = 15 := by decide +kernel
theorem e3_up {a b c : Nat} (ab : a < b) (bc : b < c) : (E3 a b c).Pairwise Lo := by
  simp only [E3, List.pairwise_cons, List.mem_cons, List.not_mem_nil, or_false, forall_eq_or_imp, forall_eq, lo_s3, List.Pairwise.nil, and_true, true_and, false_implies, implies_true]
  refine ⟨⟨?_, ?_, ?_, ?_, ?_⟩, ⟨?_, ?_, ?_, ?_⟩, ⟨?_, ?_, ?_⟩, ⟨?_, ?_⟩, ?_⟩ <;> omega
theorem e3_at {a b c i j : Nat} (ab : a < b) (bc : b < c) (hi : i < 6) (hj : j < 6) : (E3 a b c).getD i ⟨#[]⟩ = (E3 a b c).getD j ⟨#[]⟩ ↔ i = j := by
  have n := lo_nodup (e3_up ab bc)
  rw [List.getD_eq_getElem?_getD, List.getD_eq_getElem?_getD, List.getElem?_eq_getElem (show i < (E3 a b c).length from hi), List.getElem?_eq_getElem (show j < (E3 a b c).length from hj)]
  exact nod_at n
theorem in_lot {a b c k : Nat} (ab : a < b) (bc : b < c) {l : List Nat} (s : ∀ i ∈ l, i < 6) (hk : k < 6) : decide ((E3 a b c).getD k ⟨#[]⟩ ∈ lotOf a b c l) = decide (k ∈ l) := by
  rw [decide_eq_decide]
  unfold lotOf
  rw [List.mem_map]
  constructor
  · rintro ⟨i, hi, e⟩
    rw [← (e3_at ab bc (s i hi) hk).mp e]
    exact hi
  · exact fun h => ⟨k, h, rfl⟩
theorem lot_mem {a b c : Nat} {l : List Nat} (s : ∀ i ∈ l, i < 6) {z : Str} (h : z ∈ lotOf a b c l) : z ∈ E3 a b c := by
  obtain ⟨i, hi, rfl⟩ := List.mem_map.mp h
  rw [List.getD_eq_getElem?_getD, List.getElem?_eq_getElem (show i < (E3 a b c).length from s i hi)]
  exact List.getElem_mem _
theorem lot_up {a b c : Nat} (ab : a < b) (bc : b < c) {l : List Nat} (s : ∀ i ∈ l, i < 6) (u : l.Pairwise (· < ·)) : (lotOf a b c l).Pairwise Lo := by
  unfold lotOf
  rw [List.pairwise_map]
  refine List.Pairwise.imp_of_mem (fun {i j} hi hj h => ?_) u
  rw [List.getD_eq_getElem?_getD, List.getD_eq_getElem?_getD, List.getElem?_eq_getElem (show i < (E3 a b c).length from s i hi), List.getElem?_eq_getElem (show j < (E3 a b c).length from s j hj)]
  exact List.pairwise_iff_getElem.mp (e3_up ab bc) i j _ _ h
theorem calm3 {a b c : Nat} (ab : a < b) (bc : b < c) {pr : Str → Str} (id_ : ∀ z, z ∈ E3 a b c → pr z = z) {l : List Nat} (s : ∀ i ∈ l, i < 6) : decide (wheelR pr (lotOf a b c l) a b c = none) = dueI l := by
  have m : (lotOf a b c l).map pr = lotOf a b c l := (List.map_congr_left fun z hz => id_ z (lot_mem s hz)).trans (List.map_id _)
  have h : ∀ k, k < 6 → has pr (lotOf a b c l) ((E3 a b c).getD k ⟨#[]⟩) = decide (k ∈ l) := fun k hk => by rw [has_map, m, in_lot ab bc s hk]
  have h0 : has pr (lotOf a b c l) (s3 a b c) = decide (0 ∈ l) := h 0 (by decide)
  have h1 : has pr (lotOf a b c l) (s3 a c b) = decide (1 ∈ l) := h 1 (by decide)
  have h2 : has pr (lotOf a b c l) (s3 b a c) = decide (2 ∈ l) := h 2 (by decide)
  have h3 : has pr (lotOf a b c l) (s3 b c a) = decide (3 ∈ l) := h 3 (by decide)
  have h4 : has pr (lotOf a b c l) (s3 c a b) = decide (4 ∈ l) := h 4 (by decide)
  have h5 : has pr (lotOf a b c l) (s3 c b a) = decide (5 ∈ l) := h 5 (by decide)
  unfold wheelR dueI W1 W2
  simp only [List.all_cons, List.all_nil, Bool.and_true, h0, h1, h2, h3, h4, h5]
  generalize decide (0 ∈ l) = p0
  generalize decide (1 ∈ l) = p1
  generalize decide (2 ∈ l) = p2
  generalize decide (3 ∈ l) = p3
  generalize decide (4 ∈ l) = p4
  generalize decide (5 ∈ l) = p5
  cases p0 <;> cases p1 <;> cases p2 <;> cases p3 <;> cases p4 <;> cases p5 <;> simp
/-! ### neighbours exchanged -/
def mOf (b0 b1 b2 b3 b4 b5 : Bool) : Nat → Bool := fun i => match i with | 0 => b0 | 1 => b1 | 2 => b2 | 3 => b3 | 4 => b4 | 5 => b5 | _ => false
def pairsI : List (List Nat) := [[0, 1, 2, 3, 4, 5], [1, 0, 2, 3, 4, 5], [0, 1, 3, 2, 4, 5], [1, 0, 3, 2, 4, 5], [0, 1, 2, 3, 5, 4], [1, 0, 2, 3, 5, 4], [0, 1, 3, 2, 5, 4], [1, 0, 3, 2, 5, 4]]
theorem pairs_b : ∀ b0 b1 b2 b3 b4 b5 : Bool, cnt6 (mOf b0 b1 b2 b3 b4 b5) = 3 → ∀ ix ∈ pairsI, ix.filter (mOf b0 b1 b2 b3 b4 b5) = [0, 1, 2, 3, 4, 5].filter (mOf b0 b1 b2 b3 b4 b5) ∨ ix.filter (mOf b0 b1 b2 b3 b4 b5) = [1, 0, 3, 2, 5, 4].filter (mOf b0 b1 b2 b3 b4 b5) := by decide +kernel
theorem mOf_eq (m : Nat → Bool) : ∀ i, i < 6 → m i = mOf (m 0) (m 1) (m 2) (m 3) (m 4) (m 5) i := fun i hi => by match i, hi with | 0, _ => rfl | 1, _ => rfl | 2, _ => rfl | 3, _ => rfl | 4, _ => rfl | 5, _ => rfl
theorem cnt_eq (m : Nat → Bool) : cnt6 m = cnt6 (mOf (m 0) (m 1) (m 2) (m 3) (m 4) (m 5)) := by
  unfold cnt6
  rw [filter_ext (mOf_eq m) fun i hi => List.mem_range.mp hi]
theorem pairs_small : ∀ ix ∈ pairsI, ∀ i ∈ ix, i < 6 := by decide +kernel
theorem pairs_two (m : Nat → Bool) (h : cnt6 m = 3) {ix : List Nat} (hi : ix ∈ pairsI) : ix.filter m = [0, 1, 2, 3, 4, 5].filter m ∨ ix.filter m = [1, 0, 3, 2, 5, 4].filter m := by
  rw [cnt_eq] at h
  rw [filter_ext (mOf_eq m) (pairs_small ix hi), filter_ext (mOf_eq m) (ix := [0, 1, 2, 3, 4, 5]) (by decide), filter_ext (mOf_eq m) (ix := [1, 0, 3, 2, 5, 4]) (by decide)]
  exact pairs_b _ _ _ _ _ _ h ix hi
/-! ### a hidden wheel -/
def hidI : List (List Nat) := [[0, 1, 2, 3, 4, 5], [3, 1, 2, 0, 4, 5], [3, 4, 2, 0, 1, 5]]
theorem hid_b : ∀ b0 b1 b2 b3 b4 b5 : Bool, cnt6 (mOf b0 b1 b2 b3 b4 b5) = 3 → (b0 && b1 && b2) = true ∨ ∃ p ∈ [0, 1, 2], ¬ (hidI.map fun ix => (ix.filter (mOf b0 b1 b2 b3 b4 b5)).getD p 0).Nodup := by decide +kernel
theorem hid_small : ∀ ix ∈ hidI, ∀ i ∈ ix, i < 6 := by decide +kernel
theorem hid_not (m : Nat → Bool) (h : cnt6 m = 3) (n : (m 0 && m 1 && m 2) ≠ true) : ∃ p, p < 3 ∧ ¬ (hidI.map fun ix => (ix.filter m).getD p 0).Nodup := by
  rw [cnt_eq] at h
  obtain ⟨p, hp, g⟩ := (hid_b _ _ _ _ _ _ h).resolve_left n
  refine ⟨p, ?_, ?_⟩
  · simp only [List.mem_cons, List.not_mem_nil, or_false] at hp
    omega
  · rw [List.map_congr_left (g := fun ix => (ix.filter (mOf (m 0) (m 1) (m 2) (m 3) (m 4) (m 5))).getD p 0) fun ix hx => by rw [filter_ext (mOf_eq m) (hid_small ix hx)]]
    exact g
theorem hid_len_b : ∀ b0 b1 b2 b3 b4 b5 : Bool, cnt6 (mOf b0 b1 b2 b3 b4 b5) = 3 → ∀ ix ∈ hidI, (ix.filter (mOf b0 b1 b2 b3 b4 b5)).length = 3 := by decide +kernel
theorem hid_len (m : Nat → Bool) (h : cnt6 m = 3) {ix : List Nat} (hi : ix ∈ hidI) : (ix.filter m).length = 3 := by
  rw [cnt_eq] at h
  rw [filter_ext (mOf_eq m) (hid_small ix hi)]
  exact hid_len_b _ _ _ _ _ _ h ix hi
theorem wheel_turned {pr : Str → Str} {ys : List Str} {a b c t u v : Nat} (d : Apart a b c) (p : [t, u, v].Perm [a, b, c]) (h0 : s3 t u v ∈ ys.map pr) (h1 : s3 u v t ∈ ys.map pr) (h2 : s3 v t u ∈ ys.map pr) : wheelR pr ys a b c ≠ none := by
  have k : ((W1 a b c).all (has pr ys)) = true ∨ ((W2 a b c).all (has pr ys)) = true := by
    have s := six_of (z := s3 t u v) d p
    simp only [List.all_eq_true, has_map, decide_eq_true_eq]
    simp only [six, W1, W2, List.cons_append, List.nil_append, List.mem_cons, List.not_mem_nil, or_false, s3_inj] at s
    rcases s with ⟨rfl, rfl, rfl⟩ | ⟨rfl, rfl, rfl⟩ | ⟨rfl, rfl, rfl⟩ | ⟨rfl, rfl, rfl⟩ | ⟨rfl, rfl, rfl⟩ | ⟨rfl, rfl, rfl⟩
    · exact .inl (by simp only [W1, List.mem_cons, List.not_mem_nil, or_false, forall_eq_or_imp, forall_eq]; exact ⟨h0, h1, h2⟩)
    · exact .inl (by simp only [W1, List.mem_cons, List.not_mem_nil, or_false, forall_eq_or_imp, forall_eq]; exact ⟨h2, h0, h1⟩)
    · exact .inl (by simp only [W1, List.mem_cons, List.not_mem_nil, or_false, forall_eq_or_imp, forall_eq]; exact ⟨h1, h2, h0⟩)
    · exact .inr (by simp only [W2, List.mem_cons, List.not_mem_nil, or_false, forall_eq_or_imp, forall_eq]; exact ⟨h0, h2, h1⟩)
    · exact .inr (by simp only [W2, List.mem_cons, List.not_mem_nil, or_false, forall_eq_or_imp, forall_eq]; exact ⟨h1, h0, h2⟩)
    · exact .inr (by simp only [W2, List.mem_cons, List.not_mem_nil, or_false, forall_eq_or_imp, forall_eq]; exact ⟨h2, h1, h0⟩)
  unfold wheelR
  split
  · simp
  · rename_i n
    rw [if_pos (k.resolve_left n)]
    simp
end L2.Cal
end

section
set_option maxRecDepth 100000
set_option maxHeartbeats 4000000
/-! repr of any data; promises of defs that are called where nothing is being shown (repr asks that) -/
namespace L2.Cal
open PySem PySem.Spec PyProof.Rows L2
mutual
theorem dp_nodict {K : PySem.W.Frag} {H : Hp} : ∀ (d : PyData) (v : V), Dp K H v d → d.hasDict = false
  | .none, _, _ => by simp only [PyData.hasDict]
  | .bool _, _, _ => by simp only [PyData.hasDict]
  | .int _, _, _ => by simp only [PyData.hasDict]
  | .str _, _, _ => by simp only [PyData.hasDict]
  | .list ds, _, h => by
    cases h with
    | lst _ h => simp only [PyData.hasDict]; exact dp_nodictAll ds _ h
  | .tuple ds, _, h => by
    cases h with
    | tup _ h => simp only [PyData.hasDict]; exact dp_nodictAll ds _ h
  | .dict _, _, h => by cases h
theorem dp_nodictAll {K : PySem.W.Frag} {H : Hp} : ∀ (ds : List PyData) (vs : List V), DpAll K H vs ds → PyData.hasDictAll ds = false
  | [], _, _ => by simp only [PyData.hasDictAll]
  | d :: ds, _, h => by
    cases h with
    | cons h1 h2 => simp only [PyData.hasDictAll, dp_nodict d _ h1, dp_nodictAll ds _ h2, Bool.or_false]
end
mutual
theorem dp_same {K : PySem.W.Frag} {H H' : Hp} (e : Same H H') : ∀ (d : PyData) (v : V), Dp K H v d → Dp K H' v d
  | .none, _, h => by cases h; exact .non
  | .bool _, _, h => by cases h; exact .bl _
  | .int _, _, h => by cases h; exact .int _
  | .str _, _, h => by cases h; exact .str _
  | .list ds, _, h => by
    cases h with
    | lst q h => exact .lst (e.seq q) (dp_sameAll e ds _ h)
  | .tuple ds, _, h => by
    cases h with
    | tup q h =>
      refine .tup ?_ (dp_sameAll e ds _ h)
      rcases q with (q | ⟨o, q⟩) | q
      · exact .inl (.inl (e _ _ q))
      · exact .inl (.inr ⟨o, e _ _ q⟩)
      · exact .inr q
  | .dict _, _, h => by cases h
theorem dp_sameAll {K : PySem.W.Frag} {H H' : Hp} (e : Same H H') : ∀ (ds : List PyData) (vs : List V), DpAll K H vs ds → DpAll K H' vs ds
  | [], _, h => by cases h; exact .nil
  | d :: ds, _, h => by
    cases h with
    | cons h1 h2 => exact .cons (dp_same e d _ h1) (dp_sameAll e ds _ h2)
end
/-- data, perhaps a dict of at most one text and a number -/
inductive DD (K : PySem.W.Frag) (H : Hp) : V → PyData → Prop
  | base {v : V} {d : PyData} : Dp K H v d → DD K H v d
  | dict0 {a : Addr} : H a = some (.dK []) → DD K H (.ref a) (.dict [])
  | dict1 {a : Addr} {x : Str} {i : Int} : H a = some (.dK [(Sum.inr x, .int i)]) → DD K H (.ref a) (.dict [(.str x, .int i)])
theorem DD.same {K : PySem.W.Frag} {H H' : Hp} {v : V} {d : PyData} (e : Same H H') (h : DD K H v d) : DD K H' v d := by
  cases h with
  | base h => exact .base (dp_same e _ _ h)
  | dict0 h => exact .dict0 (e _ _ h)
  | dict1 h => exact .dict1 (e _ _ h)
theorem DD.reads {X : Cx} {pins : List (Addr × Obj)} {σ : St} {H : Hp} {s : Shared} (I : Inv X pins σ H s) {v : V} {d : PyData} {u : Value} (h : DD X.K H v d) (r : RelV v u) : ∃ as, Reads s.heap u d as ∧ (d.hasDict = true → sysModules ∉ as) := by
  cases h with
  | base h =>
    obtain ⟨as, q⟩ := Dp.reads I d v u h r
    exact ⟨as, q, fun z => by rw [dp_nodict d v h] at z; cases z⟩
  | @dict0 a h =>
    obtain rfl : u = Value.ref a := r
    obtain ⟨_, ns, vs, rk, o, es, ep, ho, hx, hd, _, hp, _⟩ := I.hok a _ h
    cases rk
    have he : es.toList = [] := by
      cases e : es.toList with
      | nil => rfl
      | cons y r => rw [e] at hp; cases hp
    refine ⟨[a], Reads.dict (as := []) (bs := []) ho hx.1 hd (by rw [he]; exact .nil) (by rw [he]; exact .nil), fun _ z => ?_⟩
    rw [List.mem_singleton] at z
    rw [← z] at ns
    simp at ns
  | @dict1 a x i h =>
    obtain rfl : u = Value.ref a := r
    obtain ⟨_, ns, vs, rk, o, es, ep, ho, hx, hd, _, hp, _⟩ := I.hok a _ h
    cases rk with
    | @cons _ q _ vr r0 rr =>
      cases rr
      obtain ⟨qk, qv⟩ := q
      obtain ⟨e1, e2⟩ := r0
      have e1' : (Sum.inr x : L2.Key) = qk := e1
      subst e1'
      obtain ⟨t, e2'⟩ := (show ∃ t, qv = Value.int i t from e2)
      subst e2'
      cases e : es.toList with
      | nil => rw [e] at hp; cases hp
      | cons y r =>
        rw [e] at hp
        cases hp with
        | cons k1 k2 k3 =>
          cases k3
          obtain ⟨t', hk⟩ : ∃ t', y.key = Value.str x t' := by
            rcases keyIs_shape (k := Sum.inr x) (v := y.key) k1 with ⟨_, _, z, _⟩ | ⟨x', t', z, q⟩
            · cases z
            · cases z
              exact ⟨t', q⟩
          refine ⟨[a], Reads.dict (as := [] ++ []) (bs := [] ++ []) ho hx.1 hd ?_ ?_, fun _ z => ?_⟩
          · rw [e]
            show ReadsAll s.heap [y.key] [.str x] ([] ++ [])
            rw [hk]
            exact .cons (.str x t') .nil
          · rw [e]
            show ReadsAll s.heap [y.val] [.int i] ([] ++ [])
            rw [k2]
            exact .cons (.int i t) .nil
          · rw [List.mem_singleton] at z
            rw [← z] at ns
            simp at ns
def rRepr (K : PySem.W.Frag) : List V → Hp → VK → Prop := fun xs H Q => ∃ x d, xs = [x] ∧ DD K H x d ∧ d.showable = true ∧ d.shown.length ≤ sizeLine ∧ d.depth ≤ 40 ∧ Q (.str d.shown) H
theorem call_reprD {X : Cx} (hg : X.A.guards = some []) (hu : X.A.units + 64 < cLine) : CallR X (.builtin "repr") (rRepr X.K) := by
  intro pins s σ H xs us Q I r h
  obtain ⟨x, d, rfl, hd, hs, hz, hdp, q⟩ := h
  cases r with
  | @cons _ u _ ur r rr =>
    cases rr
    obtain ⟨as, rd, hm⟩ := hd.reads I r
    cases rd with
    | none =>
      rw [PyData.shown_none] at q
      exact P.repr_of_none ⟨.str _, H, I.tok _, ⟨_, rfl⟩, q⟩
    | bool b =>
      rw [PyData.shown_bool] at q
      exact P.repr_of_bool ⟨.str _, H, I.tok _, ⟨_, rfl⟩, q⟩
    | int i t =>
      rw [PyData.shown_int] at q
      exact P.repr_of_int (by simpa [PyData.showable] using hs) ⟨.str _, H, I.tok _, ⟨_, rfl⟩, q⟩
    | str y t =>
      rw [PyData.shown_str] at q hz
      exact P.repr_of_str ⟨.str _, H, I.tok _, ⟨_, rfl⟩, q⟩ hz
    | list h1 h2 h3 h4 => exact repr_of_reads' (.list h1 h2 h3 h4) hs hm hg (by omega) (fun _ _ e => e) (fun h' u tk hk => ⟨.str _, H, I.kept (t' := tk) hk, ⟨_, rfl⟩, q⟩) hz
    | tuple h1 h2 h3 h4 => exact repr_of_reads' (.tuple h1 h2 h3 h4) hs hm hg (by omega) (fun _ _ e => e) (fun h' u tk hk => ⟨.str _, H, I.kept (t' := tk) hk, ⟨_, rfl⟩, q⟩) hz
    | dict h1 h2 h3 h4 h5 => exact repr_of_reads' (.dict h1 h2 h3 h4 h5) hs hm hg (by omega) (fun _ _ e => e) (fun h' u tk hk => ⟨.str _, H, I.kept (t' := tk) hk, ⟨_, rfl⟩, q⟩) hz
/-! ### promises where nothing is being shown -/
structure FnOkG (P : Program) (w : World) (K : PySem.W.Frag) (mg : Str → Option Value) (base : Heap) (CX : CXT) (k : Nat) (f : Addr) (fd : FuncData) (ps : List Str) (sp : Sp) : Prop where
  len : ∀ vs H Q E, sp vs H Q E → vs.length = ps.length
  run : ∀ (A : Around) (outer : List Env) (s : Shared) (H : Hp) (args : Args) (us : List Value) (vs : List V) (Q : VK) (E : XK), A.guards = some [] → Room k A → Env0 P w K mg base A outer s H → BindsTo s fd args (ps.zip us) → Vals vs us → sp vs H Q E →
    codeAny (model P w) A (.call (.ref f) args) (CR CX outer P w H s Q E) s
theorem FnOk.toG {P : Program} {w : World} {K : PySem.W.Frag} {mg : Str → Option Value} {base : Heap} {CX : CXT} {k : Nat} {f : Addr} {fd : FuncData} {ps : List Str} {sp : Sp} (F : FnOk P w K mg base CX k f fd ps sp) : FnOkG P w K mg base CX k f fd ps sp := ⟨F.len, fun A o s H a us vs Q E _ => F.run A o s H a us vs Q E⟩
section
variable {P : Program} {w : World} {K : PySem.W.Frag} {mg : Str → Option Value} {base : Heap}
theorem Fun.okG {x qual : Str} {st : Stmt} {f : Addr} {fd : FuncData} {N ps : List Str} {k : Nat} {sp : Sp} (F : Fun K x qual st f fd) (S : FnScope N ps (defScope st)) (len : ∀ vs H Q E, sp vs H Q E → vs.length = ps.length)
    (body : ∀ (cdv : Value) (A : Around) (outer : List Env) (s : Shared) (H : Hp) (vs : List V) (Q : VK) (E : XK), A.guards = some [] → Room k (A.deeper (envOfC qual (defScope st) s.heap.objs.size f cdv)) → sp vs H Q E →
      ∃ t, PSs (cxOf CX0 P w K mg base N qual (defScope st) f cdv A outer s H E).nox (defBody st) t ∧ t { nx := fun _ H' => Q .non H', rt := Q } (start N vs) H) : FnOkG P w K mg base CX0 (k + 1) f fd ps sp := by
  obtain ⟨oc, od, kV, doc, pm, an, cdv, ct, osl, rfl, lk, hcd⟩ := F.ex
  refine ⟨len, fun A outer s H args us vs Q E hg hr e0 hb r hsp => ?_⟩
  have same : ∀ b o, base.get? b = some o → s.heap.get? b = some o := fun b o e => (e0.bs b o e).1
  have KX : K.In s.heap := e0.mod.kin.keeps same
  have lim : s.heap.NoLimit := e0.mod.nolimit.keeps same
  refine codeAny_call_function hr.depth (KX _ _ lk) rfl S.co S.gen rfl (PySem.W.codeRec_of KX hcd) (hb _ _ _ _ ?_)
  refine wpAny_newFunctionEnv_cells S.kind (fun y hy => ?_) fun env he s1 y => ?_
  · obtain ⟨n, v⟩ := y
    exact (S.par n (List.of_mem_zip hy).1).elim .inl fun q => .inr ⟨q, PySem.W.cellsFrom_some _ _ _ (.inl q)⟩
  · subst he
    refine ⟨lim.keeps y.toInCall.keep, codeAny_func ?_⟩
    obtain ⟨t, ht, hq⟩ := body cdv A outer s H vs Q E hg (hr.deeper _) hsp
    have I := inv_start (CX := CX0) (P := P) (w := w) (mg := mg) (E := E) S hr.hd e0 (len _ _ _ _ hsp) r y
    refine wpAny_mono (ht.nox.run [] s1 (start N vs) H _ I hq) (fun fl s' hs => ?_) fun e s' hs => hs
    cases fl with
    | ret u => obtain ⟨v, σ', H', J, rv, q⟩ := hs; exact ⟨v, H', J.os, J.bare, J.base, J.hok, rv, q⟩
    | next => obtain ⟨σ', H', J, q⟩ := hs; exact ⟨.non, H', J.os, J.bare, J.base, J.hok, rfl, q⟩
    | brk => obtain ⟨_, _, _, q⟩ := hs; exact q.elim
    | cont => obtain ⟨_, _, _, q⟩ := hs; exact q.elim
end
section
variable {X : Cx} {CX : CXT} {k : Nat} {f : Addr} {fd : FuncData} {ps : List Str} {sp : Sp} {E : XK} {x : Str} {p pos : Pos} {e : Expr} {es : List Expr} {t : TA} {dvs : List V} {ds : List Value}
theorem pe_callG (F : FnOkG X.prog X.w X.K X.mg X.base CX k f fd ps sp) (hA : X.A.guards = some []) (hr : Room k X.A) (hg : Gl X x) (hm : X.mg x = some (.ref f)) (hk : PySem.W.keepIn X.K (.ref f) = true) (hb : Binds X.K fd ps ds) (hd : Vals dvs ds) (hx : Passes CX X E)
    (ha : PA X (e :: es) t) (hdb : (x == ("__debug__" : Str)) = false := by decide) (he : starEach (e :: es) X.env = (false, eval e X.env) :: starEach es X.env := by rfl) (hpl : (backTo pos (starEach es X.env)).any (·.1) = false := by rfl) :
    PE X (.Call (.Name x p) (e :: es) [] pos) (tCall sp dvs E t) := ⟨fun pins s σ H Q I h => wpAny_Call_Name_kw (ld_glob I hg hm
    (PySem.W.callWith_K (h₀ := X.base) I.ok.mod.kin hk (thn (ha.run pos pins s σ H _ I h) fun us s1 ⟨vs, H1, I1, r, q⟩ => ⟨I1.kIn, by
      have r2 : Vals (vs ++ dvs) (us ++ ds) := r.append hd
      have hl : (us ++ ds).length = ps.length := r2.length.symm.trans (F.len _ _ _ _ q)
      refine wpAny_call (codeAny_mono (F.run X.A X.stack s1 H1 ⟨us, []⟩ (us ++ ds) (vs ++ dvs) Q E hA hr I1.env0 (hb s1 us I1.kIn hl) r2 q) fun r s' hq => ?_)
      cases r with
      | error e => exact hx pins σ H1 s1 e s' I1 hq
      | ok fl => cases fl <;> first | exact I1.after hq | exact False.elim hq⟩) he hpl) hdb)⟩
end
end L2.Cal
end

section
set_option maxRecDepth 100000
set_option maxHeartbeats 4000000
set_option synthInstance.maxHeartbeats 400000
namespace L2.Cal
open PySem PySem.Spec PyProof.Rows L2
abbrev sAll : Stmt := topS 29
theorem scAll : FnScope ["_law_things_here", "_law_a", "_law_b", "_law_c"] ["_law_things_here"] (defScope sAll) := ⟨rfl, rfl, rfl, by decide +kernel, rfl, by decide +kernel, by decide +kernel⟩
abbrev sTh3 : Stmt := topS 30
theorem scTh3 : FnScope ["_law_jar_here", "_law_every", "_law_lots_here", "_law_row_here", "_law_lot", "_law_rough_ones", "_law_spots", "_law_due", "_law_k"] ["_law_jar_here"] (defScope sTh3) := ⟨rfl, rfl, rfl, by decide +kernel, rfl, by decide +kernel, by decide +kernel⟩
def spAll : Sp := fun vs H Q _ => ∃ a b c : Nat, vs = [.str (s3 a b c)] ∧ ∀ (p : Addr) (H' : Hp), Same H H' → H p = none → H' p = some (.lst ((E3 a b c).map V.str)) → Q (.ref p) H'
def spTh3 : Sp := fun vs H Q _ => ∃ j : Addr, vs = [.ref j] ∧ Jar H j ∧ ∀ H', Kp j H H' → Jar H' j → Q (.bl true) H'
theorem tidy_lt {y : Str} (h : Lett y) : (tidy y).cps.toList.Pairwise (· < ·) := by
  have n : (tidy y).cps.toList.Nodup := (tidy_perm y).nodup_iff.mpr h.1
  exact (List.Pairwise.and (tidy_up y) n).imp fun ⟨a, b⟩ => Nat.lt_of_le_of_ne a b
theorem tidy_size (y : Str) : (tidy y).cps.size = y.cps.size := by
  rw [← Array.length_toList, (tidy_perm y).length_eq, Array.length_toList]
section
variable {P : Program} {w : World} {K : PySem.W.Frag} {mg : Str → Option Value} {base : Heap} {C : Addr}
theorem ok_all {f : Addr} {fd : FuncData} (D : DefAt K mg "_law_all_of" sAll ["_law_things_here"] f fd) : FnOk P w K mg base CX0 1 f fd ["_law_things_here"] spAll := by
  refine D.F.ok scAll (fun vs H Q E h => ?_) (fun cdv A outer sh H vs Q E hr h => ?_)
  · obtain ⟨a, b, c, rfl, _⟩ := h
    rfl
  · obtain ⟨a, b, c, rfl, q⟩ := h
    refine ⟨_, pss_cons (ps_asg (pv 0) (pg_txt rfl (pgs_cons (pg_name (i := 1) scAll.nd rfl (.inl rfl)) (pgs_cons (pg_name (i := 2) scAll.nd rfl (.inl rfl)) (pgs_cons (pg_name (i := 3) scAll.nd rfl (.inl rfl)) pgs_nil)))))
      (pss_one (ps_ret (pe_lstS (pa_cons (pe_op op_add_str (pe_op op_add_str (pv 1) (pv 2)) (pv 3)) (pa_cons (pe_op op_add_str (pe_op op_add_str (pv 1) (pv 3)) (pv 2)) (pa_cons (pe_op op_add_str (pe_op op_add_str (pv 2) (pv 1)) (pv 3))
        (pa_cons (pe_op op_add_str (pe_op op_add_str (pv 2) (pv 3)) (pv 1)) (pa_cons (pe_op op_add_str (pe_op op_add_str (pv 3) (pv 1)) (pv 2)) (pa_cons (pe_op op_add_str (pe_op op_add_str (pv 3) (pv 2)) (pv 1)) pa_nil))))))))), ?_⟩
    have z : ∀ n : Nat, n ≤ 6 → n ≤ sizeLine := fun n h => by rw [sizeLine_eq]; omega
    have z2 := z 2 (by decide)
    have z3 := z 3 (by decide)
    refine ⟨_, rfl, s3 a b c, rfl, rfl, _, _, rfl, _, _, rfl, _, _, rfl, rfl, ?_⟩
    refine ⟨_, rfl, _, rfl, _, _, rfl, rfl, z2, _, rfl, _, _, rfl, rfl, z3, _, rfl, _, rfl, _, _, rfl, rfl, z2, _, rfl, _, _, rfl, rfl, z3, _, rfl, _, rfl, _, _, rfl, rfl, z2, _, rfl, _, _, rfl, rfl, z3, ?_⟩
    refine ⟨_, rfl, _, rfl, _, _, rfl, rfl, z2, _, rfl, _, _, rfl, rfl, z3, _, rfl, _, rfl, _, _, rfl, rfl, z2, _, rfl, _, _, rfl, rfl, z3, _, rfl, _, rfl, _, _, rfl, rfl, z2, _, rfl, _, _, rfl, rfl, z3, z 6 (by decide), fun p H1 t1 n1 e1 => ?_⟩
    exact q p H1 t1 n1 e1
end
end L2.Cal
end

section
set_option maxRecDepth 100000
set_option maxHeartbeats 4000000
set_option synthInstance.maxHeartbeats 400000
namespace L2.Cal
open PySem PySem.Spec PyProof.Rows L2
theorem three_of {z : Str} (l : Lett z) (s : z.cps.size = 3) (so : sortedS (signs z) = true) : ∃ a b c, z = s3 a b c ∧ a < b ∧ b < c ∧ Lett (s3 a b c) := by
  have e := tidy_of (y := z) (z := z) (.refl _) so
  have u := tidy_lt l
  rw [← e] at u
  obtain ⟨⟨cs⟩⟩ := z
  match cs, s with
  | [a, b, c], _ =>
    have u : [a, b, c].Pairwise (· < ·) := u
    simp only [List.pairwise_cons, List.mem_cons, List.not_mem_nil, or_false, forall_eq_or_imp, forall_eq] at u
    exact ⟨a, b, c, rfl, u.1.1, u.2.1, l⟩
theorem e3_perm {a b c : Nat} {z : Str} (h : z ∈ E3 a b c) : z.cps.toList.Perm [a, b, c] := by
  simp only [E3, List.mem_cons, List.not_mem_nil, or_false] at h
  rcases h with rfl | rfl | rfl | rfl | rfl | rfl
  · exact .refl _
  · exact .cons a (.swap ..)
  · exact .swap ..
  · exact (List.Perm.cons b (.swap ..)).trans (.swap ..)
  · exact (List.Perm.swap ..).trans (.cons a (.swap ..))
  · exact ((List.Perm.cons c (.swap ..)).trans (.swap ..)).trans (.cons a (.swap ..))
theorem e3_self {a b c : Nat} {z : Str} (h : z ∈ E3 a b c) : press z (s3 a b c) = z := by
  have p := e3_perm h
  unfold press
  rw [List.filter_eq_self.mpr fun x hx => decide_eq_true (show x ∈ (s3 a b c).cps.toList from p.mem_iff.mp hx)]
theorem lot_snoc {a b c k : Nat} {l : List Nat} : lotOf a b c (l ++ [k]) = lotOf a b c l ++ [(E3 a b c).getD k ⟨#[]⟩] := by
  unfold lotOf
  rw [List.map_append] <;> rfl
theorem in_ints (n : Nat) (u : List Nat) : inV (.int (n : Int)) (u.map fun (m : Nat) => V.int (m : Int)) = decide (n ∈ u) := by
  unfold inV
  rw [List.any_map, Bool.eq_iff_iff, List.any_eq_true, decide_eq_true_eq]
  constructor
  · rintro ⟨m, hm, e⟩
    have : n = m := by
      simp [eqV] at e
      omega
    rw [this]
    exact hm
  · exact fun h => ⟨n, h, by simp [eqV]⟩
theorem climbs_of : ∀ ys : List Str, ys.Pairwise Lo → Climbs ys
  | [], _ => trivial
  | [_], _ => trivial
  | a :: b :: r, h => ⟨(List.pairwise_cons.mp h).1 b (List.mem_cons_self ..), climbs_of (b :: r) (List.pairwise_cons.mp h).2⟩
theorem good3 {a b c : Nat} (ab : a < b) (bc : b < c) (l3 : Lett (s3 a b c)) {u : List Nat} (s : ∀ i ∈ u, i < 6) (up : u.Pairwise (· < ·)) (n : u ≠ []) : Good (lotOf a b c u) (s3 a b c) := by
  have pw := lot_up ab bc s up
  refine ⟨⟨climbs_of _ pw, lo_nodup pw, ?_, fun z hz => e3_perm (lot_mem s hz)⟩, l3, by show 3 ≤ 3; decide, by show 3 ≤ 6; decide, ?_⟩
  · unfold lotOf
    rw [List.length_map]
    exact List.length_pos_iff.mpr n
  · have nd : u.Nodup := up.imp fun h e => by omega
    have := List.Nodup.length_le_of_subset (l₂ := List.range 6) nd fun x hx => List.mem_range.mpr (s x hx)
    unfold lotOf
    rw [List.length_map]
    rw [List.length_range] at this
    omega
theorem due_is {a b c : Nat} (ab : a < b) (bc : b < c) (l3 : Lett (s3 a b c)) {u : List Nat} (s : ∀ i ∈ u, i < 6) : decide (roughR (lotOf a b c u) (tidy (s3 a b c)).cps.toList = none) = dueI u := by
  have e : tidy (s3 a b c) = s3 a b c := (tidy_of (y := s3 a b c) (z := s3 a b c) (.refl _) (by
    show sortedS [⟨#[a]⟩, ⟨#[b]⟩, ⟨#[c]⟩] = true
    simp [sortedS, risingS, ltCps]
    omega)).symm
  rw [e]
  rw [← calm3 (pr := prs a b c) ab bc (fun z hz => e3_self hz) s, decide_eq_decide, rough_none]
  have only : ∀ x, x ∈ tri (s3 a b c).cps.toList ↔ x = s3 a b c := fun x => by
    rw [mem_tri]
    have m : ∀ y, y ∈ (s3 a b c).cps.toList ↔ y = a ∨ y = b ∨ y = c := fun y => by
      show y ∈ [a, b, c] ↔ _
      simp
    constructor
    · rintro ⟨a', b', c', ha, hb, hc, h1, h2, rfl⟩
      rw [m] at ha hb hc
      exact s3_inj.mpr (by omega)
    · rintro rfl
      exact ⟨a, b, c, (m a).mpr (by omega), (m b).mpr (by omega), (m c).mpr (by omega), ab, bc, rfl⟩
  constructor
  · exact fun h => h _ ((only _).mpr rfl)
  · intro h x hx
    rw [(only x).mp hx]
    exact h
theorem cut_one {as : List V} : cutV as (some 1) none = as.drop 1 := by
  unfold cutV
  have e1 : HT.sIx as.length 0 (some 1) = min 1 as.length := HT.sIx_nat _ _ 1
  have e2 : HT.sIx as.length as.length none = as.length := HT.sIx_none _ _
  rw [e1, e2]
  cases as with
  | nil => rfl
  | cons x r =>
    simp
theorem seq_key {t u : TS} {D : Ends} {σ : St} {H : Hp} (Pz : St → Hp → Prop) (key : ∀ σ H', Pz σ H' → u D σ H') (go : (∀ σ H', Pz σ H' → u D σ H') → t { D with nx := u D } σ H) : tSeq t u D σ H := go key
def LotsAt (a b c : Nat) (H : Hp) (as : List Addr) (ls : List (List Nat)) : Prop := as.length = ls.length ∧ ∀ (i : Nat) (x : Addr) (l : List Nat), as[i]? = some x → ls[i]? = some l → H x = some (.lst ((lotOf a b c l).map V.str))
section
variable {P : Program} {w : World} {K : PySem.W.Frag} {mg : Str → Option Value} {base : Heap} {C : Addr}
theorem ok_th3 {f fAl fA fD fN fR fI fT2 fTo fCk fSt fWu fWa fRu fIc pT fT pO fOr : Addr} {fd fdAl fdA fdD fdN fdR fdI fdT2 fdTo fdCk fdSt fdWu fdWa fdRu fdIc fdT fdOr : FuncData}
    (D : DefAt K mg "_law_threes_right" sTh3 ["_law_jar_here"] f fd) (DAl : DefAt K mg "_law_all_of" sAll ["_law_things_here"] fAl fdAl) (DA : DefAt K mg "_law_letters" sLett ["_law_jar_here", "_law_many"] fA fdA) (DD : DefAt K mg "_law_dip" sDip ["_law_jar_here", "_law_wide"] fD fdD)
    (FN : Fun K "__init__" "Roll.__init__" sIni fN fdN) (bI : Binds K fdN ["self", "orders"] []) (MK : Mk K C fN) (DR : DefAt K mg "right_ahead" sRah ["orders"] fR fdR) (DI : DefAt K mg "is_order" sIsO ["value"] fI fdI) (DT : DefAt K mg "things_of" sThO ["order"] fT2 fdT2)
    (DTo : DefAt K mg "threes_of" sThs ["things"] fTo fdTo) (DCk : DefAt K mg "check_roll" sChk ["roll"] fCk fdCk) (DSt : DefAt K mg "standing" sSta ["order", "three"] fSt fdSt)
    (DWu : DefAt K mg "wheels_upon" sWup ["three"] fWu fdWu) (DWa : DefAt K mg "wheel_among" sWam ["orders", "three"] fWa fdWa) (DRu : DefAt K mg "rough" sRou ["roll"] fRu fdRu) (DIc : DefAt K mg "is_calm" sIsC ["roll"] fIc fdIc)
    (PT : PropOf K C "things" pT fT) (FT : Fun K "things" "Roll.things" sThi fT fdT) (bT : Binds K fdT ["self"] []) (PO : PropOf K C "orders" pO fOr) (FO : Fun K "orders" "Roll.orders" sOrd fOr fdOr) (bO : Binds K fdOr ["self"] [])
    (T : Txt mg) (Lm : Lims mg) (R : RollC K mg C) : FnOkG P w K mg base CX0 5 f fd ["_law_jar_here"] spTh3 := by
  have GI : FnOk P w K mg base CX0 3 fN fdN ["self", "orders"] (spIni K C) := ok_ini FN DR DI DT T Lm R
  have GA : FnOk P w K mg base CX0 2 fA fdA ["_law_jar_here", "_law_many"] spLett := ok_lett DA DD T
  have GAl : FnOk P w K mg base CX0 1 fAl fdAl ["_law_things_here"] spAll := ok_all DAl
  have GIc : FnOk P w K mg base CX0 4 fIc fdIc ["roll"] (spIsC K C) := ok_isc DIc DRu DCk DTo DSt DWu DWa T R PT FT bT PO FO bO
  refine Fun.okG D.F scTh3 (fun vs H Q E h => ?_) (fun cdv A outer sh H vs Q E hA hr h => ?_)
  · obtain ⟨j, rfl, _⟩ := h
    rfl
  · obtain ⟨j, rfl, hj, q⟩ := h
    have hu := hr.units
    refine ⟨_, (pss_cons (ps_asg (pe_tupS (pa_cons (pe_call GAl (hr.mono (by decide)) (by rfl) DAl.g DAl.F.kp DAl.b .nil pass0 (pa_cons (pe_call GA (hr.mono (by decide)) (by rfl) DA.g DA.F.kp DA.b .nil pass0 (pa_cons (pv 0) (pa_cons pe_int pa_nil))) pa_nil)) (pa_cons (pe_lstS (pa_cons (pe_lstS pa_nil) pa_nil)) pa_nil)))
        (pg_tup rfl (pgs_cons (pg_name (i := 1) scTh3.nd rfl (.inr rfl)) (pgs_cons (pg_name (i := 2) scTh3.nd rfl (.inl rfl)) pgs_nil))))
      (pss_cons (ps_for PassesOwn.never rfl (pi_list (pv 1)) (pg_name (i := 3) scTh3.nd rfl (.inr rfl))
        (pss_one (ps_set (i := 2) scTh3.nd rfl (.inl rfl) (pe_op op_catS (pv 2) (pe_lc (own := [("_law_lot", 4)]) (g := gName 4) (tt := tYes) rfl scTh3.nd (pi_list (pv 2)) (blkOk_by (own := [("_law_lot", 4)]) (N := ["_law_jar_here", "_law_every", "_law_lots_here", "_law_row_here", "_law_lot", "_law_rough_ones", "_law_spots", "_law_due", "_law_k"]) (sc := defScope sTh3) (by decide +kernel))
          (fun _ _ _ _ _ => pg_name (i := 4) scTh3.nd rfl (Or.inl rfl)) (fun _ _ _ _ _ => pts_nil) (fun _ _ _ _ _ => pe_op op_catS (pv 4) (pe_lstS (pa_cons (pv 3) pa_nil))))))))
      (pss_cons (ps_set (i := 5) scTh3.nd rfl (.inl rfl) pe_int)
      (pss_cons (ps_for PassesOwn.never rfl (pi_list (pe_slice sl_list (pv 2) (po_some pe_int) po_none)) (pg_name (i := 4) scTh3.nd rfl (.inl rfl))
        (pss_cons (ps_set (i := 6) scTh3.nd rfl (.inr rfl) (pe_lc (own := [("_law_row_here", 3)]) (g := gName 3) (tt := tYes) rfl scTh3.nd (pi_list (pv 4)) (blkOk_by (own := [("_law_row_here", 3)]) (N := ["_law_jar_here", "_law_every", "_law_lots_here", "_law_row_here", "_law_lot", "_law_rough_ones", "_law_spots", "_law_due", "_law_k"]) (sc := defScope sTh3) (by decide +kernel))
          (fun _ _ _ _ _ => pg_name (i := 3) scTh3.nd rfl (Or.inl rfl)) (fun _ _ _ _ _ => pts_nil) (fun _ _ _ _ _ => show PE _ _ (tBM K _ (rIndex K) _ _) from pe_bm PySem.F.plainAttrs_list PySem.F.slot_list_index PySem.F.type_list_index mt_index (pv 1) (pa_cons (pv 3) pa_nil))))
        (pss_cons (ps_set (i := 7) scTh3.nd rfl (.inl rfl) (pe_and (pe_not (pe_callB (cr_all rfl) (by rfl) T.b_all (by decide +kernel) (pa_cons (pe_lc (own := [("_law_k", 8)]) (g := gName 8) (tt := tYes) rfl scTh3.nd (pi_list (pe_lstS (pa_cons pe_int (pa_cons pe_int (pa_cons pe_int pa_nil))))) (blkOk_by (own := [("_law_k", 8)]) (N := ["_law_jar_here", "_law_every", "_law_lots_here", "_law_row_here", "_law_lot", "_law_rough_ones", "_law_spots", "_law_due", "_law_k"]) (sc := defScope sTh3) (by decide +kernel))
              (fun _ _ _ _ _ => pg_name (i := 8) scTh3.nd rfl (Or.inl rfl)) (fun _ _ _ _ _ => pts_nil) (fun _ _ _ _ _ => pe_cmpR (show OpR _ _ (rIn K false) from op_in_seq) (pv 8) (pv 6) (by rfl))) pa_nil)))
            (pe_one (pe_not (pe_callB (cr_all rfl) (by rfl) T.b_all (by decide +kernel) (pa_cons (pe_lc (own := [("_law_k", 8)]) (g := gName 8) (tt := tYes) rfl scTh3.nd (pi_list (pe_lstS (pa_cons pe_int (pa_cons pe_int (pa_cons pe_int pa_nil))))) (blkOk_by (own := [("_law_k", 8)]) (N := ["_law_jar_here", "_law_every", "_law_lots_here", "_law_row_here", "_law_lot", "_law_rough_ones", "_law_spots", "_law_due", "_law_k"]) (sc := defScope sTh3) (by decide +kernel))
              (fun _ _ _ _ _ => pg_name (i := 8) scTh3.nd rfl (Or.inl rfl)) (fun _ _ _ _ _ => pts_nil) (fun _ _ _ _ _ => pe_cmpR (show OpR _ _ (rIn K false) from op_in_seq) (pv 8) (pv 6) (by rfl))) pa_nil))))))
        (pss_cons (ps_if (pt_cmpR op_ne (pe_callB (call_reprD hA hu) (by rfl) T.b_repr (by decide +kernel) (pa_cons (pe_call GIc (hr.mono (by decide)) (by rfl) DIc.g DIc.F.kp DIc.b .nil pass0 (pa_cons (pe_make MK GI (hr.mono (by decide)) (by rfl) R.g bI .nil pass0 (pa_cons (pe_callTy call_tuple_of (by rfl) T.b_tuple (by decide +kernel) (pa_cons (pv 4) pa_nil)) pa_nil)) pa_nil)) pa_nil))
            (pe_callB (call_reprD hA hu) (by rfl) T.b_repr (by decide +kernel) (pa_cons (pv 7) pa_nil)) (nomark _)) (pss_one (ps_ret pe_bl)) pss_nil)
        (pss_one (ps_set (i := 5) scTh3.nd rfl (.inl rfl) (pe_op op_add (pv 5) (pe_callTy call_int1 (by rfl) T.b_int (by decide +kernel) (pa_cons (pe_not (pv 7)) pa_nil)))))))))
      (pss_one (ps_ret (pe_cmpR op_eq (pv 5) pe_int (nomark _)))))))), ?_⟩
    have z : ∀ n : Nat, n ≤ 300 → n ≤ sizeLine := fun n h => by rw [sizeLine_eq]; omega
    refine ⟨_, rfl, j, 3, rfl, hj, by decide, fun zz H1 k1 J1 lz sz so => ?_⟩
    obtain ⟨a, b, c, rfl, ab, bc, l3⟩ := three_of lz sz so
    refine ⟨a, b, c, rfl, fun pe H2 s2 ne ee => ⟨z 0 (by decide), fun l1 H3 s3' n3 e3 => ⟨z 1 (by decide), fun l2 H4 s4 n4 e4 => ⟨z 2 (by decide), fun p5 H5 s5 n5 e5 => ?_⟩⟩⟩⟩
    have K5 : Kp j H H5 := k1.trans (.of (s2.trans (s3'.trans (s4.trans s5))))
    have J5 := J1.same (s2.trans (s3'.trans (s4.trans s5)))
    have ee5 := s5 _ _ (s4 _ _ (s3' _ _ ee))
    refine ⟨p5, _, rfl, SqT.of e5, rfl, _, _, rfl, _, _, rfl, rfl, ?_⟩
    have e25 := s5 _ _ e4
    have e15 := s5 _ _ (s4 _ _ e3)
    clear s5 s4 s3' s2 e5 e4 e3 ee n5 n4 n3 ne J1 k1
    refine ⟨_, rfl, pe, rfl, ⟨_, SqL.of ee5⟩, for_list (K := K) (a := pe) (xs := (E3 a b c).map V.str) (fun k σ H' => ∃ v3 v4 v5 v6 v7 v8 l as, σ = [some (.ref j), some (.ref pe), some (.ref l), v3, v4, v5, v6, v7, v8] ∧ Same H5 H' ∧ H' l = some (.lst (as.map V.ref)) ∧ LotsAt a b c H' as (lotsI k))
      ⟨_, _, _, _, _, _, l2, [l1], rfl, fun _ _ z => z, e25, rfl, fun i x l hx hl => ?_⟩ (fun k σ H' _ hP => ?_) (fun k x σ H6 hx hP => ?_) (fun σ H6 hP => ?_)⟩
    · match i, hx, hl with
      | 0, hx, hl =>
        cases hx
        cases hl
        exact e15
      | i + 1, hx, _ => simp at hx
    · obtain ⟨_, _, _, _, _, _, _, _, _, sm, _⟩ := hP
      exact sm.seq (SqL.of ee5)
    · obtain ⟨v3, v4, v5, v6, v7, v8, l, as, rfl, sm, el, la, lm⟩ := hP
      rw [List.getElem?_map] at hx
      obtain ⟨hk, rfl⟩ : k < 6 ∧ x = .str ((E3 a b c).getD k ⟨#[]⟩) := by
        cases q : (E3 a b c)[k]? with
        | none => rw [q] at hx; cases hx
        | some u =>
          rw [q] at hx
          cases hx
          exact ⟨(List.getElem?_eq_some_iff.mp q).1, by rw [List.getD_eq_getElem?_getD, q] <;> rfl⟩
      have al : as.length ≤ 64 := by
        rw [la]
        exact (by decide +kernel : ∀ k, k < 6 → (lotsI k).length ≤ 64) k hk
      have ll : ∀ u ∈ lotsI k, u.length ≤ 6 := (by decide +kernel : ∀ k, k < 6 → ∀ u ∈ lotsI k, u.length ≤ 6) k hk
      refine ⟨_, rfl, _, rfl, l, rfl, ⟨_, SqL.of el⟩, fun D nD => lc_list (K := K) (a := l) (xs := as.map V.ref) (fun i H' => Same H6 H' ∧ ∃ bs : List Addr, H' D = some (.lst (bs.map V.ref)) ∧ bs.length = i ∧ ∀ (t : Nat) (x : Addr) (u : List Nat), bs[t]? = some x → (lotsI k)[t]? = some u → x ≠ D ∧ H' x = some (.lst ((lotOf a b c (u ++ [k])).map V.str)))
        ⟨same_new nD, [], upd_same, rfl, fun t x u h => by simp at h⟩ (fun i H' _ hP => hP.1.seq (SqL.of el)) (fun i x H7 hx hP => ?_) (fun H7 hP => ?_)⟩
      · obtain ⟨s7, bs, eD, bl, bm⟩ := hP
        rw [List.getElem?_map] at hx
        cases qa : as[i]? with
        | none => rw [qa] at hx; cases hx
        | some xa =>
          rw [qa] at hx
          cases hx
          have hi := (List.getElem?_eq_some_iff.mp qa).1
          obtain ⟨u, hu⟩ : ∃ u, (lotsI k)[i]? = some u := ⟨_, List.getElem?_eq_getElem (by omega)⟩
          have exa := lm i xa u qa hu
          have ul := ll u (List.mem_of_getElem? hu)
          refine ⟨rfl, _, rfl, _, rfl, z 1 (by decide), fun p8 H8 s8 n8 e8 => ⟨xa, p8, _, _, rfl, rfl, s8 _ _ (s7 _ _ exa), e8, ?_, fun p9 H9 s9 n9 e9 => ⟨bs.map V.ref, s9 _ _ (s8 _ _ eD), ?_, fun y o h => ?_, bs ++ [p9], ?_, ?_, fun t x u' ht hu' => ?_⟩⟩⟩
          · refine z _ ?_
            unfold lotOf
            rw [List.length_map, List.length_map] <;> simp <;> omega
          · rw [List.length_map, sizeLine_eq]
            omega
          · rw [upd_ne (ne_of_none h nD)]
            exact s9 _ _ (s8 _ _ (s7 _ _ h))
          · rw [upd_same, List.map_append] <;> rfl
          · rw [List.length_append, bl] <;> rfl
          · have nr : p9 ≠ D := fun z => by rw [z, s8 _ _ eD] at n9; cases n9
            by_cases ht' : t < bs.length
            · rw [List.getElem?_append_left ht'] at ht
              obtain ⟨m1, m2⟩ := bm t x u' ht hu'
              exact ⟨m1, by rw [upd_ne m1]; exact s9 _ _ (s8 _ _ m2)⟩
            · rw [List.getElem?_append_right (Nat.not_lt.mp ht')] at ht
              have h0 : t - bs.length = 0 := by
                have := (List.getElem?_eq_some_iff.mp ht).1
                simp at this
                omega
              rw [h0] at ht
              cases ht
              have : t = i := by omega
              subst this
              rw [hu] at hu'
              cases hu'
              refine ⟨nr, ?_⟩
              rw [upd_ne nr, e9, lot_snoc, List.map_append] <;> rfl
      · obtain ⟨s7, bs, eD, bl, bm⟩ := hP
        rw [List.length_map] at bl
        refine ⟨l, D, _, _, rfl, rfl, s7 _ _ el, eD, ?_, fun p8 H8 s8 n8 e8 => ⟨_, _, _, _, _, _, p8, as ++ bs, rfl, sm.trans (s7.trans s8), by rw [e8, List.map_append], ?_, fun t x u ht hu' => ?_⟩⟩
        · refine z _ ?_
          rw [List.length_map, List.length_map]
          omega
        · show _ = (lotsI k ++ (lotsI k).map (· ++ [k])).length
          rw [List.length_append, List.length_append, List.length_map, la, bl, la]
        · have hu' : (lotsI k ++ (lotsI k).map (· ++ [k]))[t]? = some u := hu'
          by_cases ht' : t < as.length
          · rw [List.getElem?_append_left ht'] at ht
            rw [List.getElem?_append_left (by omega)] at hu'
            exact s8 _ _ (s7 _ _ (lm t x u ht hu'))
          · rw [List.getElem?_append_right (Nat.not_lt.mp ht')] at ht
            rw [List.getElem?_append_right (by omega), List.getElem?_map, ← la] at hu'
            cases q : (lotsI k)[t - as.length]? with
            | none => rw [q] at hu'; cases hu'
            | some v =>
              rw [q] at hu'
              cases hu'
              exact s8 _ _ (bm _ x v ht q).2
    · obtain ⟨v3, v4, v5, v6, v7, v8, l, as, rfl, sm, el, la, lm⟩ := hP
      have e64 : as.length = 64 := by rw [la]; exact lots_len
      refine ⟨_, rfl, 1, rfl, l, as.map V.ref, rfl, SqL.of el, fun lb nb => ⟨lb, rfl, ⟨_, SqL.of upd_same⟩, for_list (K := K) (a := lb) (xs := (as.drop 1).map V.ref) (fun k σ H' => ∃ v3 v4 v6 v7 v8, σ = [some (.ref j), some (.ref pe), some (.ref l), v3, v4, some (.int (((((lotsI 6).drop 1).take k).filter fun l => !dueI l).length : Nat)), v6, v7, v8] ∧ Same H6 H' ∧ H' lb = some (.lst ((as.drop 1).map V.ref)))
        ⟨_, _, _, _, _, rfl, same_new nb, by rw [upd_same, cut_one, List.map_drop]⟩ (fun k σ H' _ hP => ?_) (fun k x σ H7 hx hP => ?_) (fun σ H7 hP => ?_)⟩⟩
      · obtain ⟨_, _, _, _, _, _, _, eb⟩ := hP
        exact SqL.of eb
      · obtain ⟨v3, v4, v6, v7, v8, rfl, s7, eb⟩ := hP
        rw [List.getElem?_map, List.getElem?_drop] at hx
        cases qa : as[1 + k]? with
        | none => rw [qa] at hx; cases hx
        | some xa =>
          rw [qa] at hx
          cases hx
          have hk := (List.getElem?_eq_some_iff.mp qa).1
          obtain ⟨u, hu⟩ : ∃ u, (lotsI 6)[1 + k]? = some u := ⟨_, List.getElem?_eq_getElem (by rw [lots_len]; omega)⟩
          have exa := s7 _ _ (lm _ xa u qa hu)
          obtain ⟨us, up, ul⟩ := lots_small u (List.mem_of_getElem? hu)
          have hu1 : ((lotsI 6).drop 1)[k]? = some u := by rw [List.getElem?_drop]; exact hu
          have un := lots_some u (List.mem_of_getElem? hu1)
          have G := good3 ab bc l3 us up un
          have due := due_is ab bc l3 us
          have ee7 := s7 _ _ (sm _ _ ee5)
          refine ⟨_, rfl, xa, rfl, ⟨_, SqL.of exa⟩, fun D nD => lc_list (K := K) (a := xa) (xs := (lotOf a b c u).map V.str) (fun i H' => Same H7 H' ∧ H' D = some (.lst ((u.take i).map fun (n : Nat) => V.int (n : Int))))
            ⟨same_new nD, upd_same⟩ (fun i H' _ hP => hP.1.seq (SqL.of exa)) (fun i x H8 hx hP => ?_) (fun H8 hP => ?_)⟩
          · obtain ⟨s8, eD⟩ := hP
            rw [List.getElem?_map] at hx
            unfold lotOf at hx
            rw [List.getElem?_map] at hx
            cases qi : u[i]? with
            | none => rw [qi] at hx; cases hx
            | some n =>
              rw [qi] at hx
              cases hx
              have hn := us n (List.mem_of_getElem? qi)
              have hi := (List.getElem?_eq_some_iff.mp qi).1
              have en : (E3 a b c)[n]? = some ((E3 a b c).getD n ⟨#[]⟩) := by
                rw [List.getD_eq_getElem?_getD, List.getElem?_eq_getElem (show n < (E3 a b c).length from hn)] <;> rfl
              refine ⟨rfl, _, rfl, .inl ⟨rfl, _, SqL.of (s8 _ _ ee7)⟩, _, rfl, pe, _, _, n, .str ((E3 a b c).getD n ⟨#[]⟩), rfl, rfl, SqL.of (s8 _ _ ee7), rfl, by simp [List.all_eq_true, flatV], by rw [List.getElem?_map, en] <;> rfl, by simp [eqV], fun m z' hm hz => ?_, _, eD, ?_, fun y o h => ?_, ?_⟩
              · rw [List.getElem?_map] at hz
                have em : (E3 a b c)[m]? = some ((E3 a b c).getD m ⟨#[]⟩) := by
                  rw [List.getD_eq_getElem?_getD, List.getElem?_eq_getElem (show m < (E3 a b c).length from Nat.lt_trans hm hn)] <;> rfl
                rw [em] at hz
                cases hz
                have ne := (not_congr (e3_at ab bc (Nat.lt_trans hm hn) hn)).mpr (Nat.ne_of_lt hm)
                simp [eqV]
                exact ne
              · rw [List.length_map, List.length_take, sizeLine_eq]
                omega
              · rw [upd_ne (ne_of_none h nD)]
                exact s8 _ _ h
              · rw [upd_same, List.take_succ, qi, Option.toList_some, List.map_append] <;> rfl
          obtain ⟨s8, eD⟩ := hP
          have lu : ((lotOf a b c u).map V.str).length = u.length := by
            unfold lotOf
            rw [List.length_map, List.length_map]
          rw [lu, List.take_length] at eD
          have chk : ∀ (ks : List Nat) (n i : Nat) (x : V), ((ks.map fun (n : Nat) => V.int (n : Int))[i]? = some x) → ∃ n, x = .int (n : Nat) ∧ ks[i]? = some n := fun ks n i x h => by
            rw [List.getElem?_map] at h
            cases q : ks[i]? with
            | none => rw [q] at h; cases h
            | some n => rw [q] at h; cases h; exact ⟨n, rfl, rfl⟩
          dsimp only [gName]
          refine seq_key (fun σ H' => σ = [some (.ref j), some (.ref pe), some (.ref l), v3, some (.ref xa), some (.int (((((lotsI 6).drop 1).take k).filter fun l => !dueI l).length : Nat)), some (.ref D), some (.bl (dueI u)), v8] ∧ Same H8 H') (fun σ H9 hP => ?_) (fun key => ?_)
          rotate_left
          · have al : ∀ ks : List Nat, (ks.map fun n => decide (n ∈ u)).all id = ks.all fun k => decide (k ∈ u) := fun ks => by rw [List.all_map] <;> rfl
            refine ⟨z 3 (by decide), fun pK KK sK nK eK => ⟨pK, rfl, ⟨_, SqL.of eK⟩, fun DK nDK => lc_list (K := K) (a := pK) (xs := ([0, 3, 4] : List Nat).map fun (n : Nat) => V.int (n : Int)) (fun i H' => Same KK H' ∧ H' DK = some (.lst ((([0, 3, 4] : List Nat).take i).map fun n => V.bl (decide (n ∈ u)))))
              ⟨same_new nDK, upd_same⟩ (fun i H' _ hP => hP.1.seq (SqL.of eK)) (fun i x H9 hx hP => ?_) (fun H9 hP => ?_)⟩⟩
            · obtain ⟨s9, eDK⟩ := hP
              obtain ⟨n, rfl, qn⟩ := chk _ 0 _ _ hx
              have hi := (List.getElem?_eq_some_iff.mp qn).1
              have h3 : ([0, 3, 4] : List Nat).length = 3 := rfl
              refine ⟨rfl, _, rfl, _, rfl, D, _, rfl, .inl (SqL.of (s9 _ _ (sK _ _ eD))), rfl, by simp [List.all_eq_true, flatV], _, eDK, ?_, fun y o h => ?_, ?_⟩
              · rw [List.length_map, List.length_take, sizeLine_eq]
                omega
              · rw [upd_ne (ne_of_none h nDK)]
                exact s9 _ _ h
              · rw [upd_same, List.take_succ, qn, Option.toList_some, List.map_append, in_ints] <;> rfl
            obtain ⟨s9, eDK⟩ := hP
            have eDK : H9 DK = some (.lst ((([0, 3, 4] : List Nat).map fun n => decide (n ∈ u)).map V.bl)) := by rw [eDK] <;> rfl
            refine ⟨DK, _, rfl, SqL.of eDK, _, rfl, _, rfl, ite2 (fun e1 => ?_) (fun e1 => ?_)⟩
            · have sA : Same H8 H9 := sK.trans s9
              clear sK s9 nK eK nDK eDK
              refine ⟨z 3 (by decide), fun p2 K2 sK nK eK => ⟨p2, rfl, ⟨_, SqL.of eK⟩, fun D2 nd2 => lc_list (K := K) (a := p2) (xs := ([1, 2, 5] : List Nat).map fun (n : Nat) => V.int (n : Int)) (fun i H' => Same K2 H' ∧ H' D2 = some (.lst ((([1, 2, 5] : List Nat).take i).map fun n => V.bl (decide (n ∈ u)))))
                ⟨same_new nd2, upd_same⟩ (fun i H' _ hP => hP.1.seq (SqL.of eK)) (fun i x HB hx hP => ?_) (fun HB hP => ?_)⟩⟩
              · obtain ⟨sB, eD2⟩ := hP
                obtain ⟨n, rfl, qn⟩ := chk _ 0 _ _ hx
                have hi := (List.getElem?_eq_some_iff.mp qn).1
                have h3 : ([1, 2, 5] : List Nat).length = 3 := rfl
                refine ⟨rfl, _, rfl, _, rfl, D, _, rfl, .inl (SqL.of (sB _ _ (sK _ _ (sA _ _ eD)))), rfl, by simp [List.all_eq_true, flatV], _, eD2, ?_, fun y o h => ?_, ?_⟩
                · rw [List.length_map, List.length_take, sizeLine_eq]
                  omega
                · rw [upd_ne (ne_of_none h nd2)]
                  exact sB _ _ h
                · rw [upd_same, List.take_succ, qn, Option.toList_some, List.map_append, in_ints] <;> rfl
              obtain ⟨sB, eD2⟩ := hP
              have eD2 : HB D2 = some (.lst ((([1, 2, 5] : List Nat).map fun n => decide (n ∈ u)).map V.bl)) := by rw [eD2] <;> rfl
              refine ⟨D2, _, rfl, SqL.of eD2, _, rfl, key _ _ ⟨?_, sA.trans (sK.trans sB)⟩⟩
              rw [al] at e1 ⊢
              unfold dueI
              rw [e1, Bool.true_and] <;> rfl
            · refine key _ _ ⟨?_, sK.trans s9⟩
              have e1 := Bool.eq_false_iff.mpr e1
              rw [al] at e1
              unfold dueI
              rw [e1, Bool.false_and] <;> rfl
          · obtain ⟨rfl, s9⟩ := hP
            have S79 : Same H7 H9 := s8.trans s9
            have exa9 := S79 _ _ exa
            have few := G.few
            have l6 : (s3 a b c).cps.size = 3 := rfl
            have ty6 : (tidy (s3 a b c)).cps.size ≤ 6 := by rw [tidy_size]; show 3 ≤ 6; decide
            have bb : ∀ b : Bool, (PyData.bool b).showable = true ∧ (PyData.bool b).shown.length ≤ sizeLine ∧ (PyData.bool b).depth ≤ 40 := fun b => by cases b <;> exact ⟨by decide +kernel, by decide +kernel, by decide +kernel⟩
            refine ⟨_, rfl, _, _, rfl, .inl ⟨SqL.of exa9, fun tp ntp => ?_⟩⟩
            have s10 : Same H9 (upd H9 tp (.tup ((lotOf a b c u).map V.str))) := same_new ntp
            have e10 : (upd H9 tp (.tup ((lotOf a b c u).map V.str))) tp = some (.tup ((lotOf a b c u).map V.str)) := upd_same
            generalize upd H9 tp (.tup ((lotOf a b c u).map V.str)) = H10 at s10 e10
            refine fun x1 dx1 nx1 nd1 ne1 => ?_
            have m1 : Same H10 (upd (upd H10 dx1 (.own x1)) x1 (.ins C dx1 [])) := fun b o e => by rw [upd_ne (ne_of_none e nx1), upd_ne (ne_of_none e nd1)]; exact e
            refine ⟨x1, tp, dx1, lotOf a b c u, s3 a b c, rfl, upd_same, SqT.of (m1 _ _ e10), .base (.tup (m1 _ _ e10)), G, fun H11 k11 r1 => ⟨rfl, ?_⟩⟩
            have s11 : Same H10 H11 := fun b o e => k11 b o (ne_of_none e nx1) (m1 _ _ e)
            have zz : ∀ z, z ∈ lotOf a b c u → z.cps.size ≤ 6 := fun z hz => by
              have := (e3_perm (lot_mem us hz)).length_eq
              rw [Array.length_toList] at this
              rw [this]
              show 3 ≤ 6
              decide
            refine ⟨x1, tp, s3 a b c, lotOf a b c u, rfl, ⟨r1, SqT.of (s11 _ _ e10), ty6, zz, by omega⟩, fun H12 s12 => ?_⟩
            rw [due]
            obtain ⟨f1, f2, f3⟩ := bb (dueI u)
            refine ⟨_, .bool (dueI u), rfl, .base (.bl _), f1, f2, f3, _, rfl, _, .bool (dueI u), rfl, .base (.bl _), f1, f2, f3, rfl, _, rfl, iteNS rfl ?_⟩
            refine ⟨_, rfl, _, rfl, _, rfl, .inr ⟨_, rfl, _, _, rfl, rfl, v3, some (.ref xa), some (.ref D), some (.bl (dueI u)), v8, ?_, s7.trans (S79.trans (s10.trans (s11.trans s12))), (s12 _ _ (s11 _ _ (s10 _ _ (S79 _ _ eb))))⟩⟩
            have cn : ((((lotsI 6).drop 1).take (k + 1)).filter fun l => !dueI l).length = ((((lotsI 6).drop 1).take k).filter fun l => !dueI l).length + (if (!dueI u) = true then 1 else 0) := by
              rw [List.take_succ, hu1, Option.toList_some, List.filter_append, List.length_append]
              congr 1
              cases q : dueI u <;> simp [q]
            rw [cn]
            cases q : dueI u <;> simp
      · obtain ⟨v3, v4, v6, v7, v8, rfl, s7, eb⟩ := hP
        have all : ((lotsI 6).drop 1).take ((as.drop 1).map V.ref).length = (lotsI 6).drop 1 := by
          rw [List.length_map, List.length_drop, e64]
          exact List.take_of_length_le (by rw [List.length_drop, lots_len]; decide)
        rw [all, lots_rough]
        refine ⟨_, rfl, rfl, ?_⟩
        exact q _ (K5.trans (.of (sm.trans s7))) (J5.same (sm.trans s7))
end
end L2.Cal
end

section
set_option maxRecDepth 100000
set_option maxHeartbeats 4000000
set_option synthInstance.maxHeartbeats 400000
namespace L2.Cal
open PySem PySem.Spec PyProof.Rows L2
theorem prs_pick (L : List Nat) (a b c : Nat) (ix : List Nat) : prs a b c (pickS L ix) = pickS L (ix.filter (maskOf L [a, b, c])) := press_pick L ix (s3 a b c)
theorem pairs_calm {L : List Nat} (n : L.Nodup) (l6 : L.length = 6) {ys : List Str} (hz : ∀ z, z ∈ ys → ∃ ix, ix ∈ pairsI ∧ z = pickS L ix) {cs : List Nat} (hc : ∀ c, c ∈ cs → c ∈ L) : roughR ys cs = none := by
  rw [rough_none]
  intro x hx
  obtain ⟨a, b, c, ha, hb, hc', ab, bc, rfl⟩ := mem_tri.mp hx
  rw [wheelAt_s3]
  have d : Apart a b c := ⟨by omega, by omega, by omega⟩
  have m3 := mask_three n l6 (hc _ ha) (hc _ hb) (hc _ hc') d
  refine wheel_two d (p := pickS L ([0, 1, 2, 3, 4, 5].filter (maskOf L [a, b, c]))) (q := pickS L ([1, 0, 3, 2, 5, 4].filter (maskOf L [a, b, c]))) fun z h => ?_
  obtain ⟨ix, hi, rfl⟩ := hz z h
  rw [prs_pick]
  rcases pairs_two _ m3 hi with e | e
  · exact .inl (by rw [e])
  · exact .inr (by rw [e])
theorem rough_only {ys zs : List Str} {cs : List Nat} {x : Str} (hx : x ∈ tri cs) (no : ∀ u, u ∈ tri cs → u ≠ x → wheelAt ys u = none) (h : wheelAt ys x = some zs) : roughR ys cs = some (x, zs) := by
  cases e : roughR ys cs with
  | none =>
    rw [rough_none.mp e x hx] at h
    cases h
  | some p =>
    obtain ⟨u, vs⟩ := p
    obtain ⟨hu, hw⟩ := rough_at e
    by_cases q : u = x
    · subst q
      rw [h] at hw
      cases hw
      rfl
    · rw [no u hu q] at hw
      cases hw
theorem atP_pick {L : List Nat} {f : List Nat} {p : Nat} (h : p < f.length) : atP (pickS L f) p = ⟨#[L.getD (f.getD p 0) 0]⟩ := by
  unfold atP pickS pick
  dsimp only
  rw [Array.getD_eq_getD_getElem?, List.getElem?_toArray, List.getElem?_map, List.getElem?_eq_getElem h, List.getD_eq_getElem?_getD (l := f), List.getElem?_eq_getElem h] <;> rfl
theorem hid_rough {L : List Nat} (n : L.Nodup) (l6 : L.length = 6) {ys : List Str} (pm : ys.Perm (hidI.map (pickS L))) (up : ys.Pairwise Lo) {cs : List Nat} (hc : ∀ c, c ∈ cs → c ∈ L) {a b c : Nat} (hx : s3 a b c ∈ tri cs)
    (pt : [L.getD 0 0, L.getD 1 0, L.getD 2 0].Perm [a, b, c]) : roughR ys cs = some (s3 a b c, ys) := by
  obtain ⟨a', b', c', ha, hb, hc', ab, bc, e⟩ := mem_tri.mp hx
  obtain ⟨rfl, rfl, rfl⟩ := s3_inj.mp e
  have d : Apart a b c := ⟨by omega, by omega, by omega⟩
  have l3 : ys.length = 3 := pm.length_eq
  refine rough_only hx (fun u hu ne => ?_) ?_
  · obtain ⟨a', b', c', ha', hb', hc'', ab', bc', rfl⟩ := mem_tri.mp hu
    have d' : Apart a' b' c' := ⟨by omega, by omega, by omega⟩
    have m3 := mask_three n l6 (hc _ ha') (hc _ hb') (hc _ hc'') d'
    rw [wheelAt_s3]
    cases w : wheelR (prs a' b' c') ys a' b' c' with
    | none => rfl
    | some zs =>
      have iw := wheel_is d' w
      have ez := wheel_whole iw up l3
      subst ez
      obtain ⟨p, hp, nn⟩ := hid_not _ m3 (fun q => by
        rw [Bool.and_eq_true, Bool.and_eq_true] at q
        have q0 := of_decide_eq_true q.1.1
        have q1 := of_decide_eq_true q.1.2
        have q2 := of_decide_eq_true q.2
        have i01 := (not_congr (getD_inj n (i := 0) (j := 1) (by omega) (by omega))).mpr (by decide)
        have i02 := (not_congr (getD_inj n (i := 0) (j := 2) (by omega) (by omega))).mpr (by decide)
        have i12 := (not_congr (getD_inj n (i := 1) (j := 2) (by omega) (by omega))).mpr (by decide)
        have ma := pt.mem_iff (a := a)
        have mb := pt.mem_iff (a := b)
        have mc := pt.mem_iff (a := c)
        simp only [List.mem_cons, List.not_mem_nil, or_false, true_or, or_true, iff_true] at q0 q1 q2 ma mb mc
        refine ne (s3_inj.mpr ?_)
        generalize L.getD 0 0 = x0 at *
        generalize L.getD 1 0 = x1 at *
        generalize L.getD 2 0 = x2 at *
        omega)
      refine absurd ?_ nn
      have ea := iw.each p hp
      rw [List.map_map] at ea
      have ea := (pm.map (((fun m => atP m p) ∘ prs a' b' c'))).nodup_iff.mp ea
      rw [List.map_map] at ea
      rw [List.map_congr_left (g := fun ix => (⟨#[L.getD ((ix.filter (maskOf L [a', b', c'])).getD p 0) 0]⟩ : Str)) fun ix hi => by
        show atP (prs a' b' c' (pickS L ix)) p = _
        rw [prs_pick, atP_pick (by rw [hid_len _ m3 hi]; exact hp)]] at ea
      have := (show (hidI.map fun ix => (ix.filter (maskOf L [a', b', c'])).getD p 0).map (fun i => (⟨#[L.getD i 0]⟩ : Str)) = hidI.map fun ix => (⟨#[L.getD ((ix.filter (maskOf L [a', b', c'])).getD p 0) 0]⟩ : Str) by rw [List.map_map] <;> rfl)
      rw [← this] at ea
      exact List.Pairwise.of_map _ (fun x y hne e => hne (by rw [e])) ea
  · rw [wheelAt_s3]
    have mk : ∀ i, i < 6 → maskOf L [a, b, c] i = decide (i < 3) := fun i hi => by
      unfold maskOf
      rw [decide_eq_decide, ← pt.mem_iff]
      simp only [List.mem_cons, List.not_mem_nil, or_false]
      rw [getD_inj n (by omega) (by omega), getD_inj n (by omega) (by omega), getD_inj n (by omega) (by omega)]
      omega
    have at_ : ∀ ix, ix ∈ hidI → pickS L (ix.filter fun i => decide (i < 3)) ∈ ys.map (prs a b c) := fun ix hi => by
      refine List.mem_map.mpr ⟨pickS L ix, pm.mem_iff.mpr (List.mem_map.mpr ⟨ix, hi, rfl⟩), ?_⟩
      rw [prs_pick, filter_ext mk (hid_small ix hi)]
    have h0 := at_ [0, 1, 2, 3, 4, 5] (by decide)
    have h1 := at_ [3, 1, 2, 0, 4, 5] (by decide)
    have h2 := at_ [3, 4, 2, 0, 1, 5] (by decide)
    cases w : wheelR (prs a b c) ys a b c with
    | none => exact absurd w (wheel_turned d pt h0 h1 h2)
    | some zs => rw [wheel_whole (wheel_is d w) up l3]
end L2.Cal
end

section
set_option maxRecDepth 100000
set_option maxHeartbeats 4000000
/-! text[::-1] -/
namespace L2.Cal
open PySem PySem.Spec PyProof.Rows L2
def revS (x : Str) : Str := ⟨x.cps.reverse⟩
theorem rev_range (n : Nat) : Builtin.Str.strSliceIndices none none (-1) n = (List.range n).map fun k => n - 1 - k := by
  unfold Builtin.Str.strSliceIndices sliceRange
  simp only [show ¬ ((-1 : Int) > 0) by decide, if_false]
  have e : (if ((n : Int) - 1) > -1 then ((n : Int) - 1 - -1 - -1 - 1) / - -1 else 0) = (n : Int) := by
    split
    · have : ((n : Int) - 1 - -1 - -1 - 1) = n := by omega
      rw [this]
      simp
    · omega
  rw [e]
  show List.map _ (List.range ((n : Int).toNat)) = _
  rw [Int.toNat_natCast]
  refine List.map_congr_left fun k hk => ?_
  have := List.mem_range.mp hk
  omega
theorem fm_congr {α β : Type} {f g : α → Option β} : ∀ {l : List α}, (∀ x, x ∈ l → f x = g x) → l.filterMap f = l.filterMap g
  | [], _ => rfl
  | x :: l, h => by rw [List.filterMap_cons, List.filterMap_cons, h x (List.mem_cons_self ..), fm_congr fun y hy => h y (List.mem_cons_of_mem _ hy)]
theorem get_range : ∀ m : List Nat, (List.range m.length).filterMap (fun k => m[k]?) = m
  | [] => rfl
  | a :: r => by
    rw [List.length_cons, List.range_succ_eq_map, List.filterMap_cons, List.filterMap_map]
    show a :: List.filterMap (fun k => (a :: r)[k + 1]?) (List.range r.length) = a :: r
    have h := get_range r
    congr 1
theorem rev_get (l : List Nat) : (((List.range l.length).map fun k => l.length - 1 - k).filterMap fun i => l[i]?) = l.reverse := by
  have h := get_range l.reverse
  rw [List.length_reverse] at h
  rw [List.filterMap_map]
  refine Eq.trans (fm_congr fun k hk => ?_) h
  show l[l.length - 1 - k]? = l.reverse[k]?
  rw [List.getElem?_reverse (List.mem_range.mp hk)]
theorem made_rev (z : Str) (t t2 : Tok) : sliceMade z t none none (some (-1, t2)) = .str (revS z) := by
  unfold sliceMade
  rw [if_neg (by simp)]
  congr 1
  unfold slicePicked
  show Str.mk _ = _
  rw [show ((Option.map (fun (x : Int × Tok) => x.fst) (some (-1, t2))).getD 1) = -1 from rfl]
  show Str.mk (List.filterMap (fun (x : Nat) => z.cps[x]?) (Builtin.Str.strSliceIndices none none (-1) z.length)).toArray = _
  rw [rev_range]
  have h := rev_get z.cps.toList
  rw [Array.length_toList] at h
  have e : (fun (x : Nat) => z.cps[x]?) = fun (i : Nat) => z.cps.toList[i]? := by
    funext i
    exact (Array.getElem?_toList).symm
  rw [e, show z.length = z.cps.size from rfl, h]
  unfold revS
  congr 1
  rw [← Array.toList_reverse]
section
variable {X : Cx}
def tRev (te ts : TE) : TE := fun σ H Q => te σ H fun x H1 => ts σ H1 fun v H2 => v = .int (-1) ∧ ∃ z, x = .str z ∧ z.length ≤ sizeLine ∧ Q (.str (revS z)) H2
theorem pe_rev {e st : Expr} {te ts : TE} {pos p2 : Pos} (he : PE X e te) (hs : PE X st ts) : PE X (e.Subscript (Expr.Slice none none (some st) p2) pos) (tRev te ts) where
  run pins s σ H Q I h := by
    refine Subscript_ (thn (he.run pins s σ H (fun x H1 => ts σ H1 fun v H2 => v = .int (-1) ∧ ∃ z, x = .str z ∧ z.length ≤ sizeLine ∧ Q (.str (revS z)) H2) I h) fun v s1 hq => ?_)
    obtain ⟨x, H1, I1, r1, q1⟩ := hq
    refine wpAny_Slice ?_
    rw [evalPart_none]
    refine wpAny_pure (wpAny_pure ?_)
    refine thn (hs.run pins s1 σ H1 (fun v H2 => v = .int (-1) ∧ ∃ z, x = .str z ∧ z.length ≤ sizeLine ∧ Q (.str (revS z)) H2) I1 q1) fun vs s3 hq => ?_
    obtain ⟨vx, H2, I2, rs, rfl, z, rfl, hz, q⟩ := hq
    obtain ⟨t2, rfl⟩ := rs
    obtain ⟨t, rfl⟩ := r1
    have I4 := Inv.kept (t' := s3.toks) I2 (fun b ob q => Heap.get?_push_of_some { cls := Value.type "slice", data := Data.fields #[Value.none, Value.none, Value.int (-1) t2] } q)
    refine tail_any (typeIs_str _ z t) F.slot_str_getitem.lookup ?_ (Eq.refl (subscripted (Expr.Slice none none (some st) p2) false _ _))
    refine wpAny_getItem_str_slice (l := none) (u := none) (st := some (-1, t2)) (Heap.IsSliceOf.new s3.heap Value.none Value.none (Value.int (-1) t2)) rfl ?_
    rw [made_rev]
    refine ⟨?_, .str (revS z), H2, Inv.tok I4 _, ⟨_, rfl⟩, q⟩
    show (revS z).cps.size ≤ sizeLine
    unfold revS
    rw [Array.size_reverse]
    exact hz
end
end L2.Cal
end

section
set_option maxRecDepth 100000
set_option maxHeartbeats 4000000
set_option synthInstance.maxHeartbeats 400000
namespace L2.Cal
open PySem PySem.Spec PyProof.Rows L2
abbrev sPrs : Stmt := topS 31
theorem scPrs : FnScope ["_law_jar_here", "_law_a", "_law_b", "_law_c", "_law_d", "_law_e", "_law_f", "_law_found", "_law_pair", "_law_begun"] ["_law_jar_here"] (defScope sPrs) := ⟨rfl, rfl, rfl, by decide +kernel, rfl, by decide +kernel, by decide +kernel⟩
def prI : List (List Nat) := [[0, 1], [2, 3], [4, 5]]
def fndI : Nat → List (List Nat)
  | 0 => [[]]
  | k + 1 => (fndI k).map (· ++ prI.getD k []) ++ (fndI k).map (· ++ (prI.getD k []).reverse)
theorem fnd_all : fndI 3 = pairsI := by decide +kernel
theorem fnd_few : ∀ k, k < 4 → (fndI k).length ≤ 8 ∧ ∀ ix ∈ fndI k, ix.length ≤ 6 := by decide +kernel
theorem pick_app (L : List Nat) (a b : List Nat) : pickS L a ++ pickS L b = pickS L (a ++ b) := by
  apply str_ext
  rw [app_cps, pick_list, pick_list, pick_list]
  unfold pick
  rw [List.map_append]
theorem pick_rev (L : List Nat) (a : List Nat) : revS (pickS L a) = pickS L a.reverse := by
  apply str_ext
  unfold revS
  rw [Array.toList_reverse, pick_list, pick_list]
  unfold pick
  rw [List.map_reverse]
theorem pick_size (L : List Nat) (a : List Nat) : (pickS L a).cps.size = a.length := by
  rw [← Array.length_toList, pick_list]
  unfold pick
  rw [List.length_map]
theorem pick_inj {L : List Nat} (n : L.Nodup) (l6 : L.length = 6) : ∀ a b : List Nat, (∀ i ∈ a, i < 6) → (∀ i ∈ b, i < 6) → pick L a = pick L b → a = b
  | [], [], _, _, _ => rfl
  | [], _ :: _, _, _, e => by cases e
  | _ :: _, [], _, _, e => by cases e
  | x :: a, y :: b, ha, hb, e => by
    injection e with e1 e2
    rw [(getD_inj n (by rw [l6]; exact ha x (List.mem_cons_self ..)) (by rw [l6]; exact hb y (List.mem_cons_self ..))).mp e1,
      pick_inj n l6 a b (fun i hi => ha i (List.mem_cons_of_mem _ hi)) (fun i hi => hb i (List.mem_cons_of_mem _ hi)) e2]
theorem pick_nodup {L : List Nat} (n : L.Nodup) (l6 : L.length = 6) : ∀ {I : List (List Nat)}, (∀ ix ∈ I, ∀ i ∈ ix, i < 6) → I.Nodup → (I.map (pickS L)).Nodup
  | [], _, _ => .nil
  | a :: I, s, nd => by
    obtain ⟨h1, h2⟩ := List.nodup_cons.mp nd
    refine List.nodup_cons.mpr ⟨fun h => ?_, pick_nodup n l6 (fun ix hi => s ix (List.mem_cons_of_mem _ hi)) h2⟩
    obtain ⟨b, hb, e⟩ := List.mem_map.mp h
    have e : pick L b = pick L a := congrArg (fun s : Str => s.cps.toList) e
    have := pick_inj n l6 b a (s b (List.mem_cons_of_mem _ hb)) (s a (List.mem_cons_self ..)) e
    exact h1 (this ▸ hb)
theorem pick_perm {L ix : List Nat} (l6 : L.length = 6) (p : ix.Perm (List.range 6)) : (pick L ix).Perm L := by
  have e : pick L (List.range 6) = L := by
    unfold pick
    apply List.ext_getElem?
    intro i
    rw [List.getElem?_map]
    by_cases h : i < 6
    · rw [List.getElem?_range h, Option.map_some, List.getElem?_eq_getElem (by omega), List.getD_eq_getElem?_getD, List.getElem?_eq_getElem (by omega)] <;> rfl
    · rw [List.getElem?_eq_none_iff.mpr (by rw [List.length_range]; omega), List.getElem?_eq_none_iff.mpr (by omega)] <;> rfl
  conv => rhs; rw [← e]
  exact p.map _
theorem good_pick {x : Str} (lx : Lett x) (l6 : x.cps.toList.length = 6) {I : List (List Nat)} (pi : ∀ ix ∈ I, ix.Perm (List.range 6)) (nd : I.Nodup) (some_ : 0 < I.length) (few : I.length ≤ 8) {ys : List Str} (pm : ys.Perm (I.map (pickS x.cps.toList))) (so : sortedS ys = true) :
    Good ys x ∧ ys.Pairwise Lo := by
  have sm : ∀ ix ∈ I, ∀ i ∈ ix, i < 6 := fun ix hi i h => List.mem_range.mp ((pi ix hi).mem_iff.mp h)
  have ny : ys.Nodup := pm.nodup_iff.mpr (pick_nodup lx.1 l6 sm nd)
  have up : ys.Pairwise Lo := (List.Pairwise.and (up_sorted so) ny).imp fun ⟨u, v⟩ => lo_of u v
  have ln : ys.length = I.length := by rw [pm.length_eq, List.length_map]
  refine ⟨⟨⟨climbs_of _ up, ny, by omega, fun z hz => ?_⟩, lx, by rw [← Array.length_toList]; omega, by rw [← Array.length_toList]; omega, by omega⟩, up⟩
  obtain ⟨ix, hi, rfl⟩ := List.mem_map.mp (pm.mem_iff.mp hz)
  exact pick_perm l6 (pi ix hi)
section
variable {P : Program} {w : World} {K : PySem.W.Frag} {mg : Str → Option Value} {base : Heap} {C : Addr}
theorem ok_prs {f fSf fA fD fN fR fI fT2 fTo fCk fSt fWu fWa fRu fIc pT fT pO fOr : Addr} {fd fdSf fdA fdD fdN fdR fdI fdT2 fdTo fdCk fdSt fdWu fdWa fdRu fdIc fdT fdOr : FuncData}
    (D : DefAt K mg "_law_pairs_right" sPrs ["_law_jar_here"] f fd) (DS : DefAt K mg "_law_shuffled" sShuf ["_law_jar_here", "_law_things_here"] fSf fdSf) (DA : DefAt K mg "_law_letters" sLett ["_law_jar_here", "_law_many"] fA fdA) (DD : DefAt K mg "_law_dip" sDip ["_law_jar_here", "_law_wide"] fD fdD)
    (FN : Fun K "__init__" "Roll.__init__" sIni fN fdN) (bI : Binds K fdN ["self", "orders"] []) (MK : Mk K C fN) (DR : DefAt K mg "right_ahead" sRah ["orders"] fR fdR) (DI : DefAt K mg "is_order" sIsO ["value"] fI fdI) (DT : DefAt K mg "things_of" sThO ["order"] fT2 fdT2)
    (DTo : DefAt K mg "threes_of" sThs ["things"] fTo fdTo) (DCk : DefAt K mg "check_roll" sChk ["roll"] fCk fdCk) (DSt : DefAt K mg "standing" sSta ["order", "three"] fSt fdSt)
    (DWu : DefAt K mg "wheels_upon" sWup ["three"] fWu fdWu) (DWa : DefAt K mg "wheel_among" sWam ["orders", "three"] fWa fdWa) (DRu : DefAt K mg "rough" sRou ["roll"] fRu fdRu) (DIc : DefAt K mg "is_calm" sIsC ["roll"] fIc fdIc)
    (PT : PropOf K C "things" pT fT) (FT : Fun K "things" "Roll.things" sThi fT fdT) (bT : Binds K fdT ["self"] []) (PO : PropOf K C "orders" pO fOr) (FO : Fun K "orders" "Roll.orders" sOrd fOr fdOr) (bO : Binds K fdOr ["self"] [])
    (T : Txt mg) (Lm : Lims mg) (R : RollC K mg C) : FnOk P w K mg base CX0 5 f fd ["_law_jar_here"] spTh3 := by
  have GI : FnOk P w K mg base CX0 3 fN fdN ["self", "orders"] (spIni K C) := ok_ini FN DR DI DT T Lm R
  have GA : FnOk P w K mg base CX0 2 fA fdA ["_law_jar_here", "_law_many"] spLett := ok_lett DA DD T
  have GS : FnOk P w K mg base CX0 2 fSf fdSf ["_law_jar_here", "_law_things_here"] spShuf := ok_shuf DS DD T
  have GIc : FnOk P w K mg base CX0 4 fIc fdIc ["roll"] (spIsC K C) := ok_isc DIc DRu DCk DTo DSt DWu DWa T R PT FT bT PO FO bO
  refine D.F.ok scPrs (fun vs H Q E h => ?_) (fun cdv A outer sh H vs Q E hr h => ?_)
  · obtain ⟨j, rfl, _⟩ := h
    rfl
  · obtain ⟨j, rfl, hj, q⟩ := h
    have hu := hr.units
    refine ⟨_, (pss_cons (ps_asg (pe_call GS (hr.mono (by decide)) (by rfl) DS.g DS.F.kp DS.b .nil pass0 (pa_cons (pv 0) (pa_cons (pe_call GA (hr.mono (by decide)) (by rfl) DA.g DA.F.kp DA.b .nil pass0 (pa_cons (pv 0) (pa_cons pe_int pa_nil))) pa_nil)))
        (pg_txt rfl (pgs_cons (pg_name (i := 1) scPrs.nd rfl (.inl rfl)) (pgs_cons (pg_name (i := 2) scPrs.nd rfl (.inl rfl)) (pgs_cons (pg_name (i := 3) scPrs.nd rfl (.inl rfl)) (pgs_cons (pg_name (i := 4) scPrs.nd rfl (.inl rfl)) (pgs_cons (pg_name (i := 5) scPrs.nd rfl (.inl rfl)) (pgs_cons (pg_name (i := 6) scPrs.nd rfl (.inl rfl)) pgs_nil))))))))
      (pss_cons (ps_set (i := 7) scPrs.nd rfl (.inl rfl) (pe_lstS (pa_cons pe_str pa_nil)))
      (pss_cons (ps_for PassesOwn.never rfl (pi_list (pe_lstS (pa_cons (pe_op op_add_str (pv 1) (pv 2)) (pa_cons (pe_op op_add_str (pv 3) (pv 4)) (pa_cons (pe_op op_add_str (pv 5) (pv 6)) pa_nil))))) (pg_name (i := 8) scPrs.nd rfl (.inr rfl))
        (pss_one (ps_set (i := 7) scPrs.nd rfl (.inl rfl) (pe_op op_catS
          (pe_lc (own := [("_law_begun", 9)]) (g := gName 9) (tt := tYes) rfl scPrs.nd (pi_list (pv 7)) (blkOk_by (own := [("_law_begun", 9)]) (N := ["_law_jar_here", "_law_a", "_law_b", "_law_c", "_law_d", "_law_e", "_law_f", "_law_found", "_law_pair", "_law_begun"]) (sc := defScope sPrs) (by decide +kernel))
            (fun _ _ _ _ _ => pg_name (i := 9) scPrs.nd rfl (Or.inl rfl)) (fun _ _ _ _ _ => pts_nil) (fun _ _ _ _ _ => pe_op op_add_str (pv 9) (pv 8)))
          (pe_lc (own := [("_law_begun", 9)]) (g := gName 9) (tt := tYes) rfl scPrs.nd (pi_list (pv 7)) (blkOk_by (own := [("_law_begun", 9)]) (N := ["_law_jar_here", "_law_a", "_law_b", "_law_c", "_law_d", "_law_e", "_law_f", "_law_found", "_law_pair", "_law_begun"]) (sc := defScope sPrs) (by decide +kernel))
            (fun _ _ _ _ _ => pg_name (i := 9) scPrs.nd rfl (Or.inl rfl)) (fun _ _ _ _ _ => pts_nil) (fun _ _ _ _ _ => pe_op op_add_str (pv 9) (pe_rev (pv 8) (pe_un un_neg pe_int))))))))
      (pss_one (ps_ret (pe_and (pe_call GIc (hr.mono (by decide)) (by rfl) DIc.g DIc.F.kp DIc.b .nil pass0 (pa_cons (pe_make MK GI (hr.mono (by decide)) (by rfl) R.g bI .nil pass0 (pa_cons (pe_callTy call_tuple_of (by rfl) T.b_tuple (by decide +kernel) (pa_cons (pe_callB cr_sortedS (by rfl) T.b_sorted (by decide +kernel) (pa_cons (pv 7) pa_nil)) pa_nil)) pa_nil)) pa_nil))
        (pe_one (pe_cmpR op_eq (pe_callB call_len_seq (by rfl) T.b_len (by decide +kernel) (pa_cons (pv 7) pa_nil)) pe_int (nomark _))))))))), ?_⟩
    have z : ∀ n : Nat, n ≤ 300 → n ≤ sizeLine := fun n h => by rw [sizeLine_eq]; omega
    refine ⟨_, rfl, _, rfl, j, 6, rfl, hj, by decide, fun y H1 k1 J1 ly sy so => ?_⟩
    refine ⟨j, y, rfl, J1, by omega, fun x H2 k2 J2 px => ?_⟩
    have lx := ly.perm px
    have sx : x.cps.size = 6 := by rw [← Array.length_toList, px.length_eq, Array.length_toList, sy]
    have nx := lx.1
    obtain ⟨⟨cs⟩⟩ := x
    match cs, sx with
    | [l0, l1, l2, l3, l4, l5], _ =>
    have K2 : Kp j H H2 := k1.trans k2
    obtain ⟨L, hL⟩ : ∃ L : List Nat, L = [l0, l1, l2, l3, l4, l5] := ⟨_, rfl⟩
    have nL : L.Nodup := hL ▸ nx
    have L6 : L.length = 6 := by rw [hL] <;> rfl
    refine ⟨_, rfl, rfl, _, _, rfl, _, _, rfl, _, _, rfl, _, _, rfl, _, _, rfl, _, _, rfl, rfl, ?_⟩
    refine ⟨z 1 (by decide), fun lf H3 s3' n3 e3 => ?_⟩
    refine ⟨_, rfl, _, rfl, _, _, rfl, rfl, z 2 (by decide), _, rfl, _, rfl, _, _, rfl, rfl, z 2 (by decide), _, rfl, _, rfl, _, _, rfl, rfl, z 2 (by decide), z 3 (by decide), fun pl H4 s4 n4 e4 => ⟨pl, rfl, ⟨_, SqL.of e4⟩, ?_⟩⟩
    have K4 : Kp j H H4 := K2.trans (.of (s3'.trans s4))
    have J4 := J2.same (s3'.trans s4)
    have e34 := s4 _ _ e3
    have e4 : H4 pl = some (.lst ((prI.map (pickS L)).map V.str)) := by rw [e4, hL] <;> rfl
    refine for_list (K := K) (a := pl) (xs := (prI.map (pickS L)).map V.str) (fun k σ H' => ∃ v8 v9 lf, σ = [some (.ref j), some (.str ⟨#[l0]⟩), some (.str ⟨#[l1]⟩), some (.str ⟨#[l2]⟩), some (.str ⟨#[l3]⟩), some (.str ⟨#[l4]⟩), some (.str ⟨#[l5]⟩), some (.ref lf), v8, v9] ∧ Same H4 H' ∧ H' lf = some (.lst (((fndI k).map (pickS L)).map V.str)))
      ⟨_, _, lf, rfl, fun _ _ z => z, by rw [e34] <;> rfl⟩ (fun k σ H' _ hP => ?_) (fun k x σ H6 hx hP => ?_) (fun σ H6 hP => ?_)
    · obtain ⟨_, _, _, _, sm, _⟩ := hP
      exact sm.seq (SqL.of e4)
    · obtain ⟨v8, v9, lf, rfl, sm, ef⟩ := hP
      rw [List.getElem?_map, List.getElem?_map] at hx
      obtain ⟨hk, rfl⟩ : k < 3 ∧ x = .str (pickS L (prI.getD k [])) := by
        cases q : prI[k]? with
        | none => rw [q] at hx; cases hx
        | some u =>
          rw [q] at hx
          cases hx
          exact ⟨(List.getElem?_eq_some_iff.mp q).1, by rw [List.getD_eq_getElem?_getD, q] <;> rfl⟩
      obtain ⟨few, sml⟩ := fnd_few k (by omega)
      have p2 : (prI.getD k []).length = 2 := (by decide +kernel : ∀ k, k < 3 → (prI.getD k []).length = 2) k hk
      have sz : ∀ u : List Nat, u.length ≤ 6 → (pickS L u).length ≤ 6 := fun u h => by
        show (pickS L u).cps.size ≤ 6
        rw [pick_size]
        exact h
      refine ⟨_, rfl, lf, rfl, ⟨_, SqL.of ef⟩, fun D nD => lc_list (K := K) (a := lf) (xs := ((fndI k).map (pickS L)).map V.str) (fun i H' => Same H6 H' ∧ H' D = some (.lst ((((fndI k).take i).map fun u => pickS L (u ++ prI.getD k [])).map V.str)))
        ⟨same_new nD, upd_same⟩ (fun i H' _ hP => hP.1.seq (SqL.of ef)) (fun i x H7 hx hP => ?_) (fun H7 hP => ?_)⟩
      · obtain ⟨s7, eD⟩ := hP
        rw [List.getElem?_map, List.getElem?_map] at hx
        cases qa : (fndI k)[i]? with
        | none => rw [qa] at hx; cases hx
        | some u =>
          rw [qa] at hx
          cases hx
          have ul := sml u (List.mem_of_getElem? qa)
          refine ⟨rfl, _, rfl, _, rfl, _, _, rfl, rfl, ?_, _, eD, ?_, fun y o h => ?_, ?_⟩
          · have h1 : (pickS L u).length = u.length := pick_size L u
            have h2 : (pickS L (prI.getD k [])).length = (prI.getD k []).length := pick_size L _
            rw [h1, h2]
            exact z _ (by omega)
          · rw [List.length_map, List.length_map, List.length_take, sizeLine_eq]
            omega
          · rw [upd_ne (ne_of_none h nD)]
            exact s7 _ _ h
          · rw [upd_same, List.take_succ, qa, Option.toList_some, List.map_append, List.map_append, pick_app] <;> rfl
      obtain ⟨s7, eD⟩ := hP
      rw [List.length_map, List.length_map, List.take_length] at eD
      have ef7 := s7 _ _ ef
      refine ⟨_, rfl, lf, rfl, ⟨_, SqL.of ef7⟩, fun D2 nD2 => lc_list (K := K) (a := lf) (xs := ((fndI k).map (pickS L)).map V.str) (fun i H' => Same H7 H' ∧ H' D2 = some (.lst ((((fndI k).take i).map fun u => pickS L (u ++ (prI.getD k []).reverse)).map V.str)))
        ⟨same_new nD2, upd_same⟩ (fun i H' _ hP => hP.1.seq (SqL.of ef7)) (fun i x H8 hx hP => ?_) (fun H8 hP => ?_)⟩
      · obtain ⟨s8, eD2⟩ := hP
        rw [List.getElem?_map, List.getElem?_map] at hx
        cases qa : (fndI k)[i]? with
        | none => rw [qa] at hx; cases hx
        | some u =>
          rw [qa] at hx
          cases hx
          have ul := sml u (List.mem_of_getElem? qa)
          refine ⟨rfl, _, rfl, _, rfl, _, rfl, rfl, _, rfl, Nat.le_trans (sz _ (by omega)) (z 6 (by decide)), _, _, rfl, rfl, ?_, _, eD2, ?_, fun y o h => ?_, ?_⟩
          · rw [pick_rev]
            have h1 : (pickS L u).length = u.length := pick_size L u
            have h2 : (pickS L (prI.getD k []).reverse).length = (prI.getD k []).reverse.length := pick_size L _
            rw [h1, h2, List.length_reverse]
            exact z _ (by omega)
          · rw [List.length_map, List.length_map, List.length_take, sizeLine_eq]
            omega
          · rw [upd_ne (ne_of_none h nD2)]
            exact s8 _ _ h
          · rw [upd_same, List.take_succ, qa, Option.toList_some, List.map_append, List.map_append, pick_rev, pick_app] <;> rfl
      obtain ⟨s8, eD2⟩ := hP
      rw [List.length_map, List.length_map, List.take_length] at eD2
      refine ⟨D, D2, _, _, rfl, rfl, s8 _ _ eD, eD2, ?_, fun p9 H9 s9 n9 e9 => ⟨_, _, p9, rfl, sm.trans (s7.trans (s8.trans s9)), ?_⟩⟩
      · simp only [List.length_map]
        exact z _ (by omega)
      · rw [e9]
        show _ = some (HO.lst ((((fndI k).map (· ++ prI.getD k []) ++ (fndI k).map (· ++ (prI.getD k []).reverse)).map (pickS L)).map V.str))
        simp only [List.map_append, List.map_map, Function.comp_def]
    · obtain ⟨v8, v9, lf, rfl, sm, ef⟩ := hP
      have ef : H6 lf = some (.lst ((pairsI.map (pickS L)).map V.str)) := by rw [ef] <;> rfl
      refine ⟨_, rfl, lf, pairsI.map (pickS L), rfl, SqL.of ef, ?_, fun ys p2 pm so2 np2 => ⟨p2, _, rfl, .inl ⟨SqL.of upd_same, fun tp ntp => ?_⟩⟩⟩
      · rw [List.length_map]
        decide
      have s7 : Same H6 (upd H6 p2 (.lst (ys.map V.str))) := same_new np2
      generalize upd H6 p2 (.lst (ys.map V.str)) = H7 at s7 ntp
      have s8 : Same H7 (upd H7 tp (.tup (ys.map V.str))) := same_new ntp
      have e8 : (upd H7 tp (.tup (ys.map V.str))) tp = some (.tup (ys.map V.str)) := upd_same
      generalize upd H7 tp (.tup (ys.map V.str)) = H8 at s8 e8
      have G : Good ys (⟨#[l0, l1, l2, l3, l4, l5]⟩ : Str) := (good_pick (I := pairsI) (x := ⟨#[l0, l1, l2, l3, l4, l5]⟩) lx rfl (by decide +kernel) (by decide +kernel) (by decide) (by decide) (by rw [hL] at pm; exact pm) so2).1
      have ly8 : ys.length = 8 := by rw [pm.length_eq, List.length_map] <;> rfl
      have t6 : (tidy (⟨#[l0, l1, l2, l3, l4, l5]⟩ : Str)).cps.size = 6 := by rw [tidy_size] <;> rfl
      have calm : roughR ys (tidy (⟨#[l0, l1, l2, l3, l4, l5]⟩ : Str)).cps.toList = none := pairs_calm nL L6 (fun z hz => by
        obtain ⟨ix, hi, rfl⟩ := List.mem_map.mp (pm.mem_iff.mp hz)
        exact ⟨ix, hi, rfl⟩) fun c hc => by rw [hL]; exact (tidy_perm _).mem_iff.mp hc
      refine fun x1 dx1 nx1 nd1 ne1 => ?_
      have m1 : Same H8 (upd (upd H8 dx1 (.own x1)) x1 (.ins C dx1 [])) := fun b o e => by rw [upd_ne (ne_of_none e nx1), upd_ne (ne_of_none e nd1)]; exact e
      refine ⟨x1, tp, dx1, ys, _, rfl, upd_same, SqT.of (m1 _ _ e8), .base (.tup (m1 _ _ e8)), G, fun H11 k11 r1 => ⟨rfl, ?_⟩⟩
      have s11 : Same H8 H11 := fun b o e => k11 b o (ne_of_none e nx1) (m1 _ _ e)
      refine ⟨x1, tp, _, ys, rfl, ⟨r1, SqT.of (s11 _ _ e8), by omega, fun z hz => ?_, by omega⟩, fun H12 s12 => ?_⟩
      · obtain ⟨ix, hi, rfl⟩ := List.mem_map.mp (pm.mem_iff.mp hz)
        rw [pick_size]
        exact (by decide +kernel : ∀ ix ∈ pairsI, ix.length ≤ 6) ix hi
      have ef12 := s12 _ _ (s11 _ _ (s8 _ _ (s7 _ _ ef)))
      have S : Same H4 H12 := sm.trans (s7.trans (s8.trans (s11.trans s12)))
      rw [decide_eq_true calm]
      refine ⟨true, rfl, iteT ?_⟩
      refine ⟨_, rfl, lf, _, rfl, .inl (SqL.of ef12), rfl, ?_⟩
      rw [List.length_map, List.length_map]
      exact q _ (K4.trans (.of S)) (J4.same S)
end
end L2.Cal
end

section
set_option maxRecDepth 100000
set_option maxHeartbeats 4000000
set_option synthInstance.maxHeartbeats 400000
namespace L2.Cal
open PySem PySem.Spec PyProof.Rows L2
abbrev sRgt : Stmt := topS 32
theorem scRgt : FnScope ["_law_jar_here", "_law_things_here", "_law_mixed_up", "_law_trio", "_law_rest", "_law_words", "_law_lot", "_law_told", "_law_k"] ["_law_jar_here"] (defScope sRgt) := ⟨rfl, rfl, rfl, by decide +kernel, rfl, by decide +kernel, by decide +kernel⟩
abbrev spRgt : Sp := spTh3
theorem cut_to {x : Str} {n : Nat} (h : n ≤ x.cps.size) : (cutS x none (some (n : Int))).cps.toList = x.cps.toList.take n := by
  unfold cutS
  rw [HT.sIx_none, show HT.sIx x.length x.length (some (n : Int)) = min n x.length from HT.sIx_nat _ _ n]
  have : min n x.length = n := Nat.min_eq_left h
  rw [this]
  simp
theorem cut_from {x : Str} {n : Nat} (h : n ≤ x.cps.size) : (cutS x (some (n : Int)) none).cps.toList = x.cps.toList.drop n := by
  have sz : x.cps.toList.length = x.length := Array.length_toList
  unfold cutS
  rw [HT.sIx_none, show HT.sIx x.length 0 (some (n : Int)) = min n x.length from HT.sIx_nat _ _ n]
  have : min n x.length = n := Nat.min_eq_left h
  rw [this]
  dsimp only
  rw [List.take_of_length_le]
  rw [List.length_drop, sz]
  exact Nat.le_refl _
def roughD (x : Str) (zs : List Str) : PyData := .tuple [.str x, .tuple (zs.map PyData.str)]
theorem shaped_rough {x : Str} {zs : List Str} (hx : PyData.strOk x = true) (ok : ∀ z, z ∈ zs → PyData.strOk z = true) : SeqAt.shaped (roughD x zs) = true := by
  have lay : ∀ ys : List Str, (∀ y, y ∈ ys → PyData.strOk y = true) → PyData.canLayAll0 (ys.map PyData.str) = true := fun ys => by
    induction ys with
    | nil => intro _; simp [PyData.canLayAll0]
    | cons y ys ih =>
      intro ok
      have h1 := ok y (List.mem_cons_self ..)
      simp [PyData.canLayAll0, PyData.canLay0, h1, ih fun z hz => ok z (List.mem_cons_of_mem _ hz)]
  have deep : ∀ ys : List Str, PyData.depthAll (ys.map PyData.str) = 0 := fun ys => by
    induction ys with
    | nil => simp [PyData.depthAll]
    | cons y ys ih => simp [PyData.depthAll, PyData.depth, ih]
  simp [roughD, SeqAt.shaped, PyData.canLay0, PyData.canLayAll0, hx, lay zs ok, PyData.depth, PyData.depthAll, deep]
theorem eqv_rough (x : Str) (zs : List Str) : PyData.eqv (roughD x zs) (roughD x zs) = true := by
  have h := eqv_strs zs zs
  rw [decide_eq_true rfl] at h
  simp [roughD, PyData.eqv, PyData.eqvAll] at h ⊢
  exact h
theorem Good.strOk {y : Str} {ys : List Str} (G : Good ys y) : ∀ z, z ∈ ys → PyData.strOk z = true := fun z hz => by
  unfold PyData.strOk
  rw [← Array.all_toList, List.all_eq_true]
  intro c hc
  have := (G.let_.perm (G.lot.of z hz)).2 c hc
  exact decide_eq_true (by omega)
theorem Good.sizes {y : Str} {ys : List Str} (G : Good ys y) : ∀ z, z ∈ ys → z.cps.size = y.cps.size := fun z hz => by
  rw [← Array.length_toList, (G.lot.of z hz).length_eq, Array.length_toList]
section
variable {P : Program} {w : World} {K : PySem.W.Frag} {mg : Str → Option Value} {base : Heap} {C : Addr}
theorem ok_rgt {f fT3 fPr fAl fSf fA fD fN fR fI fT2 fTo fCk fSt fWu fWa fRu fIc pT fT pO fOr : Addr} {fd fdT3 fdPr fdAl fdSf fdA fdD fdN fdR fdI fdT2 fdTo fdCk fdSt fdWu fdWa fdRu fdIc fdT fdOr : FuncData}
    (D : DefAt K mg "_law_right" sRgt ["_law_jar_here"] f fd) (DT3 : DefAt K mg "_law_threes_right" sTh3 ["_law_jar_here"] fT3 fdT3) (DPr : DefAt K mg "_law_pairs_right" sPrs ["_law_jar_here"] fPr fdPr) (DAl : DefAt K mg "_law_all_of" sAll ["_law_things_here"] fAl fdAl) (DS : DefAt K mg "_law_shuffled" sShuf ["_law_jar_here", "_law_things_here"] fSf fdSf) (DA : DefAt K mg "_law_letters" sLett ["_law_jar_here", "_law_many"] fA fdA) (DD : DefAt K mg "_law_dip" sDip ["_law_jar_here", "_law_wide"] fD fdD)
    (FN : Fun K "__init__" "Roll.__init__" sIni fN fdN) (bI : Binds K fdN ["self", "orders"] []) (MK : Mk K C fN) (DR : DefAt K mg "right_ahead" sRah ["orders"] fR fdR) (DI : DefAt K mg "is_order" sIsO ["value"] fI fdI) (DT : DefAt K mg "things_of" sThO ["order"] fT2 fdT2)
    (DTo : DefAt K mg "threes_of" sThs ["things"] fTo fdTo) (DCk : DefAt K mg "check_roll" sChk ["roll"] fCk fdCk) (DSt : DefAt K mg "standing" sSta ["order", "three"] fSt fdSt)
    (DWu : DefAt K mg "wheels_upon" sWup ["three"] fWu fdWu) (DWa : DefAt K mg "wheel_among" sWam ["orders", "three"] fWa fdWa) (DRu : DefAt K mg "rough" sRou ["roll"] fRu fdRu) (DIc : DefAt K mg "is_calm" sIsC ["roll"] fIc fdIc)
    (PT : PropOf K C "things" pT fT) (FT : Fun K "things" "Roll.things" sThi fT fdT) (bT : Binds K fdT ["self"] []) (PO : PropOf K C "orders" pO fOr) (FO : Fun K "orders" "Roll.orders" sOrd fOr fdOr) (bO : Binds K fdOr ["self"] [])
    (T : Txt mg) (Lm : Lims mg) (R : RollC K mg C) : FnOkG P w K mg base CX0 6 f fd ["_law_jar_here"] spRgt := by
  have GI : FnOk P w K mg base CX0 3 fN fdN ["self", "orders"] (spIni K C) := ok_ini FN DR DI DT T Lm R
  have GA : FnOk P w K mg base CX0 2 fA fdA ["_law_jar_here", "_law_many"] spLett := ok_lett DA DD T
  have GS : FnOk P w K mg base CX0 2 fSf fdSf ["_law_jar_here", "_law_things_here"] spShuf := ok_shuf DS DD T
  have GRu : FnOk P w K mg base CX0 3 fRu fdRu ["roll"] (spRou K C) := ok_rou DRu DCk DTo DSt DWu DWa T R PT FT bT PO FO bO
  have GT3 : FnOkG P w K mg base CX0 5 fT3 fdT3 ["_law_jar_here"] spTh3 := ok_th3 DT3 DAl DA DD FN bI MK DR DI DT DTo DCk DSt DWu DWa DRu DIc PT FT bT PO FO bO T Lm R
  have GPr : FnOk P w K mg base CX0 5 fPr fdPr ["_law_jar_here"] spTh3 := ok_prs DPr DS DA DD FN bI MK DR DI DT DTo DCk DSt DWu DWa DRu DIc PT FT bT PO FO bO T Lm R
  refine Fun.okG D.F scRgt (fun vs H Q E h => ?_) (fun cdv A outer sh H vs Q E hA hr h => ?_)
  · obtain ⟨j, rfl, _⟩ := h
    rfl
  · obtain ⟨j, rfl, hj, q⟩ := h
    have hu := hr.units
    refine ⟨_, (pss_cons (ps_if (PW.pt (pw_or (pt_not (pt_val (pe_callG GT3 hA (hr.mono (by decide)) (by rfl) DT3.g DT3.F.kp DT3.b .nil pass0 (pa_cons (pv 0) pa_nil)))) (pw_or1 (pt_not (pt_val (pe_call GPr (hr.mono (by decide)) (by rfl) DPr.g DPr.F.kp DPr.b .nil pass0 (pa_cons (pv 0) pa_nil))))))) (pss_one (ps_ret pe_bl)) pss_nil)
      (pss_cons (ps_set (i := 1) scRgt.nd rfl (.inl rfl) (pe_call GA (hr.mono (by decide)) (by rfl) DA.g DA.F.kp DA.b .nil pass0 (pa_cons (pv 0) (pa_cons pe_int pa_nil))))
      (pss_cons (ps_set (i := 2) scRgt.nd rfl (.inl rfl) (pe_call GS (hr.mono (by decide)) (by rfl) DS.g DS.F.kp DS.b .nil pass0 (pa_cons (pv 0) (pa_cons (pv 1) pa_nil))))
      (pss_cons (ps_asg (pe_tupS (pa_cons (pe_slice sl_str (pv 2) po_none (po_some pe_int)) (pa_cons (pe_slice sl_str (pv 2) (po_some pe_int) po_none) pa_nil))) (pg_tup rfl (pgs_cons (pg_name (i := 3) scRgt.nd rfl (.inl rfl)) (pgs_cons (pg_name (i := 4) scRgt.nd rfl (.inr rfl)) pgs_nil))))
      (pss_cons (ps_set (i := 5) scRgt.nd rfl (.inr rfl) (pe_lstS (pa_cons (pv 3) (pa_cons (pe_op op_add_str (pe_slice sl_str (pv 3) (po_some pe_int) po_none) (pe_slice sl_str (pv 3) po_none (po_some pe_int))) (pa_cons (pe_op op_add_str (pe_slice sl_str (pv 3) (po_some pe_int) po_none) (pe_slice sl_str (pv 3) po_none (po_some pe_int))) pa_nil)))))
      (pss_cons (ps_set (i := 6) scRgt.nd rfl (.inl rfl) (pe_callTy call_tuple_of (by rfl) T.b_tuple (by decide +kernel) (pa_cons (pe_callB cr_sortedS (by rfl) T.b_sorted (by decide +kernel) (pa_cons (pe_lc (own := [("_law_k", 8)]) (g := gName 8) (tt := tYes) rfl scRgt.nd (pi_range1 (by rfl) T.b_range (pa_cons pe_int pa_nil)) (blkOk_by (own := [("_law_k", 8)]) (N := ["_law_jar_here", "_law_things_here", "_law_mixed_up", "_law_trio", "_law_rest", "_law_words", "_law_lot", "_law_told", "_law_k"]) (sc := defScope sRgt) (by decide +kernel))
          (fun _ _ _ _ _ => pg_name (i := 8) scRgt.nd rfl (Or.inl rfl)) (fun _ _ _ _ _ => pts_nil) (fun _ _ _ _ _ => pe_op op_add_str (pe_op op_add_str (pe_slice sl_str (pv 4) po_none (po_some (pv 8))) (pe_ix (show IxR _ (rIxL K) from ix_list) (pv 5) (pv 8) (fun _ _ => rfl))) (pe_slice sl_str (pv 4) (po_some (pv 8)) po_none))) pa_nil)) pa_nil)))
      (pss_cons (ps_set (i := 7) scRgt.nd rfl (.inl rfl) (pe_call GRu (hr.mono (by decide)) (by rfl) DRu.g DRu.F.kp DRu.b .nil pass0 (pa_cons (pe_make MK GI (hr.mono (by decide)) (by rfl) R.g bI .nil pass0 (pa_cons (pv 6) pa_nil)) pa_nil)))
      (pss_one (ps_ret (pe_cmpR (op_eqD hu) (pv 7) (pe_tupS (pa_cons (pe_join pe_str (pe_callB (cr_sortText rfl) (by rfl) T.b_sorted (by decide +kernel) (pa_cons (pv 3) pa_nil))) (pa_cons (pv 6) pa_nil))) (nomark _))))))))))), ?_⟩
    have z : ∀ n : Nat, n ≤ 300 → n ≤ sizeLine := fun n h => by rw [sizeLine_eq]; omega
    refine ⟨_, rfl, j, rfl, hj, fun Ha ka Ja => ⟨true, rfl, iteF ?_⟩⟩
    refine ⟨_, rfl, j, rfl, Ja, fun Hb kb Jb => ⟨true, rfl, iteF ?_⟩⟩
    dsimp only [tNext]
    refine ⟨_, rfl, j, 6, rfl, Jb, by decide, fun y H1 k1 J1 ly sy so => ?_⟩
    refine ⟨_, rfl, _, rfl, j, y, rfl, J1, by omega, fun x H2 k2 J2 px => ?_⟩
    have lx := ly.perm px
    have sx : x.cps.size = 6 := by rw [← Array.length_toList, px.length_eq, Array.length_toList, sy]
    have nx := lx.1
    obtain ⟨⟨cs⟩⟩ := x
    match cs, sx with
    | [l0, l1, l2, l3, l4, l5], _ =>
    obtain ⟨L, hL⟩ : ∃ L : List Nat, L = [l0, l1, l2, l3, l4, l5] := ⟨_, rfl⟩
    have nL : L.Nodup := hL ▸ nx
    have L6 : L.length = 6 := by rw [hL] <;> rfl
    have K2 : Kp j H H2 := ka.trans (kb.trans (k1.trans k2))
    have c1 : cutS (⟨#[l0, l1, l2, l3, l4, l5]⟩ : Str) none (some 3) = s3 l0 l1 l2 := str_ext (cut_to (n := 3) (by show 3 ≤ 6; decide))
    have c2 : cutS (⟨#[l0, l1, l2, l3, l4, l5]⟩ : Str) (some 3) none = s3 l3 l4 l5 := str_ext (cut_from (n := 3) (by show 3 ≤ 6; decide))
    have c3 : ∀ a b c : Nat, cutS (s3 a b c) (some 1) none = ⟨#[b, c]⟩ := fun a b c => str_ext (cut_from (n := 1) (by show 1 ≤ 3; decide))
    have c4 : ∀ a b c : Nat, cutS (s3 a b c) none (some 1) = ⟨#[a]⟩ := fun a b c => str_ext (cut_to (n := 1) (by show 1 ≤ 3; decide))
    have c5 : ∀ a b c : Nat, cutS (s3 a b c) (some 2) none = ⟨#[c]⟩ := fun a b c => str_ext (cut_from (n := 2) (by show 2 ≤ 3; decide))
    have c6 : ∀ a b c : Nat, cutS (s3 a b c) none (some 2) = ⟨#[a, b]⟩ := fun a b c => str_ext (cut_to (n := 2) (by show 2 ≤ 3; decide))
    have c7 : ∀ a b c : Nat, cutS (s3 a b c) (some 0) none = s3 a b c := fun a b c => str_ext (cut_from (n := 0) (by show 0 ≤ 3; decide))
    have c8 : ∀ a b c : Nat, cutS (s3 a b c) none (some 0) = ⟨#[]⟩ := fun a b c => str_ext (cut_to (n := 0) (by show 0 ≤ 3; decide))
    have l33 : ∀ a b c : Nat, (s3 a b c).length ≤ sizeLine := fun a b c => z 3 (by decide)
    refine ⟨_, rfl, 3, rfl, _, rfl, z 6 (by decide), ?_⟩
    rw [c1]
    refine ⟨_, rfl, 3, rfl, _, rfl, z 6 (by decide), ?_⟩
    rw [c2]
    refine ⟨z 2 (by decide), fun p3 H3 s3' n3 e3 => ⟨p3, _, rfl, SqT.of e3, rfl, _, _, rfl, _, _, rfl, rfl, ?_⟩⟩
    refine ⟨_, rfl, _, rfl, 1, rfl, _, rfl, l33 _ _ _, ?_⟩
    rw [c3]
    refine ⟨_, rfl, 1, rfl, _, rfl, l33 _ _ _, ?_⟩
    rw [c4]
    refine ⟨_, _, rfl, rfl, z 3 (by decide), ?_⟩
    refine ⟨_, rfl, 2, rfl, _, rfl, l33 _ _ _, ?_⟩
    rw [c5]
    refine ⟨_, rfl, 2, rfl, _, rfl, l33 _ _ _, ?_⟩
    rw [c6]
    refine ⟨_, _, rfl, rfl, z 3 (by decide), z 3 (by decide), fun pw H4 s4 n4 e4 => ?_⟩
    have e4 : H4 pw = some (.lst ([s3 l0 l1 l2, s3 l1 l2 l0, s3 l2 l0 l1].map V.str)) := e4
    refine ⟨3, rfl, by decide, by decide, fun D nD => lc_range (n := 3) (fun k H' => Same H4 H' ∧ H' D = some (.lst (((hidI.take k).map (pickS L)).map V.str))) ⟨same_new nD, upd_same⟩ (fun k H' hk hP => ?_) (fun H5 hP => ?_)⟩
    · obtain ⟨s5, eD⟩ := hP
      match k, hk with
      | 0, _ =>
        have e0 : (0 : Int) + ((0 : Nat) : Int) = 0 := rfl
        refine ⟨rfl, _, rfl, _, rfl, _, rfl, _, rfl, l33 _ _ _, ?_⟩
        first | rw [e0, c8] | rw [c8]
        refine ⟨_, rfl, _, rfl, pw, _, _, _, rfl, rfl, SqL.of (s5 _ _ e4), atI_nat (j := 0) rfl, _, _, rfl, rfl, z _ (by show 0 + 3 ≤ 300; decide), _, rfl, _, rfl, _, rfl, _, rfl, l33 _ _ _, ?_⟩
        first | rw [e0, c7] | rw [c7]
        refine ⟨_, _, rfl, rfl, z _ (by show 3 + 3 ≤ 300; decide), _, eD, ?_, fun b o h => ?_, ?_⟩
        · rw [List.length_map, List.length_map, List.length_take, sizeLine_eq]
          omega
        · rw [upd_ne (ne_of_none h nD)]
          exact s5 _ _ h
        · rw [upd_same, hL] <;> rfl
      | 1, _ =>
        have e0 : (0 : Int) + ((1 : Nat) : Int) = 1 := rfl
        refine ⟨rfl, _, rfl, _, rfl, _, rfl, _, rfl, l33 _ _ _, ?_⟩
        first | rw [e0, c4] | rw [c4]
        refine ⟨_, rfl, _, rfl, pw, _, _, _, rfl, rfl, SqL.of (s5 _ _ e4), atI_nat (j := 1) rfl, _, _, rfl, rfl, z _ (by show 1 + 3 ≤ 300; decide), _, rfl, _, rfl, _, rfl, _, rfl, l33 _ _ _, ?_⟩
        first | rw [e0, c3] | rw [c3]
        refine ⟨_, _, rfl, rfl, z _ (by show 4 + 2 ≤ 300; decide), _, eD, ?_, fun b o h => ?_, ?_⟩
        · rw [List.length_map, List.length_map, List.length_take, sizeLine_eq]
          omega
        · rw [upd_ne (ne_of_none h nD)]
          exact s5 _ _ h
        · rw [upd_same, hL] <;> rfl
      | 2, _ =>
        have e0 : (0 : Int) + ((2 : Nat) : Int) = 2 := rfl
        refine ⟨rfl, _, rfl, _, rfl, _, rfl, _, rfl, l33 _ _ _, ?_⟩
        first | rw [e0, c6] | rw [c6]
        refine ⟨_, rfl, _, rfl, pw, _, _, _, rfl, rfl, SqL.of (s5 _ _ e4), atI_nat (j := 2) rfl, _, _, rfl, rfl, z _ (by show 2 + 3 ≤ 300; decide), _, rfl, _, rfl, _, rfl, _, rfl, l33 _ _ _, ?_⟩
        first | rw [e0, c5] | rw [c5]
        refine ⟨_, _, rfl, rfl, z _ (by show 5 + 1 ≤ 300; decide), _, eD, ?_, fun b o h => ?_, ?_⟩
        · rw [List.length_map, List.length_map, List.length_take, sizeLine_eq]
          omega
        · rw [upd_ne (ne_of_none h nD)]
          exact s5 _ _ h
        · rw [upd_same, hL] <;> rfl
    · obtain ⟨s5, eD⟩ := hP
      refine ⟨D, hidI.map (pickS L), rfl, SqL.of eD, ?_, fun ys p2 pm so2 np2 => ⟨p2, _, rfl, .inl ⟨SqL.of upd_same, fun tp ntp => ?_⟩⟩⟩
      · rw [List.length_map]
        decide
      have s7 : Same H5 (upd H5 p2 (.lst (ys.map V.str))) := same_new np2
      generalize upd H5 p2 (.lst (ys.map V.str)) = H7 at s7 ntp
      have s8 : Same H7 (upd H7 tp (.tup (ys.map V.str))) := same_new ntp
      have e8 : (upd H7 tp (.tup (ys.map V.str))) tp = some (.tup (ys.map V.str)) := upd_same
      generalize upd H7 tp (.tup (ys.map V.str)) = H8 at s8 e8
      obtain ⟨G, up⟩ := good_pick (I := hidI) (x := ⟨#[l0, l1, l2, l3, l4, l5]⟩) lx rfl (by decide +kernel) (by decide +kernel) (by decide) (by decide) (by rw [hL] at pm; exact pm) so2
      have ly3 : ys.length = 3 := by rw [pm.length_eq, List.length_map] <;> rfl
      have t6 : (tidy (⟨#[l0, l1, l2, l3, l4, l5]⟩ : Str)).cps.size = 6 := by rw [tidy_size] <;> rfl
      have lett3 : Lett (s3 l0 l1 l2) := ⟨List.Nodup.sublist (List.take_sublist 3 [l0, l1, l2, l3, l4, l5]) nx, fun c hc => lx.2 c (List.mem_of_mem_take (i := 3) (l := [l0, l1, l2, l3, l4, l5]) hc)⟩
      obtain ⟨a, b, c, et, ab, bc⟩ : ∃ a b c, tidy (s3 l0 l1 l2) = s3 a b c ∧ a < b ∧ b < c := by
        have u := tidy_lt lett3
        have n := tidy_size (s3 l0 l1 l2)
        generalize tidy (s3 l0 l1 l2) = v at u n
        obtain ⟨⟨vs⟩⟩ := v
        match vs, n with
        | [a, b, c], _ =>
          have u : [a, b, c].Pairwise (· < ·) := u
          simp only [List.pairwise_cons, List.mem_cons, List.not_mem_nil, or_false, forall_eq_or_imp, forall_eq] at u
          exact ⟨a, b, c, rfl, u.1.1, u.2.1⟩
      have pt : [l0, l1, l2].Perm [a, b, c] := by
        have := tidy_perm (s3 l0 l1 l2)
        rw [et] at this
        exact this.symm
      have inL : ∀ u, u ∈ [a, b, c] → u ∈ (tidy (⟨#[l0, l1, l2, l3, l4, l5]⟩ : Str)).cps.toList := fun u hu =>
        (tidy_perm _).mem_iff.mpr (List.mem_of_mem_take (i := 3) (l := [l0, l1, l2, l3, l4, l5]) (pt.mem_iff.mpr hu))
      have rgh : roughR ys (tidy (⟨#[l0, l1, l2, l3, l4, l5]⟩ : Str)).cps.toList = some (s3 a b c, ys) :=
        hid_rough nL L6 pm up (fun c hc => by rw [hL]; exact (tidy_perm _).mem_iff.mp hc) (mem_tri.mpr ⟨a, b, c, inL a (by simp), inL b (by simp), inL c (by simp), ab, bc, rfl⟩) (by rw [hL]; exact pt)
      have S48 : Same H4 H8 := s5.trans (s7.trans s8)
      refine ⟨_, rfl, fun x1 dx1 nx1 nd1 ne1 => ?_⟩
      have m1 : Same H8 (upd (upd H8 dx1 (.own x1)) x1 (.ins C dx1 [])) := fun b o e => by rw [upd_ne (ne_of_none e nx1), upd_ne (ne_of_none e nd1)]; exact e
      refine ⟨x1, tp, dx1, ys, _, rfl, upd_same, SqT.of (m1 _ _ e8), .base (.tup (m1 _ _ e8)), G, fun H11 k11 r1 => ⟨rfl, ?_⟩⟩
      have s11 : Same H8 H11 := fun b o e => k11 b o (ne_of_none e nx1) (m1 _ _ e)
      refine ⟨x1, tp, _, ys, rfl, ⟨r1, SqT.of (s11 _ _ e8), by omega, fun z hz => ?_, by omega⟩, fun e => (by rw [rgh] at e; cases e), fun x zs e p q' H12 s12 e12 eq12 => ?_⟩
      · obtain ⟨ix, hi, rfl⟩ := List.mem_map.mp (pm.mem_iff.mp hz)
        rw [pick_size]
        exact (by decide +kernel : ∀ ix ∈ hidI, ix.length ≤ 6) ix hi
      rw [rgh] at e
      cases e
      refine ⟨_, rfl, ⟨_, rfl⟩, _, rfl, s3 l0 l1 l2, rfl, by show 3 < 64; decide, fun ws p9 pm9 so9 np9 => ?_⟩
      obtain ⟨z9, rfl, hz9⟩ := ys_signs pm9
      refine ⟨_, p9, _, rfl, rfl, .inl (SqL.of upd_same), ?_, ?_⟩
      · rw [sign_sum, signs_length, show (PySem.Str.ofString "").length = 0 by decide +kernel]
        have : z9.cps.size = 3 := by rw [← Array.length_toList, hz9.length_eq] <;> rfl
        omega
      have ez : z9 = s3 a b c := (tidy_of pm9 so9).trans et
      subst ez
      rw [join_signs]
      have s13 : Same H12 (upd H12 p9 (.lst ((signs (s3 a b c)).map V.str))) := same_new np9
      generalize upd H12 p9 (.lst ((signs (s3 a b c)).map V.str)) = H13 at s13
      refine ⟨_, rfl, z 2 (by decide), fun p14 H14 s14 n14 e14 => ?_⟩
      have S : Same H2 H14 := s3'.trans (s4.trans (S48.trans (s11.trans (s12.trans (s13.trans s14)))))
      have zok : ∀ z, z ∈ ys → PyData.strOk z = true := fun z hz => G.strOk z hz
      have xok : PyData.strOk (s3 a b c) = true := by
        unfold PyData.strOk
        rw [← Array.all_toList, List.all_eq_true]
        intro u hu
        have hu : u ∈ [a, b, c] := hu
        have := lett3.2 u (pt.mem_iff.mpr hu)
        exact decide_eq_true (by omega)
      have shr := shaped_rough xok zok
      refine ⟨roughD (s3 a b c) ys, roughD (s3 a b c) ys, .tup (SqT.of (s14 _ _ (s13 _ _ e12))) (.cons (.str _) (.cons (.tup (SqT.of (s14 _ _ (s13 _ _ eq12))) (dp_strs ys)) .nil)), .tup (SqT.of e14) (.cons (.str _) (.cons (.tup (SqT.of (s14 _ _ (s13 _ _ (s12 _ _ (s11 _ _ e8))))) (dp_strs ys)) .nil)), shr, shr, ?_⟩
      rw [eqv_rough]
      exact q _ (K2.trans (.of S)) (J2.same S)
end
end L2.Cal
end

section
set_option maxRecDepth 100000
set_option maxHeartbeats 4000000
/-! the law's call, from a promise that asks that nothing is being shown -/
namespace L2.Cal
open PySem PySem.Spec PyProof.Rows L2
/-- the script's object, as it is tracked: unless the module itself holds it -/
def scriptH (K : PySem.W.Frag) (a : Addr) (ob : Obj) (ns : List Int) : Hp := fun b => if b = a ∧ (K.lookup a).isNone = true then some (.frz ob (.lst (ns.map V.int))) else none
theorem scriptH_some {K : PySem.W.Frag} {a b : Addr} {ob : Obj} {ns : List Int} {u : HO} (e : scriptH K a ob ns b = some u) : b = a ∧ K.lookup a = none ∧ u = .frz ob (.lst (ns.map V.int)) := by
  unfold scriptH at e
  split at e
  · rename_i h
    exact ⟨h.1, Option.isNone_iff_eq_none.mp h.2, (Option.some.inj e).symm⟩
  · cases e
theorem law_callG {P : Program} {w : World} {K : PySem.W.Frag} {mg mb : Str → Option Value} {CX : CXT} {k : Nat} {fa a : Addr} {fd : FuncData} {x : Str} {sp : Sp} {s : Shared} {vs : List Value} {ns : List Int}
    (KX : K.In s.heap) (hmg : s.heap.Ns mainGlobals mg) (hmb : s.heap.Ns builtinsNs mb) (hbb : ∀ x : Str, x ≠ "__name__" → mb x = bootBuiltins x) (hlim : s.heap.NoLimit) (hg : s.gens = #[])
    (ha : s.heap.get? a = some { cls := .type "list", data := .seq vs.toArray }) (hi : IntsAre vs ns) (hl : ns.length ≤ sizeLine) (hr : Room k callerA)
    (F : ∀ base : Heap, K.In base → base.Ns mainGlobals mg → FnOkG P w K mg base CX k fa fd [x] sp) (hbind : ∀ (s : Shared) (u : Value), BindsTo s fd ⟨[u], []⟩ [(x, u)])
    (hsp : ∀ H : Hp, SqL K H a (ns.map V.int) → sp [.ref a] H (fun v _ => v = .bl true) fun _ _ _ => False)
    (hCX : ∀ H e s', CX [] H s (fun _ _ _ => False) e s' → False) :
    codeAny (model P w) callerA (.call (.ref fa) ⟨[.ref a], []⟩) (fun r s' => r = .ok (.ret (.bool true)) ∧ OldK s.heap s'.heap ∧ s'.os = s.os ∧ AllBare s'.gens) s := by
  have rv := vals_ints hi
  let ob : Obj := { cls := .type "list", data := .seq vs.toArray }
  let H := scriptH K a ob ns
  have stay : ∀ {b : Addr} {o : Obj}, s.heap.get? b = some o → (b ≠ a ∨ (K.lookup a).isSome = true) → (hidT s.heap H).get? b = some o := fun {b o} e h => hidT_get e (by
    cases q : H b with
    | none => rfl
    | some u =>
      obtain ⟨e1, e2, _⟩ := scriptH_some q
      rcases h with h | h
      · exact absurd e1 h
      · rw [e2] at h; cases h)
  have ndict : ∀ {b : Addr} {m : Str → Option Value}, s.heap.Ns b m → (hidT s.heap H).Ns b m := fun {b m} h => by
    obtain ⟨o, es, ep, e, d, r⟩ := h
    refine ⟨o, es, ep, stay e (.inl fun z => ?_), d, r⟩
    rw [z, ha] at e
    cases e
    cases d
  have KB : K.In (hidT s.heap H) := fun b o e => stay (KX b o e) (by
    by_cases h : b = a
    · exact .inr (by rw [← h, e]; rfl)
    · exact .inl h)
  have M : Mod K mg (hidT s.heap H) := ⟨KB, ndict hmg, ⟨mb, ndict hmb, hbb⟩, by obtain ⟨mc, h1, h2⟩ := hlim; exact ⟨mc, ndict h1, h2⟩⟩
  have hok : HOk P w H s.heap := fun b u e => by
    obtain ⟨rfl, _, rfl⟩ := scriptH_some e
    exact ⟨ha, by rw [List.length_map]; exact hl, vs, _, rv, ha⟩
  have hS : SqL K H a (ns.map V.int) := by
    cases q : K.lookup a with
    | none => exact .inl (.inr ⟨ob, if_pos ⟨rfl, by rw [q]; rfl⟩⟩)
    | some o =>
      have e := KX a o q
      rw [ha] at e
      cases e
      exact .inr ⟨_, vs.toArray, _, q, rfl, rfl, rfl, by rw [List.size_toArray, hi.length]; exact hl, by simpa using rv⟩
  have e0 : Env0 P w K mg (hidT s.heap H) callerA [] s H := ⟨rfl, M, fun b o e => of_hidT e, Nat.le_of_eq (hidT_size _ _), trivial, fun b hb => (List.not_mem_nil (show b ∈ ([] : List Addr) from hb)).elim, hok, .of_eq hg⟩
  refine codeAny_mono ((F _ KB (ndict hmg)).run callerA [] s H ⟨[.ref a], []⟩ [.ref a] [.ref a] _ _ rfl hr e0 (hbind s (.ref a)) (.cons rfl .nil) (hsp H hS)) fun r s' h => ?_
  cases r with
  | error e => exact (hCX H e s' h).elim
  | ok fl =>
    cases fl with
    | ret u =>
      obtain ⟨v, H', os, bare, un, hok', r', q⟩ := h
      obtain rfl : v = .bl true := q
      obtain rfl : u = Value.bool true := r'
      refine ⟨rfl, OldK.of_keep fun b o e => ?_, os, bare⟩
      cases q : H b with
      | none => exact un.keep b o e q List.not_mem_nil List.not_mem_nil
      | some u =>
        obtain ⟨rfl, _, rfl⟩ := scriptH_some q
        obtain ⟨e2, _⟩ := hok' b _ (un.frzs b _ _ q)
        rw [ha] at e
        cases e
        exact e2
    | next => exact False.elim h
    | brk => exact False.elim h
    | cont => exact False.elim h
theorem walkG {l : PySem.W.OpenLaw} {n k : Nat} {q : Program} {loose : List Str} {XP : (Str → Option Value) → Heap → Prop} {YP : World → Heap → Prop} {d : DefRec} {K : Params → PySem.W.Frag} {CX : World → CXT} {sp : World → Sp} {x : Str}
    (hn : l.most = some n) (hn2 : n ≤ sizeLine) (hdf : d.params.defaults = []) (hr : Room k callerA) (hY : ∀ (w : World) (h : Heap), YP w h → (K w.params).In h)
    (F : ∀ (w : World) (mg : Str → Option Value) (fa : Addr) (h : Heap), (K w.params).In h → h.Ns mainGlobals mg → mg d.name = some (.ref fa) → ∃ fd : FuncData, (∀ (s : Shared) (u : Value), BindsTo s fd ⟨[u], []⟩ [(x, u)]) ∧
        ∀ base : Heap, (K w.params).In base → base.Ns mainGlobals mg → FnOkG l.prog w (K w.params) mg base (CX w) k fa fd [x] (sp w))
    (hsp : ∀ (w : World) (H : Hp) (a : Addr) (ns : List Int), ns.length ≤ n → SqL (K w.params) H a (ns.map V.int) → sp w [.ref a] H (fun v _ => v = .bl true) fun _ _ _ => False)
    (hCX : ∀ (w : World) (H : Hp) (s : Shared) (e : Value) (s' : Shared), CX w [] H s (fun _ _ _ => False) e s' → False) :
    PySem.W.WalkO q loose XP YP l.row.toRowW d [] (fun f vs => PySem.call f vs) := by
  refine Att.attach_call hn hdf fun w s₀ s₁ mg mb fa o pm cd doc a vs ns G Y ho hd hcd hmg hobj hints hlen hg => ?_
  obtain ⟨fd, hb, hF⟩ := F w mg fa _ (hY w _ Y) G.T.g hmg
  exact law_callG (hY w _ Y) G.T.g G.T.b G.T.builtins G.T.nolimit hg hobj hints (Nat.le_trans hlen hn2) hr hF hb (fun H hS => hsp w H a ns hlen hS) fun H e s' => hCX w H s₁ e s'
end L2.Cal
end

section
set_option maxRecDepth 100000
set_option maxHeartbeats 4000000
set_option synthInstance.maxHeartbeats 400000
namespace L2.Cal
open PySem PySem.Spec PyProof.Rows L2
abbrev sLaw : Stmt := topS 33
theorem scLaw : FnScope ["_law_script", "_law_k"] ["_law_script"] (defScope sLaw) := ⟨rfl, rfl, rfl, by decide +kernel, rfl, by decide +kernel, by decide +kernel⟩
def spLaw (K : PySem.W.Frag) : Sp := fun vs H Q _ => ∃ (a : Addr) (ns : List Int), vs = [.ref a] ∧ SqL K H a (ns.map V.int) ∧ ns.length ≤ 63 ∧ ∀ H', Q (.bl true) H'
theorem seqL_new {K : PySem.W.Frag} {H H1 H2 : Hp} {a p : Addr} {xs : List V} (h : SqL K H a xs) (n : H p = none) (s : Same H H1) (k : Kp p H1 H2) : SqL K H2 a xs := by
  rcases h with (h | ⟨o, h⟩) | h
  · exact .inl (.inl (k _ _ (ne_of_none h n) (s _ _ h)))
  · exact .inl (.inr ⟨o, k _ _ (ne_of_none h n) (s _ _ h)⟩)
  · exact .inr h
section
variable {P : Program} {w : World} {K : PySem.W.Frag} {mg : Str → Option Value} {base : Heap} {C : Addr}
theorem ok_law {f fT3 fPr fAl fSf fA fD fN fR fI fT2 fTo fCk fSt fWu fWa fRu fIc pT fT pO fOr : Addr} {fd fdT3 fdPr fdAl fdSf fdA fdD fdN fdR fdI fdT2 fdTo fdCk fdSt fdWu fdWa fdRu fdIc fdT fdOr : FuncData} {fJ fW : Addr} {fdJ fdW : FuncData}
    (DW : DefAt K mg "law" sLaw ["_law_script"] fW fdW) (DJ : DefAt K mg "_law_jar" sJar ["_law_script", "_law_k"] fJ fdJ)
    (DR0 : DefAt K mg "_law_right" sRgt ["_law_jar_here"] f fd)
    (DT3 : DefAt K mg "_law_threes_right" sTh3 ["_law_jar_here"] fT3 fdT3)
    (DPr : DefAt K mg "_law_pairs_right" sPrs ["_law_jar_here"] fPr fdPr)
    (DAl : DefAt K mg "_law_all_of" sAll ["_law_things_here"] fAl fdAl)
    (DS : DefAt K mg "_law_shuffled" sShuf ["_law_jar_here", "_law_things_here"] fSf fdSf)
    (DA : DefAt K mg "_law_letters" sLett ["_law_jar_here", "_law_many"] fA fdA)
    (DD : DefAt K mg "_law_dip" sDip ["_law_jar_here", "_law_wide"] fD fdD)
    (FN : Fun K "__init__" "Roll.__init__" sIni fN fdN)
    (bI : Binds K fdN ["self", "orders"] [])
    (MK : Mk K C fN)
    (DR : DefAt K mg "right_ahead" sRah ["orders"] fR fdR)
    (DI : DefAt K mg "is_order" sIsO ["value"] fI fdI)
    (DT : DefAt K mg "things_of" sThO ["order"] fT2 fdT2)
    (DTo : DefAt K mg "threes_of" sThs ["things"] fTo fdTo)
    (DCk : DefAt K mg "check_roll" sChk ["roll"] fCk fdCk)
    (DSt : DefAt K mg "standing" sSta ["order", "three"] fSt fdSt)
    (DWu : DefAt K mg "wheels_upon" sWup ["three"] fWu fdWu)
    (DWa : DefAt K mg "wheel_among" sWam ["orders", "three"] fWa fdWa)
    (DRu : DefAt K mg "rough" sRou ["roll"] fRu fdRu)
    (DIc : DefAt K mg "is_calm" sIsC ["roll"] fIc fdIc)
    (PT : PropOf K C "things" pT fT)
    (FT : Fun K "things" "Roll.things" sThi fT fdT)
    (bT : Binds K fdT ["self"] [])
    (PO : PropOf K C "orders" pO fOr)
    (FO : Fun K "orders" "Roll.orders" sOrd fOr fdOr)
    (bO : Binds K fdOr ["self"] [])
    (T : Txt mg)
    (Lm : Lims mg)
    (R : RollC K mg C) : FnOkG P w K mg base CX0 7 fW fdW ["_law_script"] (spLaw K) := by
  have GR : FnOkG P w K mg base CX0 6 f fd ["_law_jar_here"] spRgt := ok_rgt DR0 DT3 DPr DAl DS DA DD FN bI MK DR DI DT DTo DCk DSt DWu DWa DRu DIc PT FT bT PO FO bO T Lm R
  have GJ : FnOk P w K mg base CX0 1 fJ fdJ ["_law_script", "_law_k"] (spJar K) := ok_jar DJ T
  refine Fun.okG DW.F scLaw (fun vs H Q E h => ?_) (fun cdv A outer sh H vs Q E hA hr h => ?_)
  · obtain ⟨a, ns, rfl, _⟩ := h
    rfl
  · obtain ⟨a, ns, rfl, hS, hn, q⟩ := h
    have hu := hr.units
    refine ⟨_, (pss_cons (ps_for PassesOwn.never rfl (pi_range1 (by rfl) T.b_range (pa_cons (pe_callB (call_max2 rfl) (by rfl) T.b_max (by decide +kernel) (pa_cons pe_int (pa_cons (pe_callB (call_min2 rfl) (by rfl) T.b_min (by decide +kernel) (pa_cons (pe_callB call_len_seq (by rfl) T.b_len (by decide +kernel) (pa_cons (pv 0) pa_nil)) (pa_cons pe_int pa_nil))) pa_nil))) pa_nil)) (pg_name (i := 1) scLaw.nd rfl (.inl rfl))
   (pss_one (ps_if (pt_not (pt_val (pe_callG GR hA (hr.mono (by decide)) (by rfl) DR0.g DR0.F.kp DR0.b .nil pass0 (pa_cons (pe_call GJ (hr.mono (by decide)) (by rfl) DJ.g DJ.F.kp DJ.b .nil pass0 (pa_cons (pv 0) (pa_cons (pv 1) pa_nil))) pa_nil))))
   (pss_one (ps_ret pe_bl))
   pss_nil)))
  (pss_one (ps_ret pe_bl))), ?_⟩
    refine ⟨_, rfl, a, _, rfl, .inl hS, _, _, rfl, _, _, rfl, ?_⟩
    obtain ⟨j, ej, j0, j4⟩ : ∃ j : Int, j = (if (if (4:Int) < ((ns.map V.int).length : Int) then (4:Int) else ((ns.map V.int).length : Int)) > 2 then (if (4:Int) < ((ns.map V.int).length : Int) then (4:Int) else ((ns.map V.int).length : Int)) else 2) ∧ 0 ≤ j ∧ j ≤ 5 := by
      refine ⟨_, rfl, ?_⟩
      split <;> split <;> omega
    rw [← ej]
    refine ⟨j, rfl, by omega, by omega, for_range (n := j.toNat) (fun k σ H' => ∃ v1, σ = [some (.ref a), v1] ∧ SqL K H' a (ns.map V.int)) ⟨_, rfl, hS⟩ (fun k σ H' hk hP => ?_) (fun σ HB hP => ?_)⟩
    · obtain ⟨v1, rfl, hS'⟩ := hP
      refine ⟨_, rfl, _, rfl, a, ns, (0 + (k : Int)), rfl, hS', hn, by omega, by omega, fun H1 p t1 np J => ⟨p, rfl, J, fun H2 kp jp => ?_⟩⟩
      exact ⟨true, rfl, iteF ⟨_, rfl, seqL_new hS' np t1 kp⟩⟩
    · obtain ⟨v1, rfl, hS'⟩ := hP
      exact q _
end
end L2.Cal
end

section
set_option maxRecDepth 100000
set_option maxHeartbeats 4000000
namespace L2.Cal
open PySem PySem.Spec PyProof.Rows L2
theorem def_at {K : PySem.W.Frag} {h : Heap} {mg : Str → Option Value} {x : Str} {st : Stmt} {ps : List Str} {f : Addr} {od an : Option Addr} {sl : Array (Option Value)} {oc kV dc pm cd ct : Value} (X : K.In h) (G : h.Ns mainGlobals mg)
    (a : PySem.W.nsIn K mainGlobals x = some (some (.ref f))) (l : K.lookup f = some ⟨oc, od, .func (PySem.W.fnOf x x (defArgs st) (defBody st) (defScope st) .none kV dc pm an cd ct), sl⟩) (c : PySem.W.codeIn K cd x = true) (k : PySem.W.keepIn K (.ref f) = true)
    (b : ∀ (kV doc pm : Value) (an : Option Addr) (cdv ct : Value) (us : List Value), us.length = ps.length → bindArgs (PySem.W.fnOf x x (defArgs st) (defBody st) (defScope st) .none kV doc pm an cdv ct) ⟨us, []⟩ = pure (ps.zip us)) :
    DefAt K mg x st ps f (PySem.W.fnOf x x (defArgs st) (defBody st) (defScope st) .none kV dc pm an cd ct) :=
  ⟨fun_mk l c k, PySem.W.mg_of X G a, (fun_mk l c k).binds b⟩
theorem meth_at {K : PySem.W.Frag} {x q : Str} {st : Stmt} {ps : List Str} {f : Addr} {od an : Option Addr} {sl : Array (Option Value)} {oc kV dc pm cd ct : Value}
    (l : K.lookup f = some ⟨oc, od, .func (PySem.W.fnOf x q (defArgs st) (defBody st) (defScope st) .none kV dc pm an cd ct), sl⟩) (c : PySem.W.codeIn K cd q = true) (k : PySem.W.keepIn K (.ref f) = true)
    (b : ∀ (kV doc pm : Value) (an : Option Addr) (cdv ct : Value) (us : List Value), us.length = ps.length → bindArgs (PySem.W.fnOf x q (defArgs st) (defBody st) (defScope st) .none kV doc pm an cdv ct) ⟨us, []⟩ = pure (ps.zip us)) :
    Fun K x q st f (PySem.W.fnOf x q (defArgs st) (defBody st) (defScope st) .none kV dc pm an cd ct) ∧ Binds K (PySem.W.fnOf x q (defArgs st) (defBody st) (defScope st) .none kV dc pm an cd ct) ps [] :=
  ⟨fun_mk l c k, (fun_mk l c k).binds b⟩
theorem vals_app : ∀ {vs : List V} {us : List Value} {zs : List V} {ws : List Value}, Vals vs us → Vals zs ws → Vals (vs ++ zs) (us ++ ws)
  | _, _, _, _, .nil, h => h
  | _, _, _, _, .cons a r, h => .cons a (vals_app r h)
theorem all_mk {P : Program} {w : World} {K : PySem.W.Frag} {h : Heap} {mg : Str → Option Value} {fa : Addr} {t_LEAST_THINGS t_MOST_THINGS t_MOST_ORDERS : Tok} {fJ : Addr} {odJ anJ : Option Addr} {slJ : Array (Option Value)} {ocJ kVJ dcJ pmJ cdJ ctJ : Value} {fW : Addr} {odW anW : Option Addr} {slW : Array (Option Value)} {ocW kVW dcW pmW cdW ctW : Value} {fR0 : Addr} {odR0 anR0 : Option Addr} {slR0 : Array (Option Value)} {ocR0 kVR0 dcR0 pmR0 cdR0 ctR0 : Value} {fT3 : Addr} {odT3 anT3 : Option Addr} {slT3 : Array (Option Value)} {ocT3 kVT3 dcT3 pmT3 cdT3 ctT3 : Value} {fPr : Addr} {odPr anPr : Option Addr} {slPr : Array (Option Value)} {ocPr kVPr dcPr pmPr cdPr ctPr : Value} {fAl : Addr} {odAl anAl : Option Addr} {slAl : Array (Option Value)} {ocAl kVAl dcAl pmAl cdAl ctAl : Value} {fS : Addr} {odS anS : Option Addr} {slS : Array (Option Value)} {ocS kVS dcS pmS cdS ctS : Value} {fA : Addr} {odA anA : Option Addr} {slA : Array (Option Value)} {ocA kVA dcA pmA cdA ctA : Value} {fD : Addr} {odD anD : Option Addr} {slD : Array (Option Value)} {ocD kVD dcD pmD cdD ctD : Value} {fR : Addr} {odR anR : Option Addr} {slR : Array (Option Value)} {ocR kVR dcR pmR cdR ctR : Value} {fI : Addr} {odI anI : Option Addr} {slI : Array (Option Value)} {ocI kVI dcI pmI cdI ctI : Value} {fT : Addr} {odT anT : Option Addr} {slT : Array (Option Value)} {ocT kVT dcT pmT cdT ctT : Value} {fTo : Addr} {odTo anTo : Option Addr} {slTo : Array (Option Value)} {ocTo kVTo dcTo pmTo cdTo ctTo : Value} {fCk : Addr} {odCk anCk : Option Addr} {slCk : Array (Option Value)} {ocCk kVCk dcCk pmCk cdCk ctCk : Value} {fSt : Addr} {odSt anSt : Option Addr} {slSt : Array (Option Value)} {ocSt kVSt dcSt pmSt cdSt ctSt : Value} {fWu : Addr} {odWu anWu : Option Addr} {slWu : Array (Option Value)} {ocWu kVWu dcWu pmWu cdWu ctWu : Value} {fWa : Addr} {odWa anWa : Option Addr} {slWa : Array (Option Value)} {ocWa kVWa dcWa pmWa cdWa ctWa : Value} {fRu : Addr} {odRu anRu : Option Addr} {slRu : Array (Option Value)} {ocRu kVRu dcRu pmRu cdRu ctRu : Value} {fIc : Addr} {odIc anIc : Option Addr} {slIc : Array (Option Value)} {ocIc kVIc dcIc pmIc cdIc ctIc : Value} {C : Addr} {fmN : Addr} {odmN anmN : Option Addr} {slmN : Array (Option Value)} {ocmN kVmN dcmN pmmN cdmN ctmN : Value} {fmT : Addr} {odmT anmT : Option Addr} {slmT : Array (Option Value)} {ocmT kVmT dcmT pmmT cdmT ctmT : Value} {pr_mT : Addr} {remT : List Value} {fmO : Addr} {odmO anmO : Option Addr} {slmO : Array (Option Value)} {ocmO kVmO dcmO pmmO cdmO ctmO : Value} {pr_mO : Addr} {remO : List Value} (X : K.In h) (G : h.Ns mainGlobals mg) (hfa : mg "law" = some (.ref fa))
    (n_int : PySem.W.nsIn K mainGlobals "int" = some none)
    (n_len : PySem.W.nsIn K mainGlobals "len" = some none)
    (n_abs : PySem.W.nsIn K mainGlobals "abs" = some none)
    (n_range : PySem.W.nsIn K mainGlobals "range" = some none)
    (n_repr : PySem.W.nsIn K mainGlobals "repr" = some none)
    (n_max : PySem.W.nsIn K mainGlobals "max" = some none)
    (n_min : PySem.W.nsIn K mainGlobals "min" = some none)
    (n_all : PySem.W.nsIn K mainGlobals "all" = some none)
    (n_list : PySem.W.nsIn K mainGlobals "list" = some none)
    (n_sorted : PySem.W.nsIn K mainGlobals "sorted" = some none)
    (n_set : PySem.W.nsIn K mainGlobals "set" = some none)
    (n_tuple : PySem.W.nsIn K mainGlobals "tuple" = some none)
    (n_str : PySem.W.nsIn K mainGlobals "str" = some none)
    (n_bool : PySem.W.nsIn K mainGlobals "bool" = some none)
    (n_isinstance : PySem.W.nsIn K mainGlobals "isinstance" = some none)
    (n_enumerate : PySem.W.nsIn K mainGlobals "enumerate" = some none)
    (n_super : PySem.W.nsIn K mainGlobals "super" = some none)
    (c_LEAST_THINGS : PySem.W.nsIn K mainGlobals "LEAST_THINGS" = some (some (.int 3 t_LEAST_THINGS)))
    (c_MOST_THINGS : PySem.W.nsIn K mainGlobals "MOST_THINGS" = some (some (.int 6 t_MOST_THINGS)))
    (c_MOST_ORDERS : PySem.W.nsIn K mainGlobals "MOST_ORDERS" = some (some (.int 48 t_MOST_ORDERS)))
    (aJ : PySem.W.nsIn K mainGlobals "_law_jar" = some (some (.ref fJ)))
    (lJ : K.lookup fJ = some ⟨ocJ, odJ, .func (PySem.W.fnOf "_law_jar" "_law_jar" (defArgs sJar) (defBody sJar) (defScope sJar) .none kVJ dcJ pmJ anJ cdJ ctJ), slJ⟩)
    (ccJ : PySem.W.codeIn K cdJ "_law_jar" = true)
    (kkJ : PySem.W.keepIn K (.ref fJ) = true)
    (aW : PySem.W.nsIn K mainGlobals "law" = some (some (.ref fW)))
    (lW : K.lookup fW = some ⟨ocW, odW, .func (PySem.W.fnOf "law" "law" (defArgs sLaw) (defBody sLaw) (defScope sLaw) .none kVW dcW pmW anW cdW ctW), slW⟩)
    (ccW : PySem.W.codeIn K cdW "law" = true)
    (kkW : PySem.W.keepIn K (.ref fW) = true)
    (aR0 : PySem.W.nsIn K mainGlobals "_law_right" = some (some (.ref fR0)))
    (lR0 : K.lookup fR0 = some ⟨ocR0, odR0, .func (PySem.W.fnOf "_law_right" "_law_right" (defArgs sRgt) (defBody sRgt) (defScope sRgt) .none kVR0 dcR0 pmR0 anR0 cdR0 ctR0), slR0⟩)
    (ccR0 : PySem.W.codeIn K cdR0 "_law_right" = true)
    (kkR0 : PySem.W.keepIn K (.ref fR0) = true)
    (aT3 : PySem.W.nsIn K mainGlobals "_law_threes_right" = some (some (.ref fT3)))
    (lT3 : K.lookup fT3 = some ⟨ocT3, odT3, .func (PySem.W.fnOf "_law_threes_right" "_law_threes_right" (defArgs sTh3) (defBody sTh3) (defScope sTh3) .none kVT3 dcT3 pmT3 anT3 cdT3 ctT3), slT3⟩)
    (ccT3 : PySem.W.codeIn K cdT3 "_law_threes_right" = true)
    (kkT3 : PySem.W.keepIn K (.ref fT3) = true)
    (aPr : PySem.W.nsIn K mainGlobals "_law_pairs_right" = some (some (.ref fPr)))
    (lPr : K.lookup fPr = some ⟨ocPr, odPr, .func (PySem.W.fnOf "_law_pairs_right" "_law_pairs_right" (defArgs sPrs) (defBody sPrs) (defScope sPrs) .none kVPr dcPr pmPr anPr cdPr ctPr), slPr⟩)
    (ccPr : PySem.W.codeIn K cdPr "_law_pairs_right" = true)
    (kkPr : PySem.W.keepIn K (.ref fPr) = true)
    (aAl : PySem.W.nsIn K mainGlobals "_law_all_of" = some (some (.ref fAl)))
    (lAl : K.lookup fAl = some ⟨ocAl, odAl, .func (PySem.W.fnOf "_law_all_of" "_law_all_of" (defArgs sAll) (defBody sAll) (defScope sAll) .none kVAl dcAl pmAl anAl cdAl ctAl), slAl⟩)
    (ccAl : PySem.W.codeIn K cdAl "_law_all_of" = true)
    (kkAl : PySem.W.keepIn K (.ref fAl) = true)
    (aS : PySem.W.nsIn K mainGlobals "_law_shuffled" = some (some (.ref fS)))
    (lS : K.lookup fS = some ⟨ocS, odS, .func (PySem.W.fnOf "_law_shuffled" "_law_shuffled" (defArgs sShuf) (defBody sShuf) (defScope sShuf) .none kVS dcS pmS anS cdS ctS), slS⟩)
    (ccS : PySem.W.codeIn K cdS "_law_shuffled" = true)
    (kkS : PySem.W.keepIn K (.ref fS) = true)
    (aA : PySem.W.nsIn K mainGlobals "_law_letters" = some (some (.ref fA)))
    (lA : K.lookup fA = some ⟨ocA, odA, .func (PySem.W.fnOf "_law_letters" "_law_letters" (defArgs sLett) (defBody sLett) (defScope sLett) .none kVA dcA pmA anA cdA ctA), slA⟩)
    (ccA : PySem.W.codeIn K cdA "_law_letters" = true)
    (kkA : PySem.W.keepIn K (.ref fA) = true)
    (aD : PySem.W.nsIn K mainGlobals "_law_dip" = some (some (.ref fD)))
    (lD : K.lookup fD = some ⟨ocD, odD, .func (PySem.W.fnOf "_law_dip" "_law_dip" (defArgs sDip) (defBody sDip) (defScope sDip) .none kVD dcD pmD anD cdD ctD), slD⟩)
    (ccD : PySem.W.codeIn K cdD "_law_dip" = true)
    (kkD : PySem.W.keepIn K (.ref fD) = true)
    (aR : PySem.W.nsIn K mainGlobals "right_ahead" = some (some (.ref fR)))
    (lR : K.lookup fR = some ⟨ocR, odR, .func (PySem.W.fnOf "right_ahead" "right_ahead" (defArgs sRah) (defBody sRah) (defScope sRah) .none kVR dcR pmR anR cdR ctR), slR⟩)
    (ccR : PySem.W.codeIn K cdR "right_ahead" = true)
    (kkR : PySem.W.keepIn K (.ref fR) = true)
    (aI : PySem.W.nsIn K mainGlobals "is_order" = some (some (.ref fI)))
    (lI : K.lookup fI = some ⟨ocI, odI, .func (PySem.W.fnOf "is_order" "is_order" (defArgs sIsO) (defBody sIsO) (defScope sIsO) .none kVI dcI pmI anI cdI ctI), slI⟩)
    (ccI : PySem.W.codeIn K cdI "is_order" = true)
    (kkI : PySem.W.keepIn K (.ref fI) = true)
    (aT : PySem.W.nsIn K mainGlobals "things_of" = some (some (.ref fT)))
    (lT : K.lookup fT = some ⟨ocT, odT, .func (PySem.W.fnOf "things_of" "things_of" (defArgs sThO) (defBody sThO) (defScope sThO) .none kVT dcT pmT anT cdT ctT), slT⟩)
    (ccT : PySem.W.codeIn K cdT "things_of" = true)
    (kkT : PySem.W.keepIn K (.ref fT) = true)
    (aTo : PySem.W.nsIn K mainGlobals "threes_of" = some (some (.ref fTo)))
    (lTo : K.lookup fTo = some ⟨ocTo, odTo, .func (PySem.W.fnOf "threes_of" "threes_of" (defArgs sThs) (defBody sThs) (defScope sThs) .none kVTo dcTo pmTo anTo cdTo ctTo), slTo⟩)
    (ccTo : PySem.W.codeIn K cdTo "threes_of" = true)
    (kkTo : PySem.W.keepIn K (.ref fTo) = true)
    (aCk : PySem.W.nsIn K mainGlobals "check_roll" = some (some (.ref fCk)))
    (lCk : K.lookup fCk = some ⟨ocCk, odCk, .func (PySem.W.fnOf "check_roll" "check_roll" (defArgs sChk) (defBody sChk) (defScope sChk) .none kVCk dcCk pmCk anCk cdCk ctCk), slCk⟩)
    (ccCk : PySem.W.codeIn K cdCk "check_roll" = true)
    (kkCk : PySem.W.keepIn K (.ref fCk) = true)
    (aSt : PySem.W.nsIn K mainGlobals "standing" = some (some (.ref fSt)))
    (lSt : K.lookup fSt = some ⟨ocSt, odSt, .func (PySem.W.fnOf "standing" "standing" (defArgs sSta) (defBody sSta) (defScope sSta) .none kVSt dcSt pmSt anSt cdSt ctSt), slSt⟩)
    (ccSt : PySem.W.codeIn K cdSt "standing" = true)
    (kkSt : PySem.W.keepIn K (.ref fSt) = true)
    (aWu : PySem.W.nsIn K mainGlobals "wheels_upon" = some (some (.ref fWu)))
    (lWu : K.lookup fWu = some ⟨ocWu, odWu, .func (PySem.W.fnOf "wheels_upon" "wheels_upon" (defArgs sWup) (defBody sWup) (defScope sWup) .none kVWu dcWu pmWu anWu cdWu ctWu), slWu⟩)
    (ccWu : PySem.W.codeIn K cdWu "wheels_upon" = true)
    (kkWu : PySem.W.keepIn K (.ref fWu) = true)
    (aWa : PySem.W.nsIn K mainGlobals "wheel_among" = some (some (.ref fWa)))
    (lWa : K.lookup fWa = some ⟨ocWa, odWa, .func (PySem.W.fnOf "wheel_among" "wheel_among" (defArgs sWam) (defBody sWam) (defScope sWam) .none kVWa dcWa pmWa anWa cdWa ctWa), slWa⟩)
    (ccWa : PySem.W.codeIn K cdWa "wheel_among" = true)
    (kkWa : PySem.W.keepIn K (.ref fWa) = true)
    (aRu : PySem.W.nsIn K mainGlobals "rough" = some (some (.ref fRu)))
    (lRu : K.lookup fRu = some ⟨ocRu, odRu, .func (PySem.W.fnOf "rough" "rough" (defArgs sRou) (defBody sRou) (defScope sRou) .none kVRu dcRu pmRu anRu cdRu ctRu), slRu⟩)
    (ccRu : PySem.W.codeIn K cdRu "rough" = true)
    (kkRu : PySem.W.keepIn K (.ref fRu) = true)
    (aIc : PySem.W.nsIn K mainGlobals "is_calm" = some (some (.ref fIc)))
    (lIc : K.lookup fIc = some ⟨ocIc, odIc, .func (PySem.W.fnOf "is_calm" "is_calm" (defArgs sIsC) (defBody sIsC) (defScope sIsC) .none kVIc dcIc pmIc anIc cdIc ctIc), slIc⟩)
    (ccIc : PySem.W.codeIn K cdIc "is_calm" = true)
    (kkIc : PySem.W.keepIn K (.ref fIc) = true)
    (gC : PySem.W.nsIn K mainGlobals "Roll" = some (some (.ref C)))
    (omN : PySem.W.findIn K (.ref C) "__init__" = some (some (.ref fmN)))
    (ymN : PySem.W.typeIn K (.ref fmN) = some (.type "function"))
    (lmN : K.lookup fmN = some ⟨ocmN, odmN, .func (PySem.W.fnOf "__init__" "Roll.__init__" (defArgs sIni) (defBody sIni) (defScope sIni) .none kVmN dcmN pmmN anmN cdmN ctmN), slmN⟩)
    (ccmN : PySem.W.codeIn K cdmN "Roll.__init__" = true)
    (kkmN : PySem.W.keepIn K (.ref fmN) = true)
    (omT : PySem.W.findIn K (.ref C) "things" = some (some (.ref pr_mT)))
    (gmT : PySem.W.specialIn K (.ref pr_mT) "__get__" = some (some (.builtin "property.__get__")))
    (tmT : PySem.W.takesIn K (.ref pr_mT) = some true)
    (rmT : PySem.W.recIn K pr_mT "property" = some (.ref fmT :: remT))
    (lmT : K.lookup fmT = some ⟨ocmT, odmT, .func (PySem.W.fnOf "things" "Roll.things" (defArgs sThi) (defBody sThi) (defScope sThi) .none kVmT dcmT pmmT anmT cdmT ctmT), slmT⟩)
    (ccmT : PySem.W.codeIn K cdmT "Roll.things" = true)
    (kkmT : PySem.W.keepIn K (.ref fmT) = true)
    (omO : PySem.W.findIn K (.ref C) "orders" = some (some (.ref pr_mO)))
    (gmO : PySem.W.specialIn K (.ref pr_mO) "__get__" = some (some (.builtin "property.__get__")))
    (tmO : PySem.W.takesIn K (.ref pr_mO) = some true)
    (rmO : PySem.W.recIn K pr_mO "property" = some (.ref fmO :: remO))
    (lmO : K.lookup fmO = some ⟨ocmO, odmO, .func (PySem.W.fnOf "orders" "Roll.orders" (defArgs sOrd) (defBody sOrd) (defScope sOrd) .none kVmO dcmO pmmO anmO cdmO ctmO), slmO⟩)
    (ccmO : PySem.W.codeIn K cdmO "Roll.orders" = true)
    (kkmO : PySem.W.keepIn K (.ref fmO) = true)
    (mkm : PySem.W.makesIn K C = true)
    (mkk : PySem.W.keepIn K (.ref C) = true)
    (cpg : PySem.W.plainGet K C Str.empty = true)
    (chd : PySem.W.hasDictIn K C = true)
    (cpo : PySem.W.plainOver K C = true)
    (csa : PySem.W.findIn K (.ref C) "__setattr__" = some (some (.builtin "object.__setattr__")))
    (no1 : PySem.W.findIn K (.ref C) "_orders" = some none)
    (no2 : PySem.W.findIn K (.ref C) "_things" = some none)
    (dcl : PySem.W.findIn K (.ref C) "__class__" = some (some (.builtin "object.__class__")))
    (dget : PySem.W.specialIn K (.builtin "object.__class__") "__get__" = some (some (.builtin "getset_descriptor.__get__")))
    (dtk : PySem.W.takesIn K (.builtin "object.__class__") = some true)
    (mobj : PySem.W.mroIn K C (.type "object") = some true) :
    ∃ fd : FuncData, (∀ (s : Shared) (u : Value), BindsTo s fd ⟨[u], []⟩ [("_law_script", u)]) ∧ ∀ base : Heap, K.In base → base.Ns mainGlobals mg → FnOkG P w K mg base CX0 7 fa fd ["_law_script"] (spLaw K) := by
  have e := hfa.symm.trans (PySem.W.mg_of X G aW)
  cases e
  have DJ := def_at (st := sJar) (ps := ["_law_script", "_law_k"]) X G aJ lJ ccJ kkJ fun _ _ _ _ _ _ us hl => match us, hl with | [_, _], _ => rfl
  have DW := def_at (st := sLaw) (ps := ["_law_script"]) X G aW lW ccW kkW fun _ _ _ _ _ _ us hl => match us, hl with | [_], _ => rfl
  have DR0 := def_at (st := sRgt) (ps := ["_law_jar_here"]) X G aR0 lR0 ccR0 kkR0 fun _ _ _ _ _ _ us hl => match us, hl with | [_], _ => rfl
  have DT3 := def_at (st := sTh3) (ps := ["_law_jar_here"]) X G aT3 lT3 ccT3 kkT3 fun _ _ _ _ _ _ us hl => match us, hl with | [_], _ => rfl
  have DPr := def_at (st := sPrs) (ps := ["_law_jar_here"]) X G aPr lPr ccPr kkPr fun _ _ _ _ _ _ us hl => match us, hl with | [_], _ => rfl
  have DAl := def_at (st := sAll) (ps := ["_law_things_here"]) X G aAl lAl ccAl kkAl fun _ _ _ _ _ _ us hl => match us, hl with | [_], _ => rfl
  have DS := def_at (st := sShuf) (ps := ["_law_jar_here", "_law_things_here"]) X G aS lS ccS kkS fun _ _ _ _ _ _ us hl => match us, hl with | [_, _], _ => rfl
  have DA := def_at (st := sLett) (ps := ["_law_jar_here", "_law_many"]) X G aA lA ccA kkA fun _ _ _ _ _ _ us hl => match us, hl with | [_, _], _ => rfl
  have DD := def_at (st := sDip) (ps := ["_law_jar_here", "_law_wide"]) X G aD lD ccD kkD fun _ _ _ _ _ _ us hl => match us, hl with | [_, _], _ => rfl
  have DR := def_at (st := sRah) (ps := ["orders"]) X G aR lR ccR kkR fun _ _ _ _ _ _ us hl => match us, hl with | [_], _ => rfl
  have DI := def_at (st := sIsO) (ps := ["value"]) X G aI lI ccI kkI fun _ _ _ _ _ _ us hl => match us, hl with | [_], _ => rfl
  have DT := def_at (st := sThO) (ps := ["order"]) X G aT lT ccT kkT fun _ _ _ _ _ _ us hl => match us, hl with | [_], _ => rfl
  have DTo := def_at (st := sThs) (ps := ["things"]) X G aTo lTo ccTo kkTo fun _ _ _ _ _ _ us hl => match us, hl with | [_], _ => rfl
  have DCk := def_at (st := sChk) (ps := ["roll"]) X G aCk lCk ccCk kkCk fun _ _ _ _ _ _ us hl => match us, hl with | [_], _ => rfl
  have DSt := def_at (st := sSta) (ps := ["order", "three"]) X G aSt lSt ccSt kkSt fun _ _ _ _ _ _ us hl => match us, hl with | [_, _], _ => rfl
  have DWu := def_at (st := sWup) (ps := ["three"]) X G aWu lWu ccWu kkWu fun _ _ _ _ _ _ us hl => match us, hl with | [_], _ => rfl
  have DWa := def_at (st := sWam) (ps := ["orders", "three"]) X G aWa lWa ccWa kkWa fun _ _ _ _ _ _ us hl => match us, hl with | [_, _], _ => rfl
  have DRu := def_at (st := sRou) (ps := ["roll"]) X G aRu lRu ccRu kkRu fun _ _ _ _ _ _ us hl => match us, hl with | [_], _ => rfl
  have DIc := def_at (st := sIsC) (ps := ["roll"]) X G aIc lIc ccIc kkIc fun _ _ _ _ _ _ us hl => match us, hl with | [_], _ => rfl
  have MmN := meth_at (st := sIni) (ps := ["self", "orders"]) lmN ccmN kkmN fun _ _ _ _ _ _ us hl => match us, hl with | [_, _], _ => rfl
  have MmT := meth_at (st := sThi) (ps := ["self"]) lmT ccmT kkmT fun _ _ _ _ _ _ us hl => match us, hl with | [_], _ => rfl
  have MmO := meth_at (st := sOrd) (ps := ["self"]) lmO ccmO kkmO fun _ _ _ _ _ _ us hl => match us, hl with | [_], _ => rfl
  have T : Txt mg := ⟨PySem.W.mg_none_of X G n_int, PySem.W.mg_none_of X G n_len, PySem.W.mg_none_of X G n_abs, PySem.W.mg_none_of X G n_range, PySem.W.mg_none_of X G n_repr, PySem.W.mg_none_of X G n_max, PySem.W.mg_none_of X G n_min, PySem.W.mg_none_of X G n_all, PySem.W.mg_none_of X G n_list, PySem.W.mg_none_of X G n_sorted, PySem.W.mg_none_of X G n_set, PySem.W.mg_none_of X G n_tuple, PySem.W.mg_none_of X G n_str, PySem.W.mg_none_of X G n_bool, PySem.W.mg_none_of X G n_isinstance, PySem.W.mg_none_of X G n_enumerate, PySem.W.mg_none_of X G n_super⟩
  have Lm : Lims mg := ⟨⟨_, PySem.W.mg_of X G c_LEAST_THINGS⟩, ⟨_, PySem.W.mg_of X G c_MOST_THINGS⟩, ⟨_, PySem.W.mg_of X G c_MOST_ORDERS⟩⟩
  have R : RollC K mg C := ⟨PySem.W.mg_of X G gC, ⟨cpg, chd, cpo, csa⟩, no1, no2, dcl, dget, dtk, mobj⟩
  have MK : Mk K C fmN := ⟨mkm, omN, beq_iff_eq.mpr ymN, mkk⟩
  exact ⟨_, fun s u => .of_eq rfl, fun base _ _ => ok_law DW DJ DR0 DT3 DPr DAl DS DA DD (MmN.1) (MmN.2) MK DR DI DT DTo DCk DSt DWu DWa DRu DIc (⟨omT, gmT, tmT, ⟨_, rmT⟩⟩) (MmT.1) (MmT.2) (⟨omO, gmO, tmO, ⟨_, rmO⟩⟩) (MmO.1) (MmO.2) T Lm R⟩
end L2.Cal
end

open PySem PySem.W PyProof.Rows

set_option maxRecDepth 100000 in
set_option maxHeartbeats 0 in
theorem PySem.Challenge.cw_calmlists_k10_whole_known_calm_and_rough_holds : PySem.Challenge.rw_calmlists_k10_whole_known_calm_and_rough.Holds := by
  w_on; o_law; k_head; (case hw => w_witness2)
  k_fill
  refine L2.Cal.walkG (l := PySem.Challenge.rw_calmlists_k10_whole_known_calm_and_rough) (n := 63) (k := 7) (x := "_law_script") (CX := fun _ => L2.CX0) (sp := fun w => L2.Cal.spLaw _) rfl (by decide) rfl ⟨rfl, by decide, by decide⟩ (fun w h Y => PySem.W.kIn_of Y) ?F (fun _ _ a ns hl hS => ⟨a, ns, rfl, hS, hl, fun _ => rfl⟩) (fun _ _ _ _ _ h => h)
  case F =>
    intro w mg fa h KX G hmg
    refine' L2.Cal.all_mk KX G hmg ?cm_n_int ?cm_n_len ?cm_n_abs ?cm_n_range ?cm_n_repr ?cm_n_max ?cm_n_min ?cm_n_all ?cm_n_list ?cm_n_sorted ?cm_n_set ?cm_n_tuple ?cm_n_str ?cm_n_bool ?cm_n_isinstance ?cm_n_enumerate ?cm_n_super ?cm_c_LEAST_THINGS ?cm_c_MOST_THINGS ?cm_c_MOST_ORDERS ?cm_aJ ?cm_lJ ?cm_ccJ ?cm_kkJ ?cm_aW ?cm_lW ?cm_ccW ?cm_kkW ?cm_aR0 ?cm_lR0 ?cm_ccR0 ?cm_kkR0 ?cm_aT3 ?cm_lT3 ?cm_ccT3 ?cm_kkT3 ?cm_aPr ?cm_lPr ?cm_ccPr ?cm_kkPr ?cm_aAl ?cm_lAl ?cm_ccAl ?cm_kkAl ?cm_aS ?cm_lS ?cm_ccS ?cm_kkS ?cm_aA ?cm_lA ?cm_ccA ?cm_kkA ?cm_aD ?cm_lD ?cm_ccD ?cm_kkD ?cm_aR ?cm_lR ?cm_ccR ?cm_kkR ?cm_aI ?cm_lI ?cm_ccI ?cm_kkI ?cm_aT ?cm_lT ?cm_ccT ?cm_kkT ?cm_aTo ?cm_lTo ?cm_ccTo ?cm_kkTo ?cm_aCk ?cm_lCk ?cm_ccCk ?cm_kkCk ?cm_aSt ?cm_lSt ?cm_ccSt ?cm_kkSt ?cm_aWu ?cm_lWu ?cm_ccWu ?cm_kkWu ?cm_aWa ?cm_lWa ?cm_ccWa ?cm_kkWa ?cm_aRu ?cm_lRu ?cm_ccRu ?cm_kkRu ?cm_aIc ?cm_lIc ?cm_ccIc ?cm_kkIc ?cm_gC ?cm_omN ?cm_ymN ?cm_lmN ?cm_ccmN ?cm_kkmN ?cm_omT ?cm_gmT ?cm_tmT ?cm_rmT ?cm_lmT ?cm_ccmT ?cm_kkmT ?cm_omO ?cm_gmO ?cm_tmO ?cm_rmO ?cm_lmO ?cm_ccmO ?cm_kkmO ?cm_mkm ?cm_mkk ?cm_cpg ?cm_chd ?cm_cpo ?cm_csa ?cm_no1 ?cm_no2 ?cm_dcl ?cm_dget ?cm_dtk ?cm_mobj
    (case cm_n_int => k_is)
    (case cm_n_len => k_is)
    (case cm_n_abs => k_is)
    (case cm_n_range => k_is)
    (case cm_n_repr => k_is)
    (case cm_n_max => k_is)
    (case cm_n_min => k_is)
    (case cm_n_all => k_is)
    (case cm_n_list => k_is)
    (case cm_n_sorted => k_is)
    (case cm_n_set => k_is)
    (case cm_n_tuple => k_is)
    (case cm_n_str => k_is)
    (case cm_n_bool => k_is)
    (case cm_n_isinstance => k_is)
    (case cm_n_enumerate => k_is)
    (case cm_n_super => k_is)
    (case cm_c_LEAST_THINGS => k_is)
    (case cm_c_MOST_THINGS => k_is)
    (case cm_c_MOST_ORDERS => k_is)
    (case cm_aJ => k_is)
    (case cm_lJ => k_is)
    (case cm_ccJ => k_is)
    (case cm_kkJ => k_is)
    (case cm_aW => k_is)
    (case cm_lW => k_is)
    (case cm_ccW => k_is)
    (case cm_kkW => k_is)
    (case cm_aR0 => k_is)
    (case cm_lR0 => k_is)
    (case cm_ccR0 => k_is)
    (case cm_kkR0 => k_is)
    (case cm_aT3 => k_is)
    (case cm_lT3 => k_is)
    (case cm_ccT3 => k_is)
    (case cm_kkT3 => k_is)
    (case cm_aPr => k_is)
    (case cm_lPr => k_is)
    (case cm_ccPr => k_is)
    (case cm_kkPr => k_is)
    (case cm_aAl => k_is)
    (case cm_lAl => k_is)
    (case cm_ccAl => k_is)
    (case cm_kkAl => k_is)
    (case cm_aS => k_is)
    (case cm_lS => k_is)
    (case cm_ccS => k_is)
    (case cm_kkS => k_is)
    (case cm_aA => k_is)
    (case cm_lA => k_is)
    (case cm_ccA => k_is)
    (case cm_kkA => k_is)
    (case cm_aD => k_is)
    (case cm_lD => k_is)
    (case cm_ccD => k_is)
    (case cm_kkD => k_is)
    (case cm_aR => k_is)
    (case cm_lR => k_is)
    (case cm_ccR => k_is)
    (case cm_kkR => k_is)
    (case cm_aI => k_is)
    (case cm_lI => k_is)
    (case cm_ccI => k_is)
    (case cm_kkI => k_is)
    (case cm_aT => k_is)
    (case cm_lT => k_is)
    (case cm_ccT => k_is)
    (case cm_kkT => k_is)
    (case cm_aTo => k_is)
    (case cm_lTo => k_is)
    (case cm_ccTo => k_is)
    (case cm_kkTo => k_is)
    (case cm_aCk => k_is)
    (case cm_lCk => k_is)
    (case cm_ccCk => k_is)
    (case cm_kkCk => k_is)
    (case cm_aSt => k_is)
    (case cm_lSt => k_is)
    (case cm_ccSt => k_is)
    (case cm_kkSt => k_is)
    (case cm_aWu => k_is)
    (case cm_lWu => k_is)
    (case cm_ccWu => k_is)
    (case cm_kkWu => k_is)
    (case cm_aWa => k_is)
    (case cm_lWa => k_is)
    (case cm_ccWa => k_is)
    (case cm_kkWa => k_is)
    (case cm_aRu => k_is)
    (case cm_lRu => k_is)
    (case cm_ccRu => k_is)
    (case cm_kkRu => k_is)
    (case cm_aIc => k_is)
    (case cm_lIc => k_is)
    (case cm_ccIc => k_is)
    (case cm_kkIc => k_is)
    (case cm_gC => k_is)
    (case cm_omN => k_is)
    (case cm_ymN => k_is)
    (case cm_lmN => k_is)
    (case cm_ccmN => k_is)
    (case cm_kkmN => k_is)
    (case cm_omT => k_is)
    (case cm_gmT => k_is)
    (case cm_tmT => k_is)
    (case cm_rmT => k_is)
    (case cm_lmT => k_is)
    (case cm_ccmT => k_is)
    (case cm_kkmT => k_is)
    (case cm_omO => k_is)
    (case cm_gmO => k_is)
    (case cm_tmO => k_is)
    (case cm_rmO => k_is)
    (case cm_lmO => k_is)
    (case cm_ccmO => k_is)
    (case cm_kkmO => k_is)
    (case cm_mkm => kernel_rfl)
    (case cm_mkk => k_is)
    (case cm_cpg => kernel_rfl)
    (case cm_chd => kernel_rfl)
    (case cm_cpo => kernel_rfl)
    (case cm_csa => k_is)
    (case cm_no1 => k_is)
    (case cm_no2 => k_is)
    (case cm_dcl => k_is)
    (case cm_dget => k_is)
    (case cm_dtk => k_is)
    (case cm_mobj => k_is)
