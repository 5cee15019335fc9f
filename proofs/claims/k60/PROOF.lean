import PyProof.Rows.All
import Wide.All
import OpenK.AllK
import Wide.FinOn
import HandS.ForMost
import HandS.Wide
import HandS.Flow
import HandS.TupAny
import HandS.SetTxt0
import HandS.SetTxtIn
import HandS.SetFor
import HandS.TupSets
import HandS.SortOrd
import HandS.Strs
import HandS.WideBits
import HandS.StrMore
import PyProof.Rows.TmSorted
import HandS.Text
import HandS.NoneIn
import HandS.IsInst
import HandS.Walk
import HandS.Iter
import KE.GoesMore
import KE.GoesEnum
import HandS.Property
import HandS.OwnEq
import HandS.ClsMeth
import HandS.MakeKw
import KE.KCallOwn
import OpenK.KMeth
import PyProof.InstEq
import PyProof.InstNe
import PyProof.EqKinds
import PyProof.Conv_bool
import HandS.Base
import HandS.Comp
import HandS.Codes
import HandS.SetKeys
import HandS.RepeatKit
import PyProof.TupleOfSeq
import KE.SortData
import KE.DataCmp
import HandS.EndBits
import HandS.Call
import HandS.Defaults
import HandS.MakeKwOnly
import PySem.Challenge.RW_calmlists_k60_whole_fewest_orders_left_o
set_option Elab.async false
set_option linter.all false
section
set_option maxRecDepth 100000
set_option maxHeartbeats 4000000
/-! what all laws of this program share: a def where it stands, the jar of drawn numbers -/
namespace L2.Cal
open PySem PySem.Spec PyProof.Rows L2
/-- a def of the top: its function, its name, how it binds -/
structure DefAt (K : PySem.W.Frag) (mg : Str → Option Value) (x : Str) (st : Stmt) (ps : List Str) (f : Addr) (fd : FuncData) : Prop where
  F : Fun K x x st f fd
  g : mg x = some (.ref f)
  b : Binds K fd ps []
/-- the jar: three numbers, none below nought -/
def Jar (H : Hp) (j : Addr) : Prop := ∃ d s c : Int, H j = some (.lst [.int d, .int s, .int c]) ∧ 0 ≤ d ∧ 0 ≤ s ∧ s < 2147483648 ∧ 0 ≤ c
theorem Jar.up {H : Hp} {j : Addr} {d s c : Int} (h1 : 0 ≤ d) (h2 : 0 ≤ s) (h3 : s < 2147483648) (h4 : 0 ≤ c) : Jar (upd H j (.lst [.int d, .int s, .int c])) j := ⟨d, s, c, upd_same, h1, h2, h3, h4⟩
/-- all that was tracked is as it was, but the jar -/
def Kp (j : Addr) (H H' : Hp) : Prop := ∀ b o, b ≠ j → H b = some o → H' b = some o
theorem Kp.refl {j : Addr} {H : Hp} : Kp j H H := fun _ _ _ h => h
theorem Kp.trans {j : Addr} {H H1 H2 : Hp} (a : Kp j H H1) (b : Kp j H1 H2) : Kp j H H2 := fun c o n h => b c o n (a c o n h)
theorem Kp.new {j p : Addr} {o : HO} {H : Hp} (h : H p = none) : Kp j H (upd H p o) := fun b u _ e => by rw [upd_ne (ne_of_none e h)]; exact e
theorem Kp.jar {j : Addr} {o : HO} {H : Hp} : Kp j H (upd H j o) := fun b u n e => by rw [upd_ne n]; exact e
theorem Kp.of {j : Addr} {H H' : Hp} (h : Same H H') : Kp j H H' := fun b o _ e => h b o e
theorem Jar.new {H : Hp} {j p : Addr} {o : HO} (h : Jar H j) (n : H p = none) : Jar (upd H p o) j := by
  obtain ⟨d, s, c, e, r⟩ := h
  exact ⟨d, s, c, by rw [upd_ne (ne_of_none e n)]; exact e, r⟩
theorem Jar.same {H H' : Hp} {j : Addr} (h : Jar H j) (e : Same H H') : Jar H' j := by
  obtain ⟨d, s, c, q, r⟩ := h
  exact ⟨d, s, c, e _ _ q, r⟩
theorem Kp.seqL {K : PySem.W.Frag} {j a : Addr} {H H' : Hp} {xs : List V} (k : Kp j H H') (n : a ≠ j) (h : SqL K H a xs) : SqL K H' a xs := by
  rcases h with (h | ⟨o, h⟩) | h
  · exact .inl (.inl (k _ _ n h))
  · exact .inl (.inr ⟨o, k _ _ n h⟩)
  · exact .inr h
theorem Kp.seqT {K : PySem.W.Frag} {j a : Addr} {H H' : Hp} {xs : List V} (k : Kp j H H') (n : a ≠ j) (h : SqT K H a xs) : SqT K H' a xs := by
  rcases h with (h | ⟨o, h⟩) | h
  · exact .inl (.inl (k _ _ n h))
  · exact .inl (.inr ⟨o, k _ _ n h⟩)
  · exact .inr h
/-! ### promises -/
def spDip : Sp := fun vs H Q _ => ∃ (j : Addr) (w d s c : Int), vs = [.ref j, .int w] ∧ H j = some (.lst [.int d, .int s, .int c]) ∧ 0 ≤ d ∧ 0 ≤ s ∧ s < 2147483648 ∧ 0 ≤ c ∧ 0 < w ∧ w < 1073741824 ∧
  ∀ r d' s' c' : Int, 0 ≤ r → r < w → 0 ≤ d' → 0 ≤ s' → s' < 2147483648 → 0 ≤ c' → Q (.int r) (upd H j (.lst [.int d', .int s', .int c']))
def spJar (K : PySem.W.Frag) : Sp := fun vs H Q _ => ∃ (a : Addr) (ns : List Int) (k : Int), vs = [.ref a, .int k] ∧ SqL K H a (ns.map V.int) ∧ ns.length ≤ 63 ∧ 0 ≤ k ∧ k ≤ 100 ∧
  ∀ H' p, Same H H' → H p = none → Jar H' p → Q (.ref p) H'
/-- one of a list, a tuple or a text's signs -/
def spPick (K : PySem.W.Frag) : Sp := fun vs H Q _ => ∃ (j m : Addr) (xs : List V) (d s c : Int), vs = [.ref j, .ref m] ∧ H j = some (.lst [.int d, .int s, .int c]) ∧ 0 ≤ d ∧ 0 ≤ s ∧ s < 2147483648 ∧ 0 ≤ c ∧ m ≠ j ∧ (SqL K H m xs ∨ SqT K H m xs) ∧ 0 < xs.length ∧ xs.length ≤ 1000 ∧
  ∀ (i : Nat) (v : V) (d' s' c' : Int), xs[i]? = some v → 0 ≤ d' → 0 ≤ s' → s' < 2147483648 → 0 ≤ c' → Q v (upd H j (.lst [.int d', .int s', .int c']))
end L2.Cal
end

section
set_option maxRecDepth 100000
set_option maxHeartbeats 4000000
/-! new objects, told by what stays and what stands there, not by the heap as a term -/
namespace L2.Cal
open PySem PySem.Spec PyProof.Rows L2
theorem same_new {H : Hp} {p : Addr} {o : HO} (h : H p = none) : Same H (upd H p o) := fun b u e => by rw [upd_ne (ne_of_none e h)]; exact e
/-- a new object o at p -/
abbrev New (H : Hp) (o : HO) (Q : VK) : Prop := ∀ (p : Addr) (H2 : Hp), Same H H2 → H p = none → H2 p = some o → Q (.ref p) H2
theorem New.use {H : Hp} {o : HO} {Q : VK} (h : New H o Q) {p : Addr} (n : H p = none) : Q (.ref p) (upd H p o) := h p _ (same_new n) n upd_same
def tLstS (t : TA) : TE := fun σ H Q => t σ H fun xs H1 => xs.length ≤ sizeLine ∧ New H1 (.lst xs) Q
def tTupS (t : TA) : TE := fun σ H Q => t σ H fun xs H1 => xs.length ≤ sizeLine ∧ New H1 (.tup xs) Q
section
variable {X : Cx} {es : List Expr} {t : TA} {pos : Pos}
theorem pe_lstS (h : PA X es t) : PE X (.List es pos) (tLstS t) := ⟨fun pins s σ H Q I hq => wpAny_List_spliced (thn (h.run pos pins s σ H _ I hq) fun us s1 hh => by
  obtain ⟨xs, H1, I1, r, z, q⟩ := hh
  refine ⟨by rw [← r.length]; exact z, .ref s1.heap.objs.size, _, I1.laid (t' := s1.toks) (a := s1.heap.objs.size) (o := .lst xs) (fun b u e => Heap.get?_push_of_some _ e) (Nat.le_refl _) ⟨z, us, 0, r, Heap.get?_push_size _ rfl⟩, rfl, q.use (I1.hok.fresh (Nat.le_refl _))⟩)⟩
theorem pe_tupS {k} (h : PA X es t) : PE X (.Tuple es k pos) (tTupS t) := ⟨fun pins s σ H Q I hq => wpAny_Tuple_spliced (thn (h.run pos pins s σ H _ I hq) fun us s1 hh => by
  obtain ⟨xs, H1, I1, r, z, q⟩ := hh
  refine ⟨by rw [← r.length]; exact z, .ref s1.heap.objs.size, _, I1.laid (t' := s1.toks) (a := s1.heap.objs.size) (o := .tup xs) (fun b u e => Heap.get?_push_of_some _ e) (Nat.le_refl _) ⟨z, us, r, ⟨_, Heap.get?_push_size _ rfl, rfl, _, rfl⟩⟩, rfl, q.use (I1.hok.fresh (Nat.le_refl _))⟩)⟩
theorem pe_dnewS : PE X (.Dict [] [] pos) (fun _ H Q => New H (.dK []) Q) := ⟨fun pins s σ H Q I h => pe_dnewK.run pins s σ H Q I fun p n => h.use n⟩
end
/-- a class of the program, a built-in class, as a value -/
theorem pe_cls {X : Cx} {x : Str} {C : Addr} {pos : Pos} (hg : Gl X x) (hm : X.mg x = some (.ref C)) (hd : (x == ("__debug__" : Str)) = false := by decide) : PE X (.Name x pos) (tC (.ref C)) := pe_glob (v := .ref C) hg hm rfl hd
theorem pe_bty {X : Cx} {x : Str} {n : String} {pos : Pos} (hg : Gl X x) (hm : X.mg x = none) (hv : bootBuiltins x = some (.type n)) (hn : x ≠ "__name__" := by decide) (hd : (x == ("__debug__" : Str)) = false := by decide) : PE X (.Name x pos) (tC (.ty n)) := pe_bltn (v := .ty n) hg hm hv rfl hn hd
def rCatS : R2 := fun x y H Q => ∃ l b xs zs, x = .ref l ∧ y = .ref b ∧ H l = some (.lst xs) ∧ H b = some (.lst zs) ∧ xs.length + zs.length ≤ sizeLine ∧ New H (.lst (xs ++ zs)) Q
theorem op_catS {X : Cx} : OpR X (binaryOp .Add) rCatS := fun pins s σ H x y v u Q I rx ry h => by
  obtain ⟨l, b, xs, zs, ex, ey, h1, h2, hz, q⟩ := h
  exact op_cat pins s σ H x y v u Q I rx ry ⟨l, b, xs, zs, ex, ey, h1, h2, hz, fun p n => q.use n⟩
end L2.Cal
end

section
set_option maxRecDepth 100000
set_option maxHeartbeats 4000000
/-! sets of texts: made of a list of texts or of a text's signs; their number; sorted -/
namespace L2.Cal
open PySem PySem.Spec PyProof.Rows PySem.Froz L2
section
variable {P : Program} {w : World}
/-- the payload can be walked -/
structure Way (w : World) (D : SD) : Prop where
  ris : Ris D.2.2.place.toList
  led : w.params.followText "set-order" = true ∨ D.2.2.led = true
/-- the payload holds the texts l, each once -/
structure Has (P : Program) (w : World) (D : SD) (l : List Str) : Prop where
  ok : TxOk P w D l
  way : Way w D
  one : l.Nodup
theorem Way.add {D : SD} (W : Way w D) (h : Int) (v : Value) : Way w (addTx h v D) := by
  obtain ⟨es, ep, t⟩ := D
  have r1 := layNew_ris t es h v W.ris
  have d1 := layNew_led t es h v
  unfold addTx tailTx
  dsimp only
  have w2 : Way w ((layNew t es h v).1, ep, if (layNew t es h v).2.1.plain = true then { (layNew t es h v).2.1 with plain := false } else (layNew t es h v).2.1) := by
    refine ⟨?_, ?_⟩
    · dsimp only
      split <;> exact r1
    · dsimp only
      rw [show (if (layNew t es h v).2.1.plain = true then { (layNew t es h v).2.1 with plain := false } else (layNew t es h v).2.1).led = t.led by split <;> exact d1]
      exact W.led
  generalize (if (layNew t es h v).2.1.plain = true then { (layNew t es h v).2.1 with plain := false } else (layNew t es h v).2.1) = t2 at w2 ⊢
  split
  · exact ⟨relayAll_ris _ _ _, by dsimp only; rw [relayAll_led]; exact w2.led⟩
  · exact ⟨w2.ris, w2.led⟩
theorem Has.add {D : SD} {l : List Str} {k : Str} (u : Tok) (S : Has P w D l) (n : k ∉ l) : Has P w (addTx (hashStr w k) (.str k u) D) (k :: l) :=
  ⟨add_ok u S.ok, S.way.add _ _, List.nodup_cons.mpr ⟨n, S.one⟩⟩
theorem Has.none (ep : Nat) : Has P w (#[], ep, .fresh 0 0 (!w.params.followText "set-order")) [] := by
  refine ⟨TxOk.nil rfl, ⟨?_, ?_⟩, .nil⟩
  · exact List.Pairwise.nil
  · cases e : w.params.followText "set-order"
    · exact .inr rfl
    · exact .inl rfl
variable {A : Around} {E : Value → Shared → Prop} {s : Shared} {a : Addr} {T : String} {D : SD} {l : List Str} {k : Str} {u : Tok}
/-- a text that is there already -/
theorem put_old {Q : Bool → Shared → Prop} (ho : s.heap.get? a = some (sObj T D)) (S : Has P w D l) (hk : k ∈ l) (hb : l.length < scanBound) (q : Q false s) : wpAny (model P w) A (setAddHashed a (.str k u) (hashStr w k)) Q E s := by
  obtain ⟨es, ep, t⟩ := D
  have dat : (sObj T (es, ep, t)).data = .set es ep t := rfl
  have few : es.size < scanBound := by
    have z : es.size = l.length := S.ok.sz
    rw [z]
    exact hb
  unfold setAddHashed setAddHashedIn
  refine wpAny_holding (wpAny_bind (wpAny_setState_of ho dat S.ok.fit ?_))
  dsimp only
  rw [byScan_of rfl few S.ok.el, if_pos rfl]
  unfold setAddByScan
  refine wpAny_bind (wpAny_bind (wpAny_rule (wpAny_bind (wpAny_setScan_of (knd := strKind P w) (k := k) (is_str k u) ho dat S.ok.fit S.ok.el ?_))))
  cases z : List.findIdx? (fun e => (strKind P w).is k e.2) es.toList with
  | none =>
    obtain ⟨e, he, p⟩ := (S.ok.mem k).mp hk
    have no := List.findIdx?_eq_none_iff.mp z e he
    rw [p] at no
    cases no
  | some j => exact wpAny_pure (wpAny_pure q)
/-- s.add(k), new or old -/
theorem put_any {Q : Bool → Shared → Prop} (ho : s.heap.get? a = some (sObj T D)) (S : Has P w D l) (hb : l.length + 1 < scanBound)
    (q : ∀ (b : Bool) (D' : SD) (l' : List Str) (h' : Heap), (∀ c o, c ≠ a → s.heap.get? c = some o → h'.get? c = some o) → h'.get? a = some (sObj T D') → Has P w D' l' → (∀ x, x ∈ l' ↔ x ∈ l ∨ x = k) → l'.length ≤ l.length + 1 → Q b { s with heap := h', toks := s.toks + 1 }) :
    wpAny (model P w) A (setAdd a (.str k u)) Q E s := by
  unfold setAdd
  refine wpAny_holding (wpAny_bind ((strKind P w).pyHash (k := k) (is_str k u) ?_))
  by_cases c : k ∈ l
  · refine put_old (s := { s with toks := s.toks + 1 }) (l := l) ho S c (by omega) (q _ D l s.heap (fun _ _ _ z => z) ho S (fun x => ⟨.inl, fun z => z.elim id fun e => e ▸ c⟩) (Nat.le_succ _))
  · refine add_x (s := { s with toks := s.toks + 1 }) (l := l) ho S.ok c hb (q _ _ (k :: l) _ (fun b o n z => PySem.Heap.get?_update_of_ne _ n.symm z) (get_upd _ ho rfl) (S.add u c) (fun x => ?_) (Nat.le_refl _))
    rw [List.mem_cons]
    exact Or.comm
/-- the rest of a walk over texts goes into the set -/
theorem fill {R : Result → Shared → Prop} {I S : Addr} {fp wr : List Addr} {n : Nat} {Pv : Nat → Value → Prop} {St : Nat → Heap → Prop} {val : Nat → Str} (W : Walks P w A.in1 I fp wr n Pv St) (away : S ∉ fp) (is : ∀ i v, Pv i v → ∃ t, v = .str (val i) t) (few : n + 1 < scanBound)
    (done : ∀ (h' : Heap) (tk : Nat) (D' : SD) (l' : List Str), (∀ b o, b ≠ S → b ∉ wr → s.heap.get? b = some o → h'.get? b = some o) → h'.get? S = some (sObj T D') → Has P w D' l' → (∀ x, x ∈ l' ↔ ∃ j, j < n ∧ val j = x) → R (.ok (.ret .none)) { s with heap := h', toks := tk }) :
    ∀ (m i : Nat) (h : Heap) (tk : Nat) (D : SD) (l : List Str), n - i = m → i ≤ n → St i h → (∀ b o, b ≠ S → b ∉ wr → s.heap.get? b = some o → h.get? b = some o) → h.get? S = some (sObj T D) → Has P w D l → (∀ x, x ∈ l ↔ ∃ j, j < i ∧ val j = x) → l.length ≤ i →
      codeAny (model P w) A (.builtin "set.update.loop" ⟨[.ref S, .ref I], []⟩) R { s with heap := h, toks := tk } := by
  intro m
  have awr : S ∉ wr := fun z => away (W.sub _ z)
  induction m with
  | zero =>
    intro i h tk D l hm hi hst keep at_ H mem len
    have e : i = n := by omega
    subst e
    refine codeAny_builtin PyProof.Rows.F.entry_set_update_loop ?_
    rw [Around.under_plainId PyProof.Rows.F.plain_set_update_loop _]
    show wpAny _ A.in1 (pyNext (.ref I) >>= _) _ _ _
    refine wpAny_bind (W.done _ _ _ hst fun h2 tk2 k2 => wpAny_pure ?_)
    exact done h2 tk2 D l (fun b o n1 n2 z => k2 b o n2 (keep b o n1 n2 z)) (k2 _ _ awr at_) H mem
  | succ m ih =>
    intro i h tk D l hm hi hst keep at_ H mem len
    refine codeAny_builtin PyProof.Rows.F.entry_set_update_loop ?_
    rw [Around.under_plainId PyProof.Rows.F.plain_set_update_loop _]
    show wpAny _ A.in1 (pyNext (.ref I) >>= _) _ _ _
    refine wpAny_bind (W.item i _ _ _ (by omega) hst fun v h2 tk2 hv hst2 k2 => ?_)
    obtain ⟨t, rfl⟩ := is i v hv
    show wpAny _ A.in1 (holding [Value.str (val i) t] (setAdd S (.str (val i) t)) >>= _) _ _ _
    refine wpAny_bind (wpAny_holding (put_any (k := val i) (l := l) (D := D) (T := T) (k2 _ _ awr at_) H (by omega) fun b D' l' h3 k3 at3 H3 mem3 len3 => ?_))
    refine wpAny_pure ⟨plainId_quiet PyProof.Rows.F.plain_set_update_loop _, ih (i + 1) h3 _ D' l' (by omega) (by omega) (W.frame _ _ _ hst2 fun b hb o z => k3 b o (fun e => away (e ▸ hb)) z) (fun b o n1 n2 z => k3 b o n1 (k2 b o n2 (keep b o n1 n2 z))) at3 H3 (fun x => ?_) (by omega)⟩
    rw [mem3 x, mem x]
    constructor
    · rintro (⟨j, hj, e⟩ | e)
      · exact ⟨j, by omega, e⟩
      · exact ⟨i, by omega, e.symm⟩
    · rintro ⟨j, hj, e⟩
      by_cases c : j = i
      · subst c
        exact .inr e.symm
      · exact .inl ⟨j, by omega, e⟩
/-- set(x): x's own texts go into a fresh set -/
theorem fresh_set {src : Value} {mem : Str → Prop} {Q : Value → Shared → Prop}
    (run : ∀ (A' : Around) (E' : Value → Shared → Prop) (Q' : Unit → Shared → Prop), A'.handled = A.handled →
      (∀ (h' : Heap) (tk : Nat) (D : SD) (l : List Str), (∀ b o, s.heap.get? b = some o → h'.get? b = some o) → h'.get? s.heap.objs.size = some (sObj "set" D) → Has P w D l → (∀ x, x ∈ l ↔ mem x) → Q' () { s with heap := h', toks := tk }) →
      wpAny (model P w) A' (Builtin.Frozenset.updateFrom "set.__init__" s.heap.objs.size src) Q' E' { s with heap := s.heap.push (sObj "set" (#[], 0, .fresh 0 0 (!w.params.followText "set-order"))) })
    (q : ∀ (h' : Heap) (tk : Nat) (D : SD) (l : List Str), (∀ b o, s.heap.get? b = some o → h'.get? b = some o) → h'.get? s.heap.objs.size = some (sObj "set" D) → Has P w D l → (∀ x, x ∈ l ↔ mem x) → Q (.ref s.heap.objs.size) { s with heap := h', toks := tk }) :
    wpAny (model P w) A (call (.type "set") [src]) Q E s := by
  obtain ⟨c, tl, chain⟩ := PySem.F.called_set.mro
  have made := PySem.F.called_set.made
  have below := PySem.F.called_set.sub
  have plain1 := PySem.F.called_set.notType
  have plain2 := PySem.F.called_set.canCreate
  have ask := PySem.F.typeCall_set_1 src
  refine wpAny_call (codeAny_of_tree (show wpAny _ _ (callAny (.type "set") _) _ _ _ from wpAny_pure ⟨Code.quiet_builtin _ (by decide +kernel), codeAny_builtin F.entry_type_call ?_⟩))
  rw [Around.under_plain (weight_type_call_type "set" [src] []) rfl]
  repeat (any_goals (first | assumption | wp_step))
  have laid : (s.heap.push (sObj "set" (#[], 0, .fresh 0 0 (!w.params.followText "set-order")))).get? s.heap.objs.size = some (sObj "set" (#[], 0, .fresh 0 0 (!w.params.followText "set-order"))) := Heap.get?_push_size _ rfl
  have kind : Shared.TypeIs { s with heap := s.heap.push (sObj "set" (#[], 0, .fresh 0 0 (!w.params.followText "set-order"))) } (.ref s.heap.objs.size) "set" := ⟨_, laid, rfl⟩
  have look := PySem.F.called_set.init.lookup
  have tie := PySem.F.called_set.init.bind (.ref s.heap.objs.size)
  refine codeAny_mono (code_set_led1 src (E := E) (Q₁ := fun v s1 => v = .ref s.heap.objs.size ∧ s1 = { s with heap := s.heap.push (sObj "set" (#[], 0, .fresh 0 0 (!w.params.followText "set-order"))) }) ⟨rfl, rfl⟩) fun r s1 hr => ?_
  match r, hr with
  | .error _, hr => exact hr
  | .ok (.ret v), ⟨e1, e2⟩ =>
    subst e1 e2
    repeat (any_goals (first | assumption | wp_step))
    refine codeAny_mono (codeAny_call_builtin (R := wants (fun v s2 => v = .none ∧ ∃ h' tk D l, s2 = { s with heap := h', toks := tk } ∧ (∀ b o, s.heap.get? b = some o → h'.get? b = some o) ∧ h'.get? s.heap.objs.size = some (sObj "set" D) ∧ Has P w D l ∧ (∀ x, x ∈ l ↔ mem x)) E)
      PySem.F.called_set.init.plain PySem.F.entry_set_init (PySem.check_set_init_1 kind ?_)) fun r2 s2 hr2 => ?_
    · unfold Builtin.«set.__init__» noKeywords
      generalize hU : Builtin.Frozenset.updateFrom "set.__init__" = U
      wp_walk
      subst hU
      refine run _ _ _ (by simp) fun h' tk D l k1 k2 k3 k4 => ?_
      show wpAny _ _ _ _ _ _
      first
        | exact wpAny_pure ⟨rfl, h', tk, D, l, rfl, k1, k2, k3, k4⟩
        | exact wpAny_pure (wpAny_pure ⟨rfl, h', tk, D, l, rfl, k1, k2, k3, k4⟩)
        | (wp_walk
           exact ⟨rfl, h', tk, D, l, rfl, k1, k2, k3, k4⟩)
    · match r2, hr2 with
      | .error _, hr2 => exact hr2
      | .ok (.ret v), ⟨e1, h', tk, D, l, e2, k1, k2, k3, k4⟩ =>
        subst e1 e2
        repeat (any_goals (first | assumption | wp_step))
        exact q _ _ _ _ k1 k2 k3 k4
end
end L2.Cal
end

section
set_option maxRecDepth 100000
set_option maxHeartbeats 4000000
namespace L2.Cal
open PySem PySem.Spec PyProof.Rows PySem.Froz L2
section
variable {P : Program} {w : World} {A : Around} {E : Value → Shared → Prop} {s : Shared}
theorem are_length {vs : List Value} {ss : List Str} (h : StrsAre vs ss) : vs.length = ss.length := by
  induction h with
  | nil => rfl
  | cons _ _ _ ih => simp [ih]
theorem are_at {vs : List Value} {ss : List Str} (h : StrsAre vs ss) : ∀ (i : Nat) (v : Value), vs[i]? = some v → ∃ t, v = .str (ss.getD i ⟨#[]⟩) t := by
  induction h with
  | nil => intro i v z; simp at z
  | cons y t _ ih =>
    intro i v z
    cases i with
    | zero => exact ⟨t, (Option.some.inj z).symm⟩
    | succ i => exact ih i v z
/-- set(xs), xs a list of texts -/
theorem set_list {b : Addr} {items : Array Value} {ss : List Str} {Q : Value → Shared → Prop} (hh : A.handled = none) (at_ : s.heap.IsList b items) (are : StrsAre items.toList ss) (few : ss.length + 1 < scanBound)
    (q : ∀ (h' : Heap) (tk : Nat) (D : SD) (l : List Str), (∀ b o, s.heap.get? b = some o → h'.get? b = some o) → h'.get? s.heap.objs.size = some (sObj "set" D) → Has P w D l → (∀ x, x ∈ l ↔ x ∈ ss) → Q (.ref s.heap.objs.size) { s with heap := h', toks := tk }) :
    wpAny (model P w) A (call (.type "set") [.ref b]) Q E s := by
  refine fresh_set (mem := fun x => x ∈ ss) (fun A' E' Q' hA k => ?_) q
  have h2 : A'.handled = none := hA.trans hh
  obtain ⟨ol, hol, hcl, nl, hdl⟩ := at_
  have lt : b < s.heap.objs.size := Heap.lt_size hol
  obtain ⟨ocls, odict, odata, oslots⟩ := ol
  simp only at hcl hdl
  subst hcl; subst hdl
  have there : (s.heap.push (sObj "set" (#[], 0, .fresh 0 0 (!w.params.followText "set-order")))).get? b = some { cls := .type "list", dict := odict, data := .seq items nl, slots := oslots } := Heap.get?_push_of_some _ hol
  have no1 := PySem.F.sub_list_set
  have no2 := PySem.F.sub_list_frozenset
  have no3 : (Value.type "list" == Value.type "dict") = false := by decide
  have isl : (s.heap.push (sObj "set" (#[], 0, .fresh 0 0 (!w.params.followText "set-order")))).IsList b items := ⟨_, there, rfl, nl, rfl⟩
  unfold Builtin.Frozenset.updateFrom
  generalize hI : pyIter = it
  wp_walk
  subst hI
  refine wpAny_pyIter_list isl (wpAny_bind (wpAny_runValue ?_))
  have sz : (s.heap.push (sObj "set" (#[], 0, .fresh 0 0 (!w.params.followText "set-order")))).objs.size = s.heap.objs.size + 1 := Heap.size_push ..
  have off : b ≠ (s.heap.push (sObj "set" (#[], 0, .fresh 0 0 (!w.params.followText "set-order")))).objs.size := by rw [sz]; exact Nat.ne_of_lt (Nat.lt_succ_of_lt lt)
  have n : items.size = ss.length := by rw [← Array.length_toList]; exact are_length are
  refine fill (s := s) (T := "set") (val := fun i => ss.getD i ⟨#[]⟩) (Walks.list (by simp [h2]) _ b off items) (S := s.heap.objs.size) ?_ (fun i v hv => ?_) (by omega) (fun h' tk D l keep at1 H mem => wpAny_pure (k h' tk D l (fun c o z => keep c o (Nat.ne_of_lt (Heap.lt_size z)) (fun m => ?_) z) at1 H fun x => (mem x).trans ?_))
    (items.size - 0) 0 _ _ _ [] rfl (Nat.zero_le _) ⟨⟨_, Heap.get?_push_size _ rfl, rfl, rfl⟩, isl.push _⟩ (fun c o _ _ z => Heap.get?_push_of_some _ (Heap.get?_push_of_some _ z)) (Heap.get?_push_of_some _ (Heap.get?_push_size _ rfl)) (Has.none 0) (fun x => by simp) (Nat.zero_le _)
  · rw [sz]
    intro z
    rcases List.mem_cons.mp z with z | z
    · exact absurd z (Nat.ne_of_lt (Nat.lt_succ_self _))
    · exact absurd (List.mem_singleton.mp z) (Nat.ne_of_gt lt)
  · exact are_at are i v (by rw [Array.getElem?_toList]; exact hv)
  · rw [List.mem_singleton.mp m, sz] at z
    exact absurd (Heap.lt_size z) (Nat.not_lt.mpr (Nat.le_succ _))
  · rw [n]
    constructor
    · rintro ⟨j, hj, e⟩
      rw [List.getD_eq_getElem?_getD, List.getElem?_eq_getElem hj] at e
      exact e ▸ List.getElem_mem hj
    · intro hx
      obtain ⟨j, hj, e⟩ := List.getElem_of_mem hx
      exact ⟨j, hj, by rw [List.getD_eq_getElem?_getD, List.getElem?_eq_getElem hj]; exact e⟩
/-- set(x), x a text -/
theorem set_text {y : Str} {t : Tok} {Q : Value → Shared → Prop} (hh : A.handled = none) (few : y.cps.size + 1 < scanBound)
    (q : ∀ (h' : Heap) (tk : Nat) (D : SD) (l : List Str), (∀ b o, s.heap.get? b = some o → h'.get? b = some o) → h'.get? s.heap.objs.size = some (sObj "set" D) → Has P w D l → (∀ x, x ∈ l ↔ ∃ c ∈ y.cps.toList, x = ⟨#[c]⟩) → Q (.ref s.heap.objs.size) { s with heap := h', toks := tk }) :
    wpAny (model P w) A (call (.type "set") [.str y t]) Q E s := by
  refine fresh_set (mem := fun x => ∃ c ∈ y.cps.toList, x = ⟨#[c]⟩) (fun A' E' Q' hA k => ?_) q
  have h2 : A'.handled = none := hA.trans hh
  unfold Builtin.Frozenset.updateFrom
  refine wpAny_bind (L2.Fz.anySet ?_)
  rw [if_neg Bool.false_ne_true]
  refine wpAny_bind (wpAny_of_eq (typeIs_str s y t) ?_)
  rw [if_neg (by decide)]
  refine wpAny_bind (wpAny_pyIter_str fun o St hW hst => ?_)
  have sz : (s.heap.push (sObj "set" (#[], 0, .fresh 0 0 (!w.params.followText "set-order")))).objs.size = s.heap.objs.size + 1 := Heap.size_push ..
  refine wpAny_bind (wpAny_runValue ?_)
  refine fill (s := s) (T := "set") (val := fun i => ⟨#[y.cps.getD i 0]⟩) (hW _ (by simp [h2])) (S := s.heap.objs.size) ?_ (fun i v hv => ?_) few (fun h' tk D l keep at1 H mem => wpAny_pure (k h' tk D l (fun c o z => keep c o (Nat.ne_of_lt (Heap.lt_size z)) (fun m => ?_) z) at1 H fun x => (mem x).trans ?_))
    y.cps.size 0 _ _ _ [] rfl (Nat.zero_le _) hst (fun c o _ _ z => Heap.get?_push_of_some _ (Heap.get?_push_of_some _ z)) (Heap.get?_push_of_some _ (Heap.get?_push_size _ rfl)) (Has.none 0) (fun x => by simp) (Nat.zero_le _)
  · rw [sz]
    intro z
    exact absurd (List.mem_singleton.mp z) (Nat.ne_of_lt (Nat.lt_succ_self _))
  · obtain ⟨c, u, hc, rfl⟩ := hv
    refine ⟨u, ?_⟩
    rw [Array.getD_eq_getD_getElem?, hc] <;> rfl
  · rw [List.mem_singleton.mp m, sz] at z
    exact absurd (Heap.lt_size z) (Nat.not_lt.mpr (Nat.le_succ _))
  · constructor
    · rintro ⟨j, hj, e⟩
      rw [Array.getD_eq_getD_getElem?, Array.getElem?_eq_getElem hj] at e
      exact ⟨_, by rw [Array.mem_toList_iff]; exact Array.getElem_mem hj, e.symm⟩
    · rintro ⟨c, hc, rfl⟩
      obtain ⟨j, hj, e⟩ := List.getElem_of_mem hc
      rw [Array.length_toList] at hj
      refine ⟨j, hj, ?_⟩
      rw [Array.getD_eq_getD_getElem?, Array.getElem?_eq_getElem hj]
      rw [Array.getElem_toList] at e
      rw [← e] <;> rfl
end
end L2.Cal
end

section
set_option maxRecDepth 100000
set_option maxHeartbeats 4000000
namespace L2.Cal
open PySem PySem.Spec PyProof.Rows PySem.Froz L2
/-! ### texts in order -/
theorem same_of_both : ∀ a b : List Nat, ltCps a b = false → ltCps b a = false → a = b
  | [], [], _, _ => rfl
  | [], b :: t, h, _ => by simp [ltCps] at h
  | a :: r, [], _, h => by simp [ltCps] at h
  | a :: r, b :: t, h1, h2 => by
    simp only [ltCps, Bool.or_eq_false_iff, Bool.and_eq_false_imp, decide_eq_false_iff_not, beq_iff_eq] at h1 h2
    have e : a = b := by omega
    subst e
    rw [same_of_both r t (h1.2 rfl) (h2.2 rfl)]
def Below (a b : Str) : Prop := ltCps a.cps.toList b.cps.toList = true
theorem below_of {a b : Str} (h : ltCps b.cps.toList a.cps.toList = false) (n : a ≠ b) : Below a b := by
  cases e : ltCps a.cps.toList b.cps.toList with
  | true => exact e
  | false =>
    have z := same_of_both _ _ e h
    exact absurd (by cases a; cases b; exact congrArg Str.mk (Array.toList_inj.mp z)) n
/-- each text is below the next one -/
def Climbs : List Str → Prop
  | a :: b :: r => Below a b ∧ Climbs (b :: r)
  | _ => True
theorem climbs_rising : ∀ (r : List Str) (p : Str), risingS p r = true → (p :: r).Nodup → Climbs (p :: r)
  | [], _, _, _ => trivial
  | x :: r, p, h, n => by
    simp only [risingS, Bool.and_eq_true, Bool.not_eq_true'] at h
    have n2 := List.nodup_cons.mp n
    exact ⟨below_of h.1 fun e => n2.1 (e ▸ List.mem_cons_self ..), climbs_rising r x h.2 n2.2⟩
theorem climbs_sorted {ys : List Str} (h : sortedS ys = true) (n : ys.Nodup) : Climbs ys := by
  cases ys with
  | nil => trivial
  | cons x r => exact climbs_rising r x h n
theorem Climbs.at {ys : List Str} : ∀ (i : Nat) (a b : Str), Climbs ys → ys[i]? = some a → ys[i + 1]? = some b → Below a b := by
  induction ys with
  | nil => intro i a b _ h; simp at h
  | cons x r ih =>
    intro i a b c h1 h2
    cases r with
    | nil => simp at h2
    | cons y r =>
      cases i with
      | zero =>
        simp at h1 h2
        subst h1 h2
        exact c.1
      | succ i => exact ih i a b c.2 (by simpa using h1) (by simpa using h2)
/-! ### as many and all there -/
theorem perm_of_into {α : Type} : ∀ (l m : List α), l.Nodup → (∀ x, x ∈ l → x ∈ m) → m.length ≤ l.length → m.Perm l
  | [], m, _, _, h => by
    have : m = [] := List.length_eq_zero_iff.mp (Nat.le_zero.mp h)
    subst this
    exact .nil
  | a :: l, m, n, sub, h => by
    obtain ⟨m1, m2, rfl⟩ := List.append_of_mem (sub a (List.mem_cons_self ..))
    have n2 := List.nodup_cons.mp n
    refine List.perm_middle.trans (.cons a (perm_of_into l (m1 ++ m2) n2.2 (fun x hx => ?_) ?_))
    · have z := sub x (List.mem_cons_of_mem _ hx)
      have ne : x ≠ a := fun e => n2.1 (e ▸ hx)
      rcases List.mem_append.mp z with z | z
      · exact List.mem_append_left _ z
      · rcases List.mem_cons.mp z with z | z
        · exact absurd z ne
        · exact List.mem_append_right _ z
    · simp only [List.length_append, List.length_cons] at h ⊢
      omega
section
variable {P : Program} {w : World} {A : Around} {E : Value → Shared → Prop} {s : Shared}
def txtOf : Value → Str | .str k _ => k | _ => ⟨#[]⟩
theorem are_of : ∀ (l : List Value), (∀ v ∈ l, ∃ k u, v = Value.str k u) → StrsAre l (l.map txtOf)
  | [], _ => .nil
  | v :: l, h => by
    obtain ⟨k, u, rfl⟩ := h v (List.mem_cons_self ..)
    exact .cons k u (are_of l fun x hx => h x (List.mem_cons_of_mem _ hx))
theorem Has.vals {D : SD} {l : List Str} (H : Has P w D l) : (∀ v ∈ D.1.toList.map (·.2), ∃ k u, v = Value.str k u) ∧ ((D.1.toList.map (·.2)).map txtOf).Perm l := by
  have el : ∀ e ∈ D.1.toList, ∃ k u, e.2 = Value.str k u ∧ (strKind P w).is k e.2 = true := fun e he => by
    obtain ⟨⟨k, hk, _⟩, _⟩ := H.ok.el e he
    obtain ⟨u, hu⟩ := Value.isStrOf_shape (show Value.isStrOf k e.2 = true from hk)
    exact ⟨k, u, hu, hk⟩
  refine ⟨fun v hv => ?_, perm_of_into _ _ H.one (fun x hx => ?_) ?_⟩
  · obtain ⟨e, he, rfl⟩ := List.mem_map.mp hv
    obtain ⟨k, u, h1, _⟩ := el e he
    exact ⟨k, u, h1⟩
  · obtain ⟨e, he, h1⟩ := (H.ok.mem x).mp hx
    obtain ⟨u, hu⟩ := Value.isStrOf_shape (show Value.isStrOf x e.2 = true from h1)
    exact List.mem_map.mpr ⟨e.2, List.mem_map.mpr ⟨e, he, rfl⟩, by rw [hu] <;> rfl⟩
  · rw [List.length_map, List.length_map, Array.length_toList]
    exact Nat.le_of_eq H.ok.sz
/-- sorted(x) of what gives texts -/
theorem sort_texts {src : Value} {good : Shared → List Str → Prop} {Q : Value → Shared → Prop} (few : ∀ s1 ss, good s1 ss → ss.length < 64)
    (col : ∀ (E' : Value → Shared → Prop) (Q' : List Value → Shared → Prop), (∀ s1 vs ss, good s1 ss → StrsAre vs ss → Q' vs s1) → wpAny (model P w) A.in1 (collect src) Q' E' s)
    (q : ∀ s1 s' (out : Array Value) (c : Nat) (ys ss : List Str), good s1 ss → (∀ b o, s1.heap.get? b = some o → s'.heap.get? b = some o) → s'.gens = s1.gens → s'.os = s1.os → s'.heap.get? s1.heap.objs.size = some (seqObj "list" out c) → StrsAre out.toList ys → ys.Perm ss → sortedS ys = true → Q (.ref s1.heap.objs.size) s') :
    wpAny (model P w) A (call (.builtin "sorted") [src]) Q E s := by
  refine Calls.call_function_entry kind_sorted plain_sorted entry_sorted (args_sorted1 _) ?_
  unfold Builtin.«sorted»
  refine wpAny_bind (m := checkCount "sorted" 1 1 _) (wpAny_pure (wpAny_bind (col _ _ fun s1 vs ss ok are => ?_)))
  have n : vs.length = ss.length := are_length are
  have lt := few s1 ss ok
  refine wpAny_bind (wpAny_newList ?_ (by rw [n, sizeLine_eq]; omega))
  have at1 : (s1.heap.push (seqObj "list" vs.toArray 0)).get? s1.heap.objs.size = some (seqObj "list" vs.toArray 0) := Heap.get?_push_size _ rfl
  refine wpAny_bind (wpAny_holding (wpAny_call_entry slot_list_sort ⟨_, at1, rfl⟩ entry_list_sort
    (list_sort_treeK strKind_oneLt (s := { s1 with heap := s1.heap.push (seqObj "list" vs.toArray 0) }) at1 are.keysOf (fun v1 v2 rest e => keyKind_strs (by rw [← e]; exact are)) (by rw [n]; exact lt) fun st' hp hs => ⟨_, rfl, ?_⟩) (args_list_sort _)))
  obtain ⟨ys, h1, h2, h3⟩ := sorted_out_str are hp hs
  obtain ⟨c, hc⟩ := sortedHeap_at (vs := vs) (out := (arrOf st').map (·.2)) at1
  refine wpAny_pure ⟨_, rfl, q s1 _ _ c ys ss ok (fun b o z1 => ?_) rfl rfl hc h1 h2 h3⟩
  have lt1 := Heap.lt_size z1
  show (sortedHeap (s1.heap.push (seqObj "list" vs.toArray 0)) s1.heap.objs.size vs _).get? b = some o
  rw [sortedHeap_old (Nat.ne_of_lt lt1) (by rw [size_push']; exact Nat.lt_succ_of_lt lt1)]
  exact Heap.get?_push_of_some _ z1
/-- sorted(a set of texts) -/
theorem sort_set {a : Addr} {D : SD} {l : List Str} {Q : Value → Shared → Prop} (hh : A.handled = none) (ho : s.heap.get? a = some (sObj "set" D)) (H : Has P w D l) (few : l.length < 64)
    (q : ∀ s' p (out : Array Value) (c : Nat) (ys : List Str), (∀ b o, s.heap.get? b = some o → s'.heap.get? b = some o) → s'.gens = s.gens → s'.os = s.os → s.heap.objs.size ≤ p → s'.heap.get? p = some (seqObj "list" out c) → StrsAre out.toList ys → ys.Perm l → Climbs ys → Q (.ref p) s') :
    wpAny (model P w) A (call (.builtin "sorted") [.ref a]) Q E s := by
  obtain ⟨v1, v2⟩ := H.vals
  refine sort_texts (good := fun s1 ss => ss.Perm l ∧ (∀ b o, s.heap.get? b = some o → s1.heap.get? b = some o) ∧ s.heap.objs.size ≤ s1.heap.objs.size ∧ s1.gens = s.gens ∧ s1.os = s.os) (fun s1 ss h => by rw [h.1.length_eq]; exact few) (fun E' Q' k => ?_)
    fun s1 s' out c ys ss ⟨ok, k1, z, g1, o1⟩ k g o at1 are pm so => q s' _ out c ys (fun b o e => k b o (k1 b o e)) (g.trans g1) (o.trans o1) z at1 are (pm.trans ok) (climbs_sorted so ((pm.trans ok).nodup_iff.mpr H.one))
  obtain ⟨es, ep, t⟩ := D
  have sz : es.size = l.length := H.ok.sz
  refine collect_set (A := A.in1) (by simpa using hh) ⟨_, ho, rfl, rfl⟩ H.ok.fit (by show es.size < scanBound; unfold scanBound; omega) H.way.ris H.way.led fun s1 vs k1 z g1 o1 pm => ?_
  exact k s1 vs _ ⟨(pm.map txtOf).trans v2, k1, z, g1, o1⟩ (are_of vs fun v hv => v1 v (pm.mem_iff.mp hv))
/-- the signs of a text -/
theorem are_signs {y : Str} {acc : Array Value} (h : ItemsOf (SignAt y) acc y.cps.size) : StrsAre acc.toList (signs y) := by
  have z : acc.toList.map txtOf = signs y := by
    apply List.ext_getElem?
    intro i
    unfold signs
    rw [List.getElem?_map, List.getElem?_map, Array.getElem?_toList, Array.getElem?_toList]
    cases e : acc[i]? with
    | none =>
      have n : acc.size ≤ i := Array.getElem?_eq_none_iff.mp e
      rw [h.1] at n
      rw [Array.getElem?_eq_none_iff.mpr n] <;> rfl
    | some v =>
      obtain ⟨c, u, hc, rfl⟩ := h.2 i v e
      rw [hc] <;> rfl
  rw [← z]
  refine are_of _ fun v hv => ?_
  obtain ⟨i, hi, e⟩ := List.getElem_of_mem hv
  obtain ⟨c, u, _, z⟩ := h.2 i v (by rw [← Array.getElem?_toList, List.getElem?_eq_getElem hi, e])
  exact ⟨_, u, z⟩
end
section
variable {X : Cx}
theorem inv_list {pins : List (Addr × Obj)} {σ : St} {H : Hp} {s s' : Shared} {p : Addr} {out : Array Value} {c : Nat} {ys : List Str} (I : Inv X pins σ H s) (k : ∀ b o, s.heap.get? b = some o → s'.heap.get? b = some o) (g : s'.gens = s.gens) (o : s'.os = s.os) (z : s.heap.objs.size ≤ p)
    (at1 : s'.heap.get? p = some (seqObj "list" out c)) (are : StrsAre out.toList ys) (few : ys.length < 64) : Inv X pins σ (upd H p (.lst (ys.map V.str))) s' ∧ H p = none := by
  have n : H p = none := I.hok.fresh z
  have len : (ys.map V.str).length ≤ sizeLine := by rw [List.length_map, sizeLine_eq]; omega
  have J : Inv X pins σ (upd H p (.lst (ys.map V.str))) { s with heap := s'.heap, gens := s'.gens, drawn := s'.drawn, toks := s'.toks } :=
    I.call (ch := []) (Un.laid k z n) (I.hok.laid k z ⟨len, out.toList, c, vals_of_strs are, at1⟩) (by rw [g]; exact I.bare) (fun _ z => nomatch z)
  have e : s' = { s with heap := s'.heap, gens := s'.gens, drawn := s'.drawn, toks := s'.toks } := by
    cases s'
    cases s
    cases o
    rfl
  rw [e]
  exact ⟨J, n⟩
/-- a list or a tuple of texts: sorted(set(xs)) -/
def tSortedSet (K : PySem.W.Frag) (ta : TE) : TE := fun σ H Q => ta σ H fun x H1 => ∃ (l : Addr) (xs : List Str), x = V.ref l ∧ SqL K H1 l (xs.map V.str) ∧ xs.length < 64 ∧
  ∀ (ys : List Str) (p : Addr), Climbs ys → ys.Nodup → (∀ x, x ∈ ys ↔ x ∈ xs) → H1 p = none → Q (.ref p) (upd H1 p (.lst (ys.map V.str)))
theorem pe_sortedSet {a : Expr} {ta : TE} {p p2 q pos : Pos} (hc : X.calm = true) (hg : Gl X "sorted") (hm : X.mg "sorted" = none) (hg2 : Gl X "set") (hm2 : X.mg "set" = none) (ha : PE X a ta)
    (na : starEach [a] X.env = (false, eval a X.env) :: starEach [] X.env := by rfl) : PE X (.Call (.Name "sorted" p) [.Call (.Name "set" p2) [a] [] q] [] pos) (tSortedSet X.K ta) := by
  refine ⟨fun pins s σ H Q I h => Call_ (ld_blt I hg hm PyProof.Rows.boot_sorted (PyProof.Rows.callWith_builtin1 (PyProof.Rows.args_cons ?_ rfl) rfl rfl))⟩
  refine Call_ (ld_blt I hg2 hm2 PyProof.Rows.boot_set (PyProof.Rows.callWith_type1 (PyProof.Rows.args_cons (thn (ha.run pins s σ H _ I h) fun v s1 ⟨x, H1, I1, r1, q1⟩ => PyProof.Rows.args_nil ?_) na) na rfl))
  obtain ⟨l, xs, rfl, hq, few, fin⟩ := q1
  cases r1
  obtain ⟨its, r, pl, _⟩ := I1.list hq
  refine set_list (I1.ok.hd hc) pl.isList (by simpa using r.strs) (by unfold scanBound; omega) fun h' tk D L k1 at1 S mem => PyProof.Rows.args_nil ?_
  have I2 : Inv X pins σ H1 { s1 with heap := h', toks := tk } := I1.kept k1
  have short : L.length < 64 := by
    refine Nat.lt_of_le_of_lt ?_ few
    exact (List.Nodup.length_le_of_subset S.one fun x hx => (mem x).mp hx)
  refine sort_set (I2.ok.hd hc) at1 S short fun s' b out c ys k g o z at2 are pm cl => ?_
  obtain ⟨J, n⟩ := inv_list I2 k g o z at2 are (by rw [pm.length_eq]; exact short)
  exact ⟨.ref b, _, J, rfl, fin ys b cl (pm.nodup_iff.mpr S.one) (fun x => pm.mem_iff.trans (mem x)) n⟩
/-- len(set(y)), y a text -/
def tLenSetS (ta : TE) : TE := fun σ H Q => ta σ H fun x H1 => ∃ y : Str, x = .str y ∧ y.cps.size ≤ 1000 ∧ ∀ l : List Str, l.Nodup → (∀ x, x ∈ l ↔ ∃ c ∈ y.cps.toList, x = ⟨#[c]⟩) → Q (.int l.length) H1
theorem pe_lenSetS {a : Expr} {ta : TE} {p p2 q pos : Pos} (hc : X.calm = true) (hg : Gl X "len") (hm : X.mg "len" = none) (hg2 : Gl X "set") (hm2 : X.mg "set" = none) (ha : PE X a ta)
    (na : starEach [a] X.env = (false, eval a X.env) :: starEach [] X.env := by rfl) : PE X (.Call (.Name "len" p) [.Call (.Name "set" p2) [a] [] q] [] pos) (tLenSetS ta) := by
  refine ⟨fun pins s σ H Q I h => Call_ (ld_blt I hg hm PySem.boot_len (PyProof.Rows.callWith_builtin1 (PyProof.Rows.args_cons ?_ rfl) rfl rfl))⟩
  refine Call_ (ld_blt I hg2 hm2 PyProof.Rows.boot_set (PyProof.Rows.callWith_type1 (PyProof.Rows.args_cons (thn (ha.run pins s σ H _ I h) fun v s1 ⟨x, H1, I1, r1, q1⟩ => PyProof.Rows.args_nil ?_) na) na rfl))
  obtain ⟨y, rfl, few, fin⟩ := q1
  obtain ⟨t, rfl⟩ := r1
  refine set_text (I1.ok.hd hc) (by unfold scanBound; omega) fun h' tk D L k1 at1 S mem => PyProof.Rows.args_nil ?_
  have I2 : Inv X pins σ H1 { s1 with heap := h', toks := tk } := I1.kept k1
  have short : D.1.size = L.length := S.ok.sz
  have le : L.length ≤ y.cps.size := by
    have z := List.Nodup.length_le_of_subset S.one (l₂ := y.cps.toList.map fun c => (⟨#[c]⟩ : Str)) fun x hx => by
      obtain ⟨c, hc, rfl⟩ := (mem x).mp hx
      exact List.mem_map.mpr ⟨c, hc, rfl⟩
    simpa using z
  refine call_len_set at1 ⟨rfl, rfl, rfl⟩ rfl S.ok.fit (by rw [short] <;> omega) ⟨.int L.length, H1, I2.tok _, ⟨_, by rw [short]⟩, fin L S.one mem⟩
/-- sorted(y), y a text -/
def rSortText : List V → Hp → VK → Prop := fun vs H Q => ∃ y : Str, vs = [.str y] ∧ y.cps.size < 64 ∧ ∀ (ys : List Str) (p : Addr), ys.Perm (signs y) → sortedS ys = true → H p = none → Q (.ref p) (upd H p (.lst (ys.map V.str)))
theorem cr_sortText (hc : X.calm = true) : CallR X (.builtin "sorted") rSortText := by
  intro pins s σ H vs us Q I r h
  obtain ⟨y, rfl, few, q⟩ := h
  cases r with
  | cons r rr =>
    cases rr
    obtain ⟨t, rfl⟩ := r
    refine sort_texts (good := fun s1 ss => ss = signs y ∧ (∀ b o, s.heap.get? b = some o → s1.heap.get? b = some o) ∧ s1.gens = s.gens ∧ s1.drawn = s.drawn ∧ s1.os = s.os) (fun s1 ss h => by rw [h.1, signs_length]; exact few) (fun E' Q' k => ?_)
      fun s1 s' out c ys ss ⟨e, k1, g1, d1, o1⟩ k g o at1 are pm so => ?_
    · exact wpAny_collect_str (by simpa using I.ok.hd hc) y t (fun s1 acc k1 g d o it => k s1 acc.toList _ ⟨rfl, k1, g, d, o⟩ (are_signs it)) (by rw [sizeLine_eq]; omega)
    · subst e
      have I1 : Inv X pins σ H s1 := by
        have z : s1 = { s with heap := s1.heap, toks := s1.toks } := by
          cases s1
          cases s
          cases g1
          cases d1
          cases o1
          rfl
        rw [z]
        exact I.kept k1
      obtain ⟨J, n⟩ := inv_list I1 k g o (Nat.le_refl _) at1 are (by rw [pm.length_eq, signs_length]; exact few)
      exact ⟨.ref _, _, J, rfl, q ys _ pm so n⟩
/-- list(y), y a text -/
def rListText : List V → Hp → VK → Prop := fun vs H Q => ∃ y : Str, vs = [.str y] ∧ y.cps.size ≤ 1000 ∧ ∀ p : Addr, H p = none → Q (.ref p) (upd H p (.lst ((signs y).map V.str)))
theorem cr_listText (hc : X.calm = true) : CallR X (.type "list") rListText := by
  intro pins s σ H vs us Q I r h
  obtain ⟨y, rfl, few, q⟩ := h
  cases r with
  | cons r rr =>
    cases rr
    obtain ⟨t, rfl⟩ := r
    refine call_list_str (I.ok.hd hc) y t (fun h' tk acc c k at1 it => ?_) (by rw [sizeLine_eq]; omega)
    have are := are_signs it
    have len : ((signs y).map V.str).length ≤ sizeLine := by
      rw [List.length_map, signs_length, sizeLine_eq]
      show y.cps.size ≤ _
      omega
    exact ⟨.ref s.heap.objs.size, _, I.laid (t' := tk) k (Nat.le_refl _) (show ObjOk X.prog X.w _ h' _ (.lst ((signs y).map V.str)) from ⟨len, acc.toList, c, vals_of_strs are, at1⟩), rfl, q _ (I.hok.fresh (Nat.le_refl _))⟩
end
end L2.Cal
end

section
set_option maxRecDepth 100000
set_option maxHeartbeats 4000000
namespace L2.Cal
open PySem PySem.Spec PyProof.Rows L2
theorem app_cps (a b : Str) : (a ++ b).cps.toList = a.cps.toList ++ b.cps.toList := by
  show (Array.append _ _).toList = _
  simp
theorem sign_cps (a : Str) (c : Nat) : (a ++ (⟨#[c]⟩ : Str)).cps.toList = a.cps.toList ++ [c] := app_cps _ _
theorem Jar.keep {H H' : Hp} {j p : Addr} (J : Jar H j) (n : H p = none) (k : ∀ b o, b ≠ p → H b = some o → H' b = some o) : Jar H' j := by
  obtain ⟨d, s, c, e, r⟩ := J
  exact ⟨d, s, c, k _ _ (fun z => by rw [z, n] at e; cases e) e, r⟩
theorem seq_in {r : Int} {n : Nat} (h0 : 0 ≤ r) (h1 : r < n) : seqIndex? r n = some r.toNat := by
  unfold seqIndex?
  dsimp only
  rw [if_neg (by omega : ¬ r < 0), if_pos (by rw [Bool.and_eq_true]; exact ⟨decide_eq_true h0, decide_eq_true h1⟩)]
theorem erase_map {α β : Type} (f : α → β) : ∀ (l : List α) (k : Nat), (l.map f).eraseIdx k = (l.eraseIdx k).map f
  | [], _ => rfl
  | _ :: _, 0 => rfl
  | a :: l, k + 1 => congrArg (f a :: ·) (erase_map f l k)
theorem erase_perm {α : Type} : ∀ {l : List α} {k : Nat} (h : k < l.length), ([l[k]] ++ l.eraseIdx k).Perm l
  | a :: l, 0, _ => .refl _
  | a :: l, k + 1, h => (List.Perm.swap a _ _).trans (.cons a (erase_perm (l := l) (Nat.lt_of_succ_lt_succ h)))
def one (c : Nat) : Str := ⟨#[c]⟩
theorem join_signs (z : Str) : Txt.join (PySem.Str.ofString "") (signs z) = z := by
  have e : Txt.join (PySem.Str.ofString "") (signs z) = PySem.Str.join (PySem.Str.ofString "") (signs z) := eq_of_beq (join_plain_closes _ _)
  rw [e, show PySem.Str.ofString "" = (⟨#[]⟩ : Str) by decide +kernel]
  exact join_nil_signs z
theorem ones_back {ys : List Str} {cs : List Nat} (h : ys.Perm (cs.map one)) : ∃ z : Str, ys = signs z ∧ z.cps.toList.Perm cs := by
  have g : (cs.map one).map (fun s => s.cps.getD 0 0) = cs := by
    rw [List.map_map]
    exact (List.map_congr_left fun c _ => rfl).trans (List.map_id _)
  refine ⟨⟨(ys.map fun s => s.cps.getD 0 0).toArray⟩, ?_, ?_⟩
  · unfold signs
    dsimp only
    rw [List.map_map]
    refine (List.map_id' ys).symm.trans (List.map_congr_left fun s hs => ?_)
    obtain ⟨c, _, rfl⟩ := List.mem_map.mp (h.mem_iff.mp hs)
    rfl
  · dsimp only
    have := h.map (fun s => s.cps.getD 0 0)
    rw [g] at this
    exact this
/-- letters, each once -/
def Lett (z : Str) : Prop := z.cps.toList.Nodup ∧ ∀ c ∈ z.cps.toList, 97 ≤ c ∧ c ≤ 122
theorem Lett.perm {y z : Str} (h : Lett y) (p : z.cps.toList.Perm y.cps.toList) : Lett z := ⟨p.nodup_iff.mpr h.1, fun c hc => h.2 c (p.mem_iff.mp hc)⟩
theorem sum_ones : ∀ l : List Nat, (l.map fun _ => 1).sum = l.length
  | [] => rfl
  | a :: l => by rw [List.map_cons, List.sum_cons, sum_ones l, List.length_cons, Nat.add_comm]
theorem len_app (a b : Str) : (a ++ b).length = a.length + b.length := by
  show (a ++ b).cps.size = a.cps.size + b.cps.size
  rw [← Array.length_toList, app_cps, List.length_append, Array.length_toList, Array.length_toList]
theorem swap_perm (x : Str) (a : Nat) (h : a + 1 < x.cps.size) :
    (cutS x none (some (a : Int)) ++ ((⟨#[x.cps.toList[a + 1]'(by rw [Array.length_toList]; omega)]⟩ : Str) ++ (⟨#[x.cps.toList[a]'(by rw [Array.length_toList]; omega)]⟩ : Str)) ++ cutS x (some ((a : Int) + 2)) none).cps.toList.Perm x.cps.toList := by
  have sz : x.cps.toList.length = x.length := Array.length_toList
  have e1 : (cutS x none (some (a : Int))).cps.toList = x.cps.toList.take a := by
    unfold cutS
    rw [HT.sIx_none, show HT.sIx x.length x.length (some (a : Int)) = min a x.length from HT.sIx_nat _ _ a]
    have : min a x.length = a := Nat.min_eq_left (by show a ≤ x.cps.size; omega)
    rw [this]
    simp
  have e2 : (cutS x (some ((a : Int) + 2)) none).cps.toList = x.cps.toList.drop (a + 2) := by
    unfold cutS
    rw [HT.sIx_none, show HT.sIx x.length 0 (some ((a : Int) + 2)) = min (a + 2) x.length from HT.sIx_nat _ _ (a + 2)]
    have : min (a + 2) x.length = a + 2 := Nat.min_eq_left (by show a + 2 ≤ x.cps.size; omega)
    rw [this]
    dsimp only
    rw [List.take_of_length_le]
    rw [List.length_drop, sz]
    exact Nat.le_refl _
  rw [app_cps, app_cps, app_cps, e1, e2]
  have d1 : x.cps.toList.drop a = x.cps.toList[a]'(by rw [sz]; show a < x.cps.size; omega) :: x.cps.toList[a + 1]'(by rw [sz]; exact h) :: x.cps.toList.drop (a + 2) := by
    rw [List.drop_eq_getElem_cons (by rw [sz]; show a < x.cps.size; omega), List.drop_eq_getElem_cons (by rw [sz]; exact h)]
  refine .trans ?_ (List.Perm.of_eq (List.take_append_drop a x.cps.toList))
  rw [d1, List.append_assoc]
  exact List.Perm.append_left _ (.swap _ _ _)
/-- a lot of orders of the letters of y -/
structure Lot (ys : List Str) (y : Str) : Prop where
  up : Climbs ys
  one : ys.Nodup
  some : 0 < ys.length
  of : ∀ z, z ∈ ys → z.cps.toList.Perm y.cps.toList
end L2.Cal
end

section
set_option maxRecDepth 100000
set_option maxHeartbeats 4000000
namespace L2.Cal
open PySem PySem.Spec PyProof.Rows L2
def topS (i : Nat) : Stmt := PySem.Challenge.pw_calmlists_k60_whole_fewest_orders_left_o.main.body.getD i (.Pass ⟨0, 0, 0, 0⟩)
abbrev sOrg : Stmt := topS 37
abbrev sSip : Stmt := topS 38
theorem scOrg : FnScope ["_law_script", "_law_turn", "_law_own", "_law_state", "_law_cell"] ["_law_script", "_law_turn"] (defScope sOrg) := ⟨rfl, rfl, rfl, by decide +kernel, rfl, by decide +kernel, by decide +kernel⟩
theorem scSip : FnScope ["_law_creek", "_law_size", "_law_figure", "_law_state"] ["_law_creek", "_law_size"] (defScope sSip) := ⟨rfl, rfl, rfl, by decide +kernel, rfl, by decide +kernel, by decide +kernel⟩
structure Txt (mg : Str → Option Value) : Prop where
  b_int : mg "int" = none
  b_len : mg "len" = none
  b_abs : mg "abs" = none
  b_range : mg "range" = none
  b_repr : mg "repr" = none
  b_max : mg "max" = none
  b_min : mg "min" = none
  b_all : mg "all" = none
  b_list : mg "list" = none
  b_sorted : mg "sorted" = none
  b_set : mg "set" = none
  b_tuple : mg "tuple" = none
  b_str : mg "str" = none
  b_bool : mg "bool" = none
  b_isinstance : mg "isinstance" = none
  b_enumerate : mg "enumerate" = none
  b_super : mg "super" = none
/-- a number below a bound, from a creek (which is a jar) -/
def spSip : Sp := fun vs H Q _ => ∃ (j : Addr) (w : Int), vs = [.ref j, .int w] ∧ Jar H j ∧ 0 < w ∧ w < 1073741824 ∧ ∀ (r : Int) (H' : Hp), 0 ≤ r → r < w → Kp j H H' → Jar H' j → Q (.int r) H'
section
variable {P : Program} {w : World} {K : PySem.W.Frag} {mg : Str → Option Value} {base : Heap}
theorem ok_sip {f : Addr} {fd : FuncData} (D : DefAt K mg "_law_sip" sSip ["_law_creek", "_law_size"] f fd) (bd : mg "divmod" = none) (T : Txt mg) : FnOk P w K mg base CX0 1 f fd ["_law_creek", "_law_size"] spSip := by
  refine D.F.ok scSip (fun vs H Q E h => ?_) (fun cdv A outer sh H vs Q E hr h => ?_)
  · obtain ⟨j, w, rfl, _⟩ := h
    rfl
  · obtain ⟨j, w, rfl, hj, hw, hw2, q⟩ := h
    refine ⟨_, (pss_cons (ps_if (pt_cmpR op_gt (pe_ix ix_list (pv 0) pe_int (fun _ _ => rfl)) pe_int (nomark _))
       (pss_cons (ps_asg (pe_callB call_divmod (by rfl) bd (by decide +kernel) (pa_cons (pe_ix ix_list (pv 0) pe_int (fun _ _ => rfl)) (pa_cons (pv 1) pa_nil))) (pg_tup rfl (pgs_cons (pg_sub (pv 0) pe_int L2.set_list) (pgs_cons (pg_name (i := 2) scSip.nd rfl (.inl rfl)) pgs_nil))))
       (pss_one (ps_ret (pv 2)))) pss_nil)
      (pss_cons (ps_asg (pe_op op_add (pe_ix ix_list (pv 0) pe_int (fun _ _ => rfl)) pe_int) (pg_sub (pv 0) pe_int L2.set_list))
      (pss_cons (ps_set (i := 3) scSip.nd rfl (.inl rfl) (pe_op op_mod (pe_callTy call_int1 (by rfl) T.b_int (by decide +kernel) (pa_cons (pe_op op_add (pe_op op_add (pe_op op_mul (pe_ix ix_list (pv 0) pe_int (fun _ _ => rfl)) (pe_op op_add pe_int (pe_op op_mul pe_int (pe_ix ix_list (pv 0) pe_int (fun _ _ => rfl))))) (pe_op op_mul pe_int (pe_ix ix_list (pv 0) pe_int (fun _ _ => rfl)))) pe_int) pa_nil)) pe_int))
      (pss_cons (ps_asg (pe_op op_mod (pe_callTy call_int1 (by rfl) T.b_int (by decide +kernel) (pa_cons (pe_op op_add (pe_op op_add (pe_op op_mul (pv 3) pe_int) (pe_op op_mul pe_int (pe_ix ix_list (pv 0) pe_int (fun _ _ => rfl)))) pe_int) pa_nil)) pe_int) (pg_sub (pv 0) pe_int L2.set_list))
      (pss_one (ps_ret (pe_op op_mod (pe_callTy call_int1 (by rfl) T.b_int (by decide +kernel) (pa_cons (pe_op op_fdiv (pe_ix ix_list (pv 0) pe_int (fun _ _ => rfl)) pe_int) pa_nil)) (pv 1)))))))), ?_⟩
    obtain ⟨d, s, c, ej, h0, h1, h2, h3⟩ := hj
    have i0 : ∀ a b c : Int, atI [V.int a, V.int b, V.int c] 0 = some (.int a) := fun a b c => atI_nat (j := 0) rfl
    have i1 : ∀ a b c : Int, atI [V.int a, V.int b, V.int c] 1 = some (.int b) := fun a b c => atI_nat (j := 1) rfl
    have i2 : ∀ a b c : Int, atI [V.int a, V.int b, V.int c] 2 = some (.int c) := fun a b c => atI_nat (j := 2) rfl
    refine ⟨_, rfl, j, _, _, _, rfl, rfl, SqL.of ej, i0 _ _ _, _, _, rfl, rfl, _, rfl, ite2 (fun e => ?_) (fun e => ?_)⟩
    · have e0 : 0 < d := of_decide_eq_true e
      refine ⟨_, rfl, j, _, _, _, rfl, rfl, SqL.of ej, i0 _ _ _, _, rfl, d, w, rfl, ⟨hw, hw2⟩, fun p np => ?_⟩
      have pj : j ≠ p := ne_of_none ej np
      have ej2 : (upd H p (.tup [.int (d / w), .int (d % w)])) j = some (.lst [.int d, .int s, .int c]) := by rw [upd_ne pj]; exact ej
      refine ⟨p, _, rfl, SqT.of upd_same, rfl, _, _, rfl, _, rfl, j, _, _, 0, rfl, rfl, ej2, rfl, _, _, rfl, rfl, _, rfl, ?_⟩
      exact q _ _ (Int.emod_nonneg _ (by omega)) (Int.emod_lt_of_pos _ hw) ((Kp.new np).trans Kp.jar) (Jar.up (Int.ediv_nonneg (by omega) (by omega)) h1 h2 h3)
    · refine ⟨_, rfl, j, _, _, _, rfl, rfl, SqL.of ej, i2 _ _ _, _, _, rfl, rfl, _, rfl, j, _, _, 2, rfl, rfl, ej, rfl, ?_⟩
      refine ⟨_, rfl, j, _, _, _, rfl, rfl, SqL.of upd_same, i1 _ _ _, _, rfl, j, _, _, _, rfl, rfl, SqL.of upd_same, i2 _ _ _, _, _, rfl, rfl, .inl ⟨by decide, by decide⟩, _, _, rfl, rfl, _, _, rfl, rfl, .inl ⟨by omega, by omega⟩, ?_⟩
      refine ⟨_, rfl, j, _, _, _, rfl, rfl, SqL.of upd_same, i2 _ _ _, _, _, rfl, rfl, .inl ⟨by decide, by decide⟩, _, _, rfl, rfl, _, _, rfl, rfl, .inl ⟨_, rfl, _, _, rfl, rfl, (by show (0:Int) < 2147483543; decide), ?_⟩⟩
      refine ⟨_, rfl, _, _, rfl, rfl, .inr ⟨by decide, by decide⟩, _, rfl, j, _, _, _, rfl, rfl, SqL.of upd_same, i2 _ _ _, _, _, rfl, rfl, .inl ⟨by decide, by decide⟩, _, _, rfl, rfl, _, _, rfl, rfl, .inl ⟨_, rfl, _, _, rfl, rfl, (by show (0:Int) < 2147483489; decide), _, rfl, j, _, _, 1, rfl, rfl, upd_same, rfl, ?_⟩⟩
      refine ⟨_, rfl, j, _, _, _, rfl, rfl, SqL.of upd_same, i1 _ _ _, _, _, rfl, rfl, ⟨by decide, by decide⟩, .inl ⟨_, rfl, _, rfl, _, _, rfl, rfl, hw, ?_⟩⟩
      rw [upd_upd]
      exact q _ _ (Int.emod_nonneg _ (by omega)) (Int.emod_lt_of_pos _ hw) Kp.jar (Jar.up h0 (Int.emod_nonneg _ (by decide)) (by have := Int.emod_lt_of_pos (((s * (50021 + 2 * (c + 1)) + 4007 * (c + 1) + 19) % 2147483543) * 38011 + 13 * (c + 1) + 7) (b := 2147483489) (by decide); omega) (by omega))
end
end L2.Cal
end

section
set_option maxRecDepth 100000
set_option maxHeartbeats 4000000
namespace L2.Cal
open PySem PySem.Spec PyProof.Rows L2
/-- another reading that tells more -/
theorem pe_imp {X : Cx} {e : Expr} {t t' : TE} (h : PE X e t) (m : ∀ σ H Q, t' σ H Q → t σ H Q) : PE X e t' := ⟨fun pins s σ H Q I hq => h.run pins s σ H Q I (m σ H Q hq)⟩
theorem pt_imp {X : Cx} {e : Expr} {t t' : TT} (h : PT X e t) (m : ∀ σ H Q, t' σ H Q → t σ H Q) : PT X e t' := ⟨fun pins s σ H Q I hq => h.run pins s σ H Q I (m σ H Q hq)⟩
theorem seq_key {t u : TS} {D : Ends} {σ : St} {H : Hp} (Pz : St → Hp → Prop) (key : ∀ σ H', Pz σ H' → u D σ H') (go : (∀ σ H', Pz σ H' → u D σ H') → t { D with nx := u D } σ H) : tSeq t u D σ H := go key
end L2.Cal
end

section
set_option maxRecDepth 100000
set_option maxHeartbeats 4000000
namespace L2.Cal
open PySem PySem.Spec PyProof.Rows L2
abbrev sSom : Stmt := topS 39
abbrev sShu : Stmt := topS 40
abbrev sTag : Stmt := topS 41
theorem scSom : FnScope ["_law_creek", "_law_menu"] ["_law_creek", "_law_menu"] (defScope sSom) := ⟨rfl, rfl, rfl, by decide +kernel, rfl, by decide +kernel, by decide +kernel⟩
theorem scShu : FnScope ["_law_creek", "_law_bag", "_law_left", "_law_found", "_law_turn"] ["_law_creek", "_law_bag"] (defScope sShu) := ⟨rfl, rfl, rfl, by decide +kernel, rfl, by decide +kernel, by decide +kernel⟩
theorem scTag : FnScope ["_law_creek", "_law_size", "_law_left", "_law_found", "_law_turn"] ["_law_creek", "_law_size"] (defScope sTag) := ⟨rfl, rfl, rfl, by decide +kernel, rfl, by decide +kernel, by decide +kernel⟩
def spOrg (K : PySem.W.Frag) : Sp := fun vs H Q _ => ∃ (a : Addr) (ns : List Int) (k : Int), vs = [.ref a, .int k] ∧ SqL K H a (ns.map V.int) ∧ ns.length ≤ 63 ∧ 0 ≤ k ∧ k ≤ 100 ∧ (∀ n ∈ ns, Builtin.Int.intBits n ≤ 1048576) ∧
  ∀ H' p, Same H H' → H p = none → Jar H' p → Q (.ref p) H'
/-- one of a list or a tuple -/
def spSom (K : PySem.W.Frag) : Sp := fun vs H Q _ => ∃ (j m : Addr) (xs : List V), vs = [.ref j, .ref m] ∧ Jar H j ∧ m ≠ j ∧ (SqL K H m xs ∨ SqT K H m xs) ∧ 0 < xs.length ∧ xs.length ≤ 1000 ∧ ∀ (i : Nat) (v : V) (H' : Hp), xs[i]? = some v → Kp j H H' → Jar H' j → Q v H'
/-- the signs of a text in another order -/
def spShu : Sp := fun vs H Q _ => ∃ (j : Addr) (y : Str), vs = [.ref j, .str y] ∧ Jar H j ∧ y.cps.size ≤ 100 ∧ ∀ (l : Addr) (z : Str) (H' : Hp), Kp j H H' → Jar H' j → H l = none → H' l = some (.lst ((signs z).map V.str)) → z.cps.toList.Perm y.cps.toList → Q (.ref l) H'
def spTag : Sp := fun vs H Q _ => ∃ (j : Addr) (m : Nat), vs = [.ref j, .int m] ∧ Jar H j ∧ m ≤ 26 ∧ ∀ (z : Str) (H' : Hp), Kp j H H' → Jar H' j → Lett z → sortedS (signs z) = true → z.cps.size = m → Q (.str z) H'
def tOwn (K : PySem.W.Frag) : TE := fun σ H Q => ∃ (a : Addr) (ns : List Int) (k : Int), σ[0]? = some (some (.ref a)) ∧ σ[1]? = some (some (.int k)) ∧ SqL K H a (ns.map V.int) ∧ 0 ≤ k ∧ (∀ n ∈ ns, Builtin.Int.intBits n ≤ 1048576) ∧ ∀ own : Int, Builtin.Int.intBits own ≤ 1048576 → Q (.int own) H
def tDig : TE := fun σ H Q => ∃ own : Int, σ[2]? = some (some (.int own)) ∧ ∀ d : Int, 0 ≤ d → Q (.int d) H
section
variable {P : Program} {w : World} {K : PySem.W.Frag} {mg : Str → Option Value} {base : Heap}
theorem ok_org {f : Addr} {fd : FuncData} (D : DefAt K mg "_law_origin" sOrg ["_law_script", "_law_turn"] f fd) (T : Txt mg) : FnOk P w K mg base CX0 1 f fd ["_law_script", "_law_turn"] (spOrg K) := by
  refine D.F.ok scOrg (fun vs H Q E h => ?_) (fun cdv A outer sh H vs Q E hr h => ?_)
  · obtain ⟨a, ns, k, rfl, _⟩ := h
    rfl
  · obtain ⟨a, ns, k, rfl, hS, hn, h0, h1, bits, q⟩ := h
    refine ⟨_, (pss_cons (ps_set (i := 2) scOrg.nd rfl (.inl rfl) (pe_imp (t' := tOwn K) (pe_ifExp (pt_cmpR op_lt (pv 1) (pe_callB call_len_seq (by rfl) T.b_len (by decide +kernel) (pa_cons (pv 0) pa_nil)) (nomark _)) (pe_ix ix_list (pv 0) (pv 1) (fun _ _ => rfl)) pe_int) ?own))
      (pss_cons (ps_set (i := 3) scOrg.nd rfl (.inl rfl) (pe_op op_add pe_int (pe_op op_mul pe_int (pv 1))))
      (pss_cons (ps_for PassesOwn.never rfl (pi_list (pe_slice sl_list (pv 0) po_none (po_some pe_int))) (pg_name (i := 4) scOrg.nd rfl (.inl rfl))
        (pss_one (ps_set (i := 3) scOrg.nd rfl (.inl rfl) (pe_op op_mod (pe_callTy call_int1 (by rfl) T.b_int (by decide +kernel) (pa_cons (pe_op op_add (pe_op op_add (pe_op op_mul (pv 3) pe_int) (pe_op op_mul (pv 4) pe_int)) pe_int) pa_nil)) pe_int))))
      (pss_one (ps_ret (pe_lstS (pa_cons (pe_imp (t' := tDig) (pe_ifExp (PW.pt (pw_or (pt_cmpR op_lt (pv 2) pe_int (nomark _)) (pw_or1 (pt_cmpR op_ge (pv 2) (pe_op op_pow pe_int pe_int) (nomark _))))) (pe_callB call_abs (by rfl) T.b_abs (by decide +kernel) (pa_cons (pv 2) pa_nil)) pe_int) ?dig)
        (pa_cons (pe_op op_mod (pe_callTy call_int1 (by rfl) T.b_int (by decide +kernel) (pa_cons (pe_op op_add (pe_op op_add (pe_op op_mul (pv 3) pe_int) (pe_op op_mulX (pv 2) (pv 2))) (pe_op op_mul pe_int (pv 1))) pa_nil)) pe_int) (pa_cons pe_int pa_nil))))))))), ?_⟩
    case own =>
      intro σ H Q ⟨a, ns, k, e0, e1, hS, h0, bits, q⟩
      have z0 : Builtin.Int.intBits 0 ≤ 1048576 := by decide
      refine ⟨_, e1, _, e0, a, _, rfl, .inl hS, _, _, rfl, rfl, _, rfl, ite2 (fun e => ?_) (fun e => q 0 z0)⟩
      have e2 : k < (ns.length : Int) := by
        have := of_decide_eq_true e
        rw [List.length_map] at this
        exact this
      have hk : k.toNat < ns.length := by omega
      have hg : atI (ns.map V.int) k = some (.int ns[k.toNat]) := at_of (j := k.toNat) (by omega) (by rw [List.getElem?_map, List.getElem?_eq_getElem hk]; rfl)
      exact ⟨_, e0, _, e1, a, _, _, _, rfl, rfl, hS, hg, q _ (bits _ (List.getElem_mem hk))⟩
    case dig =>
      intro σ H Q ⟨own, e2, q⟩
      refine ⟨_, e2, _, _, rfl, rfl, _, rfl, ite2 (fun e => ?_) (fun e => ?_)⟩
      · have e1 := of_decide_eq_true e
        exact iteT ⟨_, e2, _, rfl, q _ (by split <;> omega)⟩
      · refine ⟨_, e2, _, _, rfl, rfl, ⟨by decide, by decide, by decide⟩, _, _, rfl, rfl, _, rfl, ite2 (fun e => ⟨_, e2, _, rfl, q _ (by split <;> omega)⟩) (fun e => q 0 (by decide))⟩
    refine ⟨a, ns, k, rfl, rfl, hS, h0, bits, fun own bo => ?_⟩
    refine ⟨_, rfl, _, _, rfl, rfl, .inl ⟨by decide, by decide⟩, _, _, rfl, rfl, ?_⟩
    refine ⟨_, rfl, 5, rfl, a, _, rfl, hS, fun p np => ?_⟩
    have s1 : Same H (upd H p (.lst (cutV (ns.map V.int) none (some 5)))) := same_new np
    have ec : cutV (ns.map V.int) none (some 5) = (ns.take 5).map V.int := by
      unfold cutV
      rw [HT.sIx_none, show HT.sIx (ns.map V.int).length (ns.map V.int).length (some 5) = min 5 (ns.map V.int).length from HT.sIx_nat _ _ 5, List.drop_zero, List.map_take]
      simp [List.take_eq_take_iff]
    rw [ec] at s1 ⊢
    refine ⟨p, rfl, ⟨_, SqL.of upd_same⟩, for_list (xs := (ns.take 5).map V.int) (fun i σ H' => ∃ c y4, σ = [some (.ref a), some (.int k), some (.int own), some (.int c), y4] ∧ H' = upd H p (.lst ((ns.take 5).map V.int))) ⟨_, none, rfl, rfl⟩ (fun i σ H' _ hP => ?_) (fun i x σ H' hx hP => ?_) (fun σ H' hP => ?_)⟩
    · obtain ⟨c, y4, rfl, rfl⟩ := hP
      exact SqL.of upd_same
    · obtain ⟨c, y4, rfl, rfl⟩ := hP
      rw [List.getElem?_map] at hx
      obtain ⟨z, hz, rfl⟩ := Option.map_eq_some_iff.mp hx
      exact ⟨_, rfl, _, _, rfl, rfl, .inr ⟨by decide, by decide⟩, _, rfl, _, _, rfl, rfl, .inr ⟨by decide, by decide⟩, _, _, rfl, rfl, _, _, rfl, rfl, .inl ⟨_, rfl, _, _, rfl, rfl, (by show (0:Int) < 2147483543; decide), _, _, rfl, rfl⟩⟩
    · obtain ⟨c, y4, rfl, rfl⟩ := hP
      have wide : CMulX own own := by
        show (Builtin.Int.intBits own : Int) + (Builtin.Int.intBits own : Int) ≤ 134217728
        omega
      refine ⟨own, rfl, fun dg hdg => ⟨_, rfl, _, _, rfl, rfl, .inr ⟨by decide, by decide⟩, _, rfl, _, rfl, _, _, rfl, rfl, wide, _, _, rfl, rfl, _, rfl, _, _, rfl, rfl, .inl ⟨by decide, by decide⟩, _, _, rfl, rfl, .inl ⟨_, rfl, _, _, rfl, rfl, (by show (0:Int) < 2147483543; decide), ?_⟩⟩⟩
      refine ⟨by show 3 ≤ sizeLine; decide, fun p' H' s' np' e' => ?_⟩
      have lo := Int.emod_nonneg (c * 97 + own * own + 53 * k) (b := 2147483543) (by decide)
      have hi := Int.emod_lt_of_pos (c * 97 + own * own + 53 * k) (b := 2147483543) (by decide)
      exact q H' p' (s1.trans s') (s1.free np') ⟨_, _, _, e', hdg, lo, by omega, by decide⟩
theorem ok_som {f fD : Addr} {fd fdD : FuncData} (D : DefAt K mg "_law_some_one" sSom ["_law_creek", "_law_menu"] f fd) (DD : DefAt K mg "_law_sip" sSip ["_law_creek", "_law_size"] fD fdD) (bd : mg "divmod" = none) (T : Txt mg) : FnOk P w K mg base CX0 2 f fd ["_law_creek", "_law_menu"] (spSom K) := by
  have GD : FnOk P w K mg base CX0 1 fD fdD ["_law_creek", "_law_size"] spSip := ok_sip DD bd T
  refine D.F.ok scSom (fun vs H Q E h => ?_) (fun cdv A outer sh H vs Q E hr h => ?_)
  · obtain ⟨j, m, xs, rfl, _⟩ := h
    rfl
  · obtain ⟨j, m, xs, rfl, hj, hm, hx, hl, hl2, q⟩ := h
    refine ⟨_, pss_one (ps_ret (pe_ix ix_seq (pv 1) (pe_call GD (hr.mono (by decide)) (by rfl) DD.g DD.F.kp DD.b .nil pass0 (pa_cons (pv 0) (pa_cons (pe_callB call_len_seq (by rfl) T.b_len (by decide +kernel) (pa_cons (pv 1) pa_nil)) pa_nil))) (fun _ _ => rfl))), ?_⟩
    refine ⟨_, rfl, _, rfl, _, rfl, m, xs, rfl, hx, j, _, rfl, hj, by omega, by omega, fun r H' h0 h1 kp J' => ?_⟩
    have hr' : r.toNat < xs.length := by omega
    have hg : atI xs r = some (xs[r.toNat]) := at_of (j := r.toNat) (by omega) (List.getElem?_eq_getElem hr')
    rcases hx with hx | hx
    · exact .inl ⟨m, _, _, _, rfl, rfl, kp.seqL hm hx, hg, q r.toNat _ _ (List.getElem?_eq_getElem hr') kp J'⟩
    · exact .inr (.inl ⟨m, _, _, _, rfl, rfl, kp.seqT hm hx, hg, q r.toNat _ _ (List.getElem?_eq_getElem hr') kp J'⟩)
theorem ok_shu {f fD : Addr} {fd fdD : FuncData} (D : DefAt K mg "_law_shuffled" sShu ["_law_creek", "_law_bag"] f fd) (DD : DefAt K mg "_law_sip" sSip ["_law_creek", "_law_size"] fD fdD) (bd : mg "divmod" = none) (T : Txt mg) : FnOk P w K mg base CX0 2 f fd ["_law_creek", "_law_bag"] spShu := by
  have GD : FnOk P w K mg base CX0 1 fD fdD ["_law_creek", "_law_size"] spSip := ok_sip DD bd T
  refine D.F.ok scShu (fun vs H Q E h => ?_) (fun cdv A outer sh H vs Q E hr h => ?_)
  · obtain ⟨j, y, rfl, _⟩ := h
    rfl
  · obtain ⟨j, y, rfl, hj, hy, q⟩ := h
    refine ⟨_, (pss_cons (ps_par (i := 2) (j := 3) (by rfl) scShu.nd rfl rfl (by decide) rfl rfl (pa_cons (pe_callTy (cr_listText rfl) (by rfl) T.b_list (by decide +kernel) (pa_cons (pv 1) pa_nil)) (pa_cons (pe_lstS pa_nil) pa_nil)) (by rfl))
      (pss_cons (ps_for PassesOwn.never rfl (pi_range1 (by rfl) T.b_range (pa_cons (pe_callB call_len_seq (by rfl) T.b_len (by decide +kernel) (pa_cons (pv 2) pa_nil)) pa_nil)) (pg_name (i := 4) scShu.nd rfl (.inl rfl))
        (pss_one (ps_expr (pe_bm PySem.F.plainAttrs_list PySem.F.slot_list_append PySem.F.type_list_append mt_append (pv 3) (pa_cons (pe_bm PySem.F.plainAttrs_list PySem.F.slot_list_pop PySem.F.type_list_pop mt_popAt (pv 2) (pa_cons (pe_call GD (hr.mono (by decide)) (by rfl) DD.g DD.F.kp DD.b .nil pass0 (pa_cons (pv 0) (pa_cons (pe_callB call_len_seq (by rfl) T.b_len (by decide +kernel) (pa_cons (pv 2) pa_nil)) pa_nil))) pa_nil)) pa_nil)))))
      (pss_one (ps_ret (pv 3))))), ?_⟩
    have hly : y.length = y.cps.size := rfl
    have yl : y.cps.toList.length = y.cps.size := Array.length_toList
    refine ⟨_, rfl, y, rfl, by omega, fun p np => ⟨(by show 0 ≤ sizeLine; decide), fun l H1 s1 nl el => ?_⟩⟩
    have hp : j ≠ p := by
      obtain ⟨d, s, c, e, _⟩ := hj
      exact fun z => by rw [z, np] at e; cases e
    have ep : H1 p = some (.lst (y.cps.toList.map fun c => V.str (one c))) := by
      refine s1 _ _ ?_
      rw [upd_same]
      unfold signs
      rw [List.map_map] <;> rfl
    have J0 := hj.new (o := .lst ((signs y).map V.str)) np
    have hjl : j ≠ l := by
      obtain ⟨d, s, c, e, _⟩ := J0
      exact ne_of_none e nl
    have hpl : p ≠ l := fun z => by rw [← z, upd_same] at nl; cases nl
    have nl0 : H l = none := by
      cases e : H l with
      | none => rfl
      | some o => rw [upd_ne hpl.symm, e] at nl; cases nl
    have lc : (y.cps.toList.map fun c => V.str (one c)).length = y.cps.size := by rw [List.length_map, Array.length_toList]
    refine ⟨_, _, rfl, _, rfl, p, _, rfl, .inl (SqL.of ep), ?_⟩
    rw [lc]
    refine ⟨(y.cps.size : Int), rfl, by omega, by omega, for_range (n := y.cps.size) (fun i σ H' => ∃ (cs fs : List Nat) (v : Option V), σ = [some (.ref j), some (.str y), some (.ref p), some (.ref l), v] ∧
      H' p = some (.lst (cs.map fun c => V.str (one c))) ∧ H' l = some (.lst (fs.map fun c => V.str (one c))) ∧ Jar H' j ∧ (∀ b o, b ≠ j → b ≠ p → b ≠ l → H b = some o → H' b = some o) ∧ (fs ++ cs).Perm y.cps.toList ∧ fs.length = i)
      ⟨y.cps.toList, [], none, rfl, ep, el, J0.same s1, fun b o _ n _ e => s1 _ _ (by rw [upd_ne n]; exact e), .refl _, rfl⟩ (fun i σ H' hi hP => ?_) (fun σ H' hP => ?_)⟩
    · obtain ⟨cs, fs, v, rfl, hc, hf, hJ, hk, hpm, hz⟩ := hP
      have hlen := hpm.length_eq
      rw [List.length_append, hz] at hlen
      have hcs : 0 < cs.length := by omega
      refine ⟨_, rfl, .inl ⟨rfl, _, SqL.of hf⟩, _, rfl, .inl ⟨rfl, _, SqL.of hc⟩, _, rfl, _, rfl, p, _, rfl, .inl (SqL.of hc), j, _, rfl, hJ, by rw [List.length_map]; omega, by rw [List.length_map]; omega, fun r H2 r0 r1 k2 J2 => ?_⟩
      rw [List.length_map] at r1
      have hk1 : r.toNat < cs.length := by omega
      have up : H2 p = some (.lst (cs.map fun c => V.str (one c))) := k2 _ _ hp.symm hc
      have ul : (upd H2 p (.lst ((cs.map fun c => V.str (one c)).eraseIdx r.toNat))) l = some (.lst (fs.map fun c => V.str (one c))) := by rw [upd_ne hpl.symm]; exact k2 _ _ hjl.symm hf
      have hsi : seqIndex? r (cs.map fun c => V.str (one c)).length = some r.toNat := by
        rw [List.length_map]
        exact seq_in r0 r1
      refine ⟨p, _, r, r.toNat, _, rfl, rfl, up, by omega, by omega, hsi, (by rw [List.getElem?_map, List.getElem?_eq_getElem hk1] <;> rfl), l, _, _, rfl, rfl, ul, ?_, ?_⟩
      · rw [List.length_map, hz, sizeLine_eq]
        omega
      · refine ⟨cs.eraseIdx r.toNat, fs ++ [cs[r.toNat]], _, rfl, ?_, ?_, ?_, fun b o n1 n2 n3 e => ?_, ?_, ?_⟩
        · rw [upd_ne hpl, upd_same, erase_map]
        · rw [upd_same, List.map_append]
          rfl
        · obtain ⟨d3, s3, c3, e3, r3⟩ := J2
          exact ⟨d3, s3, c3, by rw [upd_ne hjl, upd_ne hp]; exact e3, r3⟩
        · rw [upd_ne n3, upd_ne n2]
          exact k2 b o n1 (hk b o n1 n2 n3 e)
        · rw [List.append_assoc]
          exact (List.Perm.append_left _ (erase_perm hk1)).trans hpm
        · simp [hz]
    · obtain ⟨cs, fs, v, rfl, hc, hf, hJ, hk, hpm, hz⟩ := hP
      have hlen := hpm.length_eq
      rw [List.length_append, hz] at hlen
      have hcs : cs = [] := List.length_eq_zero_iff.mp (by omega)
      subst hcs
      rw [List.append_nil] at hpm
      refine ⟨_, rfl, q l ⟨fs.toArray⟩ _ (fun b o n e => hk b o n (fun z => by rw [z, np] at e; cases e) (fun z => by rw [z, nl0] at e; cases e) e) hJ nl0 ?_ ?_⟩
      · rw [hf]
        unfold signs
        rw [List.toList_toArray, List.map_map] <;> rfl
      · rw [List.toList_toArray]
        exact hpm
theorem ok_tag {f fD : Addr} {fd fdD : FuncData} (D : DefAt K mg "_law_tags" sTag ["_law_creek", "_law_size"] f fd) (DD : DefAt K mg "_law_sip" sSip ["_law_creek", "_law_size"] fD fdD) (bd : mg "divmod" = none) (T : Txt mg) : FnOk P w K mg base CX0 2 f fd ["_law_creek", "_law_size"] spTag := by
  have GD : FnOk P w K mg base CX0 1 fD fdD ["_law_creek", "_law_size"] spSip := ok_sip DD bd T
  refine D.F.ok scTag (fun vs H Q E h => ?_) (fun cdv A outer sh H vs Q E hr h => ?_)
  · obtain ⟨j, m, rfl, _⟩ := h
    rfl
  · obtain ⟨j, m, rfl, hj, hm, q⟩ := h
    refine ⟨_, (pss_cons (ps_par (i := 2) (j := 3) (by rfl) scTag.nd rfl rfl (by decide) rfl rfl (pa_cons (pe_callTy (cr_listText rfl) (by rfl) T.b_list (by decide +kernel) (pa_cons pe_str pa_nil)) (pa_cons (pe_lstS pa_nil) pa_nil)) (by rfl))
      (pss_cons (ps_for PassesOwn.never rfl (pi_range1 (by rfl) T.b_range (pa_cons (pv 1) pa_nil)) (pg_name (i := 4) scTag.nd rfl (.inl rfl))
        (pss_one (ps_expr (pe_bm PySem.F.plainAttrs_list PySem.F.slot_list_append PySem.F.type_list_append mt_append (pv 3) (pa_cons (pe_bm PySem.F.plainAttrs_list PySem.F.slot_list_pop PySem.F.type_list_pop mt_popAt (pv 2) (pa_cons (pe_call GD (hr.mono (by decide)) (by rfl) DD.g DD.F.kp DD.b .nil pass0 (pa_cons (pv 0) (pa_cons (pe_callB call_len_seq (by rfl) T.b_len (by decide +kernel) (pa_cons (pv 2) pa_nil)) pa_nil))) pa_nil)) pa_nil)))))
      (pss_one (ps_ret (pe_join pe_str (pe_callB cr_sortedS (by rfl) T.b_sorted (by decide +kernel) (pa_cons (pv 3) pa_nil))))))), ?_⟩
    refine ⟨_, rfl, by decide +kernel, fun p np => ⟨(by show 0 ≤ sizeLine; decide), fun l H1 s1 nl el => ?_⟩⟩
    have abc : (Str.ofString "abcdefghijklmnopqrstuvwxyz").cps.toList = [97, 98, 99, 100, 101, 102, 103, 104, 105, 106, 107, 108, 109, 110, 111, 112, 113, 114, 115, 116, 117, 118, 119, 120, 121, 122] := by decide +kernel
    have hp : j ≠ p := by
      obtain ⟨d, s, c, e, _⟩ := hj
      exact fun z => by rw [z, np] at e; cases e
    have ep : H1 p = some (.lst ([97, 98, 99, 100, 101, 102, 103, 104, 105, 106, 107, 108, 109, 110, 111, 112, 113, 114, 115, 116, 117, 118, 119, 120, 121, 122].map fun c => V.str (one c))) := by
      refine s1 _ _ ?_
      rw [upd_same]
      unfold signs
      rw [abc, List.map_map] <;> rfl
    have J0 := hj.new (o := .lst ((signs (Str.ofString "abcdefghijklmnopqrstuvwxyz")).map V.str)) np
    have hjl : j ≠ l := by
      obtain ⟨d, s, c, e, _⟩ := J0
      exact ne_of_none e nl
    have hpl : p ≠ l := fun z => by rw [← z, upd_same] at nl; cases nl
    have nl0 : H l = none := by
      cases e : H l with
      | none => rfl
      | some o => rw [upd_ne hpl.symm, e] at nl; cases nl
    refine ⟨_, _, rfl, _, rfl, (m : Int), rfl, by omega, by omega, for_range (n := m) (fun i σ H' => ∃ (cs fs : List Nat) (v : Option V), σ = [some (.ref j), some (.int m), some (.ref p), some (.ref l), v] ∧
      H' p = some (.lst (cs.map fun c => V.str (one c))) ∧ H' l = some (.lst (fs.map fun c => V.str (one c))) ∧ Jar H' j ∧ (∀ b o, b ≠ j → b ≠ p → b ≠ l → H b = some o → H' b = some o) ∧ (fs ++ cs).Perm [97, 98, 99, 100, 101, 102, 103, 104, 105, 106, 107, 108, 109, 110, 111, 112, 113, 114, 115, 116, 117, 118, 119, 120, 121, 122] ∧ fs.length = i)
      ⟨_, [], none, rfl, ep, el, J0.same s1, fun b o _ n _ e => s1 _ _ (by rw [upd_ne n]; exact e), .refl _, rfl⟩ (fun i σ H' hi hP => ?_) (fun σ H' hP => ?_)⟩
    · obtain ⟨cs, fs, v, rfl, hc, hf, hJ, hk, hpm, hz⟩ := hP
      have hlen := hpm.length_eq
      rw [List.length_append, hz] at hlen
      simp only [List.length_cons, List.length_nil] at hlen
      have hcs : 0 < cs.length := by omega
      refine ⟨_, rfl, .inl ⟨rfl, _, SqL.of hf⟩, _, rfl, .inl ⟨rfl, _, SqL.of hc⟩, _, rfl, _, rfl, p, _, rfl, .inl (SqL.of hc), j, _, rfl, hJ, by rw [List.length_map]; omega, by rw [List.length_map]; omega, fun r H2 r0 r1 k2 J2 => ?_⟩
      rw [List.length_map] at r1
      have hk1 : r.toNat < cs.length := by omega
      have up : H2 p = some (.lst (cs.map fun c => V.str (one c))) := k2 _ _ hp.symm hc
      have ul : (upd H2 p (.lst ((cs.map fun c => V.str (one c)).eraseIdx r.toNat))) l = some (.lst (fs.map fun c => V.str (one c))) := by rw [upd_ne hpl.symm]; exact k2 _ _ hjl.symm hf
      have hsi : seqIndex? r (cs.map fun c => V.str (one c)).length = some r.toNat := by
        rw [List.length_map]
        exact seq_in r0 r1
      refine ⟨p, _, r, r.toNat, _, rfl, rfl, up, by omega, by omega, hsi, (by rw [List.getElem?_map, List.getElem?_eq_getElem hk1] <;> rfl), l, _, _, rfl, rfl, ul, ?_, ?_⟩
      · rw [List.length_map, hz, sizeLine_eq]
        omega
      · refine ⟨cs.eraseIdx r.toNat, fs ++ [cs[r.toNat]], _, rfl, ?_, ?_, ?_, fun b o n1 n2 n3 e => ?_, ?_, ?_⟩
        · rw [upd_ne hpl, upd_same, erase_map]
        · rw [upd_same, List.map_append]
          rfl
        · obtain ⟨d3, s3, c3, e3, r3⟩ := J2
          exact ⟨d3, s3, c3, by rw [upd_ne hjl, upd_ne hp]; exact e3, r3⟩
        · rw [upd_ne n3, upd_ne n2]
          exact k2 b o n1 (hk b o n1 n2 n3 e)
        · rw [List.append_assoc]
          exact (List.Perm.append_left _ (erase_perm hk1)).trans hpm
        · simp [hz]
    · obtain ⟨cs, fs, v, rfl, hc, hf, hJ, hk, hpm, hz⟩ := hP
      refine ⟨⟨_, rfl⟩, _, rfl, l, fs.map one, rfl, SqL.of (by rw [hf, List.map_map] <;> rfl), by rw [List.length_map]; omega, fun ys p2 pm so n2 => ?_⟩
      obtain ⟨z, rfl, hzp⟩ := ones_back pm
      have sub := List.Nodup.sublist (List.sublist_append_left fs cs) (hpm.nodup_iff.mpr (by decide))
      have zl : z.cps.size = m := by
        rw [← Array.length_toList, hzp.length_eq, hz]
      refine ⟨_, p2, _, rfl, rfl, .inl (SqL.of upd_same), ?_, ?_⟩
      · have e1 : ((signs z).map (·.length)).sum = m := by
          unfold signs
          rw [List.map_map, show ((fun x : Str => x.length) ∘ fun n => (⟨#[n]⟩ : Str)) = fun _ => 1 from rfl, sum_ones, Array.length_toList]
          exact zl
        rw [e1, signs_length, show (PySem.Str.ofString "").length = 0 by decide +kernel]
        omega
      · rw [join_signs]
        refine q z _ (fun b o n e => ?_) ?_ ⟨hzp.nodup_iff.mpr sub, fun c hc => ?_⟩ so zl
        · have nb : b ≠ p := fun z => by rw [z, np] at e; cases e
          have nb2 : b ≠ l := fun z => by rw [z, nl0] at e; cases e
          rw [upd_ne (ne_of_none (hk b o n nb nb2 e) n2)]
          exact hk b o n nb nb2 e
        · exact hJ.new n2
        · have := hpm.mem_iff.mp (List.mem_append_left cs (hzp.mem_iff.mp hc))
          simp only [List.mem_cons, List.not_mem_nil, or_false] at this
          omega
end
end L2.Cal
end

section
set_option maxRecDepth 100000
set_option maxHeartbeats 4000000
/-! where a letter stands in a text -/
namespace L2.Cal
open PySem PySem.Spec PyProof.Rows L2
theorem occ_sub (s sub : Str) (lo hi limit : Nat) : ∀ i ∈ Builtin.Str.occurrences s sub lo hi limit, i + sub.length ≤ hi ∧ Builtin.Str.subAt s sub i = true := by
  have key : ∀ (l : List Nat) (f0 : Array Nat) (r : Nat), (∀ i ∈ f0.toList, i + sub.length ≤ hi ∧ Builtin.Str.subAt s sub i = true) →
      ∀ i ∈ (Id.run (forIn (m := Id) l (f0, r) fun i (__s : Array Nat × Nat) =>
          if (decide (__s.fst.size < limit) && decide (__s.snd ≤ i) && decide (i + sub.length ≤ hi) && Builtin.Str.subAt s sub i) = true then pure (ForInStep.yield (__s.fst.push i, i + sub.length)) else pure (ForInStep.yield (__s.fst, __s.snd)))).1.toList, i + sub.length ≤ hi ∧ Builtin.Str.subAt s sub i = true := by
    intro l
    induction l with
    | nil => intro f0 r h; simpa using h
    | cons a l ih =>
      intro f0 r h
      rw [List.forIn_cons]
      by_cases c : (decide (f0.size < limit) && decide (r ≤ a) && decide (a + sub.length ≤ hi) && Builtin.Str.subAt s sub a) = true
      · simp only [c, if_true]
        refine ih (f0.push a) (a + sub.length) fun i hi => ?_
        rw [Array.toList_push, List.mem_append, List.mem_singleton] at hi
        rcases hi with hi | rfl
        · exact h i hi
        · simp only [Bool.and_eq_true, decide_eq_true_eq] at c
          exact ⟨c.1.2, c.2⟩
      · simp only [c, if_false]
        exact ih f0 r h
  unfold Builtin.Str.occurrences
  simp only [Std.Legacy.Range.forIn_eq_forIn_range']
  exact key _ #[] lo (by simp)
theorem index0_at {y : Str} {c i : Nat} (h : Txt.index0 y ⟨#[c]⟩ = some i) : y.cps.toList[i]? = some c := by
  unfold Txt.index0 at h
  exact (PySem.StrLaws.subAt_one y c i).mp (occ_sub _ _ _ _ _ i (List.mem_of_head? h))
theorem index0_in {y : Str} {c : Nat} (h : c ∈ y.cps.toList) : ∃ i, Txt.index0 y ⟨#[c]⟩ = some i := by
  have f := PySem.StrLaws.found_one y c
  rw [decide_eq_true h] at f
  unfold Txt.index0
  cases e : Builtin.Str.occurrences y ⟨#[c]⟩ 0 y.length 1 with
  | nil => rw [e] at f; simp at f
  | cons a l => exact ⟨a, rfl⟩
end L2.Cal
end

section
set_option maxRecDepth 100000
set_option maxHeartbeats 4000000
set_option synthInstance.maxHeartbeats 400000
namespace L2.Cal
open PySem PySem.Spec PyProof.Rows L2
abbrev sAny : Stmt := topS 42
abbrev sWlk : Stmt := topS 43
theorem scAny : FnScope ["_law_creek", "_law_letters", "_law_most_here", "_law_found", "_law_turn"] ["_law_creek", "_law_letters", "_law_most_here"] (defScope sAny) := ⟨rfl, rfl, rfl, by decide +kernel, rfl, by decide +kernel, by decide +kernel⟩
theorem scWlk : FnScope ["_law_creek", "_law_letters", "_law_word", "_law_begin", "_law_found", "_law_turn", "_law_k", "_law_first", "_law_last"] ["_law_creek", "_law_letters"] (defScope sWlk) := ⟨rfl, rfl, rfl, by decide +kernel, rfl, by decide +kernel, by decide +kernel⟩
theorem takes_never {X : Cx} : Takes X (fun _ _ _ _ => False) := fun u s' h => by
  obtain ⟨_, _, _, _, h⟩ := h
  simp at h
/-- texts that hold the same signs as y -/
def Kin (fs : List Str) (y : Str) : Prop := ∀ z ∈ fs, z.cps.toList.Perm y.cps.toList
/-- a lot of orders, drawn one by one -/
def spAny : Sp := fun vs H Q _ => ∃ (j : Addr) (y : Str) (m : Int), vs = [.ref j, .str y, .int m] ∧ Jar H j ∧ y.cps.size ≤ 100 ∧ 0 < m ∧ m ≤ 60 ∧
  ∀ (ys : List Str) (p : Addr) (H' : Hp), Kp j H H' → Jar H' j → H p = none → H' p = some (.tup (ys.map V.str)) → Lot ys y → (ys.length : Int) ≤ m → Q (.ref p) H'
/-- a walk from order to order -/
def spWlk : Sp := fun vs H Q _ => ∃ (j : Addr) (y : Str), vs = [.ref j, .str y] ∧ Jar H j ∧ 2 ≤ y.cps.size ∧ y.cps.size ≤ 100 ∧
  ∀ (fs : List Str) (l : Addr) (H' : Hp), Kp j H H' → Jar H' j → H l = none → H' l = some (.lst (fs.map V.str)) → Kin fs y → 0 < fs.length → fs.length ≤ 14 → Q (.ref l) H'
/-- the text that signs are joined to -/
theorem join_sh {K : PySem.W.Frag} {H : Hp} {l : Addr} {z : Str} (e : H l = some (.lst ((signs z).map V.str))) (sz : z.cps.size ≤ 100) :
    SqL K H l ((signs z).map V.str) ∧ ((signs z).map (·.length)).sum + (signs z).length * (PySem.Str.ofString "").length ≤ 16777216 := by
  refine ⟨SqL.of e, ?_⟩
  have e1 : ((signs z).map (·.length)).sum = z.cps.size := by
    unfold signs
    rw [List.map_map, show ((fun x : Str => x.length) ∘ fun n => (⟨#[n]⟩ : Str)) = fun _ => 1 from rfl, sum_ones, Array.length_toList]
  rw [e1, show (PySem.Str.ofString "").length = 0 by decide +kernel]
  omega
theorem perm_size {z y : Str} (p : z.cps.toList.Perm y.cps.toList) : z.cps.size = y.cps.size := by rw [← Array.length_toList, p.length_eq, Array.length_toList]
section
variable {P : Program} {w : World} {K : PySem.W.Frag} {mg : Str → Option Value} {base : Heap}
theorem ok_any {f fD fS : Addr} {fd fdD fdS : FuncData} (D : DefAt K mg "_law_any_lots" sAny ["_law_creek", "_law_letters", "_law_most_here"] f fd) (DD : DefAt K mg "_law_sip" sSip ["_law_creek", "_law_size"] fD fdD) (DS : DefAt K mg "_law_shuffled" sShu ["_law_creek", "_law_bag"] fS fdS) (bd : mg "divmod" = none) (T : Txt mg) :
    FnOk P w K mg base CX0 3 f fd ["_law_creek", "_law_letters", "_law_most_here"] spAny := by
  have GD : FnOk P w K mg base CX0 1 fD fdD ["_law_creek", "_law_size"] spSip := ok_sip DD bd T
  have GS : FnOk P w K mg base CX0 2 fS fdS ["_law_creek", "_law_bag"] spShu := ok_shu DS DD bd T
  refine D.F.ok scAny (fun vs H Q E h => ?_) (fun cdv A outer sh H vs Q E hr h => ?_)
  · obtain ⟨j, y, m, rfl, _⟩ := h
    rfl
  · obtain ⟨j, y, m, rfl, hj, hy, hm0, hm, q⟩ := h
    refine ⟨_, (pss_cons (ps_set (i := 3) scAny.nd rfl (.inl rfl) (pe_lstS pa_nil))
      (pss_cons (ps_for PassesOwn.never rfl (pi_range1 (by rfl) T.b_range (pa_cons (pe_op op_add pe_int (pe_call GD (hr.mono (by decide)) (by rfl) DD.g DD.F.kp DD.b .nil pass0 (pa_cons (pv 0) (pa_cons (pv 2) pa_nil)))) pa_nil)) (pg_name (i := 4) scAny.nd rfl (.inl rfl))
        (pss_one (ps_expr (pe_bm PySem.F.plainAttrs_list PySem.F.slot_list_append PySem.F.type_list_append mt_append (pv 3) (pa_cons (pe_join pe_str (pe_call GS (hr.mono (by decide)) (by rfl) DS.g DS.F.kp DS.b .nil pass0 (pa_cons (pv 0) (pa_cons (pv 1) pa_nil)))) pa_nil)))))
      (pss_one (ps_ret (pe_callTy call_tuple_of (by rfl) T.b_tuple (by decide +kernel) (pa_cons (pe_sortedSet rfl (by rfl) T.b_sorted (by rfl) T.b_set (pv 3)) pa_nil)))))), ?_⟩
    refine ⟨(by show 0 ≤ sizeLine; decide), fun l H1 s1 nl el => ?_⟩
    have J1 := hj.same s1
    have hjl : j ≠ l := by
      obtain ⟨_, _, _, e, _⟩ := hj
      exact ne_of_none e nl
    refine ⟨_, rfl, _, rfl, j, m, rfl, J1, hm0, by omega, fun r H2 r0 r1 k2 J2 => ⟨_, _, rfl, rfl, ?_⟩⟩
    have el2 := k2 _ _ hjl.symm el
    refine ⟨1 + r, rfl, by omega, by omega, for_range (lo := 0) (n := (1 + r).toNat) (fun i σ H' => ∃ (fs : List Str) (v4 : Option V), σ = [some (.ref j), some (.str y), some (.int m), some (.ref l), v4] ∧ H' l = some (.lst (fs.map V.str)) ∧ Jar H' j ∧ (∀ b o, b ≠ j → b ≠ l → H b = some o → H' b = some o) ∧ Kin fs y ∧ fs.length = i)
      ⟨[], none, rfl, el2, J2, fun b o n1 n2 e => k2 _ _ n1 (s1 _ _ e), (fun z hz => by cases hz), rfl⟩ (fun i σ H' hi hP => ?_) (fun σ H' hP => ?_)⟩
    · obtain ⟨fs, v4, rfl, hl, hJ, hk, kin, hz⟩ := hP
      refine ⟨_, rfl, .inl ⟨rfl, _, SqL.of hl⟩, ⟨_, rfl⟩, _, rfl, _, rfl, j, y, rfl, hJ, hy, fun l2 z H3 k3 J3 n3 e3 pz => ?_⟩
      obtain ⟨sq, sz⟩ := join_sh (K := K) e3 (by rw [perm_size pz]; exact hy)
      refine ⟨_, l2, signs z, rfl, rfl, .inl sq, sz, ?_⟩
      rw [join_signs]
      have hl3 := k3 _ _ hjl.symm hl
      refine ⟨l, _, _, rfl, rfl, hl3, by rw [List.length_map, hz, sizeLine_eq]; omega, fs ++ [z], _, rfl, by rw [upd_same, List.map_append] <;> rfl, ?_, fun b o n1 n2 e => by rw [upd_ne n2]; exact k3 _ _ n1 (hk b o n1 n2 e), fun u hu => ?_, by rw [List.length_append, hz] <;> rfl⟩
      · obtain ⟨d, s, c, e, r⟩ := J3
        exact ⟨d, s, c, by rw [upd_ne hjl]; exact e, r⟩
      · rcases List.mem_append.mp hu with h | h
        · exact kin u h
        · rw [List.mem_singleton.mp h]; exact pz
    · obtain ⟨fs, v4, rfl, hl, hJ, hk, kin, hz⟩ := hP
      refine ⟨_, rfl, l, fs, rfl, SqL.of hl, by omega, fun ys p cl nd mem np => ⟨p, _, rfl, .inl ⟨SqL.of upd_same, fun t nt => ?_⟩⟩⟩
      have len : ys.length ≤ fs.length := List.Nodup.length_le_of_subset nd fun z hz => (mem z).mp hz
      have old : ∀ b o, b ≠ j → H b = some o → H' b = some o := fun b o n e => hk b o n (fun z => by rw [z, nl] at e; cases e) e
      have newT : ∀ b o, H' b = some o → (upd (upd H' p (.lst (ys.map V.str))) t (.tup (ys.map V.str))) b = some o := fun b o e => by
        have e2 : (upd H' p (.lst (ys.map V.str))) b = some o := by rw [upd_ne (ne_of_none e np)]; exact e
        rw [upd_ne (ne_of_none e2 nt)]
        exact e2
      have nt0 : H t = none := by
        cases e : H t with
        | none => rfl
        | some o =>
          have nt' : H' t = none := by
            cases e' : H' t with
            | none => rfl
            | some o' =>
              rw [show (upd H' p (.lst (ys.map V.str))) t = some o' from by rw [upd_ne (ne_of_none e' np)]; exact e'] at nt
              cases nt
          by_cases c : t = j
          · obtain ⟨_, _, _, q1, _⟩ := hJ
            rw [c, q1] at nt'
            cases nt'
          · rw [old t o c e] at nt'
            cases nt'
      refine q ys t _ (fun b o n e => newT _ _ (old b o n e)) (hJ.same newT) nt0 upd_same ⟨cl, nd, ?_, fun z hz => kin z ((mem z).mp hz)⟩ (by omega)
      cases ys with
      | cons _ _ => exact Nat.succ_pos _
      | nil =>
        cases fs with
        | nil => simp at hz; omega
        | cons f _ => exact absurd ((mem f).mpr (List.mem_cons_self ..)) (by simp)
theorem ok_wlk {f fD fS : Addr} {fd fdD fdS : FuncData} (D : DefAt K mg "_law_walk" sWlk ["_law_creek", "_law_letters"] f fd) (DD : DefAt K mg "_law_sip" sSip ["_law_creek", "_law_size"] fD fdD) (DS : DefAt K mg "_law_shuffled" sShu ["_law_creek", "_law_bag"] fS fdS) (bd : mg "divmod" = none) (T : Txt mg) :
    FnOk P w K mg base CX0 3 f fd ["_law_creek", "_law_letters"] spWlk := by
  have GD : FnOk P w K mg base CX0 1 fD fdD ["_law_creek", "_law_size"] spSip := ok_sip DD bd T
  have GS : FnOk P w K mg base CX0 2 fS fdS ["_law_creek", "_law_bag"] spShu := ok_shu DS DD bd T
  refine D.F.ok scWlk (fun vs H Q E h => ?_) (fun cdv A outer sh H vs Q E hr h => ?_)
  · obtain ⟨j, y, rfl, _⟩ := h
    rfl
  · obtain ⟨j, y, rfl, hj, hy2, hy, q⟩ := h
    refine ⟨_, (pss_cons (ps_set (i := 2) scWlk.nd rfl (.inl rfl) (pe_join pe_str (pe_call GS (hr.mono (by decide)) (by rfl) DS.g DS.F.kp DS.b .nil pass0 (pa_cons (pv 0) (pa_cons (pv 1) pa_nil)))))
      (pss_cons (ps_par (i := 3) (j := 4) (by rfl) scWlk.nd rfl rfl (by decide) rfl rfl (pa_cons (pv 2) (pa_cons (pe_lstS (pa_cons (pv 2) pa_nil)) pa_nil)) (by rfl))
      (pss_cons (ps_for PassesOwn.never rfl (pi_range1 (by rfl) T.b_range (pa_cons (pe_op op_add pe_int (pe_call GD (hr.mono (by decide)) (by rfl) DD.g DD.F.kp DD.b .nil pass0 (pa_cons (pv 0) (pa_cons pe_int pa_nil)))) pa_nil)) (pg_name (i := 5) scWlk.nd rfl (.inl rfl))
        (pss_cons (ps_set (i := 6) scWlk.nd rfl (.inl rfl) (pe_call GD (hr.mono (by decide)) (by rfl) DD.g DD.F.kp DD.b .nil pass0 (pa_cons (pv 0) (pa_cons (pe_op op_sub (pe_callB call_len_str (by rfl) T.b_len (by decide +kernel) (pa_cons (pv 2) pa_nil)) pe_int) pa_nil))))
        (pss_cons (ps_par (i := 7) (j := 8) (by rfl) scWlk.nd rfl rfl (by decide) rfl rfl (pa_cons (pe_ix ix_str (pv 2) (pv 6) (fun _ _ => rfl)) (pa_cons (pe_ix ix_str (pv 2) (pe_op op_add (pv 6) pe_int) (fun _ _ => rfl)) pa_nil)) (by rfl))
        (pss_one (ps_if (pt_cmpR op_lt (pe_bmS PySem.F.plainAttrs_str PySem.F.slot_str_index PySem.F.type_str_index (mt_indexX rfl takes_never) (pv 3) (pa_cons (pv 7) pa_nil)) (pe_bmS PySem.F.plainAttrs_str PySem.F.slot_str_index PySem.F.type_str_index (mt_indexX rfl takes_never) (pv 3) (pa_cons (pv 8) pa_nil)) (nomark _))
          (pss_cons (ps_set (i := 2) scWlk.nd rfl (.inl rfl) (pe_op op_add_str (pe_op op_add_str (pe_op op_add_str (pe_slice sl_str (pv 2) po_none (po_some (pv 6))) (pv 8)) (pv 7)) (pe_slice sl_str (pv 2) (po_some (pe_op op_add (pv 6) pe_int)) po_none)))
          (pss_one (ps_if (pt_cmpR op_gt (pe_call GD (hr.mono (by decide)) (by rfl) DD.g DD.F.kp DD.b .nil pass0 (pa_cons (pv 0) (pa_cons pe_int pa_nil))) pe_int (nomark _)) (pss_one (ps_expr (pe_bm PySem.F.plainAttrs_list PySem.F.slot_list_append PySem.F.type_list_append mt_append (pv 4) (pa_cons (pv 2) pa_nil)))) pss_nil))) pss_nil)))))
      (pss_one (ps_ret (pv 4)))))), ?_⟩
    refine ⟨⟨_, rfl⟩, _, rfl, _, rfl, j, y, rfl, hj, hy, fun l2 z H1 k1 J1 n1 e1 pz => ?_⟩
    obtain ⟨sq, sz⟩ := join_sh (K := K) e1 (by rw [perm_size pz]; exact hy)
    refine ⟨_, l2, signs z, rfl, rfl, .inl sq, sz, ?_⟩
    rw [join_signs]
    refine ⟨_, rfl, _, rfl, (by show 1 ≤ sizeLine; decide), fun l H2 s2 nl el => ⟨_, _, rfl, ?_⟩⟩
    have J2 := J1.same s2
    have hjl : j ≠ l := by
      obtain ⟨_, _, _, e, _⟩ := J1
      exact ne_of_none e nl
    refine ⟨_, rfl, j, 12, rfl, J2, by decide, by decide, fun r H3 r0 r1 k3 J3 => ⟨_, _, rfl, rfl, ?_⟩⟩
    have el3 := k3 _ _ hjl.symm el
    have nl0 : H l = none := by
      cases e : H l with
      | none => rfl
      | some o => rw [k1 _ _ hjl.symm e] at nl; cases nl
    refine ⟨2 + r, rfl, by omega, by omega, for_range (lo := 0) (n := (2 + r).toNat) (fun i σ H' => ∃ (x : Str) (fs : List Str) (v5 v6 v7 v8 : Option V), σ = [some (.ref j), some (.str y), some (.str x), some (.str z), some (.ref l), v5, v6, v7, v8] ∧ H' l = some (.lst (fs.map V.str)) ∧ Jar H' j ∧ (∀ b o, b ≠ j → b ≠ l → H b = some o → H' b = some o) ∧ Kin fs y ∧ x.cps.toList.Perm y.cps.toList ∧ 0 < fs.length ∧ fs.length ≤ i + 1)
      ⟨z, [z], _, _, _, _, rfl, el3, J3, fun b o h1 h2 e => k3 _ _ h1 (s2 _ _ (k1 _ _ h1 e)), (fun u hu => by rw [List.mem_singleton.mp hu]; exact pz), pz, by simp, by simp⟩ (fun i σ H' hi hP => ?_) (fun σ H' hP => ?_)⟩
    · obtain ⟨x, fs, v5, v6, v7, v8, rfl, hl, hJ, hk, kin, px, f0, fn⟩ := hP
      have xs := perm_size px
      have hx1 : x.length = x.cps.size := rfl
      have lim : ∀ {n : Nat}, n ≤ 1000 → n ≤ sizeLine := fun h => by rw [sizeLine_eq]; omega
      refine ⟨_, rfl, _, rfl, x, rfl, lim (by omega), _, _, rfl, rfl, j, _, rfl, hJ, by omega, by omega, fun a H4 a0 a1 k4 J4 => ?_⟩
      obtain ⟨an, rfl⟩ := Int.eq_ofNat_of_zero_le a0
      have ha : an + 1 < x.cps.size := by omega
      have xl : x.cps.toList.length = x.cps.size := Array.length_toList
      have g1 : atI x.cps.toList ((an : Int) + 1) = some (x.cps.toList[an + 1]'(by omega)) := atI_nat (j := an + 1) (List.getElem?_eq_getElem _)
      have g0 : atI x.cps.toList (an : Int) = some (x.cps.toList[an]'(by omega)) := atI_nat (List.getElem?_eq_getElem _)
      have hl4 := k4 _ _ hjl.symm hl
      have c0 : x.cps.toList[an]'(by omega) ∈ z.cps.toList := pz.mem_iff.mpr (px.mem_iff.mp (List.getElem_mem _))
      have c1 : x.cps.toList[an + 1]'(by omega) ∈ z.cps.toList := pz.mem_iff.mpr (px.mem_iff.mp (List.getElem_mem _))
      have eP := swap_perm x an ha
      generalize x.cps.toList[an + 1]'(by omega) = l1 at g1 c1 eP
      generalize x.cps.toList[an]'(by omega) = l0 at g0 c0 eP
      obtain ⟨i0, f0'⟩ := index0_in c0
      obtain ⟨i1, f1'⟩ := index0_in c1
      refine ⟨_, rfl, _, rfl, x, _, _, rfl, rfl, lim (by omega), g0, _, rfl, _, rfl, _, _, rfl, rfl, x, _, _, rfl, rfl, lim (by omega), g1, _, _, rfl, ?_⟩
      refine ⟨_, rfl, rfl, _, rfl, z, _, rfl, rfl, fun k hk0 => ?_, fun no => by rw [f0'] at no; cases no⟩
      refine ⟨_, rfl, rfl, _, rfl, z, _, rfl, rfl, fun k' hk' => ?_, fun no => by rw [f1'] at no; cases no⟩
      have le1 := cutS_length x none (some (an : Int))
      have le2 := cutS_length x (some ((an : Int) + 2)) none
      have o1 : (⟨#[l1]⟩ : Str).length = 1 := rfl
      have o0 : (⟨#[l0]⟩ : Str).length = 1 := rfl
      refine ⟨_, _, rfl, rfl, _, rfl, ite2 (fun e => ?_) (fun e => ?_)⟩
      · refine ⟨_, rfl, _, rfl, _, rfl, x, rfl, lim (by omega), _, rfl, _, _, rfl, rfl, lim (by omega), _, rfl, _, _, rfl, rfl, lim (by rw [len_app]; omega), ?_⟩
        refine ⟨_, rfl, _, rfl, _, _, rfl, rfl, _, rfl, x, rfl, lim (by omega), _, _, rfl, rfl, lim (by rw [len_app, len_app]; omega), ?_⟩
        have pN : (((cutS x none (some (an : Int)) ++ ⟨#[l1]⟩) ++ ⟨#[l0]⟩) ++ cutS x (some ((an : Int) + 2)) none).cps.toList.Perm y.cps.toList := by
          refine List.Perm.trans ?_ (eP.trans px)
          rw [app_cps, app_cps, app_cps, app_cps, app_cps, app_cps, List.append_assoc (cutS x none (some (an : Int))).cps.toList]
        generalize ((cutS x none (some (an : Int)) ++ ⟨#[l1]⟩) ++ ⟨#[l0]⟩) ++ cutS x (some ((an : Int) + 2)) none = x2 at pN ⊢
        refine ⟨_, rfl, j, 3, rfl, J4, by decide, by decide, fun r5 H5 _ _ k5 J5 => ⟨_, _, rfl, rfl, _, rfl, ite2 (fun e5 => ?_) (fun e5 => ?_)⟩⟩
        · have hl5 := k5 _ _ hjl.symm hl4
          refine ⟨_, rfl, .inl ⟨rfl, _, SqL.of hl5⟩, _, rfl, l, _, _, rfl, rfl, hl5, by rw [List.length_map, sizeLine_eq]; omega, x2, fs ++ [x2], _, _, _, _, rfl, by rw [upd_same, List.map_append] <;> rfl, ?_, fun b o n1 n2 e => by rw [upd_ne n2]; exact k5 _ _ n1 (k4 _ _ n1 (hk b o n1 n2 e)), fun u hu => ?_, pN, by rw [List.length_append]; omega, by rw [List.length_append, List.length_singleton]; omega⟩
          · obtain ⟨d, s, c, e, r⟩ := J5
            exact ⟨d, s, c, by rw [upd_ne hjl]; exact e, r⟩
          · rcases List.mem_append.mp hu with h | h
            · exact kin u h
            · rw [List.mem_singleton.mp h]; exact pN
        · exact ⟨x2, fs, _, _, _, _, rfl, k5 _ _ hjl.symm hl4, J5, fun b o n1 n2 e => k5 _ _ n1 (k4 _ _ n1 (hk b o n1 n2 e)), kin, pN, f0, by omega⟩
      · exact ⟨x, fs, _, _, _, _, rfl, hl4, J4, fun b o n1 n2 e => k4 _ _ n1 (hk b o n1 n2 e), kin, px, f0, by omega⟩
    · obtain ⟨x, fs, v5, v6, v7, v8, rfl, hl, hJ, hk, kin, px, f0, fn⟩ := hP
      exact ⟨_, rfl, q fs l _ (fun b o n e => hk b o n (fun z => by rw [z, nl0] at e; cases e) e) hJ nl0 hl kin f0 (by omega)⟩
end
end L2.Cal
end

section
set_option maxRecDepth 100000
set_option maxHeartbeats 4000000
/-! all three of some signs, pure -/
namespace L2.Cal
open PySem PySem.Spec PyProof.Rows
theorem flat_le {α β : Type} {f : α → List β} {n : Nat} : ∀ l : List α, (∀ a ∈ l, (f a).length ≤ n) → (l.flatMap f).length ≤ l.length * n
  | [], _ => by simp
  | a :: l, h => by
    have := flat_le l fun x hx => h x (List.mem_cons_of_mem _ hx)
    have h1 := h a List.mem_cons_self
    rw [List.flatMap_cons, List.length_append, List.length_cons, Nat.succ_mul]
    omega
def s3 (a b c : Nat) : Str := ⟨#[a, b, c]⟩
/-- as the program walks: first, middle, last -/
def tri (cs : List Nat) : List Str := cs.flatMap fun a => cs.flatMap fun b => (cs.filter fun c => decide (a < b) && decide (b < c)).map fun c => s3 a b c
def row3 (cs : List Nat) (a b : Nat) : List Str := (cs.filter fun c => decide (a < b) && decide (b < c)).map fun c => s3 a b c
def row2 (cs : List Nat) (a : Nat) : List Str := cs.flatMap fun b => row3 cs a b
theorem tri_rows (cs : List Nat) : tri cs = cs.flatMap (row2 cs) := rfl
/-- as the law walks: first, last, middle -/
def tri2 (cs : List Nat) : List Str := cs.flatMap fun a => cs.flatMap fun c => (cs.filter fun b => decide (a < b) && decide (b < c)).map fun b => s3 a b c
theorem s3_inj {a b c a' b' c' : Nat} : s3 a b c = s3 a' b' c' ↔ a = a' ∧ b = b' ∧ c = c' := by simp [s3]
theorem mem_tri {cs : List Nat} {x : Str} : x ∈ tri cs ↔ ∃ a b c, a ∈ cs ∧ b ∈ cs ∧ c ∈ cs ∧ a < b ∧ b < c ∧ x = s3 a b c := by
  simp only [tri, List.mem_flatMap, List.mem_map, List.mem_filter, Bool.and_eq_true, decide_eq_true_eq]
  constructor
  · rintro ⟨a, ha, b, hb, c, ⟨hc, h1, h2⟩, rfl⟩
    exact ⟨a, b, c, ha, hb, hc, h1, h2, rfl⟩
  · rintro ⟨a, b, c, ha, hb, hc, h1, h2, rfl⟩
    exact ⟨a, ha, b, hb, c, ⟨hc, h1, h2⟩, rfl⟩
theorem mem_tri2 {cs : List Nat} {x : Str} : x ∈ tri2 cs ↔ x ∈ tri cs := by
  rw [mem_tri]
  simp only [tri2, List.mem_flatMap, List.mem_map, List.mem_filter, Bool.and_eq_true, decide_eq_true_eq]
  constructor
  · rintro ⟨a, ha, c, hc, b, ⟨hb, h1, h2⟩, rfl⟩
    exact ⟨a, b, c, ha, hb, hc, h1, h2, rfl⟩
  · rintro ⟨a, b, c, ha, hb, hc, h1, h2, rfl⟩
    exact ⟨a, ha, c, hc, b, ⟨hb, h1, h2⟩, rfl⟩
/-- x is below y -/
def Lo (x y : Str) : Prop := ltCps x.cps.toList y.cps.toList = true
theorem lo_s3 {a b c a' b' c' : Nat} : Lo (s3 a b c) (s3 a' b' c') ↔ a < a' ∨ a = a' ∧ (b < b' ∨ b = b' ∧ c < c') := by simp [Lo, s3, ltCps]
theorem tri_up {cs : List Nat} (h : cs.Pairwise (· < ·)) : (tri cs).Pairwise Lo := by
  unfold tri
  refine List.pairwise_flatMap.mpr ⟨fun a ha => List.pairwise_flatMap.mpr ⟨fun b hb => List.pairwise_map.mpr ((h.filter _).imp fun {c c'} e => lo_s3.mpr (.inr ⟨rfl, .inr ⟨rfl, e⟩⟩)), h.imp fun {b b'} e x hx y hy => ?_⟩, h.imp fun {a a'} e x hx y hy => ?_⟩
  · obtain ⟨c, _, rfl⟩ := List.mem_map.mp hx
    obtain ⟨c', _, rfl⟩ := List.mem_map.mp hy
    exact lo_s3.mpr (.inr ⟨rfl, .inl e⟩)
  · obtain ⟨b, _, hx⟩ := List.mem_flatMap.mp hx
    obtain ⟨b', _, hy⟩ := List.mem_flatMap.mp hy
    obtain ⟨c, _, rfl⟩ := List.mem_map.mp hx
    obtain ⟨c', _, rfl⟩ := List.mem_map.mp hy
    exact lo_s3.mpr (.inl e)
theorem tri2_nodup {cs : List Nat} (h : cs.Nodup) : (tri2 cs).Nodup := by
  unfold tri2
  refine List.pairwise_flatMap.mpr ⟨fun a ha => List.pairwise_flatMap.mpr ⟨fun b hb => List.pairwise_map.mpr ((h.filter _).imp fun {c c'} e => fun z => e (s3_inj.mp z).2.1), h.imp fun {b b'} e x hx y hy => ?_⟩, h.imp fun {a a'} e x hx y hy => ?_⟩
  · obtain ⟨c, _, rfl⟩ := List.mem_map.mp hx
    obtain ⟨c', _, rfl⟩ := List.mem_map.mp hy
    exact fun z => e (s3_inj.mp z).2.2
  · obtain ⟨b, _, hx⟩ := List.mem_flatMap.mp hx
    obtain ⟨b', _, hy⟩ := List.mem_flatMap.mp hy
    obtain ⟨c, _, rfl⟩ := List.mem_map.mp hx
    obtain ⟨c', _, rfl⟩ := List.mem_map.mp hy
    exact fun z => e (s3_inj.mp z).1
theorem lo_irrefl : ∀ l : List Nat, ltCps l l = false
  | [] => rfl
  | a :: r => by simp [ltCps, lo_irrefl r]
theorem lo_trans : ∀ a b c : List Nat, ltCps a b = true → ltCps b c = true → ltCps a c = true
  | [], [], _, h, _ => by simp [ltCps] at h
  | [], _ :: _, [], _, h => by simp [ltCps] at h
  | [], _ :: _, _ :: _, _, _ => rfl
  | _ :: _, [], _, h, _ => by simp [ltCps] at h
  | _ :: _, _ :: _, [], _, h => by simp [ltCps] at h
  | x :: r, y :: t, z :: u, h1, h2 => by
    simp only [ltCps, Bool.or_eq_true, decide_eq_true_eq, Bool.and_eq_true, beq_iff_eq] at h1 h2 ⊢
    rcases h1 with h1 | ⟨rfl, h1⟩
    · rcases h2 with h2 | ⟨rfl, h2⟩
      · exact .inl (Nat.lt_trans h1 h2)
      · exact .inl h1
    · rcases h2 with h2 | ⟨rfl, h2⟩
      · exact .inl h2
      · exact .inr ⟨rfl, lo_trans r t u h1 h2⟩
theorem lo_conn : ∀ a b : List Nat, ltCps a b = false → ltCps b a = false → a = b
  | [], [], _, _ => rfl
  | [], b :: t, h, _ => by simp [ltCps] at h
  | a :: r, [], _, h => by simp [ltCps] at h
  | a :: r, b :: t, h1, h2 => by
    simp only [ltCps, Bool.or_eq_false_iff, Bool.and_eq_false_imp, decide_eq_false_iff_not, beq_iff_eq] at h1 h2
    have e : a = b := by omega
    subst e
    rw [lo_conn r t (h1.2 rfl) (h2.2 rfl)]
/-- not above -/
def Le (x y : Str) : Prop := ltCps y.cps.toList x.cps.toList = false
theorem Lo.le {x y : Str} (h : Lo x y) : Le x y := by
  unfold Le
  cases e : ltCps y.cps.toList x.cps.toList with
  | false => rfl
  | true =>
    have := lo_trans _ _ _ h e
    rw [lo_irrefl] at this
    cases this
theorem le_trans {x y z : Str} (h1 : Le x y) (h2 : Le y z) : Le x z := by
  unfold Le at *
  cases e : ltCps z.cps.toList x.cps.toList with
  | false => rfl
  | true =>
    cases e2 : ltCps x.cps.toList y.cps.toList with
    | true =>
      have := lo_trans _ _ _ e e2
      rw [h2] at this
      cases this
    | false =>
      have := lo_conn _ _ e2 h1
      rw [this, h2] at e
      cases e
theorem le_eq {x y : Str} (h1 : Le x y) (h2 : Le y x) : x = y := by
  cases x
  cases y
  exact congrArg Str.mk (Array.toList_inj.mp (lo_conn _ _ h2 h1))
theorem up_rising : ∀ (r : List Str) (p : Str), risingS p r = true → (p :: r).Pairwise Le
  | [], p, _ => List.pairwise_singleton _ _
  | x :: r, p, h => by
    simp only [risingS, Bool.and_eq_true, Bool.not_eq_true'] at h
    have ih := up_rising r x h.2
    refine List.pairwise_cons.mpr ⟨fun y hy => ?_, ih⟩
    rcases List.mem_cons.mp hy with rfl | hy
    · exact h.1
    · exact le_trans (y := x) h.1 ((List.pairwise_cons.mp ih).1 y hy)
theorem up_sorted {ys : List Str} (h : sortedS ys = true) : ys.Pairwise Le := by
  cases ys with
  | nil => exact .nil
  | cons x r => exact up_rising r x h
/-- the one sorted row -/
theorem sorted_is {ys xs : List Str} (p : ys.Perm xs) (s : sortedS ys = true) (u : xs.Pairwise Lo) : ys = xs :=
  List.Perm.eq_of_pairwise (fun a b _ _ h1 h2 => le_eq h1 h2) (up_sorted s) (u.imp Lo.le) p
theorem tri_sorted {cs : List Nat} {ys : List Str} (h : cs.Pairwise (· < ·)) (p : ys.Perm (tri2 cs)) (s : sortedS ys = true) : ys = tri cs := by
  have n : cs.Nodup := h.imp fun e => Nat.ne_of_lt e
  have n1 : (tri cs).Nodup := (tri_up h).imp fun {x y} e z => by
    subst z
    unfold Lo at e
    rw [lo_irrefl] at e
    cases e
  exact sorted_is (p.trans ((List.perm_ext_iff_of_nodup (tri2_nodup n) n1).mpr fun x => mem_tri2)) s (tri_up h)
theorem tri2_map (f : Nat → Nat) (l : List Nat) (h : ∀ a ∈ l, ∀ b ∈ l, (f a < f b ↔ a < b)) : (tri2 (l.map f)).length = (tri2 l).length := by
  unfold tri2
  rw [List.flatMap_map, List.length_flatMap, List.length_flatMap]
  refine congrArg List.sum (List.map_congr_left fun a ha => ?_)
  rw [List.flatMap_map, List.length_flatMap, List.length_flatMap]
  refine congrArg List.sum (List.map_congr_left fun c hc => ?_)
  rw [List.length_map, List.length_map, List.filter_map, List.length_map]
  refine congrArg List.length (List.filter_congr fun b hb => ?_)
  show (decide (f a < f b) && decide (f b < f c)) = (decide (a < b) && decide (b < c))
  rw [decide_eq_decide.mpr (h a ha b hb), decide_eq_decide.mpr (h b hb c hc)]
theorem tri2_few {cs : List Nat} (h : cs.Pairwise (· < ·)) (n : cs.length ≤ 6) : (tri2 cs).length ≤ 20 := by
  have e : cs = (List.range cs.length).map fun i => cs.getD i 0 := by
    refine List.ext_getElem (by simp) fun i h1 h2 => ?_
    simp [h1]
  have mono : ∀ a ∈ List.range cs.length, ∀ b ∈ List.range cs.length, (cs.getD a 0 < cs.getD b 0 ↔ a < b) := fun a ha b hb => by
    have ha := List.mem_range.mp ha
    have hb := List.mem_range.mp hb
    have q := List.pairwise_iff_getElem.mp h
    rw [List.getD_eq_getElem?_getD, List.getD_eq_getElem?_getD, List.getElem?_eq_getElem ha, List.getElem?_eq_getElem hb]
    simp only [Option.getD_some]
    constructor
    · intro lt
      by_cases c : a < b
      · exact c
      · by_cases d : a = b
        · subst d; omega
        · have := q b a hb ha (by omega)
          omega
    · exact fun lt => q a b ha hb lt
  rw [e, tri2_map _ _ mono]
  have all : ∀ n, n ≤ 6 → (tri2 (List.range n)).length ≤ 20 := by decide +kernel
  exact all _ n
theorem row3_take {cs : List Nat} {a b c k : Nat} (h : cs[k]? = some c) : ((cs.take (k + 1)).filter fun c => decide (a < b) && decide (b < c)).map (s3 a b) = ((cs.take k).filter fun c => decide (a < b) && decide (b < c)).map (s3 a b) ++ if decide (a < b) && decide (b < c) then [s3 a b c] else [] := by
  rw [List.take_succ, h, Option.toList_some, List.filter_append, List.map_append]
  congr 1
  cases e : (decide (a < b) && decide (b < c)) <;> simp [List.filter, e]
theorem flat_take {α β : Type} {f : α → List β} {l : List α} {a : α} {k : Nat} (h : l[k]? = some a) : (l.take (k + 1)).flatMap f = (l.take k).flatMap f ++ f a := by
  rw [List.take_succ, h, Option.toList_some, List.flatMap_append]
  simp
theorem row3_len (cs : List Nat) (a b : Nat) : (row3 cs a b).length ≤ cs.length := by
  unfold row3
  rw [List.length_map]
  exact List.length_filter_le _ _
theorem row2_len (cs : List Nat) (a : Nat) : (row2 cs a).length ≤ cs.length * cs.length := flat_le _ fun b _ => row3_len cs a b
def col3 (cs : List Nat) (a c : Nat) : List Str := (cs.filter fun b => decide (a < b) && decide (b < c)).map fun b => s3 a b c
def col2 (cs : List Nat) (a : Nat) : List Str := cs.flatMap fun c => col3 cs a c
theorem tri_cols (cs : List Nat) : tri2 cs = cs.flatMap (col2 cs) := rfl
theorem col3_take {cs : List Nat} {a b c k : Nat} (h : cs[k]? = some b) : ((cs.take (k + 1)).filter fun b => decide (a < b) && decide (b < c)).map (fun b => s3 a b c) = ((cs.take k).filter fun b => decide (a < b) && decide (b < c)).map (fun b => s3 a b c) ++ if decide (a < b) && decide (b < c) then [s3 a b c] else [] := by
  rw [List.take_succ, h, Option.toList_some, List.filter_append, List.map_append]
  congr 1
  cases e : (decide (a < b) && decide (b < c)) <;> simp [List.filter, e]
theorem col3_len (cs : List Nat) (a c : Nat) : (col3 cs a c).length ≤ cs.length := by
  unfold col3
  rw [List.length_map]
  exact List.length_filter_le _ _
theorem col2_len (cs : List Nat) (a : Nat) : (col2 cs a).length ≤ cs.length * cs.length := flat_le _ fun c _ => col3_len cs a c
end L2.Cal
end

section
set_option maxRecDepth 100000
set_option maxHeartbeats 4000000
/-! rows of two texts in a list; the words that grow from the ends of a line -/
namespace L2.Cal
open PySem PySem.Spec PyProof.Rows L2
inductive PairsAt (H : Hp) : List V → List (Str × Str) → Prop where
  | nil : PairsAt H [] []
  | cons {a : Addr} {x y : Str} {vs : List V} {rs : List (Str × Str)} (e : H a = some (.lst [.str x, .str y])) (r : PairsAt H vs rs) : PairsAt H (.ref a :: vs) ((x, y) :: rs)
theorem PairsAt.same {H H' : Hp} (s : Same H H') : ∀ {vs : List V} {rs : List (Str × Str)}, PairsAt H vs rs → PairsAt H' vs rs
  | _, _, .nil => .nil
  | _, _, .cons e r => .cons (s _ _ e) (r.same s)
theorem PairsAt.app {H : Hp} : ∀ {vs ws : List V} {rs qs : List (Str × Str)}, PairsAt H vs rs → PairsAt H ws qs → PairsAt H (vs ++ ws) (rs ++ qs)
  | _, _, _, _, .nil, h => h
  | _, _, _, _, .cons e r, h => .cons e (r.app h)
theorem PairsAt.len {H : Hp} : ∀ {vs : List V} {rs : List (Str × Str)}, PairsAt H vs rs → vs.length = rs.length
  | _, _, .nil => rfl
  | _, _, .cons _ r => congrArg (· + 1) r.len
theorem PairsAt.at_ {H : Hp} : ∀ {vs : List V} {rs : List (Str × Str)} {k : Nat} {v : V}, PairsAt H vs rs → vs[k]? = some v → ∃ a r, v = .ref a ∧ rs[k]? = some r ∧ H a = some (.lst [.str r.1, .str r.2])
  | _, _, _, _, .nil, h => by simp at h
  | _, _, 0, _, .cons e r, h => ⟨_, _, (Option.some.inj h).symm, rfl, e⟩
  | _, _, k + 1, _, .cons e r, h => r.at_ (k := k) h
/-- a word grows by the first, by the last sign of what is left -/
def pkOf (r : Str × Str) : List (Str × Str) := [((⟨#[r.2.cps.toList.getD 0 0]⟩ : Str) ++ r.1, cutS r.2 (some 1) none), ((⟨#[r.2.cps.toList.getD (r.2.cps.toList.length - 1) 0]⟩ : Str) ++ r.1, cutS r.2 none (some (-1)))]
/-- the rows behind i turns over the line y -/
structure Pk (y : Str) (i : Nat) (rs : List (Str × Str)) : Prop where
  nd : (rs.map Prod.fst).Nodup
  left : ∀ r ∈ rs, r.2.cps.toList.length + i = y.cps.toList.length
  pm : ∀ r ∈ rs, (r.1.cps.toList ++ r.2.cps.toList).Perm y.cps.toList
  len : rs.length = 2 ^ i
theorem cut_tail (z : Str) : (cutS z (some 1) none).cps.toList = z.cps.toList.drop 1 := by
  have l : z.cps.toList.length = z.length := Array.length_toList
  unfold cutS
  rw [HT.sIx_none, show HT.sIx z.length 0 (some 1) = min 1 z.length from HT.sIx_nat _ _ 1, List.toList_toArray]
  refine (List.take_of_length_le ?_).trans ?_
  · rw [List.length_drop, l]; omega
  · rcases Nat.eq_zero_or_pos z.length with h | h
    · rw [h]
      have e : z.cps.toList = [] := List.length_eq_zero_iff.mp (by rw [l, h])
      rw [e] <;> simp
    · rw [Nat.min_eq_left h]
theorem cut_init (z : Str) : (cutS z none (some (-1))).cps.toList = z.cps.toList.take (z.cps.toList.length - 1) := by
  have l : z.cps.toList.length = z.length := Array.length_toList
  have e : HT.sIx z.length z.length (some (-1)) = z.length - 1 := by
    unfold HT.sIx
    simp only
    split <;> omega
  unfold cutS
  rw [HT.sIx_none, e, List.toList_toArray, List.drop_zero, l, Nat.sub_zero]
theorem pk_start (y : Str) : Pk y 0 [("", y)] :=
  ⟨by simp, fun r hr => by rw [List.mem_singleton.mp hr]; rfl, fun r hr => by rw [List.mem_singleton.mp hr]; exact List.Perm.refl _, rfl⟩
theorem lsign (c : Nat) (w : Str) : ((⟨#[c]⟩ : Str) ++ w).cps.toList = c :: w.cps.toList := app_cps _ _
theorem pk_nodup : ∀ {rs : List (Str × Str)}, (∀ r ∈ rs, r.2.cps.toList.getD 0 0 ≠ r.2.cps.toList.getD (r.2.cps.toList.length - 1) 0) → (rs.map Prod.fst).Nodup → ((rs.flatMap pkOf).map Prod.fst).Nodup
  | [], _, _ => by simp
  | r :: rs, h, nd => by
    rw [List.map_cons, List.nodup_cons] at nd
    have ih := pk_nodup (rs := rs) (fun q hq => h q (List.mem_cons_of_mem _ hq)) nd.2
    have out : ∀ c, (⟨#[c]⟩ : Str) ++ r.1 ∉ (rs.flatMap pkOf).map Prod.fst := fun c hc => by
      obtain ⟨q, hq, e⟩ := List.mem_map.mp hc
      obtain ⟨u, hu, hq⟩ := List.mem_flatMap.mp hq
      have tl : ∃ d, q.1 = (⟨#[d]⟩ : Str) ++ u.1 := by
        unfold pkOf at hq
        rcases List.mem_cons.mp hq with z | z
        · exact ⟨_, by rw [z]⟩
        · exact ⟨_, by rw [List.mem_singleton.mp z]⟩
      obtain ⟨d, ed⟩ := tl
      rw [ed] at e
      have e2 := congrArg (fun s : Str => s.cps.toList) e
      simp only [lsign] at e2
      have e3 : u.1 = r.1 := by
        have := (List.cons.inj e2).2
        cases hu1 : u.1 with | mk a => cases hr1 : r.1 with | mk b =>
        rw [hu1, hr1] at this
        exact congrArg Str.mk (Array.toList_inj.mp this)
      exact nd.1 (List.mem_map.mpr ⟨u, hu, e3⟩)
    rw [List.flatMap_cons, List.map_append]
    show (((⟨#[r.2.cps.toList.getD 0 0]⟩ : Str) ++ r.1) :: ((⟨#[r.2.cps.toList.getD (r.2.cps.toList.length - 1) 0]⟩ : Str) ++ r.1) :: (rs.flatMap pkOf).map Prod.fst).Nodup
    rw [List.nodup_cons, List.nodup_cons]
    refine ⟨fun z => ?_, out _, ih⟩
    rcases List.mem_cons.mp z with z | z
    · have e2 := congrArg (fun s : Str => s.cps.toList) z
      simp only [lsign] at e2
      exact h r List.mem_cons_self (List.cons.inj e2).1
    · exact out _ z
theorem pk_step {y : Str} {i : Nat} {rs : List (Str × Str)} (ly : y.cps.toList.Nodup) (h : Pk y i rs) (hi : i + 1 < y.cps.toList.length) : Pk y (i + 1) (rs.flatMap pkOf) := by
  have big : ∀ r ∈ rs, 2 ≤ r.2.cps.toList.length := fun r hr => by have := h.left r hr; omega
  have nl : ∀ r ∈ rs, r.2.cps.toList.Nodup := fun r hr => (List.nodup_append.mp ((h.pm r hr).nodup_iff.mpr ly)).2.1
  have fl : ∀ r ∈ rs, r.2.cps.toList.getD 0 0 ≠ r.2.cps.toList.getD (r.2.cps.toList.length - 1) 0 := fun r hr e => by
    have b := big r hr
    have n := List.pairwise_iff_getElem.mp (nl r hr) 0 (r.2.cps.toList.length - 1) (by omega) (by omega) (by omega)
    rw [List.getD_eq_getElem?_getD, List.getElem?_eq_getElem (by omega), List.getD_eq_getElem?_getD, List.getElem?_eq_getElem (by omega)] at e
    exact n e
  refine ⟨pk_nodup fl h.nd, fun q hq => ?_, fun q hq => ?_, ?_⟩
  · obtain ⟨r, hr, hq⟩ := List.mem_flatMap.mp hq
    have b := big r hr
    have l := h.left r hr
    unfold pkOf at hq
    rcases List.mem_cons.mp hq with z | z
    · rw [z, cut_tail, List.length_drop]; omega
    · rw [List.mem_singleton.mp z, cut_init, List.length_take]; omega
  · obtain ⟨r, hr, hq⟩ := List.mem_flatMap.mp hq
    have b := big r hr
    refine List.Perm.trans ?_ (h.pm r hr)
    unfold pkOf at hq
    rcases List.mem_cons.mp hq with z | z
    · rw [z]
      simp only [lsign, cut_tail]
      cases e : r.2.cps.toList with
      | nil => rw [e] at b; simp at b
      | cons c l => exact List.perm_middle.symm
    · rw [List.mem_singleton.mp z]
      simp only [lsign, cut_init]
      have ne : r.2.cps.toList ≠ [] := fun z => by rw [z] at b; simp at b
      have e := List.dropLast_concat_getLast ne
      have el : r.2.cps.toList.getD (r.2.cps.toList.length - 1) 0 = r.2.cps.toList.getLast ne := by
        rw [List.getD_eq_getElem?_getD, List.getLast_eq_getElem, List.getElem?_eq_getElem (by omega)] <;> rfl
      rw [el, ← List.dropLast_eq_take]
      generalize r.2.cps.toList.getLast ne = g at e
      rw [← e, ← List.append_assoc, List.dropLast_concat]
      exact (List.perm_append_singleton g _).symm
  · have : ∀ l : List (Str × Str), (l.flatMap pkOf).length = 2 * l.length := fun l => by
      induction l with
      | nil => rfl
      | cons a l ih => rw [List.flatMap_cons, List.length_append, ih, List.length_cons]; show 2 + _ = _; omega
    rw [this, h.len, Nat.pow_succ]
    omega
theorem one_left {a b u v : Str} (ha : a.cps.toList.length = 1) (hb : b.cps.toList.length = 1) (e : a ++ u = b ++ v) : u = v := by
  have e2 := congrArg (fun s : Str => s.cps.toList.drop 1) e
  simp only [app_cps] at e2
  rw [List.drop_append_of_le_length (by omega), List.drop_append_of_le_length (by omega), List.drop_of_length_le (by omega), List.drop_of_length_le (by omega), List.nil_append, List.nil_append] at e2
  cases u with | mk a => cases v with | mk b => exact congrArg Str.mk (Array.toList_inj.mp e2)
theorem ends_nodup : ∀ {rs : List (Str × Str)}, (∀ r ∈ rs, r.2.cps.toList.length = 1) → (rs.map Prod.fst).Nodup → (rs.map fun r => r.2 ++ r.1).Nodup
  | [], _, _ => by simp
  | r :: rs, h, nd => by
    rw [List.map_cons, List.nodup_cons] at nd ⊢
    refine ⟨fun z => ?_, ends_nodup (rs := rs) (fun q hq => h q (List.mem_cons_of_mem _ hq)) nd.2⟩
    obtain ⟨q, hq, e⟩ := List.mem_map.mp z
    exact nd.1 (List.mem_map.mpr ⟨q, hq, one_left (h q (List.mem_cons_of_mem _ hq)) (h r List.mem_cons_self) e⟩)
theorem pk_end {y : Str} {i : Nat} {rs : List (Str × Str)} (h : Pk y i rs) (hi : i + 1 = y.cps.toList.length) : (rs.map fun r => r.2 ++ r.1).Nodup ∧ (∀ z ∈ rs.map fun r => r.2 ++ r.1, z.cps.toList.Perm y.cps.toList) := by
  refine ⟨ends_nodup (fun r hr => by have := h.left r hr; omega) h.nd, fun z hz => ?_⟩
  obtain ⟨r, hr, rfl⟩ := List.mem_map.mp hz
  rw [app_cps]
  exact List.perm_append_comm.trans (h.pm r hr)
end L2.Cal
end

section
set_option maxRecDepth 100000
set_option maxHeartbeats 4000000
/-! wheels and places, pure -/
namespace L2.Cal
open PySem PySem.Spec PyProof.Rows L2
def W1 (a b c : Nat) : List Str := [s3 a b c, s3 b c a, s3 c a b]
def W2 (a b c : Nat) : List Str := [s3 c b a, s3 a c b, s3 b a c]
def six (a b c : Nat) : List Str := W1 a b c ++ W2 a b c
structure Apart (a b c : Nat) : Prop where
  ab : a ≠ b
  ac : a ≠ c
  bc : b ≠ c
theorem six_of {a b c : Nat} {z : Str} (d : Apart a b c) (p : z.cps.toList.Perm [a, b, c]) : z ∈ six a b c := by
  obtain ⟨⟨l⟩⟩ := z
  have p : l.Perm [a, b, c] := p
  obtain ⟨ab, ac, bc⟩ := d
  have n : l.Nodup := p.nodup_iff.mpr (by simp [ab, ac, bc])
  have len := p.length_eq
  match l, len with
  | [u, v, w], _ =>
    have hu := p.mem_iff.mp (show u ∈ [u, v, w] by simp)
    have hv := p.mem_iff.mp (show v ∈ [u, v, w] by simp)
    have hw := p.mem_iff.mp (show w ∈ [u, v, w] by simp)
    simp only [List.mem_cons, List.not_mem_nil, or_false] at hu hv hw
    simp only [List.nodup_cons, List.mem_cons, List.not_mem_nil, or_false, not_or, not_false_eq_true, List.nodup_nil, and_true] at n
    have e : (⟨#[u, v, w]⟩ : Str) = s3 u v w := rfl
    show (⟨#[u, v, w]⟩ : Str) ∈ _
    rw [e]
    obtain ⟨⟨n1, n2⟩, n3⟩ := n
    rcases hu with rfl | rfl | rfl <;> rcases hv with rfl | rfl | rfl <;> rcases hw with rfl | rfl | rfl <;> first | exact absurd rfl n1 | exact absurd rfl n2 | exact absurd rfl n3 | simp [six, W1, W2]
theorem all_six {a b c : Nat} {M : List Str} (h : ∀ m ∈ M, m ∈ six a b c) (f : Str → Bool) : M.all f = (six a b c).all fun s => !(decide (s ∈ M)) || f s := by
  rw [Bool.eq_iff_iff]
  simp only [List.all_eq_true, Bool.or_eq_true, Bool.not_eq_true', decide_eq_false_iff_not]
  constructor
  · intro H s hs
    by_cases m : s ∈ M
    · exact .inr (H s m)
    · exact .inl m
  · intro H m hm
    exact (H m (h m hm)).resolve_left fun z => z hm
/-- the sign at a place -/
def atP (m : Str) (p : Nat) : Str := ⟨#[m.cps.getD p 0]⟩
def posOf : List (Str × Nat) := [("first", 0), ("last", 2), ("middle", 1)]
def spotsOf (M : List Str) (t : Str) : List (Str × Str) := (posOf.filter fun q => M.all fun m => !decide (atP m q.2 = t)).map fun q => (t, q.1)
def placesL (M : List Str) (x : Str) : List (Str × Str) := (signs x).flatMap (spotsOf M)
theorem no_place {a b c : Nat} {M : List Str} (d : Apart a b c) (h : ∀ m ∈ M, m ∈ six a b c) : placesL M (s3 a b c) = [] ↔ ((W1 a b c).all fun e => decide (e ∈ M)) = true ∨ ((W2 a b c).all fun e => decide (e ∈ M)) = true := by
  have k : ∀ (t p : Nat), (M.all fun m => !decide (atP m p = ⟨#[t]⟩)) = (six a b c).all fun s => !(decide (s ∈ M)) || !decide (s.cps.getD p 0 = t) := fun t p => by
    rw [all_six h]
    refine congrArg (List.all _) (funext fun s => ?_)
    have : decide (atP s p = ⟨#[t]⟩) = decide (s.cps.getD p 0 = t) := by
      rw [decide_eq_decide]
      simp [atP]
    rw [this]
  obtain ⟨ab, ac, bc⟩ := d
  have ba := ab.symm
  have ca := ac.symm
  have cb := bc.symm
  have g0 : ∀ u v w : Nat, (s3 u v w).cps.getD 0 0 = u := fun _ _ _ => rfl
  have g1 : ∀ u v w : Nat, (s3 u v w).cps.getD 1 0 = v := fun _ _ _ => rfl
  have g2 : ∀ u v w : Nat, (s3 u v w).cps.getD 2 0 = w := fun _ _ _ => rfl
  have sg : signs (s3 a b c) = [⟨#[a]⟩, ⟨#[b]⟩, ⟨#[c]⟩] := rfl
  unfold placesL spotsOf
  rw [sg]
  simp only [List.flatMap_cons, List.flatMap_nil, List.append_eq_nil_iff, List.map_eq_nil_iff, posOf, List.filter_eq_nil_iff, List.mem_cons, List.not_mem_nil, or_false, forall_eq_or_imp, forall_eq, and_true, k, six, W1, W2, List.cons_append, List.nil_append, List.all_cons, List.all_nil, g0, g1, g2,
    decide_true, decide_eq_false ab, decide_eq_false ac, decide_eq_false bc, decide_eq_false ba, decide_eq_false ca, decide_eq_false cb, Bool.not_true, Bool.not_false, Bool.or_false, Bool.or_true, Bool.and_true, Bool.true_and]
  generalize decide (s3 a b c ∈ M) = p1
  generalize decide (s3 b c a ∈ M) = p2
  generalize decide (s3 c a b ∈ M) = p3
  generalize decide (s3 c b a ∈ M) = p4
  generalize decide (s3 a c b ∈ M) = p5
  generalize decide (s3 b a c ∈ M) = p6
  revert p1 p2 p3 p4 p5 p6
  decide
/-! ### the orders that are found -/
def has (pr : Str → Str) (ys : List Str) (e : Str) : Bool := (ys.find? fun z => decide (pr z = e)).isSome
def firstOf (pr : Str → Str) (ys : List Str) (e : Str) : Str := (ys.find? fun z => decide (pr z = e)).getD ⟨#[]⟩
theorem has_map {pr : Str → Str} {ys : List Str} {e : Str} : has pr ys e = decide (e ∈ ys.map pr) := by
  unfold has
  rw [Bool.eq_iff_iff, List.find?_isSome, decide_eq_true_eq, List.mem_map]
  simp only [decide_eq_true_eq]
theorem first_is {pr : Str → Str} {ys : List Str} {e : Str} (h : has pr ys e = true) : firstOf pr ys e ∈ ys ∧ pr (firstOf pr ys e) = e := by
  unfold has at h
  unfold firstOf
  cases q : ys.find? fun z => decide (pr z = e) with
  | none => rw [q] at h; cases h
  | some z =>
    have h2 := List.find?_some q
    exact ⟨List.mem_of_find?_eq_some q, of_decide_eq_true h2⟩
/-- in order -/
def srt (l : List Str) : List Str := l.mergeSort fun a b => !ltCps b.cps.toList a.cps.toList
theorem srt_perm (l : List Str) : (srt l).Perm l := List.mergeSort_perm _ _
theorem srt_up (l : List Str) : (srt l).Pairwise Le := by
  have := List.pairwise_mergeSort (le := fun a b : Str => !ltCps b.cps.toList a.cps.toList) (fun a b c h1 h2 => by
    rw [Bool.not_eq_true'] at h1 h2 ⊢
    exact le_trans (x := a) (y := b) (z := c) h1 h2) (fun a b => by
    cases e : ltCps b.cps.toList a.cps.toList with
    | false => simp
    | true =>
      have : ltCps a.cps.toList b.cps.toList = false := Lo.le (x := b) (y := a) e
      simp [this]) l
  exact this.imp fun h => by
    rw [Bool.not_eq_true'] at h
    exact h
theorem srt_is {ys l : List Str} (p : ys.Perm l) (s : sortedS ys = true) : ys = srt l :=
  List.Perm.eq_of_pairwise (fun a b _ _ h1 h2 => le_eq h1 h2) (up_sorted s) (srt_up l) (p.trans (srt_perm l).symm)
theorem lo_of {x y : Str} (h : Le x y) (n : x ≠ y) : Lo x y := by
  unfold Lo
  cases e : ltCps x.cps.toList y.cps.toList with
  | true => rfl
  | false => exact absurd (le_eq h e) n
theorem climbs_lo : ∀ ys : List Str, Climbs ys → ys.Pairwise Lo
  | [], _ => .nil
  | [a], _ => List.pairwise_singleton _ _
  | a :: b :: r, h => by
    have ih := climbs_lo (b :: r) h.2
    refine List.pairwise_cons.mpr ⟨fun y hy => ?_, ih⟩
    rcases List.mem_cons.mp hy with rfl | hy
    · exact h.1
    · exact lo_trans _ _ _ h.1 ((List.pairwise_cons.mp ih).1 y hy)
/-- what is told of a wheel -/
def wheelR (pr : Str → Str) (ys : List Str) (a b c : Nat) : Option (List Str) :=
  if (W1 a b c).all (has pr ys) = true then some (srt ((W1 a b c).map (firstOf pr ys))) else if (W2 a b c).all (has pr ys) = true then some (srt ((W2 a b c).map (firstOf pr ys))) else none
theorem wheel_none {pr : Str → Str} {ys : List Str} {a b c : Nat} (d : Apart a b c) (h : ∀ z ∈ ys, pr z ∈ six a b c) : wheelR pr ys a b c = none ↔ placesL (ys.map pr) (s3 a b c) ≠ [] := by
  rw [ne_eq, no_place d (fun m hm => by obtain ⟨z, hz, rfl⟩ := List.mem_map.mp hm; exact h z hz)]
  have e : ∀ W : List Str, W.all (has pr ys) = W.all fun e => decide (e ∈ ys.map pr) := fun W => congrArg (List.all W) (funext fun e => has_map)
  unfold wheelR
  rw [e, e]
  generalize ((W1 a b c).all fun e => decide (e ∈ ys.map pr)) = p
  generalize ((W2 a b c).all fun e => decide (e ∈ ys.map pr)) = q
  cases p <;> cases q <;> simp
/-- a wheel that is told is one -/
structure IsWheel (pr : Str → Str) (ys zs : List Str) : Prop where
  three : zs.length = 3
  up : zs.Pairwise Lo
  sub : ∀ z, z ∈ zs → z ∈ ys
  each : ∀ p, p < 3 → ((zs.map pr).map fun m => atP m p).Nodup
  size : ∀ z, z ∈ zs → (pr z).cps.size = 3
theorem wheel_is {pr : Str → Str} {ys zs : List Str} {a b c : Nat} (d : Apart a b c) (h : wheelR pr ys a b c = some zs) : IsWheel pr ys zs := by
  have go : ∀ W : List Str, W.length = 3 → W.Nodup → (∀ p, p < 3 → (W.map fun m => atP m p).Nodup) → (∀ e ∈ W, e.cps.size = 3) → W.all (has pr ys) = true → IsWheel pr ys (srt (W.map (firstOf pr ys))) := fun W l n nd sz all => by
    rw [List.all_eq_true] at all
    have p := srt_perm (W.map (firstOf pr ys))
    have back : (W.map (firstOf pr ys)).map pr = W := by
      rw [List.map_map]
      exact (List.map_congr_left fun e he => (first_is (all e he)).2).trans (List.map_id _)
    have nn : (W.map (firstOf pr ys)).Nodup := by
      exact List.Pairwise.of_map pr (fun x y hne e => hne (by rw [e])) (show ((W.map (firstOf pr ys)).map pr).Nodup by rw [back]; exact n)
    have pw : (((srt (W.map (firstOf pr ys))).map pr)).Perm W := by
      have := p.map pr
      rw [back] at this
      exact this
    refine ⟨?_, ?_, fun z hz => ?_, fun q hq => ?_, fun z hz => ?_⟩
    · rw [p.length_eq, List.length_map, l]
    · exact (List.Pairwise.and (srt_up _) (p.nodup_iff.mpr nn)).imp fun ⟨u, v⟩ => lo_of u v
    · obtain ⟨e, he, rfl⟩ := List.mem_map.mp (p.mem_iff.mp hz)
      exact (first_is (all e he)).1
    · exact (pw.map fun m => atP m q).nodup_iff.mpr (nd q hq)
    · exact sz _ (pw.mem_iff.mp (List.mem_map.mpr ⟨z, hz, rfl⟩))
  obtain ⟨ab, ac, bc⟩ := d
  have ba := ab.symm
  have ca := ac.symm
  have cb := bc.symm
  have at_ : ∀ u v w p : Nat, atP (s3 u v w) p = ⟨#[(s3 u v w).cps.getD p 0]⟩ := fun _ _ _ _ => rfl
  unfold wheelR at h
  split at h
  · cases h
    rename_i q
    refine go _ rfl (by simp [W1, s3, ab, ac, bc, ba, ca, cb]) (fun p hp => ?_) (by simp [W1, s3]) q
    match p, hp with
    | 0, _ => simp [W1, atP, s3, ab, ac, bc, ba, ca, cb]
    | 1, _ => simp [W1, atP, s3, ab, ac, bc, ba, ca, cb]
    | 2, _ => simp [W1, atP, s3, ab, ac, bc, ba, ca, cb]
  · split at h
    · cases h
      rename_i q
      refine go _ rfl (by simp [W2, s3, ab, ac, bc, ba, ca, cb]) (fun p hp => ?_) (by simp [W2, s3]) q
      match p, hp with
      | 0, _ => simp [W2, atP, s3, ab, ac, bc, ba, ca, cb]
      | 1, _ => simp [W2, atP, s3, ab, ac, bc, ba, ca, cb]
      | 2, _ => simp [W2, atP, s3, ab, ac, bc, ba, ca, cb]
    · cases h
end L2.Cal
end

section
set_option maxRecDepth 100000
set_option maxHeartbeats 4000000
set_option synthInstance.maxHeartbeats 400000
namespace L2.Cal
open PySem PySem.Spec PyProof.Rows L2
abbrev sPek : Stmt := topS 44
theorem scPek : FnScope ["_law_line_here", "_law_found", "_law_turn", "_law_longer", "_law_word", "_law_left"] ["_law_line_here"] (defScope sPek) := ⟨rfl, rfl, rfl, by decide +kernel, rfl, by decide +kernel, by decide +kernel⟩
/-- the words that grow from the ends of a line -/
def spPek : Sp := fun vs H Q _ => ∃ y : Str, vs = [.str y] ∧ y.cps.toList.Nodup ∧ 1 ≤ y.cps.size ∧ y.cps.size ≤ 6 ∧ ∀ (ys : List Str) (l : Addr) (H' : Hp), Same H H' → H l = none → H' l = some (.lst (ys.map V.str)) → Climbs ys → ys.Nodup → Kin ys y → 0 < ys.length → ys.length ≤ 32 → Q (.ref l) H'
section
variable {P : Program} {w : World} {K : PySem.W.Frag} {mg : Str → Option Value} {base : Heap}
theorem ok_pek {f : Addr} {fd : FuncData} (D : DefAt K mg "_law_peaked" sPek ["_law_line_here"] f fd) (T : Txt mg) : FnOk P w K mg base CX0 1 f fd ["_law_line_here"] spPek := by
  refine D.F.ok scPek (fun vs H Q E h => ?_) (fun cdv A outer sh H vs Q E hr h => ?_)
  · obtain ⟨y, rfl, _⟩ := h
    rfl
  · obtain ⟨y, rfl, ly, y1, y6, q⟩ := h
    refine ⟨_, (pss_cons (ps_set (i := 1) scPek.nd rfl (.inl rfl) (pe_lstS (pa_cons (pe_lstS (pa_cons pe_str (pa_cons (pv 0) pa_nil))) pa_nil)))
      (pss_cons (ps_for PassesOwn.never rfl (pi_range1 (by rfl) T.b_range (pa_cons (pe_op op_sub (pe_callB call_len_str (by rfl) T.b_len (by decide +kernel) (pa_cons (pv 0) pa_nil)) pe_int) pa_nil)) (pg_name (i := 2) scPek.nd rfl (.inl rfl))
        (pss_cons (ps_set (i := 3) scPek.nd rfl (.inl rfl) (pe_lstS pa_nil))
        (pss_cons (ps_for PassesOwn.never rfl (pi_list (pv 1)) (pg_unl rfl (pgs_cons (pg_name (i := 4) scPek.nd rfl (.inl rfl)) (pgs_cons (pg_name (i := 5) scPek.nd rfl (.inl rfl)) pgs_nil)))
          (pss_one (ps_set (i := 3) scPek.nd rfl (.inl rfl) (pe_op op_catS (pv 3) (pe_lstS (pa_cons (pe_lstS (pa_cons (pe_op op_add_str (pe_ix ix_str (pv 5) pe_int (fun _ _ => rfl)) (pv 4)) (pa_cons (pe_slice sl_str (pv 5) (po_some pe_int) po_none) pa_nil))) (pa_cons (pe_lstS (pa_cons (pe_op op_add_str (pe_ix ix_str (pv 5) (pe_un un_neg pe_int) (fun _ _ => rfl)) (pv 4)) (pa_cons (pe_slice sl_str (pv 5) po_none (po_some (pe_un un_neg pe_int))) pa_nil))) pa_nil)))))))
        (pss_one (ps_set (i := 1) scPek.nd rfl (.inl rfl) (pv 3))))))
      (pss_one (ps_ret (pe_callB cr_sortedS (by rfl) T.b_sorted (by decide +kernel) (pa_cons (pe_lc (own := [("_law_word", 4), ("_law_left", 5)]) (g := gUnl K 2 (gCons (gName 4) (gCons (gName 5) gNil))) (tt := tYes) rfl scPek.nd (pi_list (pv 1)) (blkOk_by (own := [("_law_word", 4), ("_law_left", 5)]) (N := ["_law_line_here", "_law_found", "_law_turn", "_law_longer", "_law_word", "_law_left"]) (sc := defScope sPek) (by decide +kernel))
          (fun _ _ _ _ _ => pg_unl rfl (pgs_cons (pg_name (i := 4) scPek.nd rfl (Or.inl rfl)) (pgs_cons (pg_name (i := 5) scPek.nd rfl (Or.inl rfl)) pgs_nil))) (fun _ _ _ _ _ => pts_nil) (fun _ _ _ _ _ => pe_op op_add_str (pv 5) (pv 4))) pa_nil)))))), ?_⟩
    have lim : ∀ {n : Nat}, n ≤ 1000 → n ≤ sizeLine := fun h => by rw [sizeLine_eq]; omega
    have yl : y.cps.toList.length = y.cps.size := Array.length_toList
    have ylen : y.length = y.cps.size := rfl
    refine ⟨_, rfl, lim (show 2 ≤ 1000 by decide), fun l0 H1 s1 n1 e1 => ⟨lim (show 1 ≤ 1000 by decide), fun F H2 s2 n2 e2 => ?_⟩⟩
    refine ⟨_, rfl, y, rfl, lim (by omega), _, _, rfl, rfl, (y.length : Int) - 1, rfl, by omega, by omega, for_range (lo := 0) (n := ((y.length : Int) - 1).toNat) (fun i σ H' => ∃ (F : Addr) (vs : List V) (rs : List (Str × Str)) (v2 v3 v4 v5 : Option V), σ = [some (.str y), some (.ref F), v2, v3, v4, v5] ∧ Same H H' ∧ H' F = some (.lst vs) ∧ PairsAt H' vs rs ∧ Pk y i rs)
      ⟨F, _, _, _, _, _, _, rfl, s1.trans s2, e2, .cons (s2 _ _ e1) .nil, pk_start y⟩ (fun i σ H' hi hP => ?_) (fun σ H' hP => ?_)⟩
    · obtain ⟨F, vs, rs, v2, v3, v4, v5, rfl, sH, eF, ps, pk⟩ := hP
      have pw : 2 ^ i ≤ 32 := Nat.le_trans (Nat.pow_le_pow_right (by decide) (show i ≤ 5 by omega)) (by decide)
      have rl : rs.length ≤ 32 := by rw [pk.len]; exact pw
      refine ⟨lim (show 0 ≤ 1000 by decide), fun L H3 s3 n3 e3 => ?_⟩
      refine ⟨_, rfl, F, rfl, ⟨_, SqL.of (s3 _ _ eF)⟩, for_list (xs := vs) (fun k σ H'' => ∃ (L : Addr) (ws : List V) (v4 v5 : Option V), σ = [some (.str y), some (.ref F), some (.int (0 + (i : Int))), some (.ref L), v4, v5] ∧ Same H' H'' ∧ H'' L = some (.lst ws) ∧ PairsAt H'' ws ((rs.take k).flatMap pkOf))
        ⟨L, [], _, _, rfl, s3, e3, .nil⟩ (fun k σ H'' _ hP => ?_) (fun k v σ H4 hv hP => ?_) (fun σ H4 hP => ?_)⟩
      · obtain ⟨_, _, _, _, _, s, _⟩ := hP
        exact SqL.of (s _ _ eF)
      · obtain ⟨L, ws, v4, v5, rfl, s4, eL, pw4⟩ := hP
        obtain ⟨a, r, rfl, hr, ea⟩ := (ps.same s4).at_ hv
        have rin := List.mem_of_getElem? hr
        have lf := pk.left r rin
        have pm := (pk.pm r rin).length_eq
        rw [List.length_append] at pm
        have z1 : r.2.cps.toList.length = r.2.cps.size := Array.length_toList
        have z2 : r.1.cps.toList.length = r.1.cps.size := Array.length_toList
        have l1 : r.1.length = r.1.cps.size := rfl
        have l2 : r.2.length = r.2.cps.size := rfl
        have g0 : atI r.2.cps.toList 0 = some (r.2.cps.toList.getD 0 0) := atI_nat (j := 0) (by rw [List.getD_eq_getElem?_getD, List.getElem?_eq_getElem (by omega)] <;> rfl)
        have gm : atI r.2.cps.toList (-1) = some (r.2.cps.toList.getD (r.2.cps.toList.length - 1) 0) := by
          have ne : r.2.cps.toList ≠ [] := fun z => by rw [z] at z1 lf; simp at lf; omega
          have e := List.dropLast_concat_getLast ne
          have el : r.2.cps.toList.getD (r.2.cps.toList.length - 1) 0 = r.2.cps.toList.getLast ne := by
            rw [List.getD_eq_getElem?_getD, List.getLast_eq_getElem, List.getElem?_eq_getElem (by omega)] <;> rfl
          rw [el]
          generalize r.2.cps.toList.getLast ne = g at e
          rw [← e]
          exact atI_last _ _
        have c1 := cutS_length r.2 (some 1) none
        have c2 := cutS_length r.2 none (some (-1))
        have o1 : ∀ c : Nat, (⟨#[c]⟩ : Str).length = 1 := fun _ => rfl
        refine ⟨a, _, rfl, SqL.of ea, rfl, _, _, rfl, _, _, rfl, rfl, ?_⟩
        refine ⟨_, rfl, _, rfl, r.2, 0, _, rfl, rfl, lim (by omega), g0, _, rfl, _, _, rfl, rfl, lim (by rw [o1]; omega), _, rfl, _, rfl, r.2, rfl, lim (by omega), lim (show 2 ≤ 1000 by decide), fun p1 H5 s5 n5 e5 => ?_⟩
        refine ⟨_, rfl, _, rfl, r.2, -1, _, rfl, rfl, lim (by omega), gm, _, rfl, _, _, rfl, rfl, lim (by rw [o1]; omega), _, rfl, _, rfl, _, rfl, r.2, rfl, lim (by omega), lim (show 2 ≤ 1000 by decide), fun p2 H6 s6 n6 e6 => ⟨lim (show 2 ≤ 1000 by decide), fun p3 H7 s7 n7 e7 => ?_⟩⟩
        have S47 : Same H4 H7 := s5.trans (s6.trans s7)
        have wl := pw4.len
        have fl : ((rs.take k).flatMap pkOf).length ≤ 64 := by
          have : ∀ l : List (Str × Str), (l.flatMap pkOf).length = 2 * l.length := fun l => by
            induction l with
            | nil => rfl
            | cons a l ih => rw [List.flatMap_cons, List.length_append, ih, List.length_cons]; show 2 + _ = _; omega
          rw [this, List.length_take]
          omega
        refine ⟨L, p3, ws, [.ref p1, .ref p2], rfl, rfl, S47 _ _ eL, e7, by rw [wl, sizeLine_eq]; simp only [List.length_cons, List.length_nil]; omega, fun L2 H8 s8 n8 e8 => ?_⟩
        refine ⟨L2, _, _, _, rfl, s4.trans (S47.trans s8), e8, ?_⟩
        rw [List.take_succ, hr, Option.toList_some, List.flatMap_append, List.flatMap_singleton]
        exact (pw4.same (S47.trans s8)).app (.cons (s8 _ _ (s7 _ _ (s6 _ _ e5))) (.cons (s8 _ _ (s7 _ _ e6)) .nil))
      · obtain ⟨L, ws, v4, v5, rfl, s4, eL, pw4⟩ := hP
        rw [ps.len, List.take_length] at pw4
        exact ⟨_, rfl, L, ws, _, _, _, _, _, rfl, sH.trans s4, eL, pw4, pk_step ly pk (by omega)⟩
    · obtain ⟨F, vs, rs, v2, v3, v4, v5, rfl, sH, eF, ps, pk⟩ := hP
      have rl : rs.length ≤ 32 := by
        rw [pk.len]
        exact Nat.le_trans (Nat.pow_le_pow_right (by decide) (show ((y.length : Int) - 1).toNat ≤ 5 by omega)) (by decide)
      obtain ⟨nd, pm⟩ := pk_end pk (by omega)
      refine ⟨_, rfl, F, rfl, ⟨_, SqL.of eF⟩, fun D nD => lc_list (K := K) (a := F) (xs := vs) (fun k H'' => Same H' H'' ∧ H'' D = some (.lst (((rs.take k).map fun r => r.2 ++ r.1).map V.str))) ⟨same_new nD, upd_same⟩ (fun k H'' _ hP => SqL.of (hP.1 _ _ eF)) (fun k v H4 hv hP => ?_) (fun H4 hP => ?_)⟩
      · obtain ⟨s4, e4⟩ := hP
        obtain ⟨a, r, rfl, hr, ea⟩ := (ps.same s4).at_ hv
        have rin := List.mem_of_getElem? hr
        have lf := pk.left r rin
        have pmr := (pk.pm r rin).length_eq
        rw [List.length_append] at pmr
        have z1 : r.2.cps.toList.length = r.2.cps.size := Array.length_toList
        have z2 : r.1.cps.toList.length = r.1.cps.size := Array.length_toList
        have l1 : r.1.length = r.1.cps.size := rfl
        have l2 : r.2.length = r.2.cps.size := rfl
        have kl := (List.getElem?_eq_some_iff.mp hr).1
        refine ⟨a, _, rfl, SqL.of ea, rfl, _, _, rfl, _, _, rfl, rfl, rfl, _, rfl, _, rfl, _, _, rfl, rfl, lim (by omega), _, e4, by rw [List.length_map, List.length_map, List.length_take, sizeLine_eq]; omega, fun b o h => ?_, ?_⟩
        · rw [upd_ne (ne_of_none h nD)]
          exact s4 _ _ h
        · rw [upd_same, List.take_succ, hr, Option.toList_some, List.map_append, List.map_append] <;> rfl
      · obtain ⟨s4, e4⟩ := hP
        rw [ps.len, List.take_length] at e4
        refine ⟨D, rs.map fun r => r.2 ++ r.1, rfl, SqL.of e4, by rw [List.length_map]; omega, fun ys p pmy so np => ?_⟩
        have ndy := pmy.nodup_iff.mpr nd
        have S : Same H (upd H4 p (.lst (ys.map V.str))) := sH.trans (s4.trans (same_new np))
        refine q ys p _ S ?_ upd_same (climbs_sorted so ndy) ndy (fun z hz => pm z (pmy.mem_iff.mp hz)) (by rw [pmy.length_eq, List.length_map, pk.len]; exact Nat.pow_pos (by decide)) (by rw [pmy.length_eq, List.length_map]; exact rl)
        cases e : H p with
        | none => rfl
        | some o =>
          rw [s4 _ _ (sH _ _ e)] at np
          cases np
end
end L2.Cal
end

section
set_option maxRecDepth 100000
set_option maxHeartbeats 4000000

end

section
set_option maxRecDepth 100000
set_option maxHeartbeats 4000000
namespace L2.Cal
open PySem PySem.Spec PyProof.Rows L2
abbrev sIsO : Stmt := topS 18
theorem scIsO : FnScope ["value", "letter"] ["value"] (defScope sIsO) := ⟨rfl, rfl, rfl, by decide +kernel, rfl, by decide +kernel, by decide +kernel⟩

theorem one_lt (a b : Nat) : decide (([a] : List Nat) < [b]) = decide (a < b) := by
  rw [← ltCps_eq]
  simp [ltCps]
theorem nodup_back {l : List Nat} (h : (l.map fun n => (⟨#[n]⟩ : Str)).Nodup) : l.Nodup := List.Pairwise.of_map _ (fun a b n e => n (by rw [e])) h
theorem nodup_signs {y : Str} (h : y.cps.toList.Nodup) : (signs y).Nodup := by
  refine List.Pairwise.map _ (fun a b n e => n ?_) h
  have : ([a] : List Nat) = [b] := congrArg (fun z : Str => z.cps.toList) e
  exact (List.cons.inj this).1
theorem ca : (Str.ofString "a").cps.toList = [97] := by decide +kernel
theorem cz : (Str.ofString "z").cps.toList = [122] := by decide +kernel
structure Lims (mg : Str → Option Value) : Prop where
  c1 : ∃ t, mg "LEAST_THINGS" = some (.int 3 t)
  c2 : ∃ t, mg "MOST_THINGS" = some (.int 6 t)
  c3 : ∃ t, mg "MOST_ORDERS" = some (.int 48 t)
def ordB (y : Str) : Bool := decide (3 ≤ y.cps.size ∧ y.cps.size ≤ 6) && (decide y.cps.toList.Nodup && y.cps.toList.all fun c => decide (97 ≤ c) && decide (c ≤ 122))
def spIsO : Sp := fun vs H Q _ => ∃ y : Str, vs = [.str y] ∧ y.cps.size ≤ 1000 ∧ ∀ H', Same H H' → Q (.bl (ordB y)) H'
section
variable {P : Program} {w : World} {K : PySem.W.Frag} {mg : Str → Option Value} {base : Heap}
theorem ok_iso {f : Addr} {fd : FuncData} (D : DefAt K mg "is_order" sIsO ["value"] f fd) (T : Txt mg) (Lm : Lims mg) : FnOk P w K mg base CX0 1 f fd ["value"] spIsO := by
  obtain ⟨_, c1⟩ := Lm.c1
  obtain ⟨_, c2⟩ := Lm.c2
  refine D.F.ok scIsO (fun vs H Q E h => ?_) (fun cdv A outer sh H vs Q E hr h => ?_)
  · obtain ⟨y, rfl, _⟩ := h
    rfl
  · obtain ⟨y, rfl, hy, q⟩ := h
    refine ⟨_, (pss_cons (ps_if (PW.pt (pw_or (pt_not (pt_val (pe_callB call_isi (by rfl) T.b_isinstance (by decide +kernel) (pa_cons (pv 0) (pa_cons (pe_bty (n := "str") (by rfl) T.b_str (by decide +kernel)) pa_nil))))) (pw_or1 (pt_not (pt_chain op_le op_le (pe_glob (v := .int 3) (by rfl) c1 ⟨_, rfl⟩) (pe_callB call_len_str (by rfl) T.b_len (by decide +kernel) (pa_cons (pv 0) pa_nil)) (pe_glob (v := .int 6) (by rfl) c2 ⟨_, rfl⟩))))))
   (pss_one (ps_ret pe_bl))
   pss_nil)
  (pss_one (ps_ret (pe_and (pe_cmpR op_eq (pe_lenSetS rfl (by rfl) T.b_len (by rfl) T.b_set (pv 0)) (pe_callB call_len_str (by rfl) T.b_len (by decide +kernel) (pa_cons (pv 0) pa_nil)) (nomark _)) (pe_one (pe_callB (cr_all rfl) (by rfl) T.b_all (by decide +kernel) (pa_cons (pe_lc (own := [("letter", 1)]) (g := gName 1) (tt := tYes) rfl scIsO.nd (pi_str (pv 0)) (blkOk_by (own := [("letter", 1)]) (N := ["value", "letter"]) (sc := (defScope sIsO)) (by decide +kernel)) (fun _ _ _ _ _ => pg_name (i := 1) scIsO.nd rfl (Or.inl rfl)) (fun _ _ _ _ _ => pts_nil) (fun _ _ _ _ _ => (pe_chain op_le_str op_le_str pe_str (pv 1) pe_str))) pa_nil))))))), ?_⟩
    have sz : y.length = y.cps.size := rfl
    have fit : y.length ≤ sizeLine := by rw [sizeLine_eq, sz]; omega
    refine ⟨_, rfl, .str y, .ty "str", .type "str", .type "str", true, rfl, .ty _, .base (.str y), rfl, true, rfl, iteF ?_⟩
    refine ⟨_, rfl, y, rfl, fit, _, _, rfl, rfl, _, rfl, ite2 (fun e => ⟨_, _, rfl, rfl, _, rfl, ?_⟩) (fun e => ⟨_, rfl, ?_⟩)⟩
    · have e3 : 3 ≤ y.cps.size := by
        have := of_decide_eq_true e
        rw [sz] at this
        omega
      by_cases c6 : y.cps.size ≤ 6
      · rw [decide_eq_true (show (y.length : Int) ≤ 6 by rw [sz]; omega)]
        refine iteF ?_
        have e36 : decide (3 ≤ y.cps.size ∧ y.cps.size ≤ 6) = true := decide_eq_true ⟨e3, c6⟩
        refine ⟨_, rfl, y, rfl, hy, fun l nd mem => ⟨_, rfl, y, rfl, fit, rfl, _, rfl, ite2 (fun e => ?_) (fun e => ?_)⟩⟩
        · have ndy : y.cps.toList.Nodup := by
            have el : l.length = y.cps.size := by
              have := V.int.inj (of_decide_eq_true e)
              rw [sz] at this
              omega
            have pm : (signs y).Perm l := perm_of_into l (signs y) nd (fun x hx => by
              obtain ⟨c, hc, rfl⟩ := (mem x).mp hx
              exact List.mem_map.mpr ⟨c, hc, rfl⟩) (by rw [signs_length, el]; exact Nat.le_refl _)
            have := pm.nodup_iff.mpr nd
            unfold signs at this
            exact nodup_back this
          refine ⟨_, rfl, y, rfl, fun D nD => lc_it walk_str (fun k H' => Same H H' ∧ H' D = some (.lst ((y.cps.toList.take k).map fun c => V.bl (decide (97 ≤ c) && decide (c ≤ 122))))) ⟨same_new nD, upd_same⟩ (fun _ _ _ _ => trivial) (fun k x H1 H2 hk hP hY => ?_) (fun H1 hP => ?_)⟩
          · obtain ⟨sm, eD⟩ := hP
            obtain ⟨rfl, c, hc, rfl⟩ := hY
            have hk2 : k < y.cps.toList.length := by rw [Array.length_toList]; exact hk
            have ec : y.cps.toList[k] = c := by
              rw [Array.getElem_toList]
              exact (Array.getElem?_eq_some_iff.mp hc).2
            have fin : ∀ b, b = (decide (97 ≤ c) && decide (c ≤ 122)) → ∃ acc, H2 D = some (.lst acc) ∧ acc.length < sizeLine ∧ Same H (upd H2 D (.lst (acc ++ [V.bl b]))) ∧ (upd H2 D (.lst (acc ++ [V.bl b]))) D = some (.lst ((y.cps.toList.take (k + 1)).map fun c => V.bl (decide (97 ≤ c) && decide (c ≤ 122)))) := fun b eb => by
              refine ⟨_, eD, ?_, fun a o z => ?_, ?_⟩
              · rw [List.length_map, List.length_take, sizeLine_eq]
                omega
              · rw [upd_ne (ne_of_none z nD)]
                exact sm _ _ z
              · rw [upd_same, List.take_succ, List.getElem?_eq_getElem hk2, ec, List.map_append, eb] <;> rfl
            refine ⟨rfl, _, rfl, _, _, rfl, rfl, _, rfl, ite2 (fun e => ⟨_, _, rfl, rfl, fin _ ?_⟩) (fun e => fin _ ?_)⟩
            · rw [ca, one_lt] at e
              have e97 : 97 ≤ c := by
                have := of_decide_eq_false (by simpa using e : decide (c < 97) = false)
                omega
              rw [cz, one_lt, decide_eq_true e97, Bool.true_and]
              by_cases h : c ≤ 122
              · rw [decide_eq_true h, decide_eq_false (by omega)] <;> rfl
              · rw [decide_eq_false h, decide_eq_true (by omega)] <;> rfl
            · rw [ca, one_lt] at e
              have e97 : ¬ 97 ≤ c := fun z => e (by rw [decide_eq_false (by omega)] <;> rfl)
              rw [decide_eq_false e97, Bool.false_and]
          · obtain ⟨sm, eD⟩ := hP
            rw [List.take_of_length_le (by rw [Array.length_toList]; exact Nat.le_refl _)] at eD
            refine ⟨D, y.cps.toList.map fun c => decide (97 ≤ c) && decide (c ≤ 122), rfl, SqL.of (by rw [eD, List.map_map] <;> rfl), ?_⟩
            have z := q H1 sm
            unfold ordB at z
            rw [e36, decide_eq_true ndy, Bool.true_and, Bool.true_and] at z
            rw [List.all_map]
            exact z
        · have z := q H (fun _ _ z => z)
          unfold ordB at z
          rw [e36, decide_eq_false (show ¬ y.cps.toList.Nodup from fun nd2 => e (decide_eq_true ?_)), Bool.true_and, Bool.false_and] at z
          · exact z
          · have into : ∀ x, x ∈ l → x ∈ signs y := fun x hx => by
              obtain ⟨c, hc, rfl⟩ := (mem x).mp hx
              exact List.mem_map.mpr ⟨c, hc, rfl⟩
            have nds : (signs y).Nodup := nodup_signs nd2
            have le1 := List.Nodup.length_le_of_subset nd into
            have le2 := List.Nodup.length_le_of_subset nds fun x hx => by
              obtain ⟨c, hc, rfl⟩ := List.mem_map.mp hx
              exact (mem _).mpr ⟨c, hc, rfl⟩
            rw [signs_length] at le1 le2
            rw [Nat.le_antisymm le1 le2]
      · rw [decide_eq_false (show ¬ (y.length : Int) ≤ 6 by rw [sz]; omega)]
        refine iteT ?_
        have z := q H (fun _ _ z => z)
        unfold ordB at z
        rw [decide_eq_false (show ¬ (3 ≤ y.cps.size ∧ y.cps.size ≤ 6) by omega), Bool.false_and] at z
        exact z
    · refine iteT ?_
      have z := q H (fun _ _ z => z)
      unfold ordB at z
      rw [decide_eq_false (show ¬ (3 ≤ y.cps.size ∧ y.cps.size ≤ 6) from fun c => e (decide_eq_true (show (3 : Int) ≤ (y.length : Int) by rw [sz]; omega))), Bool.false_and] at z
      exact z
end
end L2.Cal
end

section
set_option maxRecDepth 100000
set_option maxHeartbeats 4000000
/-! `for i, x in enumerate(t)`, t a tuple -/
namespace L2.Cal
open PySem PySem.Spec PyProof.Rows L2
theorem enum_meets {v : Value} {o : Obj} {H : Heap → Prop} (B : Begins v o H) : Meets (Builtin.«enumerate.__new__» ⟨[.type "enumerate", v], []⟩) (fun _ R s => H s.heap ∧
    R (.ok (.ret (.ref (s.heap.push o).objs.size))) { s with heap := (s.heap.push o).push { cls := .type "enumerate", data := .fields #[.none, .bool false, .ref s.heap.objs.size, rawInt 0, .none, .none] } }) :=
  .of_wp fun prog w A R s h => by
    obtain ⟨hp, g, d, tk, os⟩ := s
    obtain ⟨hH, fin⟩ := h
    have below := PySem.sub_enumerate
    have start : ∀ {A' : Around} {E : Value → Shared → Prop} {Q : Value → Shared → Prop}, Q (.ref hp.objs.size) ⟨hp.push o, g, d, tk, os⟩ → wpAny (model prog w) A' (pyIter v) Q E ⟨hp, g, d, tk, os⟩ := fun q => B.iter prog w _ _ ⟨hp, g, d, tk, os⟩ _ hH q
    wp_walk using start
    refine wpAny_stack_any fun _ => wpAny_pure ?_
    split
    · rename_i c _ _ _ _ _
      cases (c == Value.type "enumerate") <;> (wp_walk using start; exact ⟨_, rfl, fin⟩)
    · wp_walk using start
      exact ⟨_, rfl, fin⟩
section
variable {prog : Program} {w : World} {A : Around} {E : Value → Shared → Prop} {s : Shared}
theorem enum_one {v : Value} {o : Obj} {H : Heap → Prop} {Q : Value → Shared → Prop} (B : Begins v o H) (hH : H s.heap)
    (q : ∀ h', IsEnum h' (s.heap.objs.size + 1) s.heap.objs.size 0 .none → h'.get? s.heap.objs.size = some o → (∀ b o, s.heap.get? b = some o → h'.get? b = some o) → Q (.ref (s.heap.objs.size + 1)) { s with heap := h' }) :
    wpAny (model prog w) A (call (.type "enumerate") [v]) Q E s := by
  have z : (s.heap.push o).objs.size = s.heap.objs.size + 1 := Heap.size_push ..
  have at1 : IsEnum ((s.heap.push o).push { cls := .type "enumerate", data := .fields #[.none, .bool false, .ref s.heap.objs.size, rawInt 0, .none, .none] }) (s.heap.objs.size + 1) s.heap.objs.size 0 .none := by
    rw [← z]
    exact Heap.get?_push_size _ rfl
  refine callType_new PySem.F.called_enumerate (by decide) (PySem.F.typeCall_enumerate_1 _) (PySem.F.newCall_enumerate_1 _) (fun obj => PySem.F.args_object_init_2 obj _) PySem.F.entry_enumerate_new (enum_meets B) ⟨hH, ?_⟩
  show _ ∧ _
  rw [z]
  exact ⟨⟨_, at1, rfl⟩, q _ at1 (Heap.get?_push_of_some _ (Heap.get?_push_size _ B.free)) fun b o e => Heap.get?_push_of_some _ (Heap.get?_push_of_some _ e)⟩
end
/-- the tuple at a, each item in a new pair with its place -/
def IteT (K : PySem.W.Frag) (a : Addr) : It :=
  ⟨fun i H => ∃ (xs : List V) (x : V), SqT K H a xs ∧ xs[i]? = some x, fun i H v H' => ∃ T x, v = .ref T ∧ H T = none ∧ H' = upd H T (.tup [.int (i : Nat), x]) ∧ ∀ xs, SqT K H a xs → xs[i]? = some x, fun i H => ∃ xs : List V, SqT K H a xs ∧ xs.length ≤ i⟩
theorem turn_enumT {P : Program} {w : World} {K : PySem.W.Frag} {elts : List Expr} {kk : Nat} {tpos : Pos} (a e it : Addr) :
    Turn P w K (.Tuple elts kk tpos) (IteT K a) [e, it] e (fun i h => (∃ old, IsEnum h e it ((i : Nat) : Int) old) ∧ h.IsTupleIter it a i ∧ e ≠ it) where
  mem := by simp
  obj := fun i h st b hb => by
    obtain ⟨⟨old, he⟩, ⟨o, ho, hc, hd⟩, _⟩ := st
    rcases List.mem_cons.mp hb with z | z
    · rw [z]
      exact ⟨_, he, fun v q => nomatch q⟩
    · rw [List.mem_singleton.mp z]
      exact ⟨o, ho, fun v q => by rw [hd] at q; cases q⟩
  keep := fun i h h' st k => let ⟨⟨old, he⟩, hi, hne⟩ := st; ⟨⟨old, k e (by simp) _ he⟩, hi.at fun o q => k it (by simp) o q, hne⟩
  item := by
    intro X hP hw hK hc i pins s σ H E I hf st hg
    subst hP hw hK
    obtain ⟨⟨old, he⟩, hit, hne⟩ := st
    obtain ⟨xs, x, hq, hx⟩ := hg
    obtain ⟨its, rv, p, hz⟩ := I.tuple hq
    obtain ⟨u, hu, ru⟩ := rv.get hx
    have lt1 : e < s.heap.objs.size := Heap.lt_size he
    have lt2 : it < s.heap.objs.size := by obtain ⟨_, q, _⟩ := hit; exact Heap.lt_size q
    have tup : s.heap.IsTuple a its.toArray := p
    have nai : a ≠ it := fun z => by
      obtain ⟨o1, e1, c1, _⟩ := tup
      obtain ⟨o2, e2, c2, _⟩ := hit
      rw [z, e2] at e1
      cases e1
      rw [c2] at c1
      exact absurd c1 (by decide)
    have nae : e ∉ [it, a] := by
      intro z
      rcases List.mem_cons.mp z with z | z
      · exact hne z
      · have z := List.mem_singleton.mp z
        obtain ⟨o1, e1, c1, _⟩ := tup
        rw [← z, he] at e1
        cases e1
        exact absurd (show Value.type "enumerate" = .type "tuple" from c1) (by decide)
    have isz : i < its.toArray.size := by
      have := (List.getElem?_eq_some_iff.mp hu).1
      simpa using this
    refine wpAny_pyNext_enum_itemD (Draws.tuple (A := X.A.in1) (by simpa using I.ok.hd hc) it a nai its.toArray) he ⟨hit, tup⟩ isz hne nae fun x' h' tk hx' ho hst hT hsz hk => ?_
    have ex : x' = u := by
      have : its.toArray[i]? = some u := by simpa using hu
      rw [this] at hx'
      exact (Option.some.inj hx').symm
    subst ex
    obtain ⟨hit', _⟩ := hst
    refine ⟨_, rfl, wpAny_letOwnedTupleGo_enum (s := { s with heap := h', toks := tk + 1 }) ho fun h'' he' sb => ?_⟩
    have hT2 : h''.get? s.heap.objs.size = some { cls := .type "tuple", data := .seq #[.int i tk, x'] } := (sb.2 _ (Nat.ne_of_gt lt1)).trans hT
    have new : ObjOk X.prog X.w (upd H s.heap.objs.size (.tup [.int (i : Nat), x])) h'' s.heap.objs.size (.tup [.int (i : Nat), x]) := ⟨by show 2 ≤ sizeLine; decide, [.int i tk, x'], .cons ⟨_, rfl⟩ (.cons ru .nil), ⟨_, hT2, rfl, _, rfl⟩⟩
    have J : Inv X pins σ (upd H s.heap.objs.size (.tup [.int (i : Nat), x])) { s with heap := h'', toks := tk + 1 } :=
      I.turnedNew (ch := [e, it]) (fun b ob hb q => (sb.2 b (fun z => hb (by simp [z]))).trans (hk b ob (fun z => hb (by simp [z])) (fun z => hb (by simp [z])) q)) hf (Nat.le_refl _) new
    refine ⟨.ref s.heap.objs.size, _, J, rfl, ⟨_, x, rfl, I.hok.fresh (Nat.le_refl _), rfl, fun ys hy => by rw [I.tuple_inj hy hq]; exact hx⟩, ⟨⟨x', ?_⟩, hit'.at fun o q => (sb.2 it (Ne.symm hne)).trans q, hne⟩, fun b hb => ?_⟩
    · rw [show ((i + 1 : Nat) : Int) = (i : Int) + 1 by omega]
      exact he'
    · have lt : b < s.heap.objs.size := by
        rcases List.mem_cons.mp hb with z | z
        · rw [z]; exact lt1
        · rw [List.mem_singleton.mp z]; exact lt2
      rw [upd_ne (Nat.ne_of_lt lt)]
      exact (hf b hb).1
  done := by
    intro X hP hw hK hc i pins s σ H E I hf st hg
    subst hP hw hK
    obtain ⟨⟨old, he⟩, hit, hne⟩ := st
    obtain ⟨xs, hq, hx⟩ := hg
    obtain ⟨its, rv, p, hz⟩ := I.tuple hq
    obtain ⟨f0, f1, f2, f3, f4, f5⟩ := hf it (by simp)
    have len := rv.length
    have kind : s.TypeIs (.ref e) "enumerate" := ⟨_, he, rfl⟩
    unfold pyNext
    refine wpAny_bind (wpAny_attempt (wpAny_callSpecial?_slot (name := Str.ofString "__next__") kind PySem.F.slot_enumerate_next (wpAny_call_entry PySem.F.slot_enumerate_next kind PySem.F.entry_enumerate_next ?_ (PySem.F.args_enumerate_next_1 _))))
    show wpAny _ _ (field (.ref e) 2 >>= _) _ _ _
    refine wpAny_bind (wpAny_field he rfl (x := .ref it) rfl (wpAny_bind (wpAny_nextOf_tuple_end (by simpa using I.ok.hd hc) hit (show s.heap.IsTuple a its.toArray from p) (by simp; omega) fun h' x he' ⟨o, ho, hc'⟩ => ?_)))
    exact wpAny_bind (wpAny_isInstance (T := "StopIteration") (b := true) ⟨o, ho, hc'⟩ isSubtype_stop (wpAny_pure ⟨rfl, I.turned (t' := s.toks) (fun b o hb q => he' b o hb q) f0 f1 f3 f4 f5⟩))
  self := fun A i s Q E st h => let ⟨⟨_, he⟩, _⟩ := st; wpAny_pyIter_enum he h
def iEnumT (K : PySem.W.Frag) (ta : TA) : TI := fun σ H R => ta σ H fun vs H1 => ∃ a xs, vs = [.ref a] ∧ SqT K H1 a xs ∧ R (IteT K a) H1
theorem pi_enumT {X : Cx} {e : Expr} {ta : TA} {p pos tpos : Pos} {elts : List Expr} {kk : Nat} (hg : Gl X "enumerate") (hm : X.mg "enumerate" = none) (ha : PA X [e] ta) (hs : starEach [e] X.env = [(false, eval e X.env)] := by rfl) :
    PI X (.Tuple elts kk tpos) (.Call (.Name "enumerate" p) [e] [] pos) (iEnumT X.K ta) := by
  refine ⟨fun pins s σ H R I h => Call_ (ld_blt I hg hm boot_enumerate (PyProof.Rows.callWith_type1 (thn (ha.run pos pins s σ H _ I h) fun us s1 ⟨vs, H1, I1, r1, q1⟩ => ?_) hs rfl))⟩
  obtain ⟨a, xs, rfl, hq, q⟩ := q1
  match us, r1 with
  | _, .cons r .nil =>
    cases r
    obtain ⟨its, rv, tup, _⟩ := I1.tuple hq
    refine enum_one (begins_tuple a its.toArray) tup fun h' he hit k => wpAny_pyIter_enum he ?_
    have I2 : Inv X pins σ H1 { s1 with heap := h' } := I1.kept (t' := s1.toks) k
    refine ⟨s1.heap.objs.size + 1, [s1.heap.objs.size + 1, s1.heap.objs.size], _, _, H1, rfl, I2, turn_enumT a (s1.heap.objs.size + 1) s1.heap.objs.size, ⟨⟨.none, he⟩, ⟨_, hit, rfl, rfl⟩, Nat.succ_ne_self _⟩, fun b hb => ?_, q⟩
    have le : s1.heap.objs.size ≤ b := by
      rcases List.mem_cons.mp hb with z | z
      · rw [z]; exact Nat.le_add_right _ _
      · rw [List.mem_singleton.mp z]; exact Nat.le_refl _
    exact I1.fpOk le (I1.hok.fresh le)
theorem walk_enumT {K : PySem.W.Frag} {a : Addr} {xs : List V} : Walk (IteT K a) xs.length (fun H => SqT K H a xs) (YPair (fun i => some (.int (i : Nat))) (fun i => xs[i]?)) :=
  ⟨fun i H hi hq => ⟨xs, _, hq, List.getElem?_eq_getElem hi⟩, fun H hq => ⟨xs, hq, Nat.le_refl _⟩, fun i H v H' hi hq ⟨T, x, e1, e2, e3, e4⟩ => ⟨T, _, x, e1, e2, e3, rfl, e4 xs hq⟩⟩
end L2.Cal
end

section
set_option maxRecDepth 100000
set_option maxHeartbeats 4000000
namespace L2.Cal
open PySem PySem.Spec PyProof.Rows L2
abbrev sThO : Stmt := topS 19
theorem scThO : FnScope ["order"] ["order"] (defScope sThO) := ⟨rfl, rfl, rfl, by decide +kernel, rfl, by decide +kernel, by decide +kernel⟩
abbrev sRah : Stmt := topS 21
theorem scRah : FnScope ["orders", "index", "order"] ["orders"] (defScope sRah) := ⟨rfl, rfl, rfl, by decide +kernel, rfl, by decide +kernel, by decide +kernel⟩

/-- a text's letters in order -/
def tidy (y : Str) : Str := ⟨(y.cps.toList.mergeSort fun a b => decide (a ≤ b)).toArray⟩
theorem rising_ones : ∀ (r : List Nat) (p : Nat), risingS ⟨#[p]⟩ (r.map fun n => ⟨#[n]⟩) = true → (p :: r).Pairwise (· ≤ ·)
  | [], _, _ => List.pairwise_singleton _ _
  | x :: r, p, h => by
    simp only [List.map_cons, risingS, Bool.and_eq_true, Bool.not_eq_true'] at h
    have le : p ≤ x := by
      have z := h.1
      simp [ltCps] at z
      omega
    have ih := rising_ones r x h.2
    refine List.pairwise_cons.mpr ⟨fun y hy => ?_, ih⟩
    rcases List.mem_cons.mp hy with e | hy
    · omega
    · exact Nat.le_trans le ((List.pairwise_cons.mp ih).1 y hy)
theorem signs_cps (z : Str) : (signs z).map (fun s => s.cps.getD 0 0) = z.cps.toList := by
  unfold signs
  rw [List.map_map]
  exact (List.map_congr_left fun c _ => rfl).trans (List.map_id _)
theorem tidy_perm (y : Str) : (tidy y).cps.toList.Perm y.cps.toList := List.mergeSort_perm _ _
theorem tidy_up (y : Str) : (tidy y).cps.toList.Pairwise (· ≤ ·) := by
  have := List.pairwise_mergeSort (le := fun a b : Nat => decide (a ≤ b)) (fun a b c h1 h2 => decide_eq_true (Nat.le_trans (of_decide_eq_true h1) (of_decide_eq_true h2))) (fun a b => by
    rcases Nat.le_total a b with h | h <;> simp [h]) y.cps.toList
  exact this.imp fun h => of_decide_eq_true h
theorem str_ext {a b : Str} (h : a.cps.toList = b.cps.toList) : a = b := by
  cases a
  cases b
  exact congrArg Str.mk (Array.toList_inj.mp h)
theorem tidy_of {y z : Str} (p : (signs z).Perm (signs y)) (s : sortedS (signs z) = true) : z = tidy y := by
  have p2 := p.map fun s => s.cps.getD 0 0
  rw [signs_cps, signs_cps] at p2
  have up : z.cps.toList.Pairwise (· ≤ ·) := by
    unfold signs at s
    cases e : z.cps.toList with
    | nil => exact .nil
    | cons a r =>
      rw [e] at s
      exact rising_ones r a s
  exact str_ext (List.Perm.eq_of_pairwise (fun a b _ _ h1 h2 => Nat.le_antisymm h1 h2) up (tidy_up y) (p2.trans (tidy_perm y).symm))
theorem tidy_same {x y : Str} (p : x.cps.toList.Perm y.cps.toList) : tidy x = tidy y :=
  str_ext (List.Perm.eq_of_pairwise (fun a b _ _ h1 h2 => Nat.le_antisymm h1 h2) (tidy_up x) (tidy_up y) ((tidy_perm x).trans (p.trans (tidy_perm y).symm)))
theorem sign_sum (z : Str) : ((signs z).map (·.length)).sum = z.cps.size := by
  unfold signs
  rw [List.map_map, show ((fun x : Str => x.length) ∘ fun n => (⟨#[n]⟩ : Str)) = fun _ => 1 from rfl, sum_ones, Array.length_toList]
theorem ys_signs {ys : List Str} {y : Str} (h : ys.Perm (signs y)) : ∃ z : Str, ys = signs z ∧ z.cps.toList.Perm y.cps.toList := ones_back (cs := y.cps.toList) h
theorem same_seqT {K : PySem.W.Frag} {a : Addr} {H H' : Hp} {xs : List V} (h : SqT K H a xs) (s : Same H H') : SqT K H' a xs := by
  rcases h with (z | ⟨o, z⟩) | z
  · exact .inl (.inl (s _ _ z))
  · exact .inl (.inr ⟨o, s _ _ z⟩)
  · exact .inr z
def spThO : Sp := fun vs H Q _ => ∃ y : Str, vs = [.str y] ∧ y.cps.size < 64 ∧ ∀ H', Same H H' → Q (.str (tidy y)) H'
def spRah (K : PySem.W.Frag) : Sp := fun vs H Q _ => ∃ (t : Addr) (ys : List Str) (y : Str), vs = [.ref t] ∧ SqT K H t (ys.map V.str) ∧ Lot ys y ∧ Lett y ∧ 3 ≤ y.cps.size ∧ y.cps.size ≤ 6 ∧ ys.length ≤ 48 ∧ ∀ H', Same H H' → Q (.int ys.length) H'
section
variable {P : Program} {w : World} {K : PySem.W.Frag} {mg : Str → Option Value} {base : Heap}
theorem ok_tho {f : Addr} {fd : FuncData} (D : DefAt K mg "things_of" sThO ["order"] f fd) (T : Txt mg) : FnOk P w K mg base CX0 1 f fd ["order"] spThO := by
  refine D.F.ok scThO (fun vs H Q E h => ?_) (fun cdv A outer sh H vs Q E hr h => ?_)
  · obtain ⟨y, rfl, _⟩ := h
    rfl
  · obtain ⟨y, rfl, hy, q⟩ := h
    refine ⟨_, (pss_one (ps_ret (pe_join pe_str (pe_callB (cr_sortText rfl) (by rfl) T.b_sorted (by decide +kernel) (pa_cons (pv 0) pa_nil))))), ?_⟩
    refine ⟨⟨_, rfl⟩, _, rfl, y, rfl, hy, fun ys p pm so np => ?_⟩
    obtain ⟨z, rfl, hz⟩ := ys_signs pm
    refine ⟨_, p, _, rfl, rfl, .inl (SqL.of upd_same), ?_, ?_⟩
    · rw [sign_sum, signs_length, show (PySem.Str.ofString "").length = 0 by decide +kernel]
      have : z.cps.size = y.cps.size := by rw [← Array.length_toList, hz.length_eq, Array.length_toList]
      omega
    · rw [join_signs, tidy_of pm so]
      exact q _ (same_new np)
theorem Lot.fine {ys : List Str} {y z : Str} (L : Lot ys y) (ly : Lett y) (h3 : 3 ≤ y.cps.size) (h6 : y.cps.size ≤ 6) (hz : z ∈ ys) : z.cps.size = y.cps.size ∧ ordB z = true := by
  have pm := L.of z hz
  have e : z.cps.size = y.cps.size := by rw [← Array.length_toList, pm.length_eq, Array.length_toList]
  have lz := ly.perm pm
  refine ⟨e, ?_⟩
  unfold ordB
  rw [decide_eq_true (show 3 ≤ z.cps.size ∧ z.cps.size ≤ 6 by omega), decide_eq_true lz.1, Bool.true_and, Bool.true_and, List.all_eq_true]
  intro c hc
  have := lz.2 c hc
  rw [decide_eq_true this.1, decide_eq_true this.2] <;> rfl
theorem ok_rah {f fI fT : Addr} {fd fdI fdT : FuncData} (D : DefAt K mg "right_ahead" sRah ["orders"] f fd) (DI : DefAt K mg "is_order" sIsO ["value"] fI fdI) (DT : DefAt K mg "things_of" sThO ["order"] fT fdT) (T : Txt mg) (Lm : Lims mg) : FnOk P w K mg base CX0 2 f fd ["orders"] (spRah K) := by
  have GI : FnOk P w K mg base CX0 1 fI fdI ["value"] spIsO := ok_iso DI T Lm
  have GT : FnOk P w K mg base CX0 1 fT fdT ["order"] spThO := ok_tho DT T
  obtain ⟨_, c3⟩ := Lm.c3
  refine D.F.ok scRah (fun vs H Q E h => ?_) (fun cdv A outer sh H vs Q E hr h => ?_)
  · obtain ⟨t, ys, y, rfl, _⟩ := h
    rfl
  · obtain ⟨t, ys, y, rfl, hT, L, ly, h3, h6, hl, q⟩ := h
    refine ⟨_, (pss_cons (ps_for PassesOwn.never rfl (pi_enumT (by rfl) T.b_enumerate (pa_cons (pv 0) pa_nil)) (pg_tup rfl (pgs_cons (pg_name (i := 1) scRah.nd rfl (.inl rfl)) (pgs_cons (pg_name (i := 2) scRah.nd rfl (.inl rfl)) pgs_nil)))
   (pss_cons (ps_if (PW.pt (pw_or (pt_cmpR op_eq (pv 1) (pe_glob (v := .int 48) (by rfl) c3 ⟨_, rfl⟩) (nomark _)) (pw_or1 (pt_not (pt_val (pe_call GI (hr.mono (by decide)) (by rfl) DI.g DI.F.kp DI.b .nil pass0 (pa_cons (pv 2) pa_nil)))))))
   (pss_one (ps_ret (pv 1)))
   pss_nil)
  (pss_cons (ps_if (pt_cmpR op_ne (pe_call GT (hr.mono (by decide)) (by rfl) DT.g DT.F.kp DT.b .nil pass0 (pa_cons (pv 2) pa_nil)) (pe_call GT (hr.mono (by decide)) (by rfl) DT.g DT.F.kp DT.b .nil pass0 (pa_cons (pe_ix ix_tup (pv 0) pe_int (fun _ _ => rfl)) pa_nil)) (nomark _))
   (pss_one (ps_ret (pv 1)))
   pss_nil)
  (pss_one (ps_if (PW.pt (pw_and (pt_cmpR op_gt (pv 1) pe_int (nomark _)) (pw_and1 (pt_cmpR op_le_str (pv 2) (pe_ix ix_tup (pv 0) (pe_op op_sub (pv 1) pe_int) (fun _ _ => rfl)) (nomark _)))))
   (pss_one (ps_ret (pv 1)))
   pss_nil)))))
  (pss_one (ps_ret (pe_callB call_len_seq (by rfl) T.b_len (by decide +kernel) (pa_cons (pv 0) pa_nil))))), ?_⟩
    refine ⟨_, rfl, t, _, rfl, hT, for_it (walk_enumT (xs := ys.map V.str)) (fun i σ H' => ∃ v1 v2, σ = [some (.ref t), v1, v2] ∧ Same H H') ⟨none, none, rfl, fun _ _ z => z⟩ (fun i σ H' _ hP => ?_) (fun i x σ H1 H2 hi hP hY => ?_) (fun σ H' hP => ?_)⟩
    · obtain ⟨_, _, _, sm⟩ := hP
      exact same_seqT hT sm
    · obtain ⟨v1, v2, rfl, sm⟩ := hP
      obtain ⟨T', a, b, rfl, nT, rfl, e1, e2⟩ := hY
      cases e1
      rw [List.length_map] at hi
      have e2 : (ys.map V.str)[i]? = some b := e2
      rw [List.getElem?_map, List.getElem?_eq_getElem hi] at e2
      cases e2
      have zin : ys[i] ∈ ys := List.getElem_mem hi
      obtain ⟨sz, oz⟩ := L.fine ly h3 h6 zin
      have sm1 : Same H (upd H1 T' (.tup [.int (i : Nat), .str ys[i]])) := fun b o e => by
        rw [upd_ne (ne_of_none (sm _ _ e) nT)]
        exact sm _ _ e
      have at_ : ∀ k, (hk : k < ys.length) → atI (ys.map V.str) (k : Int) = some (.str ys[k]) := fun k hk => atI_nat (by rw [List.getElem?_map, List.getElem?_eq_getElem hk] <;> rfl)
      have h0 : 0 < ys.length := L.some
      obtain ⟨sz0, _⟩ := L.fine ly h3 h6 (List.getElem_mem h0)
      refine ⟨T', _, rfl, SqT.of upd_same, rfl, _, _, rfl, _, _, rfl, rfl, ?_⟩
      refine ⟨_, rfl, rfl, _, rfl, ite2 (fun e => absurd (V.int.inj (of_decide_eq_true e)) (by omega)) (fun e => ⟨_, rfl, ys[i], rfl, by omega, fun H3 s3 => ⟨_, rfl, ?_⟩⟩)⟩
      rw [oz]
      have sm3 : Same H H3 := sm1.trans s3
      refine iteF ⟨_, rfl, ys[i], rfl, by omega, fun H4 s4 => ⟨_, rfl, t, _, 0, _, rfl, rfl, same_seqT hT (sm3.trans s4), at_ 0 h0, ys[0], rfl, by omega, fun H5 s5 => ⟨rfl, _, rfl, iteNS (by rw [tidy_same ((L.of _ zin).trans (L.of _ (List.getElem_mem h0)).symm)]) ?_⟩⟩⟩
      have sm5 : Same H H5 := sm3.trans (s4.trans s5)
      refine ⟨_, rfl, _, _, rfl, rfl, _, rfl, ite2 (fun e => ?_) (fun e => iteF ⟨_, _, rfl, sm5⟩)⟩
      have i0 : 0 < i := by
        have := of_decide_eq_true e
        omega
      have e1 : ((i : Int) - 1) = ((i - 1 : Nat) : Int) := by omega
      have up : Below ys[i - 1] ys[i] := L.up.at (i - 1) _ _ (List.getElem?_eq_getElem (by omega)) (by rw [Nat.sub_add_cancel i0]; exact List.getElem?_eq_getElem hi)
      refine ⟨_, rfl, _, rfl, _, rfl, _, _, rfl, rfl, t, _, _, _, rfl, rfl, same_seqT hT sm5, (by show atI _ ((i : Int) - 1) = _; rw [e1]; exact at_ (i - 1) (by omega)), _, _, rfl, rfl, _, rfl, ?_⟩
      have lt : decide (ys[i - 1].cps.toList < ys[i].cps.toList) = true := by rw [← ltCps_eq]; exact up
      rw [lt]
      exact iteF ⟨_, _, rfl, sm5⟩
    · obtain ⟨v1, v2, rfl, sm⟩ := hP
      exact ⟨_, rfl, t, _, rfl, .inr (same_seqT hT sm), by rw [List.length_map]; exact q _ sm⟩
end
end L2.Cal
end

section
set_option maxRecDepth 100000
set_option maxHeartbeats 4000000
/-! what built-in functions and operators ask of an object of an own class -/
namespace L2.Cal
open PySem PySem.Spec PyProof.Rows L2
section
variable {X : Cx} {CX : CXT} {k : Nat} {C f : Addr} {fd : FuncData} {ps : List Str} {sp : Sp} {E : XK} {pins : List (Addr × Obj)} {σ : St} {H : Hp} {s : Shared}
/-- a def at work further in -/
theorem run_at {A : Around} {E' : Value → Shared → Prop} {vs : List V} {us : List Value} {Q : VK} (e0 : Env0 X.prog X.w X.K X.mg X.base A X.stack s H) (hr : Room k A) (I : Inv X pins σ H s) (F : FnOk X.prog X.w X.K X.mg X.base CX k f fd ps sp) (hb : Binds X.K fd ps []) (r : Vals vs us) (hx : Passes CX X.nox E) (h : sp vs H Q E) :
    wpAny (model X.prog X.w) A (call (.ref f) us) (EP X pins σ Q) E' s := by
  have hl : (us ++ []).length = ps.length := by
    rw [List.append_nil, ← F.len _ _ _ _ h]
    exact r.length.symm
  have bind := hb s us I.kIn hl
  rw [List.append_nil] at bind
  refine wpAny_call (codeAny_mono (F.run A X.stack s H ⟨us, []⟩ us vs Q E hr e0 bind r h) fun r s' hq => ?_)
  match r, hq with
  | .error er, hq => exact False.elim (hx pins σ H s er s' (I.wish _) hq)
  | .ok (.ret u), hq => exact I.after hq
theorem ins_at {a dx : Addr} {fs : List (Str × V)} (I : Inv X pins σ H s) (ea : H a = some (.ins C dx fs)) : ∃ ox od, PySem.W.InstAt s.heap a ox C (some od) := by
  obtain ⟨mA, O, _⟩ := ins_get I.hok ea
  obtain ⟨od, J, _⟩ := O.look
  exact ⟨_, od, J⟩
/-- an own method that stands in the class -/
structure Own (K : PySem.W.Frag) (C : Addr) (m : Str) (f : Addr) : Prop where
  at_ : PySem.W.findIn K (.ref C) m = some (some (.ref f))
  fn : PySem.W.typeIn K (.ref f) = some (.type "function")
theorem Own.isFn {K : PySem.W.Frag} {m : Str} (o : Own K C m f) : PySem.W.isFn K (.ref f) = true := beq_iff_eq.mpr o.fn
/-- len(o) -/
def rLenO (C : Addr) (sp : Sp) (E : XK) : List V → Hp → VK → Prop := fun xs H Q => ∃ (a dx : Addr) (fs : List (Str × V)), xs = [.ref a] ∧ H a = some (.ins C dx fs) ∧ sp [.ref a] H (fun v H' => ∃ n : Nat, v = .int n ∧ n < 2 ^ 62 ∧ Q (.int n) H') E
theorem call_lenO (o : Own X.K C "__len__" f) (F : FnOk X.prog X.w X.K X.mg X.base CX k f fd ps sp) (hr : Room (k + 1) X.A) (hb : Binds X.K fd ps []) (hx : Passes CX X.nox E) : CallR X (.builtin "len") (rLenO C sp E) := by
  intro pins s σ H xs us Q I r h
  obtain ⟨a, dx, fs, rfl, ea, h⟩ := h
  rw [Vals.ref1 r]
  obtain ⟨ox, od, J⟩ := ins_at I ea
  refine Calls.call_function_entry kind_len plain_len entry_len (args_len1 _) ?_
  unfold Builtin.«len»
  refine wpAny_bind (m := oneArg "len" _) (wpAny_pure (wpAny_bind (m := callSpecial? (.ref a) (Str.ofString "__len__")) (PySem.W.special_fn I.kIn J o.at_ o.fn (wpAny_mono (run_at (A := X.A.in1) I.env0.in1 hr.in1 (vs := [.ref a]) I F hb (.cons rfl .nil) hx h) (fun u s' hq => ?_) fun _ _ z => z))))
  obtain ⟨v, H', I', rv, n, rfl, lt, q⟩ := hq
  obtain ⟨t, rfl⟩ := rv
  refine wpAny_bind (wpAny_holding (wpAny_pure (wpAny_bind (wpAny_letGo ?_))))
  show wpAny _ _ (if ((n : Int) < 0) then _ else _) _ _ _
  rw [if_neg (by omega)]
  show wpAny _ _ (if ((n : Int) ≥ 2 ^ 63) then _ else _) _ _ _
  rw [if_neg (by omega)]
  exact wpAny_bind (wpAny_mkInt (wpAny_pure ⟨_, rfl, .int n, H', I'.tok _, ⟨_, rfl⟩, q⟩))
/-- str(o) -/
def rStrO (C : Addr) (sp : Sp) (E : XK) : List V → Hp → VK → Prop := fun xs H Q => ∃ (a dx : Addr) (fs : List (Str × V)), xs = [.ref a] ∧ H a = some (.ins C dx fs) ∧ sp [.ref a] H (fun v H' => ∃ y : Str, v = .str y ∧ Q (.str y) H') E
theorem call_strO (o : Own X.K C "__str__" f) (F : FnOk X.prog X.w X.K X.mg X.base CX k f fd ps sp) (hr : Room (k + 2) X.A) (hb : Binds X.K fd ps []) (hx : Passes CX X.nox E) : CallR X (.type "str") (rStrO C sp E) := by
  intro pins s σ H xs us Q I r h
  obtain ⟨a, dx, fs, rfl, ea, h⟩ := h
  rw [Vals.ref1 r]
  obtain ⟨ox, od, J⟩ := ins_at I ea
  refine PySem.W.kso_call (by have := hr.in1.in1.units; omega) I.kIn J o.at_ o.isFn (wpAny_mono (run_at (A := X.A.in1.in1) I.env0.in1.in1 hr.in1.in1 (vs := [.ref a]) I F hb (.cons rfl .nil) hx h) (fun u s' hq => ?_) fun _ _ z => z)
  obtain ⟨v, H', I', rv, y, rfl, q⟩ := hq
  obtain ⟨t, rfl⟩ := rv
  exact ⟨.str y, H', I', ⟨t, rfl⟩, q⟩
/-- x in o -/
def rInO (C : Addr) (sp : Sp) (E : XK) : V → V → Hp → VK → Prop := fun x y H Q => ∃ (a dx : Addr) (fs : List (Str × V)), y = .ref a ∧ H a = some (.ins C dx fs) ∧ sp [.ref a, x] H (fun v H' => ∃ b : Bool, v = .bl b ∧ Q (.bl b) H') E
theorem op_inO (o : Own X.K C "__contains__" f) (F : FnOk X.prog X.w X.K X.mg X.base CX k f fd ps sp) (hr : Room k X.A) (hb : Binds X.K fd ps []) (hx : Passes CX X.nox E) : OpR X (compareOp .In) (rInO C sp E) := by
  intro pins s σ H x y v u Q I rx ry h
  obtain ⟨a, dx, fs, rfl, ea, h⟩ := h
  cases ry
  obtain ⟨ox, od, J⟩ := ins_at I ea
  refine wpAny_bind (m := contains _ _) ?_
  unfold contains
  refine wpAny_holding (wpAny_bind (wpAny_bind (J.type.here ((PySem.W.looks_findIn I.kIn o.at_).here ?_))))
  rw [if_neg (by simp)]
  refine wpAny_bind (PySem.W.unlessNone_K I.kIn J o.at_ o.isFn (wpAny_mono (run_at (vs := [.ref a, x]) I.env0 hr I F hb (.cons rfl (.cons rx .nil)) hx h) (fun u s' hq => ?_) fun _ _ z => z))
  obtain ⟨v', H', I', rv, b, rfl, q⟩ := hq
  cases rv
  exact wpAny_pure (wpAny_pure ⟨.bl b, H', I', rfl, q⟩)
end
end L2.Cal
end

section
set_option maxRecDepth 100000
set_option maxHeartbeats 4000000
namespace L2.Cal
open PySem PySem.Spec PyProof.Rows L2
section
variable {X : Cx} {CX : CXT} {k : Nat} {C f : Addr} {fd : FuncData} {ps : List Str} {sp : Sp} {E : XK} {pins : List (Addr × Obj)} {σ : St} {H : Hp} {s : Shared}
/-- o == y, o's own `__eq__` asked first -/
def rEqO (K : PySem.W.Frag) (C : Addr) (sp : Sp) (E : XK) (g : Bool → Bool) : V → V → Hp → VK → Prop := fun x y H Q => ∃ (a dx : Addr) (fs : List (Str × V)) (t : Value), x = .ref a ∧ H a = some (.ins C dx fs) ∧ TyX K H y t ∧ PySem.W.notFirst K C t = true ∧
  sp [.ref a, y] H (fun v H' => ∃ b : Bool, v = .bl b ∧ Q (.bl (g b)) H') E
theorem op_eqO (o : Own X.K C "__eq__" f) (F : FnOk X.prog X.w X.K X.mg X.base CX k f fd ps sp) (hr : Room k X.A) (hb : Binds X.K fd ps []) (hx : Passes CX X.nox E) : OpR X (compareOp .Eq) (rEqO X.K C sp E id) := by
  intro pins s σ H x y v u Q I rx ry h
  obtain ⟨a, dx, fs, t, rfl, ea, ty, nf, h⟩ := h
  cases rx
  obtain ⟨ox, od, J⟩ := ins_at I ea
  obtain ⟨Pt, kt, hP, _⟩ := kit_of I ry ty
  obtain ⟨m, hF⟩ := I.fr
  refine PySem.W.cmp_K (op := .Eq) hr.units0 hF I.ok.mod.kin J (kt.ty _ _ I.kIn hP) nf o.at_ o.isFn (wpAny_mono (run_at (vs := [.ref a, y]) I.env0 hr I F hb (.cons rfl (.cons ry .nil)) hx h) (fun u' s' hq => ?_) fun _ _ z => z)
  obtain ⟨v', H', I', rv, b, rfl, q⟩ := hq
  cases rv
  exact ⟨.bl b, H', I', rfl, q⟩
/-- o's `__ne__` is object's, which asks o's own `__eq__` -/
theorem try_ne {a dx : Addr} {fs : List (Str × V)} {y : V} {u : Value} {Q : VK} (o : Own X.K C "__eq__" f) (hne : PySem.W.findIn X.K (.ref C) "__ne__" = some (some (.builtin "object.__ne__"))) (hob : PySem.W.mroIn X.K C (.type "object") = some true)
    (F : FnOk X.prog X.w X.K X.mg X.base CX k f fd ps sp) (hr : Room (k + 1) X.A) (hb : Binds X.K fd ps []) (hx : Passes CX X.nox E) (I : Inv X pins σ H s) (ea : H a = some (.ins C dx fs)) (ry : RelV y u) (h : sp [.ref a, y] H (fun v H' => ∃ b : Bool, v = .bl b ∧ Q (.bl (!b)) H') E) :
    wpAny (model X.prog X.w) X.A (tryCompare (.ref a) "__ne__" u) (fun r s' => ∃ v, r = some v ∧ EP X pins σ Q v s') X.xe s := by
  obtain ⟨ox, od, J⟩ := ins_at I ea
  have S := PySem.F.cmp_object.ne
  have sub : PySem.W.Looks (model X.prog X.w) s.heap (isInstance (.ref a) (.type "object")) true := J.type.andThen (PySem.W.looks_mroIn I.kIn hob)
  have body : wpAny (model X.prog X.w) X.A (call (.builtin "object.__ne__") [.ref a, u]) (fun v s' => ∃ (b : Bool) (H' : Hp), v = .bool b ∧ Inv X pins σ H' s' ∧ Q (.bl b) H') X.xe s := by
    refine wpAny_call (codeAny_call_builtin S.plain PySem.F.cmpEntry_ne (@PySem.W.check_slot (model X.prog X.w) _ _ s "object.__ne__" "object" "__ne__" (.ref a) [u] [] _ PySem.F.cmpKind_ne PySem.F.cmpSplit_ne sub (PySem.F.cmpArgs_ne _ _) ?_))
    unfold Builtin.«object.__ne__»
    have room : X.A.in1.units < cLine := hr.in1.units0
    have asked : wpAny (model X.prog X.w) X.A.in1 (callSpecialIfBound? (.ref a) (Str.ofString "__eq__") [u]) (fun r s' => ∃ (b : Bool) (H' : Hp), r = some (.bool b) ∧ Inv X pins σ H' s' ∧ Q (.bl (!b)) H') X.xe s := by
      refine PySem.W.ifBound_K I.kIn J o.at_ o.isFn (wpAny_mono (run_at (vs := [.ref a, y]) I.env0.in1 hr.in1 I F hb (.cons rfl (.cons ry .nil)) hx h) (fun u' s' hq => ?_) fun _ _ z => z)
      obtain ⟨v', H', I', rv, b, rfl, q⟩ := hq
      cases rv
      exact ⟨b, H', rfl, I', q⟩
    repeat (first
      | with_reducible refine wpAny_cRoomFor room ?_
      | (refine wpAny_bind (m := callSpecialIfBound? (.ref a) (Str.ofString "__eq__") [u]) (wpAny_mono asked (fun r s' hq => ?_) fun _ _ z => z))
      | wp_step)
    obtain ⟨b, H', rfl, I', q⟩ := hq
    exact wpAny_bind (wpAny_truthy_bool (wpAny_pure ⟨!b, H', rfl, I', q⟩))
  unfold tryCompare callSpecialIfBound? bindSpecialIfBound?
  have fin : wpAny (model X.prog X.w) X.A (call (.builtin "object.__ne__") ([.ref a] ++ [u]) >>= fun v => pure (some v)) (fun r s' => ∃ (b : Bool) (H' : Hp), r = some (.bool b) ∧ Inv X pins σ H' s' ∧ Q (.bl b) H') X.xe s := wpAny_bind (wpAny_mono body (fun v s' z => let ⟨b, H', e, r⟩ := z; wpAny_pure ⟨b, H', congrArg some e, r⟩) fun _ _ z => z)
  refine wpAny_bind (wpAny_mono (Q := fun r s' => ∃ (b : Bool) (H' : Hp), r = some (.bool b) ∧ Inv X pins σ H' s' ∧ Q (.bl b) H') ?_ (fun r s' z => ?_) fun _ _ z => z)
  · refine wpAny_holding (wpAny_bind (wpAny_bind (wpAny_bind (J.type.here ((PySem.W.looks_findIn I.kIn hne).here ?_)))))
    simp only [S.bind]
    refine wpAny_bind (wpAny_askSetting (wpAny_ite ?_))
    split
    · exact wpAny_bind (wpAny_pure (wpAny_pure fin))
    · exact wpAny_tryCatch (wpAny_bind (wpAny_pure (wpAny_pure fin)))
  · obtain ⟨b, H', rfl, I', q⟩ := z
    exact wpAny_pure ⟨_, rfl, .bl b, H', I', rfl, q⟩
theorem op_neO (o : Own X.K C "__eq__" f) (hne : PySem.W.findIn X.K (.ref C) "__ne__" = some (some (.builtin "object.__ne__"))) (hob : PySem.W.mroIn X.K C (.type "object") = some true) (F : FnOk X.prog X.w X.K X.mg X.base CX k f fd ps sp) (hr : Room (k + 1) X.A) (hb : Binds X.K fd ps []) (hx : Passes CX X.nox E) :
    OpR X (compareOp .NotEq) (rEqO X.K C sp E fun b => !b) := by
  intro pins s σ H x y v u Q I rx ry h
  obtain ⟨a, dx, fs, t, rfl, ea, ty, nf, h⟩ := h
  cases rx
  obtain ⟨ox, od, J⟩ := ins_at I ea
  obtain ⟨Pt, kt, hP, _⟩ := kit_of I ry ty
  have ask := try_ne o hne hob F hr hb hx I ea ry h
  show wpAny (model X.prog X.w) X.A (richCompare .NotEq (.ref a) u) (EP X pins σ Q) X.xe s
  unfold richCompare
  simp only [oneThing_ref]
  refine wpAny_holding (wpAny_bind (wpAny_cRoomFor hr.units0 (wpAny_bind (J.type.here (wpAny_bind ((kt.ty _ _ I.kIn hP).here ?_))))))
  split
  · rename_i q
    have e : PySem.W.subIn X.K t (.ref C) = some false := by
      rcases Bool.or_eq_true_iff.mp nf with e | e
      · rw [beq_iff_eq.mp e] at q
        simp at q
      · exact beq_iff_eq.mp e
    refine wpAny_bind ((PySem.W.looks_subIn I.kIn e).here ?_)
    simp only [Bool.false_eq_true, if_false]
    refine wpAny_bind (wpAny_mono ask (fun r s' z => ?_) fun _ _ e => e)
    obtain ⟨v, rfl, hq⟩ := z
    exact wpAny_pure hq
  · refine wpAny_bind (wpAny_pure ?_)
    simp only [Bool.false_eq_true, if_false]
    refine wpAny_bind (wpAny_mono ask (fun r s' z => ?_) fun _ _ e => e)
    obtain ⟨v, rfl, hq⟩ := z
    exact wpAny_pure hq
end
end L2.Cal
end

section
set_option maxRecDepth 100000
set_option maxHeartbeats 4000000
/-! `v == o`, v of a built-in type that declines: o's own `__eq__` is asked -/
namespace L2.Cal
open PySem PySem.Spec PyProof.Rows L2
open PySem.AutoSeq1 (wpAny_loadPart')
section
variable {P : Program} {w : World} {A : Around} {E : Value → Shared → Prop} {s : Shared} {C b dx l : Addr} {Q : Value → Shared → Prop}
theorem nay_list {o : Obj} (hl : s.heap.get? l = some o) (hc : o.cls = .type "list") (no : PySem.W.Looks (model P w) s.heap (isInstance (.ref b) (.type "list")) false) (q : Q .notImplemented s) : wpAny (model P w) A (call (.builtin "list.__eq__") [.ref l, .ref b]) Q E s := by
  refine wpAny_call_entry PySem.F.slot_list_eq ⟨_, hl, hc⟩ PySem.F.entry_list_eq ?_ (PySem.F.args_list_eq_2 _ _)
  unfold Builtin.«list.__eq__»
  repeat (first | with_reducible refine no.here ?_ | wp_step)
  exact ⟨_, rfl, q⟩
theorem nay_tuple {o : Obj} (hl : s.heap.get? l = some o) (hc : o.cls = .type "tuple") (no : PySem.W.Looks (model P w) s.heap (isInstance (.ref b) (.type "tuple")) false) (q : Q .notImplemented s) : wpAny (model P w) A (call (.builtin "tuple.__eq__") [.ref l, .ref b]) Q E s := by
  refine wpAny_call_entry PySem.F.slot_tuple_eq ⟨_, hl, hc⟩ PySem.F.entry_tuple_eq ?_ (PySem.F.args_tuple_eq_2 _ _)
  unfold Builtin.«tuple.__eq__»
  repeat (first | with_reducible refine no.here ?_ | wp_step)
  exact ⟨_, rfl, q⟩
theorem nay_dict {o : Obj} (hl : s.heap.get? l = some o) (hc : o.cls = .type "dict") (no : PySem.W.Looks (model P w) s.heap (isInstance (.ref b) (.type "dict")) false) (q : Q .notImplemented s) : wpAny (model P w) A (call (.builtin "dict.__eq__") [.ref l, .ref b]) Q E s := by
  refine wpAny_call_entry PySem.F.slot_dict_eq ⟨_, hl, hc⟩ PySem.F.entry_dict_eq ?_ (PySem.F.args_dict_eq_2 _ _)
  unfold Builtin.«dict.__eq__»
  repeat (first | with_reducible refine no.here ?_ | wp_step)
  exact ⟨_, rfl, q⟩
theorem nay_none (q : Q .notImplemented s) : wpAny (model P w) A (call (.builtin "NoneType.__eq__") [.none, .ref b]) Q E s := by
  refine wpAny_call_entry PySem.F.slot_NoneType_eq rfl PySem.F.entry_NoneType_eq ?_ (PySem.F.args_NoneType_eq_2 _ _)
  wp_walk
  exact ⟨_, rfl, q⟩
theorem nay_str {y : Str} {t : Tok} (hb : s.heap.get? b = some (PySem.W.instObj C dx)) (q : Q .notImplemented s) : wpAny (model P w) A (call (.builtin "str.__eq__") [.str y t, .ref b]) Q E s := by
  refine wpAny_call_entry PySem.F.slot_str_eq (typeIs_str s y t) PySem.F.entry_str_eq ?_ (PySem.F.args_str_eq_2 _ _)
  wp_walk using wpAny_loadPart' hb, wpAny_load hb
  exact ⟨_, rfl, q⟩
theorem nay_int {i : Int} {t : Tok} (hb : s.heap.get? b = some (PySem.W.instObj C dx)) (q : Q .notImplemented s) : wpAny (model P w) A (call (.builtin "int.__eq__") [.int i t, .ref b]) Q E s := by
  refine wpAny_call_entry PySem.F.slot_int_eq rfl PySem.F.entry_int_eq ?_ (PySem.F.args_int_eq_2 _ _)
  wp_walk using wpAny_loadPart' hb, wpAny_load hb
  exact ⟨_, rfl, q⟩
end
/-- values whose type declines -/
inductive Dcl (H : Hp) : V → String → Prop where
  | non : Dcl H .non "NoneType"
  | int (i : Int) : Dcl H (.int i) "int"
  | str (y : Str) : Dcl H (.str y) "str"
  | lst {l : Addr} {xs : List V} (e : H l = some (.lst xs)) : Dcl H (.ref l) "list"
  | tup {l : Addr} {xs : List V} (e : H l = some (.tup xs)) : Dcl H (.ref l) "tuple"
  | dct {l : Addr} {kvs : List (Key × V)} (e : H l = some (.dK kvs)) : Dcl H (.ref l) "dict"
section
variable {X : Cx} {CX : CXT} {k : Nat} {C f : Addr} {fd : FuncData} {ps : List Str} {sp : Sp} {E : XK} {pins : List (Addr × Obj)} {σ : St} {H : Hp} {s : Shared}
theorem Dcl.ty {K : PySem.W.Frag} {x : V} {T : String} (d : Dcl H x T) : TyX K H x (.type T) := by
  cases d with
  | non => exact .base .non
  | int i => exact .base (.int i)
  | str y => exact .base (.str y)
  | lst e => exact .base (.lst e)
  | tup e => exact .base (.tup e)
  | dct e => exact .base (.dK e)
theorem Dcl.try_ {A : Around} {E' : Value → Shared → Prop} {Q : Option Value → Shared → Prop} {x : V} {v : Value} {T : String} {b dx : Addr} {fs : List (Str × V)} (d : Dcl H x T) (I : Inv X pins σ H s) (rx : RelV x v) (eb : H b = some (.ins C dx fs)) (no : PySem.W.mroIn X.K C (.type T) = some false) (q : Q none s) :
    wpAny (model X.prog X.w) A (tryCompare v "__eq__" (.ref b)) Q E' s := by
  obtain ⟨mA, O, _⟩ := ins_get I.hok eb
  have ob := O.obj
  obtain ⟨od, J, _⟩ := O.look
  have isi : PySem.W.Looks (model X.prog X.w) s.heap (isInstance (.ref b) (.type T)) false := J.type.andThen (PySem.W.looks_mroIn I.kIn no)
  obtain ⟨Pt, kt, hP, _⟩ := kit_of I rx (d.ty (K := X.K))
  cases d with
  | non =>
    cases (show v = Value.none from rx)
    exact wpAny_tryCompare_declines (T := "NoneType") rfl PySem.F.slot_NoneType_eq (nay_none ⟨rfl, q⟩)
  | int i =>
    obtain ⟨t, rfl⟩ := (show ∃ t, v = Value.int i t from rx)
    exact wpAny_tryCompare_declines (T := "int") rfl PySem.F.slot_int_eq (nay_int ob ⟨rfl, q⟩)
  | str y =>
    obtain ⟨t, rfl⟩ := (show ∃ t, v = Value.str y t from rx)
    exact wpAny_tryCompare_declines (T := "str") (typeIs_str s y t) PySem.F.slot_str_eq (nay_str ob ⟨rfl, q⟩)
  | @lst l xs e =>
    cases (show v = Value.ref l from rx)
    obtain ⟨_, _, n, _, h1⟩ := (show ObjOk X.prog X.w H s.heap l (.lst xs) from I.hok l _ e)
    exact wpAny_tryCompare_declines (T := "list") ⟨_, h1, rfl⟩ PySem.F.slot_list_eq (nay_list h1 rfl isi ⟨rfl, q⟩)
  | @tup l xs e =>
    cases (show v = Value.ref l from rx)
    obtain ⟨_, _, _, o, h1, h2, _⟩ := (show ObjOk X.prog X.w H s.heap l (.tup xs) from I.hok l _ e)
    exact wpAny_tryCompare_declines (T := "tuple") ⟨_, h1, h2⟩ PySem.F.slot_tuple_eq (nay_tuple h1 h2 isi ⟨rfl, q⟩)
  | @dct l kvs e =>
    cases (show v = Value.ref l from rx)
    obtain ⟨_, _, vs, _, o, es, ep, h1, h2, _⟩ := (show ObjOk X.prog X.w H s.heap l (.dK kvs) from I.hok l _ e)
    exact wpAny_tryCompare_declines (T := "dict") ⟨_, h1, h2.1⟩ PySem.F.slot_dict_eq (nay_dict h1 h2.1 isi ⟨rfl, q⟩)
/-- v == o -/
def rEqR (K : PySem.W.Frag) (C : Addr) (sp : Sp) (E : XK) : V → V → Hp → VK → Prop := fun x y H Q => ∃ (b dx : Addr) (fs : List (Str × V)) (T : String), y = .ref b ∧ H b = some (.ins C dx fs) ∧ Dcl H x T ∧ PySem.W.mroIn K C (.type T) = some false ∧ PySem.W.subIn K (.ref C) (.type T) = some false ∧
  sp [.ref b, x] H (fun v H' => ∃ b : Bool, v = .bl b ∧ Q (.bl b) H') E
theorem op_eqR (o : Own X.K C "__eq__" f) (F : FnOk X.prog X.w X.K X.mg X.base CX k f fd ps sp) (hr : Room k X.A) (hb : Binds X.K fd ps []) (hx : Passes CX X.nox E) : OpR X (compareOp .Eq) (rEqR X.K C sp E) := by
  intro pins s σ H x y v u Q I rx ry h
  obtain ⟨b, dx, fs, T, rfl, eb, d, nm, ns, h⟩ := h
  cases ry
  obtain ⟨ox, od, J⟩ := ins_at I eb
  obtain ⟨Pt, kt, hP, _⟩ := kit_of I rx (d.ty (K := X.K))
  show wpAny (model X.prog X.w) X.A (richCompare .Eq v (.ref b)) (EP X pins σ Q) X.xe s
  have one : oneThing? .Eq v (.ref b) = none := by
    cases d <;> first
      | (cases (show v = Value.none from rx); rfl)
      | (obtain ⟨t, rfl⟩ := (show ∃ t, v = Value.int _ t from rx); rfl)
      | (obtain ⟨t, rfl⟩ := (show ∃ t, v = Value.str _ t from rx); rfl)
      | (cases (show v = Value.ref _ from rx); exact oneThing_ref ..)
  unfold richCompare
  simp only [one]
  refine wpAny_holding (wpAny_bind (wpAny_cRoomFor hr.units0 (wpAny_bind ((kt.ty _ _ I.kIn hP).here (wpAny_bind (J.type.here ?_))))))
  have fin : wpAny (model X.prog X.w) X.A (tryCompare (.ref b) "__eq__" v) (fun r s' => ∃ z, r = some z ∧ EP X pins σ Q z s') X.xe s := by
    unfold tryCompare
    refine wpAny_bind (PySem.W.ifBound_K I.kIn J o.at_ o.isFn (wpAny_mono (run_at (vs := [.ref b, x]) I.env0 hr I F hb (.cons rfl (.cons rx .nil)) hx h) (fun u' s' hq => ?_) fun _ _ z => z))
    obtain ⟨v', H', I', rv, c, rfl, q⟩ := hq
    cases rv
    exact wpAny_pure ⟨_, rfl, .bl c, H', I', rfl, q⟩
  have nt : (Value.type T != Value.ref C) = true := by simp
  rw [if_pos nt]
  refine wpAny_bind ((PySem.W.looks_subIn I.kIn ns).here ?_)
  simp only [Bool.false_eq_true, if_false]
  refine wpAny_bind (m := tryCompare v _ (.ref b)) (d.try_ I rx eb nm ?_)
  simp only [Bool.not_false, if_true]
  refine wpAny_bind (m := tryCompare (.ref b) _ v) (wpAny_mono fin (fun r s' z => ?_) fun _ _ e => e)
  obtain ⟨z, rfl, hq⟩ := z
  exact wpAny_pure hq
end
end L2.Cal
end

section
set_option maxRecDepth 100000
set_option maxHeartbeats 4000000
namespace L2.Cal
open PySem PySem.Spec PyProof.Rows L2
section
variable {X : Cx} {CX : CXT} {k : Nat} {C f : Addr} {fd : FuncData} {ps : List Str} {sp : Sp} {E : XK} {pins : List (Addr × Obj)} {σ : St} {H : Hp} {s : Shared}
/-- truth of an object that has a length -/
theorem truth_len {A : Around} {E' : Value → Shared → Prop} {Q : Bool → Hp → Prop} {a dx : Addr} {fs : List (Str × V)} (e0 : Env0 X.prog X.w X.K X.mg X.base A.in1 X.stack s H) (hr : Room k A.in1) (I : Inv X pins σ H s) (ea : H a = some (.ins C dx fs)) (o : Own X.K C "__len__" f) (nb : PySem.W.findIn X.K (.ref C) "__bool__" = some none)
    (F : FnOk X.prog X.w X.K X.mg X.base CX k f fd ps sp) (hb : Binds X.K fd ps []) (hx : Passes CX X.nox E) (h : sp [.ref a] H (fun v H' => ∃ n : Nat, v = .int n ∧ n < 2 ^ 62 ∧ Q (decide (n ≠ 0)) H') E) :
    wpAny (model X.prog X.w) A (truthy (.ref a)) (fun b s' => ∃ H', Inv X pins σ H' s' ∧ Q b H') E' s := by
  obtain ⟨ox, od, J⟩ := ins_at I ea
  unfold truthy
  refine wpAny_bind (m := callSpecial? (.ref a) (Str.ofString "__bool__")) (wpAny_bind (wpAny_bind (J.type.here ((PySem.W.looks_findIn I.kIn nb).here (wpAny_pure ?_)))))
  refine wpAny_bind (wpAny_bind (J.type.here ((PySem.W.looks_findIn I.kIn o.at_).here ?_)))
  rw [if_neg (by simp)]
  refine wpAny_bind (wpAny_runValue (codeAny_builtin entry_len ?_))
  rw [Around.under_plainId plain_len _]
  unfold Builtin.«len»
  refine wpAny_bind (m := oneArg "len" _) (wpAny_pure (wpAny_bind (m := callSpecial? (.ref a) (Str.ofString "__len__")) (PySem.W.special_fn I.kIn J o.at_ o.fn (wpAny_mono (run_at (vs := [.ref a]) e0 hr I F hb (.cons rfl .nil) hx h) (fun u s' hq => ?_) fun _ _ z => z))))
  obtain ⟨v, H', I', rv, n, rfl, lt, q⟩ := hq
  obtain ⟨t, rfl⟩ := rv
  refine wpAny_bind (wpAny_holding (wpAny_pure (wpAny_bind (wpAny_letGo ?_))))
  show wpAny _ _ (if ((n : Int) < 0) then _ else _) _ _ _
  rw [if_neg (by omega)]
  show wpAny _ _ (if ((n : Int) ≥ 2 ^ 63) then _ else _) _ _ _
  rw [if_neg (by omega)]
  refine wpAny_bind (wpAny_mkInt (wpAny_pure ?_))
  show wpAny _ _ (pure ((n : Int) != 0)) _ _ _
  have e : ((n : Int) != 0) = decide (n ≠ 0) := by
    by_cases c : n = 0
    · subst c; rfl
    · rw [decide_eq_true c]
      exact bne_iff_ne.mpr (by omega)
  rw [e]
  exact wpAny_pure ⟨H', I'.tok _, q⟩
/-- bool(o) -/
def rBoolO (C : Addr) (sp : Sp) (E : XK) : List V → Hp → VK → Prop := fun xs H Q => ∃ (a dx : Addr) (fs : List (Str × V)), xs = [.ref a] ∧ H a = some (.ins C dx fs) ∧ sp [.ref a] H (fun v H' => ∃ n : Nat, v = .int n ∧ n < 2 ^ 62 ∧ Q (.bl (decide (n ≠ 0))) H') E
theorem call_boolO (o : Own X.K C "__len__" f) (nb : PySem.W.findIn X.K (.ref C) "__bool__" = some none) (F : FnOk X.prog X.w X.K X.mg X.base CX k f fd ps sp) (hr : Room (k + 3) X.A) (hb : Binds X.K fd ps []) (hx : Passes CX X.nox E) : CallR X (.type "bool") (rBoolO C sp E) := by
  intro pins s σ H xs us Q I r h
  obtain ⟨a, dx, fs, rfl, ea, h⟩ := h
  rw [Vals.ref1 r]
  have tr : ∀ E', wpAny (model X.prog X.w) X.A.in1.in1 (truthy (.ref a)) (fun b s' => ∃ H', Inv X pins σ H' s' ∧ Q (.bl b) H') E' s := fun E' => truth_len (Q := fun b H' => Q (.bl b) H') I.env0.in1.in1.in1 hr.in1.in1.in1 I ea o nb F hb hx h
  refine callType_codes (T := "bool") (Bi := Builtin.«object.__init__») (Q₁ := fun r s₁ => ∃ (b : Bool) (H' : Hp), r = .bool b ∧ Inv X pins σ H' s₁ ∧ Q (.bl b) H') PySem.F.called_bool (PySem.F.typeCall_bool_1 _) PySem.F.entry_object_init ?_ ?_
  · refine codeAny_of_tree ?_
    show wpAny _ X.A.in1.in1 (do checkBuiltinCall "bool.__new__" ⟨[.type "bool", .ref a], []⟩; again (.builtin "bool.__new__" ⟨[.type "bool", .ref a], []⟩)) _ _ s
    refine wpAny_bind (wpAny_of_eq (PySem.F.newCall_bool_1 _) (wpAny_pure ⟨plainId_quiet (by decide +kernel) _, codeAny_builtin PySem.F.entry_bool_new ?_⟩))
    rw [Around.under_plainId (by decide +kernel) _]
    unfold Builtin.«bool.__new__»
    have below := PySem.F.conv_sub_bool
    generalize hT : truthy = T
    repeat (first | assumption | wp_step)
    subst hT
    refine wpAny_mono (tr _) (fun b s' hq => ?_) fun _ _ z => z
    obtain ⟨H', I', q⟩ := hq
    exact wpAny_pure ⟨b, H', rfl, I', q⟩
  · rintro obj s₁ ⟨b, H', rfl, I', q⟩
    exact ⟨rfl, PySem.F.args_object_init_2 _ _, object_init_meets PySem.F.called_bool.init.lookup PySem.F.called_bool.made (by decide) X.prog X.w X.A.in1 _ s₁ ⟨rfl, rfl, ⟨.bl b, H', I', rfl, q⟩⟩⟩
end
end L2.Cal
end

section
set_option maxRecDepth 100000
set_option maxHeartbeats 4000000
namespace L2.Cal
open PySem PySem.Spec PyProof.Rows L2
def clsBody (s : Stmt) : List Stmt := match s with
  | .ClassDef _ _ _ b _ _ _ _ _ _ _ => b
  | _ => []
def methS (j : Nat) : Stmt := (clsBody (topS 22)).getD j (.Pass ⟨0, 0, 0, 0⟩)
abbrev sIni : Stmt := methS 0
theorem scIni : FnScope ["self", "orders", "right"] ["self", "orders"] (defScope sIni) := ⟨rfl, rfl, rfl, by decide +kernel, rfl, by decide +kernel, by decide +kernel⟩
abbrev sOrd : Stmt := methS 2
theorem scOrd : FnScope ["self"] ["self"] (defScope sOrd) := ⟨rfl, rfl, rfl, by decide +kernel, rfl, by decide +kernel, by decide +kernel⟩
abbrev sThi : Stmt := methS 3
theorem scThi : FnScope ["self"] ["self"] (defScope sThi) := ⟨rfl, rfl, rfl, by decide +kernel, rfl, by decide +kernel, by decide +kernel⟩
abbrev sLen : Stmt := methS 4
theorem scLen : FnScope ["self"] ["self"] (defScope sLen) := ⟨rfl, rfl, rfl, by decide +kernel, rfl, by decide +kernel, by decide +kernel⟩
abbrev sStr : Stmt := methS 5
theorem scStr : FnScope ["self"] ["self"] (defScope sStr) := ⟨rfl, rfl, rfl, by decide +kernel, rfl, by decide +kernel, by decide +kernel⟩
abbrev sCon : Stmt := methS 6
theorem scCon : FnScope ["self", "x"] ["self", "x"] (defScope sCon) := ⟨rfl, rfl, rfl, by decide +kernel, rfl, by decide +kernel, by decide +kernel⟩
abbrev sEqu : Stmt := methS 7
theorem scEqu : FnScope ["self", "other"] ["self", "other"] (defScope sEqu) := ⟨rfl, rfl, rfl, by decide +kernel, rfl, by decide +kernel, by decide +kernel⟩
/-- what the class is asked for -/
structure RollC (K : PySem.W.Frag) (mg : Str → Option Value) (C : Addr) : Prop where
  g : mg "Roll" = some (.ref C)
  cls : Cls K C
  no1 : NoAttr K C "_orders"
  no2 : NoAttr K C "_things"
  dcl : PySem.W.findIn K (.ref C) "__class__" = some (some (.builtin "object.__class__"))
  dget : PySem.W.specialIn K (.builtin "object.__class__") "__get__" = some (some (.builtin "getset_descriptor.__get__"))
  dtk : PySem.W.takesIn K (.builtin "object.__class__") = some true
  mobj : PySem.W.mroIn K C (.type "object") = some true
/-- a roll's fields: its two and no others -/
abbrev Flds := { fs : List (Str × V) // ∀ f : Str, f ≠ "_orders" → f ≠ "_things" → fs.lookup f = none }
def RollAt (C : Addr) (H : Hp) (a t : Addr) (z : Str) : Prop := ∃ (dx : Addr) (fs : Flds), H a = some (.ins C dx fs.1) ∧ fs.1.lookup ("_orders" : Str) = some (.ref t) ∧ fs.1.lookup ("_things" : Str) = some (.str z)
theorem RollAt.same {C : Addr} {H H' : Hp} {a t : Addr} {z : Str} (r : RollAt C H a t z) (s : Same H H') : RollAt C H' a t z := by
  obtain ⟨dx, fs, h, r⟩ := r
  exact ⟨dx, fs, s _ _ h, r⟩
/-- a lot that a roll takes -/
structure Good (ys : List Str) (y : Str) : Prop where
  lot : Lot ys y
  let_ : Lett y
  h3 : 3 ≤ y.cps.size
  h6 : y.cps.size ≤ 6
  few : ys.length ≤ 48
theorem seqT_off {K : PySem.W.Frag} {a t C dx : Addr} {fs : List (Str × V)} {H H' : Hp} {xs : List V} (h : SqT K H t xs) (ha : H a = some (.ins C dx fs)) (k : ∀ b o, b ≠ a → H b = some o → H' b = some o) : SqT K H' t xs := by
  rcases h with (z | ⟨o, z⟩) | z
  · exact .inl (.inl (k _ _ (fun e => by rw [e, ha] at z; cases z) z))
  · exact .inl (.inr ⟨o, k _ _ (fun e => by rw [e, ha] at z; cases z) z⟩)
  · exact .inr z
def spIni (K : PySem.W.Frag) (C : Addr) : Sp := fun vs H Q _ => ∃ (a t dx : Addr) (ys : List Str) (y : Str), vs = [.ref a, .ref t] ∧ H a = some (.ins C dx []) ∧ SqT K H t (ys.map V.str) ∧ TyX K H (.ref t) (.type "tuple") ∧ Good ys y ∧
  ∀ H' : Hp, (∀ b o, b ≠ a → H b = some o → H' b = some o) → RollAt C H' a t (tidy y) → Q .non H'
def spOrd (C : Addr) : Sp := fun vs H Q _ => ∃ (a t : Addr) (z : Str), vs = [.ref a] ∧ RollAt C H a t z ∧ Q (.ref t) H
def spThi (C : Addr) : Sp := fun vs H Q _ => ∃ (a t : Addr) (z : Str), vs = [.ref a] ∧ RollAt C H a t z ∧ Q (.str z) H
def spLen (K : PySem.W.Frag) (C : Addr) : Sp := fun vs H Q _ => ∃ (a t : Addr) (z : Str) (xs : List V), vs = [.ref a] ∧ RollAt C H a t z ∧ SqT K H t xs ∧ Q (.int xs.length) H
def spStr (K : PySem.W.Frag) (C : Addr) : Sp := fun vs H Q _ => ∃ (a t : Addr) (z : Str) (ys : List Str), vs = [.ref a] ∧ RollAt C H a t z ∧ SqT K H t (ys.map V.str) ∧ (ys.map (·.length)).sum + ys.length ≤ 10000 ∧ Q (.str (Txt.join (PySem.Str.ofString "\n") ys)) H
section
variable {P : Program} {w : World} {K : PySem.W.Frag} {mg : Str → Option Value} {base : Heap} {C : Addr}
theorem ok_ini {f fR fT : Addr} {fd fdR fdT fdI : FuncData} (F : Fun K "__init__" "Roll.__init__" sIni f fd) (DR : DefAt K mg "right_ahead" sRah ["orders"] fR fdR) {fI : Addr} (DI : DefAt K mg "is_order" sIsO ["value"] fI fdI) (DT : DefAt K mg "things_of" sThO ["order"] fT fdT) (T : Txt mg) (Lm : Lims mg) (R : RollC K mg C) :
    FnOk P w K mg base CX0 3 f fd ["self", "orders"] (spIni K C) := by
  have GT : FnOk P w K mg base CX0 1 fT fdT ["order"] spThO := ok_tho DT T
  have GR : FnOk P w K mg base CX0 2 fR fdR ["orders"] (spRah K) := ok_rah DR DI DT T Lm
  refine F.ok scIni (fun vs H Q E h => ?_) (fun cdv A outer sh H vs Q E hr h => ?_)
  · obtain ⟨a, t, dx, ys, y, rfl, _⟩ := h
    rfl
  · obtain ⟨a, t, dx, ys, y, rfl, ha, hT, ty, G, q⟩ := h
    refine ⟨_, (pss_cons (ps_if (PW.pt (pw_or (pt_not (pt_val (pe_callB call_isi (by rfl) T.b_isinstance (by decide +kernel) (pa_cons (pv 1) (pa_cons (pe_bty (n := "tuple") (by rfl) T.b_tuple (by decide +kernel)) pa_nil))))) (pw_or1 (pt_cmpR op_eq (pe_callB call_len_seq (by rfl) T.b_len (by decide +kernel) (pa_cons (pv 1) pa_nil)) pe_int (nomark _)))))
   (pss_one ps_never)
   pss_nil)
  (pss_cons (ps_set (i := 2) scIni.nd rfl (.inl rfl) (pe_call GR (hr.mono (by decide)) (by rfl) DR.g DR.F.kp DR.b .nil pass0 (pa_cons (pv 1) pa_nil)))
  (pss_cons (ps_if (pt_cmpR op_lt (pv 2) (pe_callB call_len_seq (by rfl) T.b_len (by decide +kernel) (pa_cons (pv 1) pa_nil)) (nomark _))
   (pss_one ps_never)
   pss_nil)
  (pss_cons (ps_fld (pv 0) (pv 1) rfl)
  (pss_one (ps_fld (pv 0) (pe_call GT (hr.mono (by decide)) (by rfl) DT.g DT.F.kp DT.b .nil pass0 (pa_cons (pe_ix ix_tup (pv 1) pe_int (fun _ _ => rfl)) pa_nil)) rfl)))))), ?_⟩
    have h0 : 0 < ys.length := G.lot.some
    refine ⟨_, rfl, .ref t, .ty "tuple", .type "tuple", .type "tuple", true, rfl, .ty _, ty, rfl, true, rfl, iteF ?_⟩
    refine ⟨_, rfl, t, _, rfl, .inr hT, rfl, _, rfl, ite2 (fun e => ?_) (fun e => ?_)⟩
    · have := V.int.inj (of_decide_eq_true e)
      rw [List.length_map] at this
      omega
    refine ⟨_, rfl, t, ys, y, rfl, hT, G.lot, G.let_, G.h3, G.h6, G.few, fun H1 s1 => ?_⟩
    refine ⟨_, rfl, _, rfl, t, _, rfl, .inr (same_seqT hT s1), _, _, rfl, rfl, _, rfl, ite2 (fun e => ?_) (fun e => ?_)⟩
    · have := of_decide_eq_true e
      rw [List.length_map] at this
      omega
    refine ⟨_, rfl, _, rfl, a, C, dx, [], rfl, s1 _ _ ha, R.cls, R.no1, by decide, ?_⟩
    have off : ∀ b o, b ≠ a → H1 b = some o → (upd H1 a (.ins C dx (putF "_orders" (.ref t) []))) b = some o := fun b o n e => by rw [upd_ne n]; exact e
    have hT2 := seqT_off (same_seqT hT s1) (s1 _ _ ha) off
    have at0 : atI (ys.map V.str) 0 = some (.str ys[0]) := atI_nat (j := 0) (by rw [List.getElem?_map, List.getElem?_eq_getElem h0] <;> rfl)
    obtain ⟨sz0, _⟩ := G.lot.fine G.let_ G.h3 G.h6 (List.getElem_mem h0)
    refine ⟨_, rfl, t, _, 0, _, rfl, rfl, hT2, at0, ys[0], rfl, (by have := G.h6; omega), fun H2 s2 => ⟨_, rfl, a, C, dx, _, rfl, s2 _ _ upd_same, R.cls, R.no2, Nat.lt_of_le_of_lt (length_putF _ _ _) (by decide), ?_⟩⟩
    rw [tidy_same (G.lot.of _ (List.getElem_mem h0))]
    refine q _ (fun b o n e => ?_) ⟨dx, ⟨putF "_things" (.str (tidy y)) (putF "_orders" (.ref t) []), fun f n1 n2 => (lookup_putF ..).trans ((if_neg n2).trans ((lookup_putF ..).trans ((if_neg n1).trans rfl)))⟩, upd_same, ?_, ?_⟩
    · rw [upd_ne n]
      exact s2 _ _ (off b o n (s1 _ _ e))
    · rw [lookup_putF, if_neg (by decide), lookup_putF, if_pos rfl]
    · rw [lookup_putF, if_pos rfl]
theorem ok_ord {f : Addr} {fd : FuncData} (F : Fun K "orders" "Roll.orders" sOrd f fd) (R : RollC K mg C) : FnOk P w K mg base CX0 1 f fd ["self"] (spOrd C) := by
  refine F.ok scOrd (fun vs H Q E h => ?_) (fun cdv A outer sh H vs Q E hr h => ?_)
  · obtain ⟨a, t, z, rfl, _⟩ := h
    rfl
  · obtain ⟨a, t, z, rfl, ⟨dx, fs, ha, l1, l2⟩, q⟩ := h
    exact ⟨_, (pss_one (ps_ret (pe_fld (pv 0) rfl))), _, rfl, a, C, dx, fs, _, rfl, ha, R.cls, R.no1, l1, q⟩
theorem ok_thi {f : Addr} {fd : FuncData} (F : Fun K "things" "Roll.things" sThi f fd) (R : RollC K mg C) : FnOk P w K mg base CX0 1 f fd ["self"] (spThi C) := by
  refine F.ok scThi (fun vs H Q E h => ?_) (fun cdv A outer sh H vs Q E hr h => ?_)
  · obtain ⟨a, t, z, rfl, _⟩ := h
    rfl
  · obtain ⟨a, t, z, rfl, ⟨dx, fs, ha, l1, l2⟩, q⟩ := h
    exact ⟨_, (pss_one (ps_ret (pe_fld (pv 0) rfl))), _, rfl, a, C, dx, fs, _, rfl, ha, R.cls, R.no2, l2, q⟩
theorem ok_len {f : Addr} {fd : FuncData} (F : Fun K "__len__" "Roll.__len__" sLen f fd) (T : Txt mg) (R : RollC K mg C) : FnOk P w K mg base CX0 1 f fd ["self"] (spLen K C) := by
  refine F.ok scLen (fun vs H Q E h => ?_) (fun cdv A outer sh H vs Q E hr h => ?_)
  · obtain ⟨a, t, z, xs, rfl, _⟩ := h
    rfl
  · obtain ⟨a, t, z, xs, rfl, ⟨dx, fs, ha, l1, l2⟩, hT, q⟩ := h
    exact ⟨_, (pss_one (ps_ret (pe_callB call_len_seq (by rfl) T.b_len (by decide +kernel) (pa_cons (pe_fld (pv 0) rfl) pa_nil)))), _, rfl, a, C, dx, fs, _, rfl, ha, R.cls, R.no1, l1, t, _, rfl, .inr hT, q⟩
theorem ok_str {f : Addr} {fd : FuncData} (F : Fun K "__str__" "Roll.__str__" sStr f fd) (T : Txt mg) (R : RollC K mg C) : FnOk P w K mg base CX0 1 f fd ["self"] (spStr K C) := by
  refine F.ok scStr (fun vs H Q E h => ?_) (fun cdv A outer sh H vs Q E hr h => ?_)
  · obtain ⟨a, t, z, ys, rfl, _⟩ := h
    rfl
  · obtain ⟨a, t, z, ys, rfl, ⟨dx, fs, ha, l1, l2⟩, hT, hl, q⟩ := h
    refine ⟨_, (pss_one (ps_ret (pe_join pe_str (pe_fld (pv 0) rfl)))), ⟨_, rfl⟩, _, rfl, a, C, dx, fs, _, rfl, ha, R.cls, R.no1, l1, _, t, ys, rfl, rfl, .inr hT, ?_, q⟩
    rw [show (PySem.Str.ofString "\n").length = 1 by decide +kernel]
    omega
/-- x is a text of ys -/
def inB : V → List Str → Bool
  | .str y, ys => decide (y ∈ ys)
  | _, _ => false
/-- x in o: only texts are in it -/
def spCon (K : PySem.W.Frag) (C : Addr) : Sp := fun vs H Q _ => ∃ (a t : Addr) (z : Str) (ys : List Str) (x : V) (T : Value) (b : Bool), vs = [.ref a, x] ∧ RollAt C H a t z ∧ SqT K H t (ys.map V.str) ∧ TyX K H x T ∧ PySem.W.kitOne K T (.type "str") = some b ∧ (b = true → ∃ y, x = .str y) ∧
  Q (.bl (b && inB x ys)) H
theorem ok_con {f : Addr} {fd : FuncData} (F : Fun K "__contains__" "Roll.__contains__" sCon f fd) (T : Txt mg) (R : RollC K mg C) : FnOk P w K mg base CX0 1 f fd ["self", "x"] (spCon K C) := by
  refine F.ok scCon (fun vs H Q E h => ?_) (fun cdv A outer sh H vs Q E hr h => ?_)
  · obtain ⟨a, t, z, ys, x, T, b, rfl, _⟩ := h
    rfl
  · obtain ⟨a, t, z, ys, x, Ty, b, rfl, ⟨dx, fs, ha, l1, l2⟩, hT, ty, kit, bt, q⟩ := h
    refine ⟨_, (pss_one (ps_ret (pe_and (pe_callB call_isi (by rfl) T.b_isinstance (by decide +kernel) (pa_cons (pv 1) (pa_cons (pe_bty (n := "str") (by rfl) T.b_str (by decide +kernel)) pa_nil))) (pe_one (pe_cmpR op_in_seq (pv 1) (pe_fld (pv 0) rfl) (by rfl)))))), ?_⟩
    refine ⟨_, rfl, x, .ty "str", Ty, .type "str", b, rfl, .ty _, ty, kit, b, rfl, ?_⟩
    cases b with
    | false => exact iteF q
    | true =>
      obtain ⟨y, rfl⟩ := bt rfl
      refine iteT ⟨_, rfl, _, rfl, a, C, dx, fs, _, rfl, ha, R.cls, R.no1, l1, t, _, rfl, .inr hT, rfl, by simp [List.all_eq_true, flatV], ?_⟩
      have e : inV (.str y) (ys.map V.str) = inB (.str y) ys := by
        unfold inV inB
        rw [Bool.eq_iff_iff, decide_eq_true_eq, List.any_eq_true]
        constructor
        · rintro ⟨v, hv, e⟩
          obtain ⟨y', hy, rfl⟩ := List.mem_map.mp hv
          have : y' = y := by simpa [eqV] using e
          exact this ▸ hy
        · intro hy
          exact ⟨.str y, List.mem_map.mpr ⟨y, hy, rfl⟩, by simp [eqV]⟩
      rw [Bool.true_and, ← e] at q
      exact q
theorem dp_strs {H0 : Hp} : ∀ ys : List Str, DpAll K H0 (ys.map V.str) (ys.map PyData.str)
  | [] => .nil
  | y :: ys => .cons (.str y) (dp_strs ys)
theorem shaped_strs (ys : List Str) (ok : ∀ y, y ∈ ys → PyData.strOk y = true) : SeqAt.shaped (.tuple (ys.map PyData.str)) = true := by
  have lay : ∀ ys : List Str, (∀ y, y ∈ ys → PyData.strOk y = true) → PyData.canLayAll0 (ys.map PyData.str) = true := fun ys => by
    induction ys with
    | nil => intro _; simp [PyData.canLayAll0]
    | cons y ys ih =>
      intro ok
      have h1 := ok y (List.mem_cons_self ..)
      simp [PyData.canLayAll0, PyData.canLay0, h1, ih fun z hz => ok z (List.mem_cons_of_mem _ hz)]
  have deep : ∀ ys : List Str, PyData.depthAll (ys.map PyData.str) = 0 := fun ys => by
    induction ys with
    | nil => simp [PyData.depthAll]
    | cons y ys ih => simp [PyData.depthAll, PyData.depth, ih]
  simp [SeqAt.shaped, PyData.canLay0, lay ys ok, PyData.depth, deep]
theorem eqv_strs (ys zs : List Str) : PyData.eqv (.tuple (ys.map PyData.str)) (.tuple (zs.map PyData.str)) = decide (ys = zs) := by
  have all : ∀ ys zs : List Str, PyData.eqvAll (ys.map PyData.str) (zs.map PyData.str) = decide (ys = zs) := fun ys => by
    induction ys with
    | nil => intro zs; cases zs <;> simp [PyData.eqvAll]
    | cons y ys ih =>
      intro zs
      cases zs with
      | nil => simp [PyData.eqvAll]
      | cons z zs =>
        simp only [List.map_cons, PyData.eqvAll, ih]
        simp [PyData.eqv, show (y == z) = decide (y = z) by rw [Bool.eq_iff_iff]; simp]
  simp [PyData.eqv, all]
/-- o == x -/
def spEqu (K : PySem.W.Frag) (C : Addr) : Sp := fun vs H Q _ => ∃ (a t : Addr) (z : Str) (x : V), vs = [.ref a, x] ∧ RollAt C H a t z ∧
  ((∃ (b t2 : Addr) (z2 : Str) (ys zs : List Str), x = .ref b ∧ RollAt C H b t2 z2 ∧ SqT K H t (ys.map V.str) ∧ SqT K H t2 (zs.map V.str) ∧ (∀ y, y ∈ ys → PyData.strOk y = true) ∧ (∀ y, y ∈ zs → PyData.strOk y = true) ∧ Q (.bl (decide (ys = zs))) H) ∨ (∃ T : Value, TyX K H x T ∧ PySem.W.kitOne K T (.ref C) = some false ∧ Q (.bl false) H))
theorem ok_equ {f : Addr} {fd : FuncData} (F : Fun K "__eq__" "Roll.__eq__" sEqu f fd) (T : Txt mg) (R : RollC K mg C) : FnOk P w K mg base CX0 1 f fd ["self", "other"] (spEqu K C) := by
  refine F.ok scEqu (fun vs H Q E h => ?_) (fun cdv A outer sh H vs Q E hr h => ?_)
  · obtain ⟨a, t, z, x, rfl, _⟩ := h
    rfl
  · obtain ⟨a, t, z, x, rfl, ⟨dx, fs, ha, l1, l2⟩, h⟩ := h
    have hu := hr.units
    refine ⟨_, (pss_one (ps_ret (pe_and (pe_callB call_isi (by rfl) T.b_isinstance (by decide +kernel) (pa_cons (pv 1) (pa_cons (pe_cls (by rfl) R.g) pa_nil))) (pe_one (pe_cmpR (op_eqD hu) (pe_fld (pv 0) rfl) (pe_fld (pv 1) rfl) (nomark _)))))), ?_⟩
    rcases h with ⟨b, t2, z2, ys, zs, rfl, ⟨dx2, fs2, hb, m1, m2⟩, hT, hT2, o1, o2, q⟩ | ⟨Ty, ty, kit, q⟩
    · have ty : TyX K H (.ref b) (.ref C) := .base (.ins hb R.cls R.dcl R.dget R.dtk R.mobj)
      have kit : PySem.W.kitOne K (.ref C) (.ref C) = some true := by unfold PySem.W.kitOne; rw [if_pos (by simp)]
      refine ⟨_, rfl, .ref b, .ref C, .ref C, .ref C, true, rfl, .own C, ty, kit, true, rfl, iteT ?_⟩
      refine ⟨_, rfl, a, C, dx, fs, _, rfl, ha, R.cls, R.no1, l1, _, rfl, b, C, dx2, fs2, _, rfl, hb, R.cls, R.no1, m1, _, _, .tup hT (dp_strs ys), .tup hT2 (dp_strs zs), shaped_strs _ o1, shaped_strs _ o2, ?_⟩
      rw [eqv_strs]
      exact q
    · exact ⟨_, rfl, x, .ref C, Ty, .ref C, false, rfl, .own C, ty, kit, false, rfl, iteF q⟩
end
end L2.Cal
end

section
set_option maxRecDepth 100000
set_option maxHeartbeats 4000000
/-! comprehensions of three clauses -/
namespace L2.C3
open PySem PySem.Spec PyProof.Rows L2
abbrev TB := St → Hp → (Hp → Prop) → Prop
/-- a later clause: its own walk in each turn of the one ahead, Nx behind it -/
def tCl (wi : TI) (g : TG) (tt : TT) (vs : List Nat) (body : TB) : TB := fun σ H Nx => wi σ H fun J H1 => ∃ W : Nat → Nat → Hp → Prop, (∃ m, W 0 m H1) ∧ ∀ i m H, W i m H →
  (J.stop i H ∧ Nx H) ∨ (J.go i H ∧ ∃ N1 : Hp → Prop, (∀ H', N1 H' → ∃ m', m' < m ∧ W (i + 1) m' H') ∧ ∀ x H', J.yld i H x H' → g x (wipe σ vs) H' fun σ2 H2 => wipe σ2 vs = wipe σ vs ∧ tt σ2 H2 fun b H3 => if b = true then body σ2 H3 N1 else N1 H3)
/-- the element is put behind the others -/
def tPut (te : TE) (D : Addr) : TB := fun σ H Nx => te σ H fun y H' => ∃ acc, H' D = some (.lst acc) ∧ acc.length < sizeLine ∧ Nx (upd H' D (.lst (acc ++ [y])))
/-- the first clause -/
def tTop (wi : TI) (g : TG) (tt : TT) (vs : List Nat) (body : Addr → TB) : TE := fun σ H Q => wi σ H fun J H1 => ∀ D, H1 D = none → ∃ W : Nat → Nat → Hp → Prop, (∃ m, W 0 m (upd H1 D (.lst []))) ∧ ∀ i m H, W i m H →
  (J.stop i H ∧ Q (.ref D) H) ∨ (J.go i H ∧ ∃ N1 : Hp → Prop, (∀ H', N1 H' → ∃ m', m' < m ∧ W (i + 1) m' H') ∧ ∀ x H', J.yld i H x H' → g x (wipe σ vs) H' fun σ2 H2 => wipe σ2 vs = wipe σ vs ∧ tt σ2 H2 fun b H3 => if b = true then body D σ2 H3 N1 else N1 H3)
abbrev No : Value → Shared → Prop := fun _ _ => False
section
variable {prog : Program} {w : World} {A : Around} {R : Result → Shared → Prop} {s : Shared} {elt t i1 : Expr} {gs : List Comprehension} {ifs : List Expr} {scope : Scope} {pos p : Pos} {it acc : Value} {env : Env} {k : Nat}
/-- what all turns share -/
abbrev TurnW (prog : Program) (w : World) (A : Around) (env : Env) (t : Expr) (ifs : List Expr) (it : Value) (stop : Shared → Prop) (body next : Shared → Prop) (E : Value → Shared → Prop) (s : Shared) : Prop :=
  wpAny (model prog w) A (pyNext it) (fun r s1 => match r with
    | none => stop s1
    | some v => wpAny (model prog w) A (letOwnedTupleGo t it v) (fun _ s2 => wpAny (model prog w) A (assign t env v) (fun _ s3 =>
        wpAny (model prog w) A (forIn ifs true fun c r => if r = true then do let y ← isTrue c env (eval c env); pure (ForInStep.yield y) else pure (ForInStep.yield r)) (fun y s4 => if y = true then body s4 else next s4) E s3) E s2) E s1) E s
abbrev MidW (prog : Program) (w : World) (A : Around) (e i1 : Expr) (k : Nat) (acc : Value) (env : Env) (E : Value → Shared → Prop) (R : Shared → Prop) (s : Shared) : Prop :=
  wpAny (model prog w) A (eval i1 env) (fun x s1 => wpAny (model prog w) A (pyIter x) (fun j s2 => codeAny (model prog w) A (.compStart e k j acc env) (fun r s3 => match r with | .ok _ => R s3 | .error _ => False) s2) E s1) E s
abbrev EndW (prog : Program) (w : World) (A : Around) (elt : Expr) (acc : Value) (env : Env) (E : Value → Shared → Prop) (R : Shared → Prop) (s : Shared) : Prop :=
  wpAny (model prog w) A (eval elt env) (fun x s1 => wpAny (model prog w) A (call (.builtin "list.append") [acc, x]) (fun _ s2 => R s2) E s1) E s
theorem loop_mid (ht : compTurn (.ListComp elt gs scope pos) k it acc env = (do
      standAt p
      match ← pyNext it with
      | none => pure (.done .next)
      | some v =>
        letOwnedTupleGo t it v
        assign t env v
        let mut ok := true
        for c in ifs do
          if ok then ok ← isTrue c env (eval c env)
        if ok then
          let x ← eval i1 env
          standAt i1.pos
          let x ← foldedSetIterable i1 env x
          let _ ← runOwn (.compStart (.ListComp elt gs scope pos) (k + 1) (← holding [x] (pyIter x)) acc env) env
        again (.compLoop (.ListComp elt gs scope pos) k it acc env)))
    (hs : ∀ x, foldedSetIterable i1 env x = pure x) (I : Nat → Shared → Prop)
    (turn : ∀ n s, I n s → TurnW prog w A env t ifs it (R (.ok .next)) (MidW prog w A (.ListComp elt gs scope pos) i1 (k + 1) acc env (notedBy (model prog w) A env fun e z => R (.error e) z) fun z => ∃ m, m < n ∧ I m z) (fun z => ∃ m, m < n ∧ I m z) (notedBy (model prog w) A env fun e z => R (.error e) z) s)
    (n : Nat) (h : I n s) : codeAny (model prog w) A (.compLoop (.ListComp elt gs scope pos) k it acc env) R s := by
  refine codeAny_loop rfl I (fun n s hI => ?_) n h
  show wpAny _ A (Sem.onRaise (compTurn (.ListComp elt gs scope pos) k it acc env) fun x => do noteFrame x env; theTreesLotGoes x) _ _ s
  refine wpAny_noted ?_
  rw [ht]
  refine wpAny_bind (wpAny_standAt (wpAny_bind (wpAny_mono (turn n s hI) (fun r z1 h1 => ?_) fun _ _ q => q)))
  cases r with
  | none => exact wpAny_pure h1
  | some v =>
    refine wpAny_bind (wpAny_mono h1 (fun _ z2 h2 => wpAny_bind (wpAny_mono h2 (fun _ z3 h3 => wpAny_bind (wpAny_mono h3 (fun y z4 h4 => ?_) fun _ _ q => q)) fun _ _ q => q)) fun _ _ q => q)
    cases y with
    | false => exact wpAny_pure ⟨rfl, h4⟩
    | true =>
      refine wpAny_bind (wpAny_mono h4 (fun x z5 h5 => wpAny_bind (wpAny_standAt (wpAny_bind (wpAny_of_eq (hs x) (wpAny_bind (wpAny_holding (wpAny_mono h5 (fun j z6 h6 => ?_) fun _ _ q => q))))))) fun _ _ q => q)
      refine wpAny_bind (wpAny_runOwn ?_)
      rw [Around.mark_none]
      refine codeAny_mono h6 fun r z7 hr => ?_
      cases r with
      | error e => exact hr.elim
      | ok f => first | exact wpAny_pure ⟨rfl, hr⟩ | exact wpAny_bind (wpAny_pure (wpAny_pure ⟨rfl, hr⟩))
theorem loop_end (ht : compTurn (.ListComp elt gs scope pos) k it acc env = (do
      standAt p
      match ← pyNext it with
      | none => pure (.done .next)
      | some v =>
        letOwnedTupleGo t it v
        assign t env v
        let mut ok := true
        for c in ifs do
          if ok then ok ← isTrue c env (eval c env)
        if ok then
          (do let _ ← call (.builtin "list.append") [acc, ← eval elt env])
        again (.compLoop (.ListComp elt gs scope pos) k it acc env)))
    (I : Nat → Shared → Prop)
    (turn : ∀ n s, I n s → TurnW prog w A env t ifs it (R (.ok .next)) (EndW prog w A elt acc env (notedBy (model prog w) A env fun e z => R (.error e) z) fun z => ∃ m, m < n ∧ I m z) (fun z => ∃ m, m < n ∧ I m z) (notedBy (model prog w) A env fun e z => R (.error e) z) s)
    (n : Nat) (h : I n s) : codeAny (model prog w) A (.compLoop (.ListComp elt gs scope pos) k it acc env) R s := by
  refine codeAny_loop rfl I (fun n s hI => ?_) n h
  show wpAny _ A (Sem.onRaise (compTurn (.ListComp elt gs scope pos) k it acc env) fun x => do noteFrame x env; theTreesLotGoes x) _ _ s
  refine wpAny_noted ?_
  rw [ht]
  refine wpAny_bind (wpAny_standAt (wpAny_bind (wpAny_mono (turn n s hI) (fun r z1 h1 => ?_) fun _ _ q => q)))
  cases r with
  | none => exact wpAny_pure h1
  | some v =>
    refine wpAny_bind (wpAny_mono h1 (fun _ z2 h2 => wpAny_bind (wpAny_mono h2 (fun _ z3 h3 => wpAny_bind (wpAny_mono h3 (fun y z4 h4 => ?_) fun _ _ q => q)) fun _ _ q => q)) fun _ _ q => q)
    cases y with
    | false => exact wpAny_pure ⟨rfl, h4⟩
    | true => exact wpAny_bind (wpAny_bind (wpAny_mono h4 (fun x z5 h5 => wpAny_bind (wpAny_mono h5 (fun _ z6 h6 => wpAny_pure (wpAny_pure ⟨rfl, h6⟩)) fun _ _ q => q)) fun _ _ q => q))
/-- a later clause begins -/
theorem start_by {c : Comprehension} (hk : gs[k]? = some c) (hna : c.is_async = 0) (h0 : codeAny (model prog w) A (.compLoop (.ListComp elt gs scope pos) k it acc env) R s)
    (h : wpAny (model prog w) A (pyIter it) (fun j z => codeAny (model prog w) A (.compLoop (.ListComp elt gs scope pos) k j acc env) R z) (notedBy (model prog w) A env fun x z => R (.error x) z) s) :
    codeAny (model prog w) A (.compStart (.ListComp elt gs scope pos) k it acc env) R s := by
  refine codeAny_of_tree ?_
  show wpAny _ _ (Sem.onRaise (compStart (.ListComp elt gs scope pos) k it acc env) fun x => do noteFrame x env; standAt theWindowsPlace) _ _ s
  refine wpAny_notedAt ?_
  have hcl : (clausesOf (.ListComp elt gs scope pos))[k]? = some c := hk
  unfold compStart
  rw [hcl]
  have ha : (Option.elim (some c) false fun x => x.is_async != 0) = false := by show (c.is_async != 0) = false; rw [hna]; rfl
  simp only [ha, Bool.false_eq_true, if_false]
  show wpAny _ _ (ask >>= _) _ _ s
  refine wpAny_bind (wpAny_askSetting (wpAny_ite ?_))
  split
  · first | exact wpAny_bind (wpAny_pure (wpAny_pure (And.intro rfl h0))) | exact wpAny_pure (And.intro rfl h0)
  · refine wpAny_bind (wpAny_rule ?_)
    show wpAny _ _ (standAt c.iter.pos >>= _) _ _ s
    exact wpAny_bind (wpAny_standAt (wpAny_bind (wpAny_mono h (fun j z q => wpAny_pure (And.intro rfl q)) fun _ _ x => x)))
end

theorem noX {α : Type} {t : Sem α} {Q Q' : α → Shared → Prop} {M : Model} {A : Around} {E : Value → Shared → Prop} {s : Shared} (hx : E = No) (h : wpAny M A t Q E s) (hQ : ∀ a s, Q a s → Q' a s) : wpAny M A t Q' No s := by
  rw [hx] at h
  exact wpAny_mono h hQ fun _ _ z => z
section
variable {prog : Program} {w : World} {A : Around} {E : Value → Shared → Prop}
theorem TurnW.any {env : Env} {t : Expr} {ifs : List Expr} {it : Value} {stop body body' next : Shared → Prop} {s : Shared} (h : TurnW prog w A env t ifs it stop body next No s) (hb : ∀ s, body s → body' s) : TurnW prog w A env t ifs it stop body' next E s := by
  refine wpAny_mono h (fun r s1 h1 => ?_) fun _ _ z => z.elim
  cases r with
  | none => exact h1
  | some v =>
    refine wpAny_mono h1 (fun _ s2 h2 => wpAny_mono h2 (fun _ s3 h3 => wpAny_mono h3 (fun y s4 h4 => ?_) fun _ _ z => z.elim) fun _ _ z => z.elim) fun _ _ z => z.elim
    cases y with
    | false => exact h4
    | true => exact hb _ h4
theorem MidW.any {e i1 : Expr} {k : Nat} {acc : Value} {env : Env} {R : Shared → Prop} {s : Shared} (h : MidW prog w A e i1 k acc env No R s) : MidW prog w A e i1 k acc env E R s :=
  wpAny_mono h (fun _ s1 h1 => wpAny_mono h1 (fun _ _ h2 => h2) fun _ _ z => z.elim) fun _ _ z => z.elim
theorem EndW.any {elt : Expr} {acc : Value} {env : Env} {R : Shared → Prop} {s : Shared} (h : EndW prog w A elt acc env No R s) : EndW prog w A elt acc env E R s :=
  wpAny_mono h (fun _ s1 h1 => wpAny_mono h1 (fun _ _ h2 => h2) fun _ _ z => z.elim) fun _ _ z => z.elim
end
/-- what a turn does behind its tests: slots beyond vs stay -/
def PB (X : Cx) (run : (Shared → Prop) → Shared → Prop) (vs : List Nat) (t : TB) : Prop :=
  ∀ (pins : List (Addr × Obj)) (s : Shared) (σ : St) (H : Hp) (Nx : Hp → Prop) (R : Shared → Prop), Inv X pins σ H s → t σ H Nx →
    (∀ z σ' H', Inv X pins σ' H' z → σ'.length = σ.length → (∀ (j : Nat) v, j ∉ vs → σ[j]? = some (some v) → σ'[j]? = some (some v)) → Nx H' → R z) → run R s
theorem pb_end {X : Cx} {elt : Expr} {te : TE} {D : Addr} (hx : X.xe = No) (he : PE X elt te) : PB X (EndW X.prog X.w X.A elt (.ref D) X.env No) [] (tPut te D) := by
  intro pins s σ H Nx R I h q
  refine noX hx (he.run pins s σ H _ I h) fun u z ⟨y, H', I', r, acc, hD, hz, nx⟩ => ?_
  exact app_ok I' hD hz r fun z2 I2 => q z2 σ _ I2 rfl (fun _ _ _ e => e) nx
/-- how the loop of a clause runs -/
def LoopBy (X : Cx) (e : Expr) (k : Nat) (t : Expr) (ifs : List Expr) (D : Addr) (run : (Shared → Prop) → Shared → Prop) : Prop :=
  ∀ (it : Addr) (R : Result → Shared → Prop) (I : Nat → Shared → Prop) (turn : ∀ n s, I n s → TurnW X.prog X.w X.A X.env t ifs (.ref it) (R (.ok .next)) (run fun z => ∃ m, m < n ∧ I m z) (fun z => ∃ m, m < n ∧ I m z) No s) (n : Nat) (s : Shared), I n s →
    codeAny (model X.prog X.w) X.A (.compLoop e k (.ref it) (.ref D) X.env) R s
theorem turn_go {X : Cx} {t1 : Expr} {ifs : List Expr} {g : TG} {tt : TT} {run : (Shared → Prop) → Shared → Prop} {vs vs1 : List Nat} {t : TB} {it : Addr} {fp : List Addr} {tn : Nat → Heap → Prop} {J : It} {W : Nat → Nat → Hp → Prop} {σ : St} {pins : List (Addr × Obj)} {stop : Shared → Prop} {End : Hp → Prop}
    (hx : X.xe = No) (hc : X.calm = true) (hg : PG X t1 g) (htt : PTs X ifs tt) (pb : PB X run vs1 t) (sub : ∀ j ∈ vs1, j ∈ vs)
    (T : Turn X.prog X.w X.K t1 J fp it tn) (hf : ∀ b ∈ fp, ∀ H', H' b = none → FpOk X pins H' b)
    (turn : ∀ i m H, W i m H → (J.stop i H ∧ End H) ∨ (J.go i H ∧ ∃ N1 : Hp → Prop, (∀ H', N1 H' → ∃ m', m' < m ∧ W (i + 1) m' H') ∧ ∀ x H', J.yld i H x H' → g x (wipe σ vs) H' fun σ2 H2 => wipe σ2 vs = wipe σ vs ∧ tt σ2 H2 fun b H3 => if b = true then t σ2 H3 N1 else N1 H3))
    (q : ∀ z H', Inv X pins (wipe σ vs) H' z → End H' → stop z) (n : Nat) (z : Shared)
    (h : ∃ i H', Inv X pins (wipe σ vs) H' z ∧ tn i z.heap ∧ (∀ b ∈ fp, H' b = none) ∧ W i n H') :
    TurnW X.prog X.w X.A X.env t1 ifs (.ref it) stop (run fun z => ∃ m, m < n ∧ ∃ i H', Inv X pins (wipe σ vs) H' z ∧ tn i z.heap ∧ (∀ b ∈ fp, H' b = none) ∧ W i m H') (fun z => ∃ m, m < n ∧ ∃ i H', Inv X pins (wipe σ vs) H' z ∧ tn i z.heap ∧ (∀ b ∈ fp, H' b = none) ∧ W i m H') No z := by
  obtain ⟨i, H5, I5, st5, n5, w5⟩ := h
  rcases turn i n H5 w5 with ⟨hstop, nx⟩ | ⟨hgo, N1, hN1, step⟩
  · refine thnF (T.done X rfl rfl rfl hc i pins z _ H5 No I5 (fun b hb => hf b hb _ (n5 b hb)) st5 hstop) fun r z2 ⟨hr, I6⟩ => ?_
    subst hr
    exact q z2 H5 I6 nx
  · refine thnF (T.item X rfl rfl rfl hc i pins z _ H5 No I5 (fun b hb => hf b hb _ (n5 b hb)) st5 hgo) fun r z2 ⟨u, hr, h6⟩ => ?_
    subst hr
    refine thnF h6 fun _ z3 ⟨x, H7, I7, r7, y7, st7, n7⟩ => ?_
    have I7' := I7.pinned (fun b hb => hf b hb _ (n7 b hb)) (T.obj _ _ st7)
    refine noX hx (hg.run _ z3 (wipe σ vs) H7 x u _ I7' r7 (step x H7 y7)) fun _ z4 ⟨σ8, H8, I8, hw8, q8⟩ => ?_
    refine noX hx (htt.run _ z4 σ8 H8 _ I8 q8) fun b z5 ⟨H9, I9, q9⟩ => ?_
    have fin : ∀ {z6 : Shared} {σ9 : St} {H' : Hp}, Inv X (pins ++ pinsAt fp z3.heap) σ9 H' z6 → σ9.length = σ8.length → (∀ (j : Nat) v, j ∉ vs1 → σ8[j]? = some (some v) → σ9[j]? = some (some v)) → N1 H' →
        ∃ m, m < n ∧ ∃ i H', Inv X pins (wipe σ vs) H' z6 ∧ tn i z6.heap ∧ (∀ b ∈ fp, H' b = none) ∧ W i m H' := fun {z6 σ9 H'} I' hl hk nx => by
      obtain ⟨m', hm, w'⟩ := hN1 H' nx
      have pin' : ∀ b ∈ fp, ∀ o, z3.heap.get? b = some o → z6.heap.get? b = some o ∧ H' b = none := fun b hb o e => by
        have y := I'.pin (b, o) (List.mem_append_right _ (List.mem_append_right _ (mem_pinsAt hb e)))
        exact ⟨y.1, y.2.1⟩
      refine ⟨m', hm, i + 1, H', I'.unpinned.weak ?_ (fun j v e => ?_), T.keep _ _ _ st7 fun b hb o e => (pin' b hb o e).1, fun b hb => ?_, w'⟩
      · rw [← hw8, wipe_length, hl]
      · rw [← hw8] at e
        obtain ⟨e1, e2⟩ := wipe_some e
        exact hk j v (fun z => e2 (sub j z)) e1
      · obtain ⟨o, e, _⟩ := T.obj _ _ st7 b hb
        exact (pin' b hb o e).2
    cases b with
    | false =>
      simp only [Bool.false_eq_true, if_false] at q9 ⊢
      exact fin I9 rfl (fun _ _ _ e => e) q9
    | true =>
      simp only [if_true] at q9 ⊢
      exact pb _ z5 σ8 H9 N1 _ I9 q9 fun z6 σ' H' I' hl hk nx => fin I' hl hk nx
theorem pb_cl {X : Cx} {elt t1 i1 : Expr} {gs : List Comprehension} {ifs : List Expr} {scope : Scope} {pos : Pos} {k : Nat} {D : Addr} {wi : TI} {g : TG} {tt : TT} {run : (Shared → Prop) → Shared → Prop} {vs vs1 : List Nat} {t : TB} (hx : X.xe = No) (hc : X.calm = true)
    (hk : gs[k]? = some ⟨t1, i1, ifs, 0⟩) (hi : PI X t1 i1 wi) (hg : PG X t1 g) (htt : PTs X ifs tt) (lp : LoopBy X (.ListComp elt gs scope pos) k t1 ifs D run) (pb : PB X run vs1 t) (sub : ∀ j ∈ vs1, j ∈ vs) :
    PB X (MidW X.prog X.w X.A (.ListComp elt gs scope pos) i1 k (.ref D) X.env No) vs (tCl wi g tt vs t) := by
  intro pins s σ H Nx R I h q
  refine noX hx (hi.run pins s σ H _ I h) fun v z1 h1 => noX hx h1 fun j z2 h2 => ?_
  obtain ⟨it, fp, tn, J, H2, e, I2, T, st2, f2, W, ⟨m0, w0⟩, turn⟩ := h2
  subst e
  have loop : codeAny (model X.prog X.w) X.A (.compLoop (.ListComp elt gs scope pos) k (.ref it) (.ref D) X.env) (fun r z => match r with | .ok _ => R z | .error _ => False) z2 := by
    refine lp it _ (fun n z => ∃ i H', Inv X pins (wipe σ vs) H' z ∧ tn i z.heap ∧ (∀ b ∈ fp, H' b = none) ∧ W i n H') (fun n z hh => ?_) m0 z2 ⟨0, H2, I2.weak (wipe_length _ _) (fun j v e => (wipe_some e).1), st2, fun b hb => (f2 b hb).1, w0⟩
    exact turn_go hx hc hg htt pb sub T (fun b hb H' hn => ⟨hn, (f2 b hb).2⟩) turn (fun z3 H' I' nx => q z3 _ H' I' (wipe_length _ _) (fun j v hj e => by rw [wipe_out hj]; exact e) nx) n z hh
  exact start_by hk rfl loop (T.self X.A 0 _ _ _ st2 loop)

section
variable {X : Cx}
/-- a rule for whatever block a comprehension makes -/
abbrev InBlk (X : Cx) (scope : Scope) (p : Cx → Prop) : Prop := ∀ (s : Shared) (H : Hp) (C : Addr) (cl : List (Str × Addr)) (fp : List Addr), p (X.blk s H scope (compEnvC scope cl C X.env) fp)
theorem top_core {pins : List (Addr × Obj)} {s : Shared} {σ : St} {H : Hp} {Q : VK} {elt tg iter : Expr} {ifs : List Expr} {gs : List Comprehension} {scope : Scope} {own : List (Str × Nat)} {vs1 : List Nat} {pos pos' : Pos} {wi : TI} {g : TG} {tt : TT} {t : Addr → TB} {use : Option (Value → Sem Unit)} {Qf : Value → Shared → Prop} {run : Cx → Addr → (Shared → Prop) → Shared → Prop}
    (hc : X.calm = true) (hN : X.N.Nodup) (I : Inv X pins σ H s) (hi : PI X tg iter wi) (ok : BlkOk X.N X.env.scope scope own) (sub : ∀ j ∈ vs1, j ∈ own.map (·.2)) (hs : ∀ x, foldedSetIterable iter X.env x = pure x)
    (hg : InBlk X scope fun Y => PG Y tg g) (ht : InBlk X scope fun Y => PTs Y ifs tt) (hp : InBlk X scope fun Y => ∀ D, PB Y (run Y D) vs1 (t D)) (lp : InBlk X scope fun Y => ∀ D, LoopBy Y (.ListComp elt (⟨tg, iter, ifs, 0⟩ :: gs) scope pos) 0 tg ifs D (run Y D))
    (h : tTop wi g tt (own.map (·.2)) t σ H Q)
    (last : ∀ D C z m H', Inv X pins σ H' z → Q (.ref D) H' → z.heap.Ns C m → FpOk X pins H' C → compPost (model X.prog X.w) X.A X.xe use Qf (.ref D) C (.ok .next) z) :
    wpAny (model X.prog X.w) X.A (comprehension (.ListComp elt (⟨tg, iter, ifs, 0⟩ :: gs) scope pos) scope X.env pos' (newList []) false (eval iter X.env) use) Qf X.xe s := by
  refine wpAny_comprehension_free (use := use) rfl hs (closure_ok fun y hy e => (ok.free y hy e).elim (fun k => I.ok.has _ (.inl k)) fun k => I.ok.has _ (.inr k)) ok.kind (fun y hy e => by rw [ok.uniq y hy, e])
    (thn (hi.run pins s σ H _ I h) fun _ z1 hx => thn hx fun itv z2 h2 => ?_)
  obtain ⟨it, fp, tn, J, H2, e, I2, T, st2, f2, q⟩ := h2
  subst e
  refine wpAny_newObj_type (newEnv_comp ?_) (by show 0 ≤ sizeLine; decide)
  generalize hD : z2.heap.objs.size = D
  obtain ⟨W, ⟨m0, w0⟩, turn⟩ := q D (I2.hok.fresh (Nat.le_of_eq hD))
  generalize hz3 : ({ z2 with heap := z2.heap.push { cls := .type "list", data := .seq ([] : List Value).toArray } } : Shared) = z3
  have kz : ∀ b o, z2.heap.get? b = some o → z3.heap.get? b = some o := fun b o e => by rw [← hz3]; exact Heap.get?_push_of_some _ e
  have I3 : Inv X pins σ (upd H2 D (.lst [])) z3 := by
    rw [← hz3]
    refine I2.laid (t' := z2.toks) (fun b o e => Heap.get?_push_of_some _ e) (Nat.le_of_eq hD) ⟨Nat.zero_le _, [], 0, .nil, ?_⟩
    rw [← hD]; exact Heap.get?_push_size _ rfl
  have f3 : ∀ b ∈ fp, FpOk X pins (upd H2 D (.lst [])) b ∧ b < z3.heap.objs.size := fun b hb => by
    obtain ⟨o, e, _⟩ := T.obj _ _ st2 b hb
    refine ⟨⟨?_, (f2 b hb).2⟩, Heap.lt_size (kz b o e)⟩
    rw [upd_ne (by rw [← hD]; exact Nat.ne_of_lt (Heap.lt_size e))]; exact (f2 b hb).1
  have st3 : tn 0 z3.heap := T.keep _ _ _ st2 fun b _ o e => kz b o e
  have I4 := block_start I3 ok hN f3
  have pg := hg z3 (upd H2 D (.lst [])) z3.heap.objs.size (cellsFrom (z3.heap.objs.size + 1) scope.names (cloFrom X.env.cells scope.names [])) fp
  have pt := ht z3 (upd H2 D (.lst [])) z3.heap.objs.size (cellsFrom (z3.heap.objs.size + 1) scope.names (cloFrom X.env.cells scope.names [])) fp
  have pb := hp z3 (upd H2 D (.lst [])) z3.heap.objs.size (cellsFrom (z3.heap.objs.size + 1) scope.names (cloFrom X.env.cells scope.names [])) fp D
  have pl := lp z3 (upd H2 D (.lst [])) z3.heap.objs.size (cellsFrom (z3.heap.objs.size + 1) scope.names (cloFrom X.env.cells scope.names [])) fp D
  show codeAny _ _ (.compStart (.ListComp elt (⟨tg, iter, ifs, 0⟩ :: gs) scope pos) 0 (.ref it) (.ref D) (compEnvC scope (cellsFrom (z3.heap.objs.size + 1) scope.names (cloFrom X.env.cells scope.names [])) z3.heap.objs.size X.env)) (compPost (model X.prog X.w) X.A X.xe use Qf (.ref D) z3.heap.objs.size) { z3 with heap := pushCells (z3.heap.push { cls := .type "dict", data := .dict #[] }) scope.names }
  generalize hce : compEnvC scope (cellsFrom (z3.heap.objs.size + 1) scope.names (cloFrom X.env.cells scope.names [])) z3.heap.objs.size X.env = ce at I4 pg pt pb pl ⊢
  have cL : ce.locals = z3.heap.objs.size := by subst hce; rfl
  generalize hH3 : upd H2 D (.lst []) = H3 at I3 I4 pg pt pb pl w0 f3
  generalize hz4 : ({ z3 with heap := pushCells (z3.heap.push { cls := .type "dict", data := .dict #[] }) scope.names } : Shared) = z4 at I4 ⊢
  have st4 : tn 0 z4.heap := T.keep _ _ _ st3 fun b _ o e => by rw [← hz4]; exact pushCells_keeps _ _ _ _ (Heap.get?_push_of_some _ e)
  have loop : codeAny (model X.prog X.w) X.A (.compLoop (.ListComp elt (⟨tg, iter, ifs, 0⟩ :: gs) scope pos) 0 (.ref it) (.ref D) ce) (compPost (model X.prog X.w) X.A X.xe use Qf (.ref D) z3.heap.objs.size) z4 := by
    refine pl it _ (fun n z => ∃ i H', Inv (X.blk z3 H3 scope ce fp) [] (wipe σ (own.map (·.2))) H' z ∧ tn i z.heap ∧ (∀ b ∈ fp, H' b = none) ∧ W i n H') (fun n z hh => ?_) m0 z4 ⟨0, H3, I4, st4, fun b hb => (f3 b hb).1.1, w0⟩
    refine turn_go (X := X.blk z3 H3 scope ce fp) rfl hc pg pt pb sub T (fun b hb H' hn => ⟨hn, (I4.ok.exf b hb).1, I4.ok.exfs b hb, .inl hb, fun x c e => (I4.ok.exf b hb).2 x c e, fun p hp => absurd (show p ∈ ([] : List (Addr × Obj)) ++ [] from hp) (by simp)⟩) turn (fun z6 H5 I6 qq => ?_) n z hh
    have I7 : Inv X pins σ H5 z6 := I3.call' (ch := fp) I6.os I6.base I6.hok I6.bare fun b hb => ⟨(f3 b hb).1.2.2.2.1, (f3 b hb).1.2.1, (f3 b hb).1.2.2.2.2.1, (f3 b hb).1.2.2.2.2.2⟩
    have nC : H5 z3.heap.objs.size = none := by
      have y : H5 ce.locals = none := I6.free
      rw [cL] at y; exact y
    obtain ⟨m, hn, _⟩ := I6.loc
    have hn : z6.heap.Ns ce.locals m := hn
    rw [cL] at hn
    exact last D z3.heap.objs.size z6 m H5 I7 qq hn (I3.fpOk (Nat.le_refl _) nC)
  exact codeAny_compStart_list loop (T.self X.A 0 _ _ _ st4 loop)
theorem pe_top {elt tg iter : Expr} {ifs : List Expr} {gs : List Comprehension} {scope : Scope} {own : List (Str × Nat)} {vs1 : List Nat} {pos : Pos} {wi : TI} {g : TG} {tt : TT} {t : Addr → TB} {run : Cx → Addr → (Shared → Prop) → Shared → Prop}
    (hc : X.calm = true) (hN : X.N.Nodup) (hi : PI X tg iter wi) (ok : BlkOk X.N X.env.scope scope own) (sub : ∀ j ∈ vs1, j ∈ own.map (·.2))
    (hg : InBlk X scope fun Y => PG Y tg g) (ht : InBlk X scope fun Y => PTs Y ifs tt) (hp : InBlk X scope fun Y => ∀ D, PB Y (run Y D) vs1 (t D)) (lp : InBlk X scope fun Y => ∀ D, LoopBy Y (.ListComp elt (⟨tg, iter, ifs, 0⟩ :: gs) scope pos) 0 tg ifs D (run Y D)) (hs : ∀ x, foldedSetIterable iter X.env x = pure x := by intro _; rfl) :
    PE X (.ListComp elt (⟨tg, iter, ifs, 0⟩ :: gs) scope pos) (tTop wi g tt (own.map (·.2)) t) := by
  refine ⟨fun pins s σ H Q I h => ?_⟩
  rw [eval_ListComp]
  refine top_core hc hN I hi ok sub hs hg ht hp lp h fun D C z m H' I' q hn f => ⟨m, hn, fun h'' sb => ?_⟩
  obtain ⟨f0, f1, f2, f3, f4, f5⟩ := f
  exact ⟨.ref D, H', I'.turned (t' := z.toks) (fun b o hb e => (sb.2 b hb).trans e) f0 f1 f3 f4 f5, rfl, q⟩
/-- three clauses -/
theorem pe_lc3 {elt t0 i0 t1 i1 t2 i2 : Expr} {f0 f1 f2 : List Expr} {scope : Scope} {own : List (Str × Nat)} {vs1 vs2 : List Nat} {pos : Pos} {w0 w1 w2 : TI} {g0 g1 g2 : TG} {tt0 tt1 tt2 : TT} {te : TE}
    (hc : X.calm = true) (hN : X.N.Nodup) (h0 : PI X t0 i0 w0) (ok : BlkOk X.N X.env.scope scope own) (sub : ∀ j ∈ vs1, j ∈ own.map (·.2)) (sub2 : ∀ j ∈ vs2, j ∈ vs1)
    (hg0 : InBlk X scope fun Y => PG Y t0 g0) (ht0 : InBlk X scope fun Y => PTs Y f0 tt0) (h1 : InBlk X scope fun Y => PI Y t1 i1 w1) (hg1 : InBlk X scope fun Y => PG Y t1 g1) (ht1 : InBlk X scope fun Y => PTs Y f1 tt1)
    (h2 : InBlk X scope fun Y => PI Y t2 i2 w2) (hg2 : InBlk X scope fun Y => PG Y t2 g2) (ht2 : InBlk X scope fun Y => PTs Y f2 tt2) (he : InBlk X scope fun Y => PE Y elt te)
    (hs : ∀ x, foldedSetIterable i0 X.env x = pure x := by intro _; rfl) (hs1 : ∀ env x, foldedSetIterable i1 env x = pure x := by intro _ _; rfl) (hs2 : ∀ env x, foldedSetIterable i2 env x = pure x := by intro _ _; rfl) :
    PE X (.ListComp elt [⟨t0, i0, f0, 0⟩, ⟨t1, i1, f1, 0⟩, ⟨t2, i2, f2, 0⟩] scope pos) (tTop w0 g0 tt0 (own.map (·.2)) fun D => tCl w1 g1 tt1 vs1 (tCl w2 g2 tt2 vs2 (tPut te D))) := by
  refine pe_top (run := fun Y D => MidW Y.prog Y.w Y.A (.ListComp elt [⟨t0, i0, f0, 0⟩, ⟨t1, i1, f1, 0⟩, ⟨t2, i2, f2, 0⟩] scope pos) i1 1 (.ref D) Y.env No) (vs1 := vs1) hc hN h0 ok sub hg0 ht0 (fun s H C cl fp D => ?_) (fun s H C cl fp D it R I turn n z hI => ?_) hs
  · refine pb_cl rfl hc rfl (h1 s H C cl fp) (hg1 s H C cl fp) (ht1 s H C cl fp) (fun it R I turn n z hI => ?_) (pb_cl (elt := elt) (gs := [⟨t0, i0, f0, 0⟩, ⟨t1, i1, f1, 0⟩, ⟨t2, i2, f2, 0⟩]) (scope := scope) (pos := pos) (k := 2) (D := D) rfl hc rfl (h2 s H C cl fp) (hg2 s H C cl fp) (ht2 s H C cl fp) (fun it R I turn n z hI => ?_) (pb_end rfl (he s H C cl fp)) (fun j hj => by cases hj)) sub2
    · exact loop_mid rfl (hs2 _) I (fun n s h => (turn n s h).any fun z y => y.any) n hI
    · exact loop_end rfl I (fun n s h => (turn n s h).any fun z y => y.any) n hI
  · exact loop_mid rfl (hs1 _) I (fun n s h => (turn n s h).any fun z y => y.any) n hI
end
/-- a walk with its places: Pv by the turn and the heap -/
theorem walk_by {J : It} {n : Nat} {G : Hp → Prop} {Y : Nat → Hp → V → Hp → Prop} (w : Walk J n G Y) {g : TG} {tt : TT} {body : TB} {vs : List Nat} {σ : St} {H0 : Hp} {Qd : Hp → Prop} (Pv : Nat → Hp → Prop) (h0 : Pv 0 H0) (hG : ∀ i H, i ≤ n → Pv i H → G H)
    (hs : ∀ i x H H', i < n → Pv i H → Y i H x H' → g x (wipe σ vs) H' fun σ2 H2 => wipe σ2 vs = wipe σ vs ∧ tt σ2 H2 fun b H3 => if b = true then body σ2 H3 (Pv (i + 1)) else Pv (i + 1) H3) (hd : ∀ H, Pv n H → Qd H) :
    ∃ W : Nat → Nat → Hp → Prop, (∃ m, W 0 m H0) ∧ ∀ i m H, W i m H → (J.stop i H ∧ Qd H) ∨ (J.go i H ∧ ∃ N1 : Hp → Prop, (∀ H', N1 H' → ∃ m', m' < m ∧ W (i + 1) m' H') ∧ ∀ x H', J.yld i H x H' → g x (wipe σ vs) H' fun σ2 H2 => wipe σ2 vs = wipe σ vs ∧ tt σ2 H2 fun b H3 => if b = true then body σ2 H3 N1 else N1 H3) := by
  refine ⟨fun i m H => m = n - i ∧ i ≤ n ∧ Pv i H, ⟨n, by simp, Nat.zero_le _, h0⟩, ?_⟩
  rintro i m H ⟨rfl, hi, p⟩
  have q := hG i H hi p
  rcases Nat.lt_or_ge i n with lt | ge
  · exact .inr ⟨w.goes i H lt q, Pv (i + 1), fun H' p' => ⟨n - (i + 1), by omega, rfl, lt, p'⟩, fun x H' y => hs i x H H' lt p (w.yields i H x H' lt q y)⟩
  · cases Nat.le_antisymm hi ge
    exact .inl ⟨w.stops H q, hd H p⟩
end L2.C3
end

section
set_option maxRecDepth 100000
set_option maxHeartbeats 4000000
namespace L2.Cal
open PySem PySem.Spec PyProof.Rows L2
abbrev sChk : Stmt := topS 23
theorem scChk : FnScope ["roll"] ["roll"] (defScope sChk) := ⟨rfl, rfl, rfl, by decide +kernel, rfl, by decide +kernel, by decide +kernel⟩
abbrev sThs : Stmt := topS 26
theorem scThs : FnScope ["things", "a", "b", "c"] ["things"] (defScope sThs) := ⟨rfl, rfl, rfl, by decide +kernel, rfl, by decide +kernel, by decide +kernel⟩
abbrev sSta : Stmt := topS 27
theorem scSta : FnScope ["order", "three", "thing"] ["order", "three"] (defScope sSta) := ⟨rfl, rfl, rfl, by decide +kernel, rfl, by decide +kernel, by decide +kernel⟩
/-- three things as they stand in an order -/
def press (y x : Str) : Str := ⟨(y.cps.toList.filter fun c => decide (c ∈ x.cps.toList)).toArray⟩
def spChk (C : Addr) : Sp := fun vs H Q _ => ∃ (a t : Addr) (z : Str), vs = [.ref a] ∧ RollAt C H a t z ∧ Q .non H
def spThs : Sp := fun vs H Q _ => ∃ y : Str, vs = [.str y] ∧ y.cps.size ≤ 6 ∧ ∀ (p : Addr) (H' : Hp), Same H H' → H p = none → H' p = some (.tup ((tri y.cps.toList).map V.str)) → Q (.ref p) H'
def spSta : Sp := fun vs H Q _ => ∃ y x : Str, vs = [.str y, .str x] ∧ y.cps.size ≤ 6 ∧ ∀ H', Same H H' → Q (.str (press y x)) H'
theorem s3_of (a b c : Nat) : ((⟨#[a]⟩ : Str) ++ ⟨#[b]⟩) ++ ⟨#[c]⟩ = s3 a b c := rfl
section
variable {P : Program} {w : World} {K : PySem.W.Frag} {mg : Str → Option Value} {base : Heap} {C : Addr}
theorem ok_chk {f : Addr} {fd : FuncData} (D : DefAt K mg "check_roll" sChk ["roll"] f fd) (T : Txt mg) (R : RollC K mg C) : FnOk P w K mg base CX0 1 f fd ["roll"] (spChk C) := by
  refine D.F.ok scChk (fun vs H Q E h => ?_) (fun cdv A outer sh H vs Q E hr h => ?_)
  · obtain ⟨a, t, z, rfl, _⟩ := h
    rfl
  · obtain ⟨a, t, z, rfl, ⟨dx, fs, ha, l1, l2⟩, q⟩ := h
    have ty : TyX K H (.ref a) (.ref C) := .base (.ins ha R.cls R.dcl R.dget R.dtk R.mobj)
    have kit : PySem.W.kitOne K (.ref C) (.ref C) = some true := by unfold PySem.W.kitOne; rw [if_pos (by simp)]
    refine ⟨_, pss_one (ps_if (pt_not (pt_val (pe_callB call_isi (by rfl) T.b_isinstance (by decide +kernel) (pa_cons (pv 0) (pa_cons (pe_cls (by rfl) R.g) pa_nil))))) (pss_one ps_never) pss_nil), ?_⟩
    exact ⟨_, rfl, .ref a, .ref C, .ref C, .ref C, true, rfl, .own C, ty, kit, true, rfl, iteF q⟩
theorem ok_ths {f : Addr} {fd : FuncData} (D : DefAt K mg "threes_of" sThs ["things"] f fd) (T : Txt mg) : FnOk P w K mg base CX0 1 f fd ["things"] spThs := by
  refine D.F.ok scThs (fun vs H Q E h => ?_) (fun cdv A outer sh H vs Q E hr h => ?_)
  · obtain ⟨y, rfl, _⟩ := h
    rfl
  · obtain ⟨y, rfl, hy, q⟩ := h
    refine ⟨_, pss_one (ps_ret (pe_callTy call_tuple_of (by rfl) T.b_tuple (by decide +kernel) (pa_cons (C3.pe_lc3 (own := [("a", 1), ("b", 2), ("c", 3)]) (vs1 := [2, 3]) (vs2 := [3]) (g0 := gName 1) (g1 := gName 2) (g2 := gName 3) (tt0 := tYes) (tt1 := tYes) rfl scThs.nd (pi_str (pv 0))
      (blkOk_by (own := [("a", 1), ("b", 2), ("c", 3)]) (N := ["things", "a", "b", "c"]) (sc := defScope sThs) (by decide +kernel)) (by decide) (by decide)
      (fun _ _ _ _ _ => pg_name (i := 1) scThs.nd rfl (Or.inl rfl)) (fun _ _ _ _ _ => pts_nil) (fun _ _ _ _ _ => pi_str (pv 0)) (fun _ _ _ _ _ => pg_name (i := 2) scThs.nd rfl (Or.inl rfl)) (fun _ _ _ _ _ => pts_nil) (fun _ _ _ _ _ => pi_str (pv 0)) (fun _ _ _ _ _ => pg_name (i := 3) scThs.nd rfl (Or.inl rfl))
      (fun _ _ _ _ _ => pts_one (pt_chain op_lt_str op_lt_str (pv 1) (pv 2) (pv 3))) (fun _ _ _ _ _ => pe_op op_add_str (pe_op op_add_str (pv 1) (pv 2)) (pv 3))) pa_nil))), ?_⟩
    generalize hcs : y.cps.toList = cs at q
    have len : cs.length = y.cps.size := by rw [← hcs, Array.length_toList]
    have ix : ∀ {k c : Nat}, y.cps[k]? = some c → cs[k]? = some c := fun h => by rw [← hcs, Array.getElem?_toList]; exact h
    have small : ∀ n : Nat, n ≤ 400 → n < sizeLine := fun n h => by rw [sizeLine_eq]; omega
    have l6 : cs.length ≤ 6 := by omega
    have sq : cs.length * cs.length ≤ 36 := Nat.mul_le_mul l6 l6
    have one : ∀ (X : List Str) (D : Addr) (HH H' : Hp) (v : Str), H D = none → Same H HH → HH D = some (.lst (X.map V.str)) → Same H (upd HH D (.lst (X.map V.str ++ [V.str v]))) ∧ (upd HH D (.lst (X.map V.str ++ [V.str v]))) D = some (.lst ((X ++ [v]).map V.str)) := fun X D HH H' v nD sm eD => by
      refine ⟨fun b o e => ?_, by rw [upd_same, List.map_append] <;> rfl⟩
      rw [upd_ne (ne_of_none e nD)]
      exact sm _ _ e
    refine ⟨_, rfl, y, rfl, fun D nD => C3.walk_by walk_str (fun i H' => Same H H' ∧ H' D = some (.lst (((cs.take i).flatMap (row2 cs)).map V.str))) ⟨same_new nD, upd_same⟩ (fun _ _ _ _ => trivial) (fun i x H1 H2 hi hP hY => ?_) (fun H1 hP => ?_)⟩
    · obtain ⟨sm, eD⟩ := hP
      obtain ⟨rfl, a, ha, rfl⟩ := hY
      refine ⟨rfl, _, rfl, y, rfl, C3.walk_by walk_str (fun j H' => Same H H' ∧ H' D = some (.lst (((cs.take i).flatMap (row2 cs) ++ (cs.take j).flatMap (row3 cs a)).map V.str))) ⟨sm, by rw [eD]; simp⟩ (fun _ _ _ _ => trivial) (fun j x H3 H4 hj hP hY => ?_) (fun H3 hP => ?_)⟩
      · obtain ⟨sm, eD⟩ := hP
        obtain ⟨rfl, b, hb, rfl⟩ := hY
        refine ⟨rfl, _, rfl, y, rfl, C3.walk_by walk_str (fun k H' => Same H H' ∧ H' D = some (.lst ((((cs.take i).flatMap (row2 cs) ++ (cs.take j).flatMap (row3 cs a)) ++ ((cs.take k).filter fun c => decide (a < b) && decide (b < c)).map (s3 a b)).map V.str))) ⟨sm, by rw [eD]; simp⟩ (fun _ _ _ _ => trivial) (fun k x H5 H6 hk hP hY => ?_) (fun H5 hP => ?_)⟩
        · obtain ⟨sm, eD⟩ := hP
          obtain ⟨rfl, c, hc, rfl⟩ := hY
          have st := row3_take (a := a) (b := b) (ix hc)
          have few : ((cs.take i).flatMap (row2 cs) ++ (cs.take j).flatMap (row3 cs a) ++ ((cs.take k).filter fun c => decide (a < b) && decide (b < c)).map (s3 a b)).length ≤ 400 := by
            have h1 := flat_le (cs.take i) (f := row2 cs) (n := 36) fun a _ => Nat.le_trans (row2_len cs a) sq
            have h2 := flat_le (cs.take j) (f := row3 cs a) (n := 6) fun b _ => Nat.le_trans (row3_len cs a b) l6
            have h3 := List.length_filter_le (fun c => decide (a < b) && decide (b < c)) (cs.take k)
            have i1 : (cs.take i).length ≤ 6 := by rw [List.length_take]; omega
            have i2 : (cs.take j).length ≤ 6 := by rw [List.length_take]; omega
            have i3 : (cs.take k).length ≤ 6 := by rw [List.length_take]; omega
            rw [List.length_append, List.length_append, List.length_map]
            omega
          have no : (decide (a < b) && decide (b < c)) = false → Same H H6 ∧ H6 D = some (.lst ((((cs.take i).flatMap (row2 cs) ++ (cs.take j).flatMap (row3 cs a)) ++ ((cs.take (k + 1)).filter fun c => decide (a < b) && decide (b < c)).map (s3 a b)).map V.str)) := fun e => by
            rw [st, e]
            refine ⟨sm, ?_⟩
            rw [eD]
            simp
          refine ⟨rfl, _, rfl, _, rfl, _, _, rfl, rfl, decide (a < b), congrArg V.bl (one_lt a b), ite2 (fun h1 => ⟨_, rfl, _, _, rfl, rfl, decide (b < c), congrArg V.bl (one_lt b c), ite2 (fun h2 => ?_) (fun h2 => ?_)⟩) (fun h1 => ⟨false, rfl, ?_⟩)⟩
          · have put := one _ D H6 H6 (s3 a b c) nD sm eD
            refine ⟨_, rfl, _, rfl, _, _, rfl, rfl, Nat.le_of_lt (small 2 (by omega)), _, rfl, _, _, rfl, rfl, Nat.le_of_lt (small 3 (by omega)), _, eD, by rw [List.length_map]; exact small _ few, ?_⟩
            refine ⟨put.1, put.2.trans ?_⟩
            rw [st, h1, h2, List.append_assoc] <;> rfl
          · refine no ?_
            rw [h1, Bool.true_and]
            exact Bool.eq_false_iff.mpr h2
          · refine no ?_
            rw [Bool.eq_false_iff.mpr h1, Bool.false_and]
        · obtain ⟨sm, eD⟩ := hP
          refine ⟨sm, ?_⟩
          rw [flat_take (ix hb), eD, ← len, List.take_length, List.append_assoc] <;> rfl
      · obtain ⟨sm, eD⟩ := hP
        refine ⟨sm, ?_⟩
        rw [flat_take (ix ha), eD, ← len, List.take_length] <;> rfl
    · obtain ⟨sm, eD⟩ := hP
      rw [← len, List.take_length] at eD
      refine ⟨D, _, rfl, .inl ⟨SqL.of eD, fun l nl => q l _ (fun b o e => ?_) ?_ upd_same⟩⟩
      · have e2 := sm _ _ e
        rw [upd_ne (ne_of_none e2 nl)]
        exact e2
      · cases e : H l with
        | none => rfl
        | some o =>
          rw [sm _ _ e] at nl
          cases nl
theorem ok_sta {f : Addr} {fd : FuncData} (D : DefAt K mg "standing" sSta ["order", "three"] f fd) : FnOk P w K mg base CX0 1 f fd ["order", "three"] spSta := by
  refine D.F.ok scSta (fun vs H Q E h => ?_) (fun cdv A outer sh H vs Q E hr h => ?_)
  · obtain ⟨y, x, rfl, _⟩ := h
    rfl
  · obtain ⟨y, x, rfl, hy, q⟩ := h
    refine ⟨_, pss_one (ps_ret (pe_join pe_str (pe_lc (own := [("thing", 2)]) (g := gName 2) (tt := _) rfl scSta.nd (pi_str (pv 0)) (blkOk_by (own := [("thing", 2)]) (N := ["order", "three", "thing"]) (sc := defScope sSta) (by decide +kernel))
      (fun _ _ _ _ _ => pg_name (i := 2) scSta.nd rfl (Or.inl rfl)) (fun _ _ _ _ _ => pts_one (pt_cmpR op_in_str (pv 2) (pv 1) (by rfl))) (fun _ _ _ _ _ => pv 2)))), ?_⟩
    refine ⟨⟨_, rfl⟩, _, rfl, y, rfl, fun D nD => lc_it walk_str (fun k H' => Same H H' ∧ H' D = some (.lst (((y.cps.toList.take k).filter fun c => decide (c ∈ x.cps.toList)).map fun c => V.str ⟨#[c]⟩))) ⟨same_new nD, upd_same⟩ (fun _ _ _ _ => trivial) (fun k v H1 H2 hk hP hY => ?_) (fun H1 hP => ?_)⟩
    · obtain ⟨sm, eD⟩ := hP
      obtain ⟨rfl, c, hc, rfl⟩ := hY
      have ec : y.cps.toList[k]? = some c := by rw [Array.getElem?_toList]; exact hc
      refine ⟨rfl, _, rfl, _, rfl, _, _, rfl, rfl, decide (c ∈ x.cps.toList), congrArg V.bl (PySem.StrLaws.found_one x c), ite2 (fun e => ?_) (fun e => ?_)⟩
      · refine ⟨_, rfl, _, eD, ?_, fun b o h => ?_, ?_⟩
        · rw [List.length_map]
          refine Nat.lt_of_le_of_lt (List.length_filter_le _ _) ?_
          rw [List.length_take, Array.length_toList, sizeLine_eq]
          omega
        · rw [upd_ne (ne_of_none h nD)]
          exact sm _ _ h
        · rw [upd_same, List.take_succ, ec, Option.toList_some, List.filter_append, List.map_append]
          rw [show [c].filter (fun c => decide (c ∈ x.cps.toList)) = [c] by rw [List.filter_cons, if_pos e, List.filter_nil]] <;> rfl
      · refine ⟨sm, ?_⟩
        rw [eD, List.take_succ, ec, Option.toList_some, List.filter_append]
        rw [show [c].filter (fun c => decide (c ∈ x.cps.toList)) = [] by rw [List.filter_cons, if_neg e, List.filter_nil], List.append_nil]
    · obtain ⟨sm, eD⟩ := hP
      rw [List.take_of_length_le (by rw [Array.length_toList]; exact Nat.le_refl _)] at eD
      have e2 : H1 D = some (.lst ((signs (press y x)).map V.str)) := by
        rw [eD]
        unfold signs press
        rw [List.map_map] <;> rfl
      have ps : (press y x).cps.size ≤ 6 := by
        have := List.length_filter_le (fun c => decide (c ∈ x.cps.toList)) y.cps.toList
        have h2 := Array.length_toList (xs := y.cps)
        show (y.cps.toList.filter fun c => decide (c ∈ x.cps.toList)).length ≤ 6
        omega
      refine ⟨_, D, _, rfl, rfl, .inl (SqL.of e2), ?_, ?_⟩
      · rw [sign_sum, signs_length, show (PySem.Str.ofString "").length = 0 by decide +kernel]
        omega
      · rw [join_signs]
        exact q _ sm
end
end L2.Cal
end

section
set_option maxRecDepth 100000
set_option maxHeartbeats 4000000
/-! a, b, c = a text; sets of texts from tuples and lists -/
namespace L2.Cal
open PySem PySem.Spec PyProof.Rows PySem.Froz L2
section
variable {prog : Program} {w : World} {A : Around} {E : Value → Shared → Prop}
theorem draw_walk {I : Addr} {fp wr : List Addr} {n : Nat} {P : Nat → Value → Prop} {St : Nat → Heap → Prop} (W : Walks prog w A I fp wr n P St) : ∀ (m i : Nat) (s : Shared) (Q : List Value → Shared → Prop), St i s.heap → i + m ≤ n →
    (∀ (vs : List Value) h' tk, vs.length = m → (∀ (j : Nat) v, vs[j]? = some v → P (i + j) v) → St (i + m) h' → (∀ b o, b ∉ wr → s.heap.get? b = some o → h'.get? b = some o) → Q vs { s with heap := h', toks := tk }) → wpAny (model prog w) A (draw (.ref I) m) Q E s
  | 0, i, s, Q, st, _, q => wpAny_pure (q [] s.heap s.toks rfl (fun j v h => by simp at h) st fun _ _ _ e => e)
  | m + 1, i, s, Q, st, hm, q => by
    show wpAny _ _ (pyNext (.ref I) >>= _) Q E s
    refine wpAny_bind (W.item i s _ _ (by omega) st fun v h1 t1 p st1 k1 => ?_)
    refine wpAny_bind (wpAny_holding (draw_walk W m (i + 1) _ _ st1 (by omega) fun vs h2 t2 l p2 st2 k2 => wpAny_pure ?_))
    refine q (v :: vs) h2 t2 (by rw [List.length_cons, l]) (fun j u e => ?_) (by rw [show i + (m + 1) = i + 1 + m by omega]; exact st2) fun b o n e => k2 b o n (k1 b o n e)
    cases j with
    | zero =>
      cases e
      exact p
    | succ j =>
      rw [show i + (j + 1) = i + 1 + j by omega]
      exact p2 j u e
theorem unpack_text {s : Shared} {x : Str} {t : Tok} {Q : List Value → Shared → Prop} (hh : A.handled = none)
    (q : ∀ vs h' tk, StrsAre vs (signs x) → (∀ b o, s.heap.get? b = some o → h'.get? b = some o) → Q vs { s with heap := h', toks := tk }) : wpAny (model prog w) A (unpackItems (.str x t) x.cps.size none) Q E s := by
  unfold unpackItems
  refine wpAny_bind ?_
  unfold notIterableAtAll
  refine wpAny_bind (wpAny_specialOf (typeIs_str s x t) F.slot_str_iter.lookup ?_)
  refine wpAny_pure ?_
  simp only [Bool.false_eq_true, if_false]
  have go : ∀ (ty : String) (W : Walks prog w A s.heap.objs.size [s.heap.objs.size] [s.heap.objs.size] x.cps.size (SignAt x) (fun i h => h.IsStrIter s.heap.objs.size ty x t i)),
      wpAny (model prog w) A (do
        let items ← holding [.ref s.heap.objs.size] (draw (.ref s.heap.objs.size) x.cps.size)
        if items.length < x.cps.size then
          rule "unpack.too-few"; raiseError "ValueError" s!"not enough values to unpack (expected {x.cps.size}, got {items.length})"
        if (← holding items (pyNext (.ref s.heap.objs.size))).isSome then
          rule "unpack.too-many"; raiseError "ValueError" s!"too many values to unpack (expected {x.cps.size})"
        return items) Q E { s with heap := s.heap.push { cls := .type ty, data := .fields #[.str x t, .int 0 0] } } := fun ty W => by
    refine wpAny_bind (wpAny_holding (draw_walk W x.cps.size 0 _ _ ⟨_, Heap.get?_push_size _ rfl, rfl, rfl⟩ (by omega) fun vs h1 t1 l p st k => ?_))
    rw [if_neg (by omega)]
    rw [Nat.zero_add] at st
    refine wpAny_bind (wpAny_holding (W.done _ _ _ st fun h2 t2 k2 => ?_))
    simp only [Option.isSome_none, Bool.false_eq_true, if_false]
    have are : StrsAre vs (signs x) := by
      have z : vs.map txtOf = signs x := by
        apply List.ext_getElem?
        intro i
        unfold signs
        rw [List.getElem?_map, List.getElem?_map, Array.getElem?_toList (xs := x.cps)]
        cases e : vs[i]? with
        | none =>
          rw [List.getElem?_eq_none_iff, l] at e
          rw [Array.getElem?_eq_none_iff.mpr e] <;> rfl
        | some v =>
          obtain ⟨c, u, hc, rfl⟩ := p i v e
          rw [Nat.zero_add] at hc
          rw [hc] <;> rfl
      rw [← z]
      refine are_of _ fun v hv => ?_
      obtain ⟨i, hi, e⟩ := List.getElem_of_mem hv
      obtain ⟨c, u, _, z⟩ := p i v (by rw [List.getElem?_eq_getElem hi, e])
      exact ⟨_, u, z⟩
    refine wpAny_pure (q vs h2 t2 are fun b o e => ?_)
    have nb : b ∉ [s.heap.objs.size] := fun z => Nat.ne_of_lt (Heap.lt_size e) (List.mem_singleton.mp z)
    exact k2 b o nb (k b o nb (Heap.get?_push_of_some _ e))
  cases ha : x.cps.all (· < 128) with
  | true => exact wpAny_bind (wpAny_holding (wpAny_pyIter_ascii ha (go _ (Walks.strAscii hh _ x t))))
  | false => exact wpAny_bind (wpAny_holding (wpAny_pyIter_wide ha (go _ (Walks.strWide hh _ x t))))
end
section
variable {X : Cx} {pos : Pos}
/-- a, b, .. = a text of that length -/
def gTxt (n : Nat) (t : TGs) : TG := fun v σ H Q => ∃ x, v = .str x ∧ x.cps.size = n ∧ t ((signs x).map V.str) σ H Q
theorem pg_txt {es : List Expr} {k : Nat} {t : TGs} {n : Nat} (hc : X.calm = true) (h : PGs X es t)
    (hn : (assignEach es X.env).length = n := by rfl) (hst : (assignEach es X.env).findIdx? (·.1) = none := by rfl) : PG X (.Tuple es k pos) (gTxt n t) := by
  refine ⟨fun pins s σ H v u Q I r hw => ?_⟩
  obtain ⟨x, rfl, hl, hw⟩ := hw
  obtain ⟨tk, rfl⟩ := r
  rw [assign_Tuple]
  refine wpAny_bind (wpAny_standAt ?_)
  unfold unpack
  rw [hn, hst, ← hl]
  refine wpAny_bind (wpAny_holding (unpack_text (I.ok.hd hc) fun vs h' tk' are kk => ?_))
  exact h.run pins _ σ H _ _ Q (I.kept kk) (vals_of_strs are) hw
end
section
variable {P : Program} {w : World} {A : Around} {E : Value → Shared → Prop} {s : Shared}
/-- set(xs), xs a tuple of texts -/
theorem set_tup {b : Addr} {items : Array Value} {ss : List Str} {Q : Value → Shared → Prop} (hh : A.handled = none) (at_ : s.heap.IsTuple b items) (are : StrsAre items.toList ss) (few : ss.length + 1 < scanBound)
    (q : ∀ (h' : Heap) (tk : Nat) (D : SD) (l : List Str), (∀ b o, s.heap.get? b = some o → h'.get? b = some o) → h'.get? s.heap.objs.size = some (sObj "set" D) → Has P w D l → (∀ x, x ∈ l ↔ x ∈ ss) → Q (.ref s.heap.objs.size) { s with heap := h', toks := tk }) :
    wpAny (model P w) A (call (.type "set") [.ref b]) Q E s := by
  refine fresh_set (mem := fun x => x ∈ ss) (fun A' E' Q' hA k => ?_) q
  have h2 : A'.handled = none := hA.trans hh
  obtain ⟨ol, hol, hcl, nl, hdl⟩ := at_
  have lt : b < s.heap.objs.size := Heap.lt_size hol
  obtain ⟨ocls, odict, odata, oslots⟩ := ol
  simp only at hcl hdl
  subst hcl; subst hdl
  have there : (s.heap.push (sObj "set" (#[], 0, .fresh 0 0 (!w.params.followText "set-order")))).get? b = some { cls := .type "tuple", dict := odict, data := .seq items nl, slots := oslots } := Heap.get?_push_of_some _ hol
  have no1 := PySem.F.sub_tuple_set
  have no2 := PySem.F.sub_tuple_frozenset
  have no3 : (Value.type "tuple" == Value.type "dict") = false := by decide
  have isl : (s.heap.push (sObj "set" (#[], 0, .fresh 0 0 (!w.params.followText "set-order")))).IsTuple b items := ⟨_, there, rfl, nl, rfl⟩
  unfold Builtin.Frozenset.updateFrom
  generalize hI : pyIter = it
  wp_walk
  subst hI
  refine wpAny_pyIter_tuple isl (wpAny_bind (wpAny_runValue ?_))
  have sz : (s.heap.push (sObj "set" (#[], 0, .fresh 0 0 (!w.params.followText "set-order")))).objs.size = s.heap.objs.size + 1 := Heap.size_push ..
  have off : b ≠ (s.heap.push (sObj "set" (#[], 0, .fresh 0 0 (!w.params.followText "set-order")))).objs.size := by rw [sz]; exact Nat.ne_of_lt (Nat.lt_succ_of_lt lt)
  have n : items.size = ss.length := by rw [← Array.length_toList]; exact are_length are
  refine fill (s := s) (T := "set") (val := fun i => ss.getD i ⟨#[]⟩) (Walks.tuple (by simp [h2]) _ b off items) (S := s.heap.objs.size) ?_ (fun i v hv => ?_) (by omega) (fun h' tk D l keep at1 H mem => wpAny_pure (k h' tk D l (fun c o z => keep c o (Nat.ne_of_lt (Heap.lt_size z)) (fun m => ?_) z) at1 H fun x => (mem x).trans ?_))
    (items.size - 0) 0 _ _ _ [] rfl (Nat.zero_le _) ⟨⟨_, Heap.get?_push_size _ rfl, rfl, rfl⟩, isl.push _⟩ (fun c o _ _ z => Heap.get?_push_of_some _ (Heap.get?_push_of_some _ z)) (Heap.get?_push_of_some _ (Heap.get?_push_size _ rfl)) (Has.none 0) (fun x => by simp) (Nat.zero_le _)
  · rw [sz]
    intro z
    rcases List.mem_cons.mp z with z | z
    · exact absurd z (Nat.ne_of_lt (Nat.lt_succ_self _))
    · exact absurd (List.mem_singleton.mp z) (Nat.ne_of_gt lt)
  · exact are_at are i v (by rw [Array.getElem?_toList]; exact hv)
  · rw [List.mem_singleton.mp m, sz] at z
    exact absurd (Heap.lt_size z) (Nat.not_lt.mpr (Nat.le_succ _))
  · rw [n]
    constructor
    · rintro ⟨j, hj, e⟩
      rw [List.getD_eq_getElem?_getD, List.getElem?_eq_getElem hj] at e
      exact e ▸ List.getElem_mem hj
    · intro hx
      obtain ⟨j, hj, e⟩ := List.getElem_of_mem hx
      exact ⟨j, hj, by rw [List.getD_eq_getElem?_getD, List.getElem?_eq_getElem hj]; exact e⟩
end
section
variable {X : Cx}
/-- sorted(set(xs)), xs a tuple of texts -/
def tSortedSetT (K : PySem.W.Frag) (ta : TE) : TE := fun σ H Q => ta σ H fun x H1 => ∃ (l : Addr) (xs : List Str), x = V.ref l ∧ SqT K H1 l (xs.map V.str) ∧ xs.length < 64 ∧
  ∀ (ys : List Str) (p : Addr), Climbs ys → ys.Nodup → (∀ x, x ∈ ys ↔ x ∈ xs) → H1 p = none → Q (.ref p) (upd H1 p (.lst (ys.map V.str)))
theorem pe_sortedSetT {a : Expr} {ta : TE} {p p2 q pos : Pos} (hc : X.calm = true) (hg : Gl X "sorted") (hm : X.mg "sorted" = none) (hg2 : Gl X "set") (hm2 : X.mg "set" = none) (ha : PE X a ta)
    (na : starEach [a] X.env = (false, eval a X.env) :: starEach [] X.env := by rfl) : PE X (.Call (.Name "sorted" p) [.Call (.Name "set" p2) [a] [] q] [] pos) (tSortedSetT X.K ta) := by
  refine ⟨fun pins s σ H Q I h => Call_ (ld_blt I hg hm PyProof.Rows.boot_sorted (PyProof.Rows.callWith_builtin1 (PyProof.Rows.args_cons ?_ rfl) rfl rfl))⟩
  refine Call_ (ld_blt I hg2 hm2 PyProof.Rows.boot_set (PyProof.Rows.callWith_type1 (PyProof.Rows.args_cons (thn (ha.run pins s σ H _ I h) fun v s1 ⟨x, H1, I1, r1, q1⟩ => PyProof.Rows.args_nil ?_) na) na rfl))
  obtain ⟨l, xs, rfl, hq, few, fin⟩ := q1
  cases r1
  obtain ⟨its, r, pl, _⟩ := I1.tuple hq
  refine set_tup (I1.ok.hd hc) pl (by simpa using r.strs) (by unfold scanBound; omega) fun h' tk D L k1 at1 S mem => PyProof.Rows.args_nil ?_
  have I2 : Inv X pins σ H1 { s1 with heap := h', toks := tk } := I1.kept k1
  have short : L.length < 64 := Nat.lt_of_le_of_lt (List.Nodup.length_le_of_subset S.one fun x hx => (mem x).mp hx) few
  refine sort_set (I2.ok.hd hc) at1 S short fun s' b out c ys k g o z at2 are pm cl => ?_
  obtain ⟨J, n⟩ := inv_list I2 k g o z at2 are (by rw [pm.length_eq]; exact short)
  exact ⟨.ref b, _, J, rfl, fin ys b cl (pm.nodup_iff.mpr S.one) (fun x => pm.mem_iff.trans (mem x)) n⟩
/-- len(set(xs)), xs a list of texts -/
def tLenSetL (K : PySem.W.Frag) (ta : TE) : TE := fun σ H Q => ta σ H fun x H1 => ∃ (l : Addr) (xs : List Str), x = V.ref l ∧ SqL K H1 l (xs.map V.str) ∧ xs.length < 64 ∧ ∀ ys : List Str, ys.Nodup → (∀ x, x ∈ ys ↔ x ∈ xs) → Q (.int ys.length) H1
theorem pe_lenSetL {a : Expr} {ta : TE} {p p2 q pos : Pos} (hc : X.calm = true) (hg : Gl X "len") (hm : X.mg "len" = none) (hg2 : Gl X "set") (hm2 : X.mg "set" = none) (ha : PE X a ta)
    (na : starEach [a] X.env = (false, eval a X.env) :: starEach [] X.env := by rfl) : PE X (.Call (.Name "len" p) [.Call (.Name "set" p2) [a] [] q] [] pos) (tLenSetL X.K ta) := by
  refine ⟨fun pins s σ H Q I h => Call_ (ld_blt I hg hm PySem.boot_len (PyProof.Rows.callWith_builtin1 (PyProof.Rows.args_cons ?_ rfl) rfl rfl))⟩
  refine Call_ (ld_blt I hg2 hm2 PyProof.Rows.boot_set (PyProof.Rows.callWith_type1 (PyProof.Rows.args_cons (thn (ha.run pins s σ H _ I h) fun v s1 ⟨x, H1, I1, r1, q1⟩ => PyProof.Rows.args_nil ?_) na) na rfl))
  obtain ⟨l, xs, rfl, hq, few, fin⟩ := q1
  cases r1
  obtain ⟨its, r, pl, _⟩ := I1.list hq
  refine set_list (I1.ok.hd hc) pl.isList (by simpa using r.strs) (by unfold scanBound; omega) fun h' tk D L k1 at1 S mem => PyProof.Rows.args_nil ?_
  have I2 : Inv X pins σ H1 { s1 with heap := h', toks := tk } := I1.kept k1
  have short : D.1.size = L.length := S.ok.sz
  have le : L.length ≤ xs.length := List.Nodup.length_le_of_subset S.one fun x hx => (mem x).mp hx
  refine call_len_set at1 ⟨rfl, rfl, rfl⟩ rfl S.ok.fit (by rw [short] <;> omega) ⟨.int L.length, H1, I2.tok _, ⟨_, by rw [short]⟩, fin L S.one mem⟩
end
end L2.Cal
end

section
set_option maxRecDepth 100000
set_option maxHeartbeats 4000000
namespace L2.Cal
open PySem PySem.Spec PyProof.Rows L2
abbrev sWup : Stmt := topS 28
theorem scWup : FnScope ["three", "a", "b", "c"] ["three"] (defScope sWup) := ⟨rfl, rfl, rfl, by decide +kernel, rfl, by decide +kernel, by decide +kernel⟩
abbrev sWam : Stmt := topS 29
theorem scWam : FnScope ["orders", "three", "found", "order", "wheel", "each"] ["orders", "three"] (defScope sWam) := ⟨rfl, rfl, rfl, by decide +kernel, rfl, by decide +kernel, by decide +kernel⟩
def spWup : Sp := fun vs H Q _ => ∃ a b c : Nat, vs = [.str (s3 a b c)] ∧ ∀ (p q1 q2 : Addr) (H' : Hp), Same H H' → H' p = some (.tup [.ref q1, .ref q2]) → H' q1 = some (.tup ((W1 a b c).map V.str)) → H' q2 = some (.tup ((W2 a b c).map V.str)) → Q (.ref p) H'
/-- orders pressed upon three things -/
abbrev prs (a b c : Nat) : Str → Str := fun z => press z (s3 a b c)
def spWam (K : PySem.W.Frag) : Sp := fun vs H Q _ => ∃ (t : Addr) (ys : List Str) (a b c : Nat), vs = [.ref t, .str (s3 a b c)] ∧ SqT K H t (ys.map V.str) ∧ (∀ z, z ∈ ys → z.cps.size ≤ 6) ∧ ys.length ≤ 60 ∧
  (wheelR (prs a b c) ys a b c = none → ∀ H', Same H H' → Q .non H') ∧ ∀ zs, wheelR (prs a b c) ys a b c = some zs → ∀ (p : Addr) (H' : Hp), Same H H' → H' p = some (.tup (zs.map V.str)) → Q (.ref p) H'
theorem find_take {α : Type} {f : α → Bool} {l : List α} {x : α} {k : Nat} (h : l[k]? = some x) : (l.take (k + 1)).find? f = ((l.take k).find? f).or (if f x = true then some x else none) := by
  rw [List.take_succ, h, Option.toList_some, List.find?_append]
  congr 1
  rw [List.find?_cons]
  cases f x <;> rfl
section
variable {P : Program} {w : World} {K : PySem.W.Frag} {mg : Str → Option Value} {base : Heap} {C : Addr}
theorem ok_wup {f : Addr} {fd : FuncData} (D : DefAt K mg "wheels_upon" sWup ["three"] f fd) : FnOk P w K mg base CX0 1 f fd ["three"] spWup := by
  refine D.F.ok scWup (fun vs H Q E h => ?_) (fun cdv A outer sh H vs Q E hr h => ?_)
  · obtain ⟨a, b, c, rfl, _⟩ := h
    rfl
  · obtain ⟨a, b, c, rfl, q⟩ := h
    refine ⟨_, pss_cons (ps_asg (pv 0) (pg_txt rfl (pgs_cons (pg_name (i := 1) scWup.nd rfl (.inl rfl)) (pgs_cons (pg_name (i := 2) scWup.nd rfl (.inl rfl)) (pgs_cons (pg_name (i := 3) scWup.nd rfl (.inl rfl)) pgs_nil)))))
      (pss_one (ps_ret (pe_tupS (pa_cons (pe_tupS (pa_cons (pe_op op_add_str (pe_op op_add_str (pv 1) (pv 2)) (pv 3)) (pa_cons (pe_op op_add_str (pe_op op_add_str (pv 2) (pv 3)) (pv 1)) (pa_cons (pe_op op_add_str (pe_op op_add_str (pv 3) (pv 1)) (pv 2)) pa_nil))))
        (pa_cons (pe_tupS (pa_cons (pe_op op_add_str (pe_op op_add_str (pv 3) (pv 2)) (pv 1)) (pa_cons (pe_op op_add_str (pe_op op_add_str (pv 1) (pv 3)) (pv 2)) (pa_cons (pe_op op_add_str (pe_op op_add_str (pv 2) (pv 1)) (pv 3)) pa_nil)))) pa_nil))))), ?_⟩
    have z : ∀ n : Nat, n ≤ 3 → n ≤ sizeLine := fun n h => by rw [sizeLine_eq]; omega
    have z2 := z 2 (by decide)
    have z3 := z 3 (by decide)
    refine ⟨_, rfl, s3 a b c, rfl, rfl, _, _, rfl, _, _, rfl, _, _, rfl, rfl, ?_⟩
    refine ⟨_, rfl, _, rfl, _, _, rfl, rfl, z2, _, rfl, _, _, rfl, rfl, z3, _, rfl, _, rfl, _, _, rfl, rfl, z2, _, rfl, _, _, rfl, rfl, z3, _, rfl, _, rfl, _, _, rfl, rfl, z2, _, rfl, _, _, rfl, rfl, z3, z3, fun q1 H1 t1 n1 e1 => ?_⟩
    refine ⟨_, rfl, _, rfl, _, _, rfl, rfl, z2, _, rfl, _, _, rfl, rfl, z3, _, rfl, _, rfl, _, _, rfl, rfl, z2, _, rfl, _, _, rfl, rfl, z3, _, rfl, _, rfl, _, _, rfl, rfl, z2, _, rfl, _, _, rfl, rfl, z3, z3, fun q2 H2 t2 n2 e2 => ⟨z2, fun p H3 t3 n3 e3 => ?_⟩⟩
    exact q p q1 q2 H3 (t1.trans (t2.trans t3)) e3 (t3 _ _ (t2 _ _ e1)) (t3 _ _ e2)
theorem ok_wam {f fS fU : Addr} {fd fdS fdU : FuncData} (D : DefAt K mg "wheel_among" sWam ["orders", "three"] f fd) (DS : DefAt K mg "standing" sSta ["order", "three"] fS fdS) (DU : DefAt K mg "wheels_upon" sWup ["three"] fU fdU) (T : Txt mg) :
    FnOk P w K mg base CX0 2 f fd ["orders", "three"] (spWam K) := by
  have GS : FnOk P w K mg base CX0 1 fS fdS ["order", "three"] spSta := ok_sta DS
  have GU : FnOk P w K mg base CX0 1 fU fdU ["three"] spWup := ok_wup DU
  refine D.F.ok scWam (fun vs H Q E h => ?_) (fun cdv A outer sh H vs Q E hr h => ?_)
  · obtain ⟨t, ys, a, b, c, rfl, _⟩ := h
    rfl
  · obtain ⟨t, ys, a, b, c, rfl, hT, h6, few, qn, qs⟩ := h
    have hu := hr.units
    have hu1 : (A.deeper (envOfC (Str.ofString "wheel_among") (defScope sWam) sh.heap.objs.size f cdv)).units + 1 < cLine := by omega
    refine ⟨_, (pss_cons (ps_set (i := 2) scWam.nd rfl (.inr rfl) pe_dnewS)
      (pss_cons (ps_for PassesOwn.never rfl (pi_tup (pv 0)) (pg_name (i := 3) scWam.nd rfl (.inl rfl)) (pss_one (ps_expr (pe_dsetd (pv 2) (pe_call GS (hr.mono (by decide)) (by rfl) DS.g DS.F.kp DS.b .nil pass0 (pa_cons (pv 3) (pa_cons (pv 1) pa_nil))) (pv 3) ⟨rfl, rfl, rfl, rfl⟩))))
      (pss_cons (ps_for PassesOwn.never rfl (pi_tup (pe_call GU (hr.mono (by decide)) (by rfl) DU.g DU.F.kp DU.b .nil pass0 (pa_cons (pv 1) pa_nil))) (pg_name (i := 4) scWam.nd rfl (.inl rfl))
        (pss_one (ps_if (pt_val (pe_callB (cr_all rfl) (by rfl) T.b_all (by decide +kernel) (pa_cons (pe_lc (own := [("each", 5)]) (g := gName 5) (tt := tYes) rfl scWam.nd (pi_tup (pv 4)) (blkOk_by (own := [("each", 5)]) (N := ["orders", "three", "found", "order", "wheel", "each"]) (sc := defScope sWam) (by decide +kernel))
            (fun _ _ _ _ _ => pg_name (i := 5) scWam.nd rfl (Or.inl rfl)) (fun _ _ _ _ _ => pts_nil) (fun _ _ _ _ _ => pe_cmp (pc_din hu1 (pv 5) (pv 2)))) pa_nil)))
          (pss_one (ps_ret (pe_callTy call_tuple_of (by rfl) T.b_tuple (by decide +kernel) (pa_cons (pe_callB cr_sortedS (by rfl) T.b_sorted (by decide +kernel) (pa_cons (pe_lc (own := [("each", 5)]) (g := gName 5) (tt := tYes) rfl scWam.nd (pi_tup (pv 4))
            (blkOk_by (own := [("each", 5)]) (N := ["orders", "three", "found", "order", "wheel", "each"]) (sc := defScope sWam) (by decide +kernel)) (fun _ _ _ _ _ => pg_name (i := 5) scWam.nd rfl (Or.inl rfl)) (fun _ _ _ _ _ => pts_nil) (fun _ _ _ _ _ => pe_dget hu1 (pv 2) (pv 5) (fun _ _ => rfl))) pa_nil)) pa_nil)))) pss_nil)))
      (pss_one (ps_ret pe_non))))), ?_⟩
    generalize hpr : prs a b c = pr at qn qs
    have pre : ∀ z, press z (s3 a b c) = pr z := fun z => by rw [← hpr]
    have small : ∀ n : Nat, n ≤ 100 → n < sizeLine := fun n h => by rw [sizeLine_eq]; omega
    refine fun d H0 s0 n0 e0 => ⟨_, rfl, t, rfl, ⟨_, same_seqT hT s0⟩, for_tup (K := K) (a := t) (xs := ys.map V.str) (fun k σ H' => ∃ v3 v4 v5 kvs, σ = [some (.ref t), some (.str (s3 a b c)), some (.ref d), v3, v4, v5] ∧ Same H H' ∧ H' d = some (.dK kvs) ∧ kvs.length ≤ k ∧
        ∀ e : Str, valV kvs (.inr e) = ((ys.take k).find? fun z => decide (pr z = e)).map V.str)
      ⟨_, _, _, [], rfl, s0, e0, Nat.le_refl _, fun e => by simp [valV]⟩ (fun k σ H' _ hP => ?_) (fun k x σ H1 hx hP => ?_) (fun σ H1 hP => ?_)⟩
    · obtain ⟨_, _, _, _, _, sm, _⟩ := hP
      exact same_seqT hT sm
    · obtain ⟨v3, v4, v5, kvs, rfl, sm, ed, kl, kv⟩ := hP
      rw [List.getElem?_map] at hx
      cases ez : ys[k]? with
      | none =>
        rw [ez] at hx
        cases hx
      | some z =>
        rw [ez] at hx
        cases hx
        have hk := (List.getElem?_eq_some_iff.mp ez).1
        have hz := h6 z (List.mem_of_getElem? ez)
        refine ⟨_, rfl, d, rfl, .inl ⟨kvs, .inl ed⟩, _, rfl, _, rfl, z, s3 a b c, rfl, hz, fun H2 s2 => ⟨_, rfl, kvs, .inr (press z (s3 a b c)), s2 _ _ ed, rfl, small _ (by omega), fun v hv => ?_, fun hn => ?_⟩⟩
        · refine ⟨_, _, _, kvs, rfl, sm.trans s2, s2 _ _ ed, by omega, fun e => ?_⟩
          rw [find_take ez, kv e]
          by_cases q : pr z = e
          · rw [pre, q, kv e] at hv
            cases w : (ys.take k).find? fun z => decide (pr z = e) with
            | none => rw [w] at hv; cases hv
            | some u => rfl
          · rw [decide_eq_false q, if_neg Bool.false_ne_true, Option.or_none]
        · have nd : ∀ y o, H y = some o → y ≠ d := fun y o e z => by rw [z, n0] at e; cases e
          refine ⟨_, _, _, putK kvs (.inr (press z (s3 a b c))) (.str z), rfl, fun y o e => ?_, upd_same, ?_, fun e => ?_⟩
          · rw [upd_ne (nd y o e)]
            exact s2 _ _ (sm _ _ e)
          · have := length_putK kvs (.inr (press z (s3 a b c))) (.str z)
            omega
          · rw [valV_put, find_take ez, kv e]
            by_cases q : pr z = e
            · rw [pre] at hn
              rw [pre, q, if_pos rfl]
              rw [q, kv e] at hn
              cases w : (ys.take k).find? fun z => decide (pr z = e) with
              | none => simp
              | some u => rw [w] at hn; cases hn
            · rw [decide_eq_false q, if_neg Bool.false_ne_true, Option.or_none, if_neg]
              intro w
              rw [pre] at w
              exact q (Sum.inr.inj w).symm
    · obtain ⟨v3, v4, v5, kvs, rfl, sm, ed, kl, kv⟩ := hP
      rw [List.length_map, List.take_length] at kv
      have hs : ∀ e, (valV kvs (.inr e)).isSome = has pr ys e := fun e => by
        rw [kv e, Option.isSome_map]
        rfl
      refine ⟨_, rfl, a, b, c, rfl, fun p q1 q2 H2 s2 ep e1 e2 => ⟨p, rfl, ⟨_, SqT.of ep⟩, for_tup (K := K) (a := p) (xs := [.ref q1, .ref q2]) (fun k σ H' => ∃ v3 v4 v5, σ = [some (.ref t), some (.str (s3 a b c)), some (.ref d), v3, v4, v5] ∧ Same H2 H' ∧
          (0 < k → (W1 a b c).all (has pr ys) = false) ∧ (1 < k → (W2 a b c).all (has pr ys) = false))
        ⟨_, _, _, rfl, fun _ _ z => z, fun z => absurd z (by omega), fun z => absurd z (by omega)⟩ (fun k σ H' _ hP => ?_) (fun k x σ H3 hx hP => ?_) (fun σ H3 hP => ?_)⟩⟩
      · obtain ⟨_, _, _, _, sk, _⟩ := hP
        exact SqT.of (sk _ _ ep)
      · obtain ⟨w3, w4, w5, rfl, sk, no1, no2⟩ := hP
        obtain ⟨qq, W, rfl, eqq, wl, yes, no⟩ : ∃ (qq : Addr) (W : List Str), x = .ref qq ∧ H3 qq = some (.tup (W.map V.str)) ∧ W.length = 3 ∧ (W.all (has pr ys) = true → wheelR pr ys a b c = some (srt (W.map (firstOf pr ys)))) ∧
            (W.all (has pr ys) = false → (0 < k + 1 → (W1 a b c).all (has pr ys) = false) ∧ (1 < k + 1 → (W2 a b c).all (has pr ys) = false)) := by
          match k, hx with
          | 0, hx =>
            cases hx
            exact ⟨q1, W1 a b c, rfl, sk _ _ e1, rfl, fun y => by unfold wheelR; rw [if_pos y], fun n => ⟨fun _ => n, fun z => absurd z (by omega)⟩⟩
          | 1, hx =>
            cases hx
            have z1 := no1 (by omega)
            exact ⟨q2, W2 a b c, rfl, sk _ _ e2, rfl, fun y => by unfold wheelR; rw [z1, if_neg Bool.false_ne_true, if_pos y], fun n => ⟨fun _ => z1, fun _ => n⟩⟩
          | n + 2, hx => simp at hx
        have ed3 : H3 d = some (.dK kvs) := sk _ _ (s2 _ _ ed)
        refine ⟨_, rfl, qq, rfl, ⟨_, SqT.of eqq⟩, fun D nD => lc_tup (K := K) (a := qq) (xs := W.map V.str) (fun j H' => Same H3 H' ∧ H' D = some (.lst (((W.take j).map (has pr ys)).map V.bl))) ⟨same_new nD, upd_same⟩ (fun j H' _ hP => SqT.of (hP.1 _ _ eqq)) (fun j x H4 hx hP => ?_) (fun H4 hP => ?_)⟩
        · obtain ⟨s4, eD⟩ := hP
          rw [List.getElem?_map] at hx
          cases ee : W[j]? with
          | none =>
            rw [ee] at hx
            cases hx
          | some e =>
            rw [ee] at hx
            cases hx
            refine ⟨rfl, _, rfl, _, rfl, d, _, rfl, DGet.k (k := .inr e) (s4 _ _ ed3), _, eD, ?_, fun y o h => ?_, ?_⟩
            · rw [List.length_map, List.length_map, List.length_take]
              exact small _ (by omega)
            · rw [upd_ne (ne_of_none h nD)]
              exact s4 _ _ h
            · rw [upd_same, List.take_succ, ee, Option.toList_some, List.map_append, List.map_append, hs e] <;> rfl
        · obtain ⟨s4, eD⟩ := hP
          rw [List.length_map, List.take_length] at eD
          refine ⟨D, W.map (has pr ys), rfl, SqL.of eD, _, rfl, ite2 (fun y => ?_) (fun n => ?_)⟩
          · have y2 : W.all (has pr ys) = true := by
              rw [List.all_map] at y
              exact y
            have all := List.all_eq_true.mp y2
            have eqq4 := s4 _ _ eqq
            refine ⟨_, rfl, qq, rfl, ⟨_, SqT.of eqq4⟩, fun D2 nD2 => lc_tup (K := K) (a := qq) (xs := W.map V.str) (fun j H' => Same H4 H' ∧ H' D2 = some (.lst (((W.take j).map (firstOf pr ys)).map V.str))) ⟨same_new nD2, upd_same⟩ (fun j H' _ hP => SqT.of (hP.1 _ _ eqq4)) (fun j x H5 hx hP => ?_) (fun H5 hP => ?_)⟩
            · obtain ⟨s5, eD2⟩ := hP
              rw [List.getElem?_map] at hx
              cases ee : W[j]? with
              | none =>
                rw [ee] at hx
                cases hx
              | some e =>
                rw [ee] at hx
                cases hx
                have hv : valV kvs (.inr e) = some (.str (firstOf pr ys e)) := by
                  have he := all e (List.mem_of_getElem? ee)
                  unfold has at he
                  unfold firstOf
                  rw [kv e]
                  cases w : ys.find? fun z => decide (pr z = e) with
                  | none => rw [w] at he; cases he
                  | some u => rfl
                refine ⟨rfl, _, rfl, _, rfl, d, _, rfl, hv ▸ DGet.k (k := .inr e) (s5 _ _ (s4 _ _ ed3)), _, eD2, ?_, fun y o h => ?_, ?_⟩
                · rw [List.length_map, List.length_map, List.length_take]
                  exact small _ (by omega)
                · rw [upd_ne (ne_of_none h nD2)]
                  exact s5 _ _ h
                · rw [upd_same, List.take_succ, ee, Option.toList_some, List.map_append, List.map_append] <;> rfl
            · obtain ⟨s5, eD2⟩ := hP
              rw [List.length_map, List.take_length] at eD2
              refine ⟨D2, W.map (firstOf pr ys), rfl, SqL.of eD2, by rw [List.length_map]; omega, fun zs p2 pm so np => ⟨p2, _, rfl, .inl ⟨SqL.of upd_same, fun l nl => ?_⟩⟩⟩
              have ez := srt_is pm so
              subst ez
              exact qs _ (yes y2) l _ ((sm.trans (s2.trans (sk.trans (s4.trans s5)))).trans ((same_new np).trans (same_new nl))) upd_same
          · have n2 : W.all (has pr ys) = false := by
              rw [List.all_map] at n
              exact Bool.eq_false_iff.mpr n
            exact ⟨_, _, _, rfl, sk.trans s4, no n2⟩
      · obtain ⟨w3, w4, w5, rfl, sk, no1, no2⟩ := hP
        refine qn ?_ _ (sm.trans (s2.trans sk))
        have z1 := no1 (by show 0 < 2; decide)
        have z2 := no2 (by show 1 < 2; decide)
        unfold wheelR
        rw [z1, z2, if_neg Bool.false_ne_true, if_neg Bool.false_ne_true]
end
end L2.Cal
end

section
set_option maxRecDepth 100000
set_option maxHeartbeats 4000000
/-! orders of hills, pure -/
namespace L2.Cal
open PySem PySem.Spec PyProof.Rows L2
theorem nodup_at {l : List Nat} (n : l.Nodup) {i j : Nat} {hi : i < l.length} {hj : j < l.length} (e : l[i] = l[j]) : i = j := by
  have q := List.pairwise_iff_getElem.mp n
  rcases Nat.lt_trichotomy i j with h | h | h
  · exact absurd e (q i j hi hj h)
  · exact h
  · exact absurd e.symm (q j i hj hi h)
theorem mid_in {L : List Nat} {A B i : Nat} (n : L.Nodup) (hi : i < L.length) : L[i] ∈ (L.take B).drop A ↔ A ≤ i ∧ i < B := by
  rw [List.mem_iff_getElem?]
  constructor
  · rintro ⟨k, hk⟩
    rw [List.getElem?_drop, List.getElem?_take] at hk
    split at hk
    · rename_i lt
      obtain ⟨h, e⟩ := List.getElem?_eq_some_iff.mp hk
      have := nodup_at n e
      omega
    · cases hk
  · rintro ⟨h1, h2⟩
    refine ⟨i - A, ?_⟩
    rw [List.getElem?_drop, List.getElem?_take, if_pos (by omega), show A + (i - A) = i by omega, List.getElem?_eq_getElem hi]
theorem hill_last {L z S : List Nat} (n : L.Nodup) (p : z.Perm L) (hil : ∀ n, n ≤ z.length → ∃ A B, (z.take n).Perm ((L.take B).drop A)) {u v w : Nat} (uv : u < v) (vw : v < w) (hw : w < L.length)
    (hu : L[u] ∈ S) (hv : L[v] ∈ S) (hw' : L[w] ∈ S) : (z.filter fun c => decide (c ∈ S)).getLast? ≠ some L[v] := by
  intro e
  have nz : z.Nodup := p.nodup_iff.mpr n
  obtain ⟨s, t, rfl⟩ := List.append_of_mem (p.mem_iff.mpr (List.getElem_mem (show v < L.length by omega)))
  have nd := List.nodup_append.mp nz
  have nt : L[v] ∉ t := (List.nodup_cons.mp nd.2.1).1
  have ns : L[v] ∉ s := fun h => nd.2.2 _ h _ (List.mem_cons_self ..) rfl
  have ft : t.filter (fun c => decide (c ∈ S)) = [] := by
    rw [List.filter_append, List.filter_cons, if_pos (decide_eq_true hv)] at e
    cases q : t.filter (fun c => decide (c ∈ S)) with
    | nil => rfl
    | cons x r =>
      rw [q] at e
      have e2 : (x :: r).getLast? = some L[v] := by
        rw [List.getLast?_append, List.getLast?_cons_cons] at e
        cases h : (x :: r).getLast? with
        | none => simp at h
        | some y =>
          rw [h] at e
          simpa using e
      have := List.mem_of_getLast? e2
      rw [← q] at this
      exact absurd (List.mem_filter.mp this).1 nt
  have ins : ∀ i, (hi : i < L.length) → i ≠ v → L[i] ∈ S → L[i] ∈ s := fun i hi ne hS => by
    rcases List.mem_append.mp (p.mem_iff.mpr (List.getElem_mem hi)) with h | h
    · exact h
    · rcases List.mem_cons.mp h with h | h
      · exact absurd (nodup_at n h) ne
      · have : L[i] ∈ t.filter (fun c => decide (c ∈ S)) := List.mem_filter.mpr ⟨h, decide_eq_true hS⟩
        rw [ft] at this
        cases this
  obtain ⟨A, B, q⟩ := hil s.length (by simp)
  rw [List.take_left] at q
  have h1 := (mid_in n (by omega)).mp (q.mem_iff.mp (ins u (by omega) (by omega) hu))
  have h2 := (mid_in n hw).mp (q.mem_iff.mp (ins w hw (by omega) hw'))
  exact ns (q.mem_iff.mpr ((mid_in n (by omega)).mpr ⟨by omega, by omega⟩))
/-- no wheel if one of the three is never last -/
theorem never_last {pr : Str → Str} {ys : List Str} {a b c m : Nat} (hm : m = a ∨ m = b ∨ m = c) (h : ∀ z, z ∈ ys → (pr z).cps.toList.getLast? ≠ some m) : wheelR pr ys a b c = none := by
  have no : ∀ W : List Str, (∃ e, e ∈ W ∧ e.cps.toList.getLast? = some m) → ¬ W.all (has pr ys) = true := fun W ⟨e, he, hl⟩ y => by
    have := first_is (List.all_eq_true.mp y e he)
    exact h _ this.1 (by rw [this.2]; exact hl)
  unfold wheelR
  rw [if_neg (no _ ?_), if_neg (no _ ?_)]
  · rcases hm with rfl | rfl | rfl
    · exact ⟨s3 c b m, by simp [W2], rfl⟩
    · exact ⟨s3 a c m, by simp [W2], rfl⟩
    · exact ⟨s3 b a m, by simp [W2], rfl⟩
  · rcases hm with rfl | rfl | rfl
    · exact ⟨s3 b c m, by simp [W1], rfl⟩
    · exact ⟨s3 c a m, by simp [W1], rfl⟩
    · exact ⟨s3 a b m, by simp [W1], rfl⟩
/-- fewer orders, no wheel more -/
theorem wheel_sub {pr : Str → Str} {ys zs : List Str} {a b c : Nat} (sub : ∀ z, z ∈ zs → z ∈ ys) (h : wheelR pr ys a b c = none) : wheelR pr zs a b c = none := by
  have up : ∀ W : List Str, W.all (has pr zs) = true → W.all (has pr ys) = true := fun W y => by
    rw [List.all_eq_true] at y ⊢
    intro e he
    have h1 := y e he
    rw [has_map, decide_eq_true_eq] at h1 ⊢
    obtain ⟨z, hz, e⟩ := List.mem_map.mp h1
    exact List.mem_map.mpr ⟨z, sub z hz, e⟩
  have n1 : ¬ (W1 a b c).all (has pr ys) = true := fun y => by
    unfold wheelR at h
    rw [if_pos y] at h
    cases h
  have n2 : ¬ (W2 a b c).all (has pr ys) = true := fun y => by
    unfold wheelR at h
    rw [if_neg n1, if_pos y] at h
    cases h
  unfold wheelR
  rw [if_neg fun y => n1 (up _ y), if_neg fun y => n2 (up _ y)]
end L2.Cal
end

section
set_option maxRecDepth 100000
set_option maxHeartbeats 4000000
set_option synthInstance.maxHeartbeats 400000
namespace L2.Cal
open PySem PySem.Spec PyProof.Rows L2
abbrev sRou : Stmt := topS 30
theorem scRou : FnScope ["roll", "three", "wheel"] ["roll"] (defScope sRou) := ⟨rfl, rfl, rfl, by decide +kernel, rfl, by decide +kernel, by decide +kernel⟩
abbrev sIsC : Stmt := topS 31
theorem scIsC : FnScope ["roll"] ["roll"] (defScope sIsC) := ⟨rfl, rfl, rfl, by decide +kernel, rfl, by decide +kernel, by decide +kernel⟩
/-- the wheel of some orders upon three things -/
def wheelAt (ys : List Str) (x : Str) : Option (List Str) := wheelR (fun z => press z x) ys (x.cps.getD 0 0) (x.cps.getD 1 0) (x.cps.getD 2 0)
theorem wheelAt_s3 (ys : List Str) (a b c : Nat) : wheelAt ys (s3 a b c) = wheelR (prs a b c) ys a b c := rfl
/-- the first three things with a wheel -/
def roughR (ys : List Str) (cs : List Nat) : Option (Str × List Str) := (tri cs).findSome? fun x => (wheelAt ys x).map fun zs => (x, zs)
theorem rough_none {ys : List Str} {cs : List Nat} : roughR ys cs = none ↔ ∀ x, x ∈ tri cs → wheelAt ys x = none := by
  unfold roughR
  rw [List.findSome?_eq_none_iff]
  refine forall_congr' fun x => forall_congr' fun _ => ?_
  cases wheelAt ys x <;> simp
theorem rough_some {ys : List Str} {cs : List Nat} {k : Nat} {x : Str} {zs : List Str} (hx : (tri cs)[k]? = some x) (no : ∀ u, u ∈ (tri cs).take k → wheelAt ys u = none) (h : wheelAt ys x = some zs) : roughR ys cs = some (x, zs) := by
  unfold roughR
  obtain ⟨hk, e⟩ := List.getElem?_eq_some_iff.mp hx
  rw [← List.take_append_drop k (tri cs), List.findSome?_append, List.drop_eq_getElem_cons hk, e, List.findSome?_cons, h]
  rw [List.findSome?_eq_none_iff.mpr fun u hu => by rw [no u hu] <;> rfl]
  rfl
theorem rough_at {ys : List Str} {cs : List Nat} {x : Str} {zs : List Str} (h : roughR ys cs = some (x, zs)) : x ∈ tri cs ∧ wheelAt ys x = some zs := by
  obtain ⟨u, hu, e⟩ := List.exists_of_findSome?_eq_some h
  cases q : wheelAt ys u with
  | none => rw [q] at e; cases e
  | some vs =>
    rw [q] at e
    cases e
    exact ⟨hu, q⟩
/-- a roll with its orders -/
structure RollY (K : PySem.W.Frag) (C : Addr) (H : Hp) (r t : Addr) (y : Str) (ys : List Str) : Prop where
  roll : RollAt C H r t (tidy y)
  tup : SqT K H t (ys.map V.str)
  y6 : (tidy y).cps.size ≤ 6
  z6 : ∀ z, z ∈ ys → z.cps.size ≤ 6
  few : ys.length ≤ 60
theorem RollY.same {K : PySem.W.Frag} {C : Addr} {H H' : Hp} {r t : Addr} {y : Str} {ys : List Str} (h : RollY K C H r t y ys) (s : Same H H') : RollY K C H' r t y ys :=
  ⟨h.roll.same s, same_seqT h.tup s, h.y6, h.z6, h.few⟩
def spRou (K : PySem.W.Frag) (C : Addr) : Sp := fun vs H Q _ => ∃ (r t : Addr) (y : Str) (ys : List Str), vs = [.ref r] ∧ RollY K C H r t y ys ∧
  (roughR ys (tidy y).cps.toList = none → ∀ H', Same H H' → Q .non H') ∧
  ∀ x zs, roughR ys (tidy y).cps.toList = some (x, zs) → ∀ (p q : Addr) (H' : Hp), Same H H' → H' p = some (.tup [.str x, .ref q]) → H' q = some (.tup (zs.map V.str)) → Q (.ref p) H'
def spIsC (K : PySem.W.Frag) (C : Addr) : Sp := fun vs H Q _ => ∃ (r t : Addr) (y : Str) (ys : List Str), vs = [.ref r] ∧ RollY K C H r t y ys ∧ ∀ H', Same H H' → Q (.bl (decide (roughR ys (tidy y).cps.toList = none))) H'
section
variable {P : Program} {w : World} {K : PySem.W.Frag} {mg : Str → Option Value} {base : Heap} {C : Addr}
theorem ok_rou {f fC fO fS fU fW pT fT pO fOr : Addr} {fd fdC fdO fdS fdU fdW fdT fdOr : FuncData} (D : DefAt K mg "rough" sRou ["roll"] f fd) (DC : DefAt K mg "check_roll" sChk ["roll"] fC fdC) (DO : DefAt K mg "threes_of" sThs ["things"] fO fdO)
    (DS : DefAt K mg "standing" sSta ["order", "three"] fS fdS) (DU : DefAt K mg "wheels_upon" sWup ["three"] fU fdU) (DW : DefAt K mg "wheel_among" sWam ["orders", "three"] fW fdW) (T : Txt mg) (R : RollC K mg C)
    (PT : PropOf K C "things" pT fT) (FT : Fun K "things" "Roll.things" sThi fT fdT) (bT : Binds K fdT ["self"] []) (PO : PropOf K C "orders" pO fOr) (FO : Fun K "orders" "Roll.orders" sOrd fOr fdOr) (bO : Binds K fdOr ["self"] []) :
    FnOk P w K mg base CX0 3 f fd ["roll"] (spRou K C) := by
  have GC : FnOk P w K mg base CX0 1 fC fdC ["roll"] (spChk C) := ok_chk DC T R
  have GS : FnOk P w K mg base CX0 1 fO fdO ["things"] spThs := ok_ths DO T
  have GW : FnOk P w K mg base CX0 2 fW fdW ["orders", "three"] (spWam K) := ok_wam DW DS DU T
  have GT : FnOk P w K mg base CX0 1 fT fdT ["self"] (spThi C) := ok_thi FT R
  have GO : FnOk P w K mg base CX0 1 fOr fdOr ["self"] (spOrd C) := ok_ord FO R
  refine D.F.ok scRou (fun vs H Q E h => ?_) (fun cdv A outer sh H vs Q E hr h => ?_)
  · obtain ⟨r, t, y, ys, rfl, _⟩ := h
    rfl
  · obtain ⟨r, t, y, ys, rfl, ro, qn, qs⟩ := h
    obtain ⟨dx, fs, ha, l1, l2⟩ := id ro.roll
    refine ⟨_, pss_cons (ps_expr (pe_call GC (hr.mono (by decide)) (by rfl) DC.g DC.F.kp DC.b .nil pass0 (pa_cons (pv 0) pa_nil)))
      (pss_cons (ps_for PassesOwn.never rfl (pi_tup (pe_call GS (hr.mono (by decide)) (by rfl) DO.g DO.F.kp DO.b .nil pass0 (pa_cons (pe_prop (pv 0) R.cls PT GT (hr.mono (by decide)) bT .nil pass0 rfl) pa_nil))) (pg_name (i := 1) scRou.nd rfl (.inl rfl))
        (pss_cons (ps_set (i := 2) scRou.nd rfl (.inl rfl) (pe_call GW (hr.mono (by decide)) (by rfl) DW.g DW.F.kp DW.b .nil pass0 (pa_cons (pe_prop (pv 0) R.cls PO GO (hr.mono (by decide)) bO .nil pass0 rfl) (pa_cons (pv 1) pa_nil))))
        (pss_one (ps_if (pt_cmp (pc_notN (pv 2))) (pss_one (ps_ret (pe_tupS (pa_cons (pv 1) (pa_cons (pv 2) pa_nil))))) pss_nil))))
      (pss_one (ps_ret pe_non))), ?_⟩
    refine ⟨_, rfl, r, t, _, rfl, ro.roll, ?_⟩
    refine ⟨_, rfl, r, dx, fs, rfl, ha, r, t, _, rfl, ro.roll, tidy y, rfl, ro.y6, fun p H1 s1 np ep => ⟨p, rfl, ⟨_, SqT.of ep⟩, for_tup (K := K) (a := p) (xs := (tri (tidy y).cps.toList).map V.str)
      (fun k σ H' => ∃ v1 v2, σ = [some (.ref r), v1, v2] ∧ Same H1 H' ∧ ∀ u, u ∈ (tri (tidy y).cps.toList).take k → wheelAt ys u = none) ⟨_, _, rfl, fun _ _ z => z, fun u hu => by simp at hu⟩ (fun k σ H' _ hP => ?_) (fun k x σ H2 hx hP => ?_) (fun σ H2 hP => ?_)⟩⟩
    · obtain ⟨_, _, _, sm, _⟩ := hP
      exact SqT.of (sm _ _ ep)
    · obtain ⟨v1, v2, rfl, sm, no⟩ := hP
      rw [List.getElem?_map] at hx
      cases ex : (tri (tidy y).cps.toList)[k]? with
      | none =>
        rw [ex] at hx
        cases hx
      | some u =>
        rw [ex] at hx
        cases hx
        obtain ⟨a, b, c, _, _, _, _, _, rfl⟩ := mem_tri.mp (List.mem_of_getElem? ex)
        have S2 := s1.trans sm
        have ro2 := ro.same S2
        refine ⟨_, rfl, r, dx, fs, rfl, S2 _ _ ha, r, t, _, rfl, ro2.roll, _, rfl, t, ys, a, b, c, rfl, ro2.tup, ro.z6, ro.few, fun e H3 s3' => ?_, fun zs e q H3 s3' eq => ?_⟩
        · refine ⟨_, rfl, false, by simp, iteF ⟨_, _, rfl, sm.trans s3', fun u hu => ?_⟩⟩
          rw [List.take_succ, ex, Option.toList_some, List.mem_append, List.mem_singleton] at hu
          rcases hu with hu | rfl
          · exact no u hu
          · exact e
        · refine ⟨_, rfl, true, by simp, iteT ?_⟩
          refine ⟨_, rfl, _, rfl, (by show 2 ≤ sizeLine; decide), fun q2 H4 s4 n4 e4 => ?_⟩
          exact qs _ zs (rough_some ex no e) q2 q _ (S2.trans (s3'.trans s4)) e4 (s4 _ _ eq)
    · obtain ⟨v1, v2, rfl, sm, no⟩ := hP
      rw [List.length_map, List.take_length] at no
      exact qn (rough_none.mpr no) _ (s1.trans sm)
theorem ok_isc {f fR fC fO fS fU fW pT fT pO fOr : Addr} {fd fdR fdC fdO fdS fdU fdW fdT fdOr : FuncData} (D : DefAt K mg "is_calm" sIsC ["roll"] f fd) (DR : DefAt K mg "rough" sRou ["roll"] fR fdR) (DC : DefAt K mg "check_roll" sChk ["roll"] fC fdC) (DO : DefAt K mg "threes_of" sThs ["things"] fO fdO)
    (DS : DefAt K mg "standing" sSta ["order", "three"] fS fdS) (DU : DefAt K mg "wheels_upon" sWup ["three"] fU fdU) (DW : DefAt K mg "wheel_among" sWam ["orders", "three"] fW fdW) (T : Txt mg) (R : RollC K mg C)
    (PT : PropOf K C "things" pT fT) (FT : Fun K "things" "Roll.things" sThi fT fdT) (bT : Binds K fdT ["self"] []) (PO : PropOf K C "orders" pO fOr) (FO : Fun K "orders" "Roll.orders" sOrd fOr fdOr) (bO : Binds K fdOr ["self"] []) :
    FnOk P w K mg base CX0 4 f fd ["roll"] (spIsC K C) := by
  have GR : FnOk P w K mg base CX0 3 fR fdR ["roll"] (spRou K C) := ok_rou DR DC DO DS DU DW T R PT FT bT PO FO bO
  refine D.F.ok scIsC (fun vs H Q E h => ?_) (fun cdv A outer sh H vs Q E hr h => ?_)
  · obtain ⟨r, t, y, ys, rfl, _⟩ := h
    rfl
  · obtain ⟨r, t, y, ys, rfl, ro, q⟩ := h
    refine ⟨_, pss_one (ps_ret (pe_cmp (pc_isN (pe_call GR (hr.mono (by decide)) (by rfl) DR.g DR.F.kp DR.b .nil pass0 (pa_cons (pv 0) pa_nil))))), ?_⟩
    refine ⟨_, rfl, r, t, y, ys, rfl, ro, fun e H1 s1 => ?_, fun x zs e p q' H1 s1 _ _ => ?_⟩
    · have := q H1 s1
      rw [decide_eq_true e] at this
      simpa using this
    · have := q H1 s1
      rw [decide_eq_false (by rw [e]; exact fun z => by cases z)] at this
      simpa using this
end
end L2.Cal
end

section
set_option maxRecDepth 100000
set_option maxHeartbeats 4000000
/-! itertools.combinations(text, r), at the library's level -/
namespace CpComb
open PySem

theorem sub_comb : isSubtype (.type "itertools.combinations") (.type "itertools.combinations") = pure true := by rw [isSubtype_type]; exact id rfl
theorem subo_comb : isSubtype (.type "itertools.combinations") (.type "object") = pure true := by rw [isSubtype_type]; exact id rfl
theorem mro_comb : mroOf (.type "itertools.combinations") = pure [.type "itertools.combinations", .type "object"] := by rw [mroOf_type]; exact id rfl
theorem lookup_comb_new : typeLookup (.type "itertools.combinations") (Str.ofString "__new__") = pure (some (.builtin "itertools.combinations.__new__")) := by
  rw [typeLookup_type, builtinLookup_eq_fast]; exact id rfl
theorem entry_comb_new : entryFor table "itertools.combinations.__new__" = some Builtin.«itertools.combinations.__new__» := entryFor_of_tree (id rfl)
theorem entry_comb_next : entryFor table "itertools.combinations.__next__" = some Builtin.«itertools.combinations.__next__» := entryFor_of_tree (id rfl)
theorem slot_comb_next : Slot "itertools.combinations" (Str.ofString "__next__") "itertools.combinations.__next__" :=
  Slot.of (by rw [typeLookup_type, builtinLookup_eq_fast]; exact id rfl) (show splitId "itertools.combinations.__next__" = some ("itertools.combinations", "__next__") by decide +kernel) (by decide +kernel) (by decide +kernel) (Or.inl (by decide +kernel)) sub_comb (by decide +kernel)
theorem slot_comb_init : Slot "itertools.combinations" (Str.ofString "__init__") "object.__init__" :=
  Slot.of (by rw [typeLookup_type, builtinLookup_eq_fast]; exact id rfl) (show splitId "object.__init__" = some ("object", "__init__") by decide +kernel) (by decide +kernel) (by decide +kernel) (Or.inl (by decide +kernel)) subo_comb (by decide +kernel)
theorem called_comb : TypeCalled "itertools.combinations" "itertools.combinations.__new__" "object.__init__" where
  notType := by decide +kernel
  canCreate := by decide +kernel
  mro := ⟨_, _, mro_comb⟩
  made := madeBy_type mro_comb lookup_comb_new (by decide +kernel)
  plain := by decide +kernel
  sub := sub_comb
  init := slot_comb_init
theorem typeCall_comb_2 (a b : Value) : checkTypeCall "itertools.combinations" { pos := [a, b] } = pure () := by kernel_rfl
theorem newCall_comb_2 (a b : Value) : checkBuiltinCall "itertools.combinations.__new__" { pos := [.type "itertools.combinations", a, b] } = pure () := by kernel_rfl
theorem noClose_comb : typeLookup (.type "itertools.combinations") (Str.ofString "close") = pure none := by rw [typeLookup_type, builtinLookup_eq_fast]; exact id rfl
theorem noDict_comb : typeHasDict (.type "itertools.combinations") = false := by decide +kernel
theorem owner_comb : List.lookup (String.ofList ("itertools.combinations".toList)) Manifest.owners = some Manifest.sig_itertools_combinations := id rfl
theorem slot_comb_iter : Slot "itertools.combinations" (Str.ofString "__iter__") "itertools.combinations.__iter__" :=
  Slot.of (by rw [typeLookup_type, builtinLookup_eq_fast]; exact id rfl) (show splitId "itertools.combinations.__iter__" = some ("itertools.combinations", "__iter__") by decide +kernel) (by decide +kernel) (by decide +kernel) (Or.inl (by decide +kernel)) sub_comb (by decide +kernel)
theorem entry_comb_iter : entryFor table "itertools.combinations.__iter__" = some Builtin.«dict_keyiterator.__iter__» :=
  entryFor_alias (id (Eq.refl (fastTable "itertools.combinations.__iter__"))) (Eq.refl ("itertools.combinations.__iter__".cutAt '#')) (by decide +kernel) (id (Eq.refl (fastTable "dict_keyiterator.__iter__")))
theorem args_comb_next (a : Value) : argsOk "itertools.combinations.__next__" { pos := [a] } := by
  unfold argsOk
  rw [signature?_of (id (Eq.refl (List.span (fun x => x != '.') (List.map (fun c => if (c.isAlphanum || c == '_' || c == '.') = true then c else '_') "itertools.combinations.__next__".toList).reverse))) owner_comb]
  exact id rfl
theorem args_comb_iter (a : Value) : argsOk "itertools.combinations.__iter__" { pos := [a] } := by
  unfold argsOk
  rw [signature?_of (id (Eq.refl (List.span (fun x => x != '.') (List.map (fun c => if (c.isAlphanum || c == '_' || c == '.') = true then c else '_') "itertools.combinations.__iter__".toList).reverse))) owner_comb]
  exact id rfl
end CpComb
end

section
set_option maxRecDepth 100000
set_option maxHeartbeats 4000000
/-! all ascending rows of so many places, in turn -/
namespace CpComb
/-- the row behind a row -/
def nxtC (n : Nat) : List Nat → Option (List Nat)
  | [] => none
  | a :: t => match nxtC n t with
    | some u => some (a :: u)
    | none => if a ≠ n - (t.length + 1) then some ((List.range (t.length + 1)).map fun i => a + 1 + i) else none
/-- r places from lo on, k of them left free -/
def cmb : Nat → Nat → Nat → List (List Nat)
  | 0, _, _ => [[]]
  | r + 1, 0, lo => (cmb r 0 (lo + 1)).map (lo :: ·)
  | r + 1, k + 1, lo => (cmb r (k + 1) (lo + 1)).map (lo :: ·) ++ cmb (r + 1) k (lo + 1)
def fstC (r lo : Nat) : List Nat := (List.range r).map fun i => lo + i
theorem fst_cons (r lo : Nat) : fstC (r + 1) lo = lo :: fstC r (lo + 1) := by
  unfold fstC
  rw [List.range_succ_eq_map, List.map_cons, List.map_map]
  congr 1
  refine List.map_congr_left fun i _ => ?_
  show lo + (i + 1) = lo + 1 + i
  omega
theorem run_cmb : ∀ (r k lo n : Nat), n = lo + r + k → (cmb r k lo)[0]? = some (fstC r lo) ∧ ∀ i l, (cmb r k lo)[i]? = some l → l.length = r ∧ (∀ b, b ∈ l → b < n) ∧ nxtC n l = (cmb r k lo)[i + 1]?
  | 0, k, lo, n, _ => by
    refine ⟨by simp [cmb, fstC], fun i l h => ?_⟩
    cases i with
    | zero =>
      simp [cmb] at h
      subst h
      exact ⟨rfl, fun b hb => by simp at hb, by simp [cmb, nxtC]⟩
    | succ i => simp [cmb] at h
  | r + 1, 0, lo, n, e => by
    obtain ⟨h0, hs⟩ := run_cmb r 0 (lo + 1) n (by omega)
    refine ⟨?_, fun i l h => ?_⟩
    · unfold cmb
      rw [List.getElem?_map, h0, fst_cons] <;> rfl
    · unfold cmb at h ⊢
      rw [List.getElem?_map] at h ⊢
      cases et : (cmb r 0 (lo + 1))[i]? with
      | none => rw [et] at h; cases h
      | some t =>
        rw [et] at h
        cases h
        obtain ⟨tl, tb, tn⟩ := hs i t et
        refine ⟨by rw [List.length_cons, tl], fun b hb => ?_, ?_⟩
        · rcases List.mem_cons.mp hb with z | z
          · omega
          · exact tb b z
        · unfold nxtC
          rw [tn]
          cases eu : (cmb r 0 (lo + 1))[i + 1]? with
          | some u => rfl
          | none =>
            dsimp only
            rw [if_neg (by rw [tl]; omega)] <;> rfl
  | r + 1, k + 1, lo, n, e => by
    obtain ⟨h0, hs⟩ := run_cmb r (k + 1) (lo + 1) n (by omega)
    obtain ⟨g0, gs⟩ := run_cmb (r + 1) k (lo + 1) n (by omega)
    have pos : 0 < (cmb r (k + 1) (lo + 1)).length := (List.getElem?_eq_some_iff.mp h0).1
    refine ⟨?_, fun i l h => ?_⟩
    · unfold cmb
      rw [List.getElem?_append_left (by rw [List.length_map]; exact pos), List.getElem?_map, h0, fst_cons] <;> rfl
    · unfold cmb at h ⊢
      by_cases lt : i < (cmb r (k + 1) (lo + 1)).length
      · rw [List.getElem?_append_left (by rw [List.length_map]; exact lt), List.getElem?_map, List.getElem?_eq_getElem lt] at h
        cases h
        obtain ⟨tl, tb, tn⟩ := hs i _ (List.getElem?_eq_getElem lt)
        refine ⟨by rw [List.length_cons, tl], fun b hb => ?_, ?_⟩
        · rcases List.mem_cons.mp hb with z | z
          · omega
          · exact tb b z
        · unfold nxtC
          rw [tn]
          by_cases lt2 : i + 1 < (cmb r (k + 1) (lo + 1)).length
          · rw [List.getElem?_eq_getElem lt2, List.getElem?_append_left (by rw [List.length_map]; exact lt2), List.getElem?_map, List.getElem?_eq_getElem lt2] <;> rfl
          · have el : i + 1 = (cmb r (k + 1) (lo + 1)).length := by omega
            rw [List.getElem?_eq_none (by omega), List.getElem?_append_right (by rw [List.length_map]; omega), List.length_map, el, Nat.sub_self, g0]
            dsimp only
            rw [if_pos (by rw [tl]; omega), tl] <;> rfl
      · rw [List.getElem?_append_right (by rw [List.length_map]; omega), List.length_map] at h
        obtain ⟨tl, tb, tn⟩ := gs _ l h
        refine ⟨tl, tb, ?_⟩
        rw [tn, List.getElem?_append_right (by rw [List.length_map]; omega), List.length_map]
        congr 1
        omega
theorem nxt_none {n : Nat} : ∀ {l : List Nat}, (∀ j, j < l.length → l.getD j 0 = j + n - l.length) → nxtC n l = none
  | [], _ => rfl
  | a :: t, h => by
    have ht : nxtC n t = none := nxt_none fun j hj => by
      have := h (j + 1) (by rw [List.length_cons]; omega)
      rw [List.length_cons] at this
      have e : (a :: t).getD (j + 1) 0 = t.getD j 0 := rfl
      rw [e] at this
      omega
    have h0 := h 0 (by rw [List.length_cons]; omega)
    rw [List.length_cons] at h0
    have e : (a :: t).getD 0 0 = a := rfl
    rw [e] at h0
    unfold nxtC
    rw [ht]
    dsimp only
    rw [if_neg (by omega)]
theorem nxt_some {n : Nat} : ∀ {l : List Nat} {i : Nat}, i < l.length → l.getD i 0 ≠ i + n - l.length → (∀ j, i < j → j < l.length → l.getD j 0 = j + n - l.length) → nxtC n l = some (l.take i ++ (List.range (l.length - i)).map fun k => l.getD i 0 + 1 + k)
  | [], i, hi, _, _ => by simp at hi
  | a :: t, 0, _, ne, h => by
    have ht : nxtC n t = none := nxt_none fun j hj => by
      have := h (j + 1) (by omega) (by rw [List.length_cons]; omega)
      rw [List.length_cons] at this
      have e : (a :: t).getD (j + 1) 0 = t.getD j 0 := rfl
      rw [e] at this
      omega
    have e : (a :: t).getD 0 0 = a := rfl
    rw [e, List.length_cons] at ne
    unfold nxtC
    rw [ht]
    dsimp only
    rw [if_pos (by omega)] <;> rfl
  | a :: t, i + 1, hi, ne, h => by
    rw [List.length_cons] at hi
    have e : ∀ j, (a :: t).getD (j + 1) 0 = t.getD j 0 := fun j => rfl
    rw [e, List.length_cons] at ne
    have ht := nxt_some (n := n) (l := t) (i := i) (by omega) (by omega) fun j h1 h2 => by
      have := h (j + 1) (by omega) (by rw [List.length_cons]; omega)
      rw [e, List.length_cons] at this
      omega
    unfold nxtC
    rw [ht, List.length_cons, e, show t.length + 1 - (i + 1) = t.length - i by omega] <;> rfl
theorem find_back {p : Nat → Bool} : ∀ {r i : Nat}, (List.range r).reverse.find? p = some i → i < r ∧ p i = true ∧ ∀ j, i < j → j < r → p j = false
  | 0, i, h => by simp at h
  | r + 1, i, h => by
    rw [List.range_succ, List.reverse_append, List.reverse_singleton, List.singleton_append, List.find?_cons] at h
    cases e : p r with
    | true =>
      rw [e] at h
      cases h
      exact ⟨by omega, e, fun j h1 h2 => by omega⟩
    | false =>
      rw [e] at h
      obtain ⟨h1, h2, h3⟩ := find_back h
      refine ⟨by omega, h2, fun j g1 g2 => ?_⟩
      by_cases z : j = r
      · rw [z]
        exact e
      · exact h3 j g1 (by omega)
theorem find_none {p : Nat → Bool} {r : Nat} (h : (List.range r).reverse.find? p = none) (j : Nat) (hj : j < r) : p j = false := by
  have := List.find?_eq_none.mp h j (List.mem_reverse.mpr (List.mem_range.mpr hj))
  simpa using this
end CpComb
end

section
set_option maxRecDepth 100000
set_option maxHeartbeats 4000000
/-! itertools.permutations(text, r), at the library's level -/
namespace CpPerm
open PySem
abbrev PT : String := "itertools.permutations"
theorem sub_perm : isSubtype (.type "itertools.permutations") (.type "itertools.permutations") = pure true := by rw [isSubtype_type]; exact id rfl
theorem subo_perm : isSubtype (.type "itertools.permutations") (.type "object") = pure true := by rw [isSubtype_type]; exact id rfl
theorem mro_perm : mroOf (.type "itertools.permutations") = pure [.type "itertools.permutations", .type "object"] := by rw [mroOf_type]; exact id rfl
theorem lookup_perm_new : typeLookup (.type "itertools.permutations") (Str.ofString "__new__") = pure (some (.builtin "itertools.permutations.__new__")) := by
  rw [typeLookup_type, builtinLookup_eq_fast]; exact id rfl
theorem entry_perm_new : entryFor table "itertools.permutations.__new__" = some Builtin.«itertools.permutations.__new__» := entryFor_of_tree (id rfl)
theorem entry_perm_next : entryFor table "itertools.permutations.__next__" = some Builtin.«itertools.permutations.__next__» := entryFor_of_tree (id rfl)
theorem slot_perm_next : Slot "itertools.permutations" (Str.ofString "__next__") "itertools.permutations.__next__" :=
  Slot.of (by rw [typeLookup_type, builtinLookup_eq_fast]; exact id rfl) (show splitId "itertools.permutations.__next__" = some ("itertools.permutations", "__next__") by decide +kernel) (by decide +kernel) (by decide +kernel) (Or.inl (by decide +kernel)) sub_perm (by decide +kernel)
theorem slot_perm_init : Slot "itertools.permutations" (Str.ofString "__init__") "object.__init__" :=
  Slot.of (by rw [typeLookup_type, builtinLookup_eq_fast]; exact id rfl) (show splitId "object.__init__" = some ("object", "__init__") by decide +kernel) (by decide +kernel) (by decide +kernel) (Or.inl (by decide +kernel)) subo_perm (by decide +kernel)
theorem called_perm : TypeCalled "itertools.permutations" "itertools.permutations.__new__" "object.__init__" where
  notType := by decide +kernel
  canCreate := by decide +kernel
  mro := ⟨_, _, mro_perm⟩
  made := madeBy_type mro_perm lookup_perm_new (by decide +kernel)
  plain := by decide +kernel
  sub := sub_perm
  init := slot_perm_init
theorem typeCall_perm_2 (a b : Value) : checkTypeCall "itertools.permutations" { pos := [a, b] } = pure () := by kernel_rfl
theorem newCall_perm_2 (a b : Value) : checkBuiltinCall "itertools.permutations.__new__" { pos := [.type "itertools.permutations", a, b] } = pure () := by kernel_rfl
theorem typeCall_perm_1 (a : Value) : checkTypeCall "itertools.permutations" { pos := [a] } = pure () := by kernel_rfl
theorem newCall_perm_1 (a : Value) : checkBuiltinCall "itertools.permutations.__new__" { pos := [.type "itertools.permutations", a] } = pure () := by kernel_rfl
theorem noClose_perm : typeLookup (.type "itertools.permutations") (Str.ofString "close") = pure none := by rw [typeLookup_type, builtinLookup_eq_fast]; exact id rfl
theorem noDict_perm : typeHasDict (.type "itertools.permutations") = false := by decide +kernel
theorem owner_perm : List.lookup (String.ofList ("itertools.permutations".toList)) Manifest.owners = some Manifest.sig_itertools_permutations := id rfl
theorem slot_perm_iter : Slot "itertools.permutations" (Str.ofString "__iter__") "itertools.permutations.__iter__" :=
  Slot.of (by rw [typeLookup_type, builtinLookup_eq_fast]; exact id rfl) (show splitId "itertools.permutations.__iter__" = some ("itertools.permutations", "__iter__") by decide +kernel) (by decide +kernel) (by decide +kernel) (Or.inl (by decide +kernel)) sub_perm (by decide +kernel)
theorem entry_perm_iter : entryFor table "itertools.permutations.__iter__" = some Builtin.«dict_keyiterator.__iter__» :=
  entryFor_alias (id (Eq.refl (fastTable "itertools.permutations.__iter__"))) (Eq.refl ("itertools.permutations.__iter__".cutAt '#')) (by decide +kernel) (id (Eq.refl (fastTable "dict_keyiterator.__iter__")))
theorem args_perm_next (a : Value) : argsOk "itertools.permutations.__next__" { pos := [a] } := by
  unfold argsOk
  rw [signature?_of (id (Eq.refl (List.span (fun x => x != '.') (List.map (fun c => if (c.isAlphanum || c == '_' || c == '.') = true then c else '_') "itertools.permutations.__next__".toList).reverse))) owner_perm]
  exact id rfl
theorem args_perm_iter (a : Value) : argsOk "itertools.permutations.__iter__" { pos := [a] } := by
  unfold argsOk
  rw [signature?_of (id (Eq.refl (List.span (fun x => x != '.') (List.map (fun c => if (c.isAlphanum || c == '_' || c == '.') = true then c else '_') "itertools.permutations.__iter__".toList).reverse))) owner_perm]
  exact id rfl
end CpPerm
end

section
set_option maxRecDepth 100000
set_option maxHeartbeats 4000000
/-! the numbers of itertools.permutations, at the library's level -/
namespace CpPerm
open PySem
/-! ### the numbers -/
abbrev NP := Nat → Nat → List Nat → List Nat → Option (List Nat × List Nat)
def seqOf (np : NP) (n r : Nat) : Nat → List Nat × List Nat → List (List Nat × List Nat)
  | 0, _ => []
  | k + 1, s => s :: match np n r s.1 s.2 with | none => [] | some t => seqOf np n r k t
def s0 (n r : Nat) : List Nat × List Nat := (List.range n, (List.range r).map fun i => n - i)
def picks : List Nat → List (Nat × List Nat)
  | [] => []
  | a :: l => (a, l) :: (picks l).map fun p => (p.1, a :: p.2)
/-- all arrangements of so many of these, in turn -/
def pm : Nat → List Nat → List (List Nat)
  | 0, _ => [[]]
  | r + 1, l => (picks l).flatMap fun p => (pm r p.2).map (p.1 :: ·)
def okNP (np : NP) (n r : Nat) : Bool := decide ((seqOf np n r 800 (s0 n r)).map (fun s => s.1.take r) = pm r (List.range n)) && ((seqOf np n r 800 (s0 n r)).all fun s => decide (s.1.length = n ∧ s.2.length ≤ 12)) && decide ((seqOf np n r 800 (s0 n r)).length < 800)
end CpPerm
end

section
set_option maxRecDepth 100000
set_option maxHeartbeats 4000000
/-! itertools.permutations(text, r): its turns -/
namespace CpPerm
open PySem PySem.Spec
def permO (pool : Addr) (ph : Int) (r : Nat) (old : Value) (ns : List Nat) : Obj := { cls := .type "itertools.permutations", data := .fields ([.ref pool, rawInt ph, rawInt (r : Int), old] ++ ns.map fun (n : Nat) => rawInt (n : Int)).toArray }
def toNatV : Value → Nat := fun x => match x with | .int n _ => n.toNat | _ => 0
theorem nums_back (ns : List Nat) : (ns.map fun (n : Nat) => rawInt (n : Int)).map toNatV = ns := by
  rw [List.map_map]
  exact (List.map_congr_left fun n _ => by simp [toNatV, rawInt]).trans (List.map_id _)
section
variable {prog : Program} {w : World} {A : Around} {E : Value → Shared → Prop} {s : Shared} {it pool : Addr} {r n : Nat} {old : Value} {ns : List Nat} {items : List Value} {tk0 : Nat}
theorem next_one {ph : Int} {Q : Option Value → Shared → Prop} (hit : s.heap.get? it = some (permO pool ph r old ns))
    (h : wpAny (model prog w) A.in1 (Builtin.«itertools.permutations.__next__» ⟨[.ref it], []⟩) (fun fin s' => ∃ v, fin = Fin.done (Flow.ret v) ∧ Q (some v) s') E s) : wpAny (model prog w) A (callSpecial? (.ref it) (Str.ofString "__next__")) Q E s := by
  have kind : s.TypeIs (.ref it) "itertools.permutations" := ⟨_, hit, rfl⟩
  exact wpAny_callSpecial?_slot kind slot_perm_next (wpAny_call_entry slot_perm_next kind entry_perm_next h (args_perm_next _))
theorem nums_of (pool : Addr) (ph : Int) (r : Nat) (old : Value) (ns : List Nat) : ((([.ref pool, rawInt ph, rawInt (r : Int), old] ++ ns.map fun (n : Nat) => rawInt (n : Int)).toArray.toList.drop 4).map toNatV) = ns := nums_back ns
theorem set_1 {v : Int} {ph : Int} : Obj.mapFields (fun x => x.setIfInBounds 1 (rawInt v)) (permO pool ph r old ns) = permO pool v r old ns := by
  simp [Obj.mapFields, permO]
theorem set_3 {v : Value} {ph : Int} : Obj.mapFields (fun x => x.setIfInBounds 3 v) (permO pool ph r old ns) = permO pool ph r v ns := by
  simp [Obj.mapFields, permO]
theorem next_first {F : PySem.Fin → Shared → Prop} (hit : s.heap.get? it = some (permO pool 0 r old ns)) (hl : ns.length ≤ 12) {od : Option Addr} {n0 : Nat} {osl : Array (Option Value)} (hp : s.heap.get? pool = some ⟨.type "tuple", od, .seq items.toArray n0, osl⟩)
    (q : ∀ h', (∀ b o, b ≠ it → s.heap.get? b = some o → h'.get? b = some o) → h'.get? it = some (permO pool 1 r (.ref s.heap.objs.size) ns) → h'.get? s.heap.objs.size = some { cls := .type "tuple", data := .seq ((ns.take r).map fun i => items.toArray.getD i Value.none).toArray } → F (Fin.done (Flow.ret (.ref s.heap.objs.size))) { s with heap := h' }) :
    wpAny (model prog w) A (Builtin.«itertools.permutations.__next__» ⟨[.ref it], []⟩) F E s := by
  show wpAny _ _ (field (.ref it) 0 >>= _) _ _ _
  refine wpAny_bind (wpAny_field hit rfl (x := .ref pool) rfl ?_)
  refine wpAny_bind ?_
  unfold Builtin.Itertools.itPoolItems
  refine wpAny_bind ?_
  refine wpAny_seqItems hp rfl (wpAny_pure ?_)
  refine wpAny_bind (wpAny_bind (wpAny_field hit rfl (x := rawInt (r : Int)) rfl (wpAny_pure ?_)))
  refine wpAny_bind (wpAny_bind (wpAny_load hit (wpAny_pure ?_)))
  refine wpAny_bind (wpAny_bind (wpAny_field hit rfl (x := rawInt 0) rfl (wpAny_pure ?_)))
  erw [nums_of]
  show wpAny _ _ (setField (Value.ref it) 1 _ >>= _) _ _ _
  refine wpAny_bind (wpAny_setField hit rfl (by simp [permO]) ?_)
  have h1 := Heap.get?_update_self (Obj.mapFields fun x => x.setIfInBounds 1 (rawInt 1)) hit rfl
  rw [set_1] at h1
  have out : ∀ b o, b ≠ it → s.heap.get? b = some o → (s.heap.update it (Obj.mapFields fun x => x.setIfInBounds 1 (rawInt 1))).get? b = some o := fun b o nb e => by rw [Heap.get?_update_of_ne _ nb.symm]; exact e
  have sz : (s.heap.update it (Obj.mapFields fun x => x.setIfInBounds 1 (rawInt 1))).objs.size = s.heap.objs.size := Heap.size_update ..
  generalize s.heap.update it (Obj.mapFields fun x => x.setIfInBounds 1 (rawInt 1)) = hp1 at h1 out sz ⊢
  refine wpAny_bind (wpAny_newTuple ?_ (by rw [List.length_map, List.length_take, sizeLine_eq]; omega))
  refine wpAny_bind (wpAny_field (Heap.get?_push_of_some _ h1) rfl (x := old) rfl ?_)
  refine wpAny_bind (wpAny_setField (Heap.get?_push_of_some _ h1) rfl (by simp [permO]) ?_)
  refine wpAny_bind (wpAny_letGo (wpAny_pure ?_))
  rw [Int.toNat_natCast]
  dsimp only
  rw [sz]
  refine q _ (fun b o nb e => ?_) ?_ ?_
  · rw [Heap.get?_update_of_ne _ nb.symm]
    exact Heap.get?_push_of_some _ (out b o nb e)
  · rw [Heap.get?_update_self _ (Heap.get?_push_of_some _ h1) rfl, set_3]
  · rw [Heap.get?_update_of_ne _ (Nat.ne_of_lt (by rw [← sz]; exact Heap.lt_size h1))]
    exact (congrArg _ sz.symm).trans (Heap.get?_push_size _ rfl)
theorem nums_set {ph : Int} (ms : List Nat) : Obj.mapFields (fun fs => fs.extract 0 4 ++ (ms.map fun (n : Nat) => rawInt (n : Int)).toArray) (permO pool ph r old ns) = permO pool ph r old ms := by
  simp [Obj.mapFields, permO]
theorem stop_run {α : Type} {F : α → Shared → Prop} (hh : A.handled = none) (q : ∀ e h', (∃ a o, e = Value.ref a ∧ h'.get? a = some o ∧ o.cls = .type "StopIteration") → (∀ b o, s.heap.get? b = some o → h'.get? b = some o) → E e { s with heap := h' }) :
    wpAny (model prog w) A (Builtin.Itertools.itStop (α := α)) F E s := by
  unfold Builtin.Itertools.itStop
  refine wpAny_bind ?_
  unfold newExc
  refine wpAny_bind (wpAny_newTuple ?_)
  refine wpAny_bind (wpAny_of_eq rfl ?_)
  refine wpAny_newObj_type ?_
  refine wpAny_raiseNew_none hh (q _ _ ⟨_, _, rfl, Heap.get?_push_size _ rfl, rfl⟩ fun b o e => Heap.get?_push_of_some _ (Heap.get?_push_of_some _ e))
/-- what is known of the step from one arrangement to the next one -/
structure NextOk (np : NP) : Prop where
  more : ∀ {prog : Program} {w : World} {A : Around} {E : Value → Shared → Prop} {s : Shared} {it pool : Addr} {r : Nat} {old : Value} {items : List Value} {F : PySem.Fin → Shared → Prop} {ix cy jx dy : List Nat} {od : Option Addr} {n0 : Nat} {osl : Array (Option Value)}, s.heap.get? it = some (permO pool 1 r old (ix ++ cy)) → ix.length = items.length → jx.length ≤ 12 → dy.length ≤ 12 → np items.length r ix cy = some (jx, dy) →
    s.heap.get? pool = some ⟨.type "tuple", od, .seq items.toArray n0, osl⟩ →
    (∀ h', (∀ b o, b ≠ it → s.heap.get? b = some o → h'.get? b = some o) → h'.get? it = some (permO pool 1 r (.ref s.heap.objs.size) (jx ++ dy)) → h'.get? s.heap.objs.size = some { cls := .type "tuple", data := .seq ((jx.take r).map fun i => items.toArray.getD i Value.none).toArray } → F (Fin.done (Flow.ret (.ref s.heap.objs.size))) { s with heap := h' }) →
    wpAny (model prog w) A (Builtin.«itertools.permutations.__next__» ⟨[.ref it], []⟩) F E s
  done : ∀ {prog : Program} {w : World} {A : Around} {E : Value → Shared → Prop} {s : Shared} {it pool : Addr} {r : Nat} {old : Value} {items : List Value} {F : PySem.Fin → Shared → Prop} {ix cy : List Nat} {od : Option Addr} {n0 : Nat} {osl : Array (Option Value)}, A.handled = none → s.heap.get? it = some (permO pool 1 r old (ix ++ cy)) → ix.length = items.length → np items.length r ix cy = none →
    s.heap.get? pool = some ⟨.type "tuple", od, .seq items.toArray n0, osl⟩ →
    (∀ e h', (∃ a o, e = Value.ref a ∧ h'.get? a = some o ∧ o.cls = .type "StopIteration") → (∀ b o, b ≠ it → s.heap.get? b = some o → h'.get? b = some o) → E e { s with heap := h' }) →
    wpAny (model prog w) A (Builtin.«itertools.permutations.__next__» ⟨[.ref it], []⟩) F E s
theorem next_is : ∃ np : NP, NextOk np ∧ ∀ n, n ≤ 6 → ∀ r, r ≤ n → okNP np n r = true := by
  refine' ⟨_, ⟨?more, ?done⟩, ?ok⟩
  case more =>
    intro prog w A E s it pool r old items F ix cy jx dy od n0 osl hit hi hl hd hs hp q
    show wpAny _ _ (field (.ref it) 0 >>= _) _ _ _
    refine wpAny_bind (wpAny_field hit rfl (x := .ref pool) rfl ?_)
    refine wpAny_bind ?_
    unfold Builtin.Itertools.itPoolItems
    refine wpAny_bind ?_
    refine wpAny_seqItems hp rfl (wpAny_pure ?_)
    refine wpAny_bind (wpAny_bind (wpAny_field hit rfl (x := rawInt (r : Int)) rfl (wpAny_pure ?_)))
    refine wpAny_bind (wpAny_bind (wpAny_load hit (wpAny_pure ?_)))
    refine wpAny_bind (wpAny_bind (wpAny_field hit rfl (x := rawInt 1) rfl (wpAny_pure ?_)))
    erw [nums_of]
    split
    case h_1 h => exact absurd h (by decide)
    case h_3 _ h => exact absurd rfl h
    dsimp only
    rw [List.size_toArray, ← hi, List.take_left, List.drop_left, hi]
    split
    case h_2 h => cases h.symm.trans hs
    case h_1 jx' dy' h =>
      cases h.symm.trans hs
      refine wpAny_bind ?_
      unfold Builtin.Itertools.itSetNumbersFrom
      refine wpAny_updateFields hit rfl ?_ (by rw [sizeLine_eq]; simp; omega)
      have h1 := Heap.get?_update_self (Obj.mapFields fun fs => fs.extract 0 4 ++ ((jx ++ dy).map fun (n : Nat) => rawInt (n : Int)).toArray) hit rfl
      rw [nums_set] at h1
      have out : ∀ b o, b ≠ it → s.heap.get? b = some o → (s.heap.update it (Obj.mapFields fun fs => fs.extract 0 4 ++ ((jx ++ dy).map fun (n : Nat) => rawInt (n : Int)).toArray)).get? b = some o := fun b o nb e => by rw [Heap.get?_update_of_ne _ nb.symm]; exact e
      have sz : (s.heap.update it (Obj.mapFields fun fs => fs.extract 0 4 ++ ((jx ++ dy).map fun (n : Nat) => rawInt (n : Int)).toArray)).objs.size = s.heap.objs.size := Heap.size_update ..
      generalize s.heap.update it (Obj.mapFields fun fs => fs.extract 0 4 ++ ((jx ++ dy).map fun (n : Nat) => rawInt (n : Int)).toArray) = hp1 at h1 out sz ⊢
      refine wpAny_bind (wpAny_newTuple ?_ (by rw [List.length_map, List.length_take, sizeLine_eq]; omega))
      refine wpAny_bind (wpAny_field (Heap.get?_push_of_some _ h1) rfl (x := old) rfl ?_)
      refine wpAny_bind (wpAny_setField (Heap.get?_push_of_some _ h1) rfl (by simp [permO]) ?_)
      refine wpAny_bind (wpAny_letGo (wpAny_pure ?_))
      rw [Int.toNat_natCast]
      dsimp only
      rw [sz]
      refine q _ (fun b o nb e => ?_) ?_ ?_
      · rw [Heap.get?_update_of_ne _ nb.symm]
        exact Heap.get?_push_of_some _ (out b o nb e)
      · rw [Heap.get?_update_self _ (Heap.get?_push_of_some _ h1) rfl, set_3]
      · rw [Heap.get?_update_of_ne _ (Nat.ne_of_lt (by rw [← sz]; exact Heap.lt_size h1))]
        exact (congrArg _ sz.symm).trans (Heap.get?_push_size _ rfl)
  case done =>
    intro prog w A E s it pool r old items F ix cy od n0 osl hh hit hi hs hp q
    show wpAny _ _ (field (.ref it) 0 >>= _) _ _ _
    refine wpAny_bind (wpAny_field hit rfl (x := .ref pool) rfl ?_)
    refine wpAny_bind ?_
    unfold Builtin.Itertools.itPoolItems
    refine wpAny_bind ?_
    refine wpAny_seqItems hp rfl (wpAny_pure ?_)
    refine wpAny_bind (wpAny_bind (wpAny_field hit rfl (x := rawInt (r : Int)) rfl (wpAny_pure ?_)))
    refine wpAny_bind (wpAny_bind (wpAny_load hit (wpAny_pure ?_)))
    refine wpAny_bind (wpAny_bind (wpAny_field hit rfl (x := rawInt 1) rfl (wpAny_pure ?_)))
    erw [nums_of]
    split
    case h_1 h => exact absurd h (by decide)
    case h_3 _ h => exact absurd rfl h
    dsimp only
    rw [List.size_toArray, ← hi, List.take_left, List.drop_left, hi]
    split
    case h_1 jx dy h => cases h.symm.trans hs
    case h_2 h =>
      refine wpAny_bind (wpAny_setField hit rfl (by simp [permO]) ?_)
      refine stop_run hh fun e h' he k => q e h' he fun b o nb eb => k b o ?_
      rw [Heap.get?_update_of_ne _ nb.symm]
      exact eb
  case ok => decide +kernel
/-- pyNext: an item -/
theorem py_item {Q : Option Value → Shared → Prop} {ph : Int} {jx dy : List Nat} (hit : s.heap.get? it = some (permO pool ph r old ns))
    (h : ∀ F : PySem.Fin → Shared → Prop, ∀ E', (∀ h', (∀ b o, b ≠ it → s.heap.get? b = some o → h'.get? b = some o) → h'.get? it = some (permO pool 1 r (.ref s.heap.objs.size) (jx ++ dy)) → h'.get? s.heap.objs.size = some { cls := .type "tuple", data := .seq ((jx.take r).map fun i => items.toArray.getD i Value.none).toArray } → F (Fin.done (Flow.ret (.ref s.heap.objs.size))) { s with heap := h' }) → wpAny (model prog w) A.in1 (Builtin.«itertools.permutations.__next__» ⟨[.ref it], []⟩) F E' s)
    (q : ∀ h', (∀ b o, b ≠ it → s.heap.get? b = some o → h'.get? b = some o) → h'.get? it = some (permO pool 1 r (.ref s.heap.objs.size) (jx ++ dy)) → h'.get? s.heap.objs.size = some { cls := .type "tuple", data := .seq ((jx.take r).map fun i => items.toArray.getD i Value.none).toArray } → Q (some (.ref s.heap.objs.size)) { s with heap := h' }) :
    wpAny (model prog w) A (pyNext (.ref it)) Q E s := by
  unfold pyNext
  refine wpAny_bind (wpAny_attempt (next_one hit (h _ _ fun h' k1 k2 k3 => ⟨_, rfl, ?_⟩)))
  exact wpAny_pure (q h' k1 k2 k3)
theorem py_done {np : NP} (ok : NextOk np) {Q : Option Value → Shared → Prop} {ix cy : List Nat} (hh : A.handled = none) (hit : s.heap.get? it = some (permO pool 1 r old (ix ++ cy))) (hi : ix.length = items.length) (hs : np items.length r ix cy = none) {od : Option Addr} {n0 : Nat} {osl : Array (Option Value)} (hp : s.heap.get? pool = some ⟨.type "tuple", od, .seq items.toArray n0, osl⟩)
    (q : ∀ h', (∀ b o, b ≠ it → s.heap.get? b = some o → h'.get? b = some o) → Q none { s with heap := h' }) : wpAny (model prog w) A (pyNext (.ref it)) Q E s := by
  unfold pyNext
  refine wpAny_bind (wpAny_attempt (next_one hit (ok.done (by simpa using hh) hit hi hs hp fun e h' he k => ?_)))
  obtain ⟨a, o, rfl, ho, hc⟩ := he
  exact wpAny_bind (wpAny_isInstance (T := "StopIteration") (b := true) ⟨o, ho, hc⟩ isSubtype_stop (wpAny_pure (q h' k)))
theorem py_iter {ph : Int} {Q : Value → Shared → Prop} (hit : s.heap.get? it = some (permO pool ph r old ns)) (h : Q (.ref it) s) : wpAny (model prog w) A (pyIter (.ref it)) Q E s := by
  have hT : s.TypeIs (.ref it) "itertools.permutations" := ⟨_, hit, rfl⟩
  exact wpAny_pyIter_slot hT slot_perm_iter (wpAny_call_entry slot_perm_iter hT entry_perm_iter (wpAny_pure ⟨.ref it, rfl, "itertools.permutations", .builtin "itertools.permutations.__next__", hT, slot_perm_next.lookup, h⟩) (args_perm_iter _))
end
end CpPerm
namespace CpPerm
open PySem PySem.Spec
section
variable {prog : Program} {w : World} {A : Around} {E : Value → Shared → Prop} {s : Shared}
theorem collect_str {Q : List Value → Shared → Prop} (hh : A.handled = none) (x : Str) (t : Tok) (small : x.cps.size ≤ 100)
    (q : ∀ (h' : Heap) (tk : Nat) (acc : Array Value), s.heap.objs.size < h'.objs.size → (∀ b o, s.heap.get? b = some o → h'.get? b = some o) → ItemsOf (SignAt x) acc x.cps.size → Q acc.toList { s with heap := h', toks := tk }) :
    wpAny (model prog w) A (collect (.str x t)) Q E s := by
  have key : ∀ Q0 : Value → Shared → Prop, (∀ (h' : Heap) (tk : Nat) (acc : Array Value) (c' : Nat), (∀ b o, s.heap.get? b = some o → h'.get? b = some o) → h'.get? s.heap.objs.size = some { cls := .type "list", data := .seq acc c' } → ItemsOf (SignAt x) acc x.cps.size → Q0 (.ref s.heap.objs.size) { s with heap := h', toks := tk }) →
      wpAny (model prog w) A (runValue (Code.builtin "proto.collect" { pos := [.str x t] })) Q0 E s := fun Q0 q0 => by
    refine wpAny_runValue (codeAny_builtin F.entry_proto_collect ?_)
    rw [Around.under_plainId F.plain_proto_collect { pos := [.str x t] }]
    show wpAny _ _ (newList [] >>= _) _ _ _
    refine wpAny_bind (wpAny_newList ?_)
    refine wpAny_pure ⟨plainId_quiet F.plain_list_iadd _, codeAny_builtin F.entry_list_iadd ?_⟩
    rw [Around.under_plainId F.plain_list_iadd]
    show wpAny _ _ (Builtin.List.listExtendWith (.ref s.heap.objs.size) (.str x t) (.ref s.heap.objs.size)) _ _ _
    refine wpAny_extend_str (R := fun r s' => match r with | .ok (.ret v) => Q0 v s' | .ok _ => False | .error e => E e s') (s := { s with heap := s.heap.push { cls := .type "list", data := .seq #[] } }) hh x t s.heap.objs.size _ 0 (Heap.get?_push_size _ rfl) (fun h' tk acc c' k1 k2 k3 => ?_) (by rw [sizeLine_eq]; omega)
    exact q0 h' tk acc c' (fun b o e => k1 b o (Nat.ne_of_lt (Heap.lt_size e)) (Heap.get?_push_of_some _ e)) k2 k3
  unfold collect
  exact wpAny_bind (key _ fun h' tk acc c' k1 k2 k3 => wpAny_bind (wpAny_load k2 (wpAny_pure (q h' tk acc (Heap.lt_size k2) k1 k3))))
theorem perm_new {F : PySem.Fin → Shared → Prop} (hh : A.handled = none) (x : Str) (t : Tok) (small : x.cps.size ≤ 6) (r : Nat) (t2 : Tok) (hr : r ≤ x.cps.size)
    (q : ∀ (h' : Heap) (tk : Nat) (items : List Value) (it pool : Addr), (∀ b o, s.heap.get? b = some o → h'.get? b = some o) → (∀ j v, items[j]? = some v → SignAt x j v) → items.length = x.cps.size → s.heap.objs.size ≤ it → s.heap.objs.size ≤ pool → it ≠ pool →
      h'.get? it = some (permO pool 0 r Value.none (List.range x.cps.size ++ (List.range r).map fun i => x.cps.size - i)) → (∃ od n0 osl, h'.get? pool = some ⟨.type "tuple", od, .seq items.toArray n0, osl⟩) → F (Fin.done (Flow.ret (.ref it))) { s with heap := h', toks := tk }) :
    wpAny (model prog w) A (Builtin.«itertools.permutations.__new__» ⟨[.type "itertools.permutations", .str x t, .int (r : Int) t2], []⟩) F E s := by
  have below := sub_perm
  unfold Builtin.«itertools.permutations.__new__»
  refine wpAny_bind ?_
  unfold Builtin.Itertools.itClassAndRest
  wp_walk
  refine wpAny_of_eq (show isSubtype (Value.type "itertools.permutations") (Value.type ("itertools." ++ "permutations")) = pure true by rw [show ("itertools." ++ "permutations" : String) = "itertools.permutations" by decide]; exact sub_perm) ?_
  refine wpAny_pure ?_
  refine wpAny_bind ?_
  unfold Builtin.Itertools.itBindNamed
  generalize hcf : collect = cf
  wp_walk
  subst hcf
  refine collect_str hh x t (by omega) fun h' tk acc k0 k1 k2 => ?_
  have hn : acc.toList.length = x.cps.size := by rw [Array.length_toList]; exact k2.1
  have c1 : (decide ((r : Int) < -2 ^ 63) || decide ((r : Int) ≥ 2 ^ 63)) = false := by
    rw [Bool.or_eq_false_iff]
    exact ⟨decide_eq_false (by omega), decide_eq_false (by omega)⟩
  have c2 : ¬ (r : Int) < 0 := by omega
  have c3 : Builtin.Itertools.itTooMany (r : Int) = false := decide_eq_false (by omega)
  refine wpAny_bind (wpAny_holding ?_)
  wp_walk
  rw [if_neg (by rw [c1]; exact Bool.false_ne_true)]
  refine wpAny_pure ?_
  dsimp only
  rw [if_neg c2, if_neg (by rw [c3]; exact Bool.false_ne_true)]
  refine wpAny_bind (wpAny_newTuple ?_ (by rw [hn, sizeLine_eq]; omega))
  have c4 : ¬ (r : Int).toNat > acc.toList.length := by rw [hn]; omega
  rw [if_neg c4, Int.toNat_natCast, hn]
  unfold Builtin.Itertools.itNewRecord
  rw [noDict_perm]
  refine wpAny_bind ?_
  rw [if_pos (show (!false) = true from rfl)]
  refine wpAny_newObj_type (wpAny_pure ?_) ?_
  · have ef : (([Value.ref h'.objs.size, rawInt 0, rawInt (r : Int), Value.none] ++ (List.range x.cps.size).map (fun (i : Nat) => rawInt (i : Int)) ++ (List.range r).map fun (i : Nat) => rawInt ((x.cps.size : Int) - (i : Int)))) = [Value.ref h'.objs.size, rawInt 0, rawInt (r : Int), Value.none] ++ (List.range x.cps.size ++ (List.range r).map fun i => x.cps.size - i).map fun (n : Nat) => rawInt (n : Int) := by
      rw [List.map_append, List.map_map, List.append_assoc]
      congr 2
      refine List.map_congr_left fun i hi => ?_
      have := List.mem_range.mp hi
      have e : (x.cps.size : Int) - (i : Int) = ((x.cps.size - i : Nat) : Int) := by omega
      exact congrArg rawInt e
    dsimp only
    rw [ef]
    have z := Heap.size_push (h := h') (o := { cls := .type "tuple", data := .seq acc.toList.toArray })
    have kk : ∀ b o, s.heap.get? b = some o → ((h'.push { cls := .type "tuple", data := .seq acc.toList.toArray }).push (permO h'.objs.size 0 r Value.none (List.range x.cps.size ++ (List.range r).map fun i => x.cps.size - i))).get? b = some o := fun b o e => Heap.get?_push_of_some _ (Heap.get?_push_of_some _ (k1 b o e))
    have le : s.heap.objs.size ≤ h'.objs.size := Nat.le_of_lt k0
    refine q _ tk acc.toList _ h'.objs.size kk (fun j v hv => k2.2 j v (by rw [← Array.getElem?_toList]; exact hv)) hn ?_ le ?_ (Heap.get?_push_size _ rfl) ⟨_, _, _, Heap.get?_push_of_some _ (Heap.get?_push_size _ rfl)⟩
    · exact Nat.le_trans (Nat.le_trans le (Nat.le_succ _)) (Nat.le_of_eq z.symm)
    · exact Nat.ne_of_gt (Nat.lt_of_lt_of_le (Nat.lt_succ_self _) (Nat.le_of_eq z.symm))
  · unfold sizeOk
    dsimp only
    rw [List.size_toArray]
    simp only [List.length_append, List.length_map, List.length_range, List.length_cons, List.length_nil, sizeLine_eq]
    omega
end
end CpPerm
end

section
set_option maxRecDepth 100000
set_option maxHeartbeats 4000000
/-! itertools.combinations(row, r): its turns -/
namespace CpComb
open PySem PySem.Spec
def combO (pool : Addr) (ph : Int) (old : Value) (ns : List Nat) : Obj := { cls := .type "itertools.combinations", data := .fields ([.ref pool, rawInt ph, old] ++ ns.map fun (n : Nat) => rawInt (n : Int)).toArray }
section
variable {prog : Program} {w : World} {A : Around} {E : Value → Shared → Prop} {s : Shared} {it pool : Addr} {old : Value} {ns : List Nat} {items : List Value}
theorem next_one {ph : Int} {Q : Option Value → Shared → Prop} (hit : s.heap.get? it = some (combO pool ph old ns))
    (h : wpAny (model prog w) A.in1 (Builtin.«itertools.combinations.__next__» ⟨[.ref it], []⟩) (fun fin s' => ∃ v, fin = Fin.done (Flow.ret v) ∧ Q (some v) s') E s) : wpAny (model prog w) A (callSpecial? (.ref it) (Str.ofString "__next__")) Q E s := by
  have kind : s.TypeIs (.ref it) "itertools.combinations" := ⟨_, hit, rfl⟩
  exact wpAny_callSpecial?_slot kind slot_comb_next (wpAny_call_entry slot_comb_next kind entry_comb_next h (args_comb_next _))
theorem nums_of (pool : Addr) (ph : Int) (old : Value) (ns : List Nat) : ((([.ref pool, rawInt ph, old] ++ ns.map fun (n : Nat) => rawInt (n : Int)).toArray.toList.drop 3).map CpPerm.toNatV) = ns := CpPerm.nums_back ns
theorem set_1 {v : Int} {ph : Int} : Obj.mapFields (fun x => x.setIfInBounds 1 (rawInt v)) (combO pool ph old ns) = combO pool v old ns := by
  simp [Obj.mapFields, combO]
theorem set_2 {v : Value} {ph : Int} : Obj.mapFields (fun x => x.setIfInBounds 2 v) (combO pool ph old ns) = combO pool ph v ns := by
  simp [Obj.mapFields, combO]
theorem nums_set {ph : Int} (ms : List Nat) : Obj.mapFields (fun fs => fs.extract 0 3 ++ (ms.map fun (n : Nat) => rawInt (n : Int)).toArray) (combO pool ph old ns) = combO pool ph old ms := by
  simp [Obj.mapFields, combO]
theorem next_first {F : PySem.Fin → Shared → Prop} (hit : s.heap.get? it = some (combO pool 0 old ns)) (hl : ns.length ≤ 1000) {od : Option Addr} {n0 : Nat} {osl : Array (Option Value)} (hp : s.heap.get? pool = some ⟨.type "tuple", od, .seq items.toArray n0, osl⟩) (ne : pool ≠ it)
    (q : ∀ h', (∀ b o, b ≠ it → s.heap.get? b = some o → h'.get? b = some o) → h'.get? it = some (combO pool 1 (.ref s.heap.objs.size) ns) → h'.get? s.heap.objs.size = some { cls := .type "tuple", data := .seq (ns.map fun i => items.toArray.getD i Value.none).toArray } → F (Fin.done (Flow.ret (.ref s.heap.objs.size))) { s with heap := h' }) :
    wpAny (model prog w) A (Builtin.«itertools.combinations.__next__» ⟨[.ref it], []⟩) F E s := by
  show wpAny _ _ (field (.ref it) 0 >>= _) _ _ _
  refine wpAny_bind (wpAny_field hit rfl (x := .ref pool) rfl ?_)
  refine wpAny_bind (wpAny_bind (wpAny_load hit (wpAny_pure ?_)))
  refine wpAny_bind (wpAny_bind (wpAny_field hit rfl (x := rawInt 0) rfl (wpAny_pure ?_)))
  erw [nums_of]
  show wpAny _ _ (setField (Value.ref it) 1 _ >>= _) _ _ _
  refine wpAny_bind (wpAny_setField hit rfl (by simp [combO]) ?_)
  have h1 := Heap.get?_update_self (Obj.mapFields fun x => x.setIfInBounds 1 (rawInt 1)) hit rfl
  rw [set_1] at h1
  have out : ∀ b o, b ≠ it → s.heap.get? b = some o → (s.heap.update it (Obj.mapFields fun x => x.setIfInBounds 1 (rawInt 1))).get? b = some o := fun b o nb e => by rw [Heap.get?_update_of_ne _ nb.symm]; exact e
  have sz : (s.heap.update it (Obj.mapFields fun x => x.setIfInBounds 1 (rawInt 1))).objs.size = s.heap.objs.size := Heap.size_update ..
  generalize s.heap.update it (Obj.mapFields fun x => x.setIfInBounds 1 (rawInt 1)) = hp1 at h1 out sz ⊢
  refine wpAny_bind (wpAny_bind ?_)
  unfold Builtin.Itertools.itPoolItems
  refine wpAny_bind ?_
  refine wpAny_seqItems (out pool _ ne hp) rfl (wpAny_pure ?_)
  refine wpAny_newTuple ?_ (by rw [List.length_map, sizeLine_eq]; omega)
  refine wpAny_bind (wpAny_field (Heap.get?_push_of_some _ h1) rfl (x := old) rfl ?_)
  refine wpAny_bind (wpAny_setField (Heap.get?_push_of_some _ h1) rfl (by simp [combO]) ?_)
  refine wpAny_bind (wpAny_letGo (wpAny_pure ?_))
  dsimp only
  rw [sz]
  refine q _ (fun b o nb e => ?_) ?_ ?_
  · rw [Heap.get?_update_of_ne _ nb.symm]
    exact Heap.get?_push_of_some _ (out b o nb e)
  · rw [Heap.get?_update_self _ (Heap.get?_push_of_some _ h1) rfl, set_2]
  · rw [Heap.get?_update_of_ne _ (Nat.ne_of_lt (by rw [← sz]; exact Heap.lt_size h1))]
    exact (congrArg _ sz.symm).trans (Heap.get?_push_size _ rfl)
abbrev NC := Nat → List Nat → Option (List Nat)
/-- what is known of the step from one row to the next one -/
structure NextOk (np : NC) : Prop where
  more : ∀ {prog : Program} {w : World} {A : Around} {E : Value → Shared → Prop} {s : Shared} {it pool : Addr} {old : Value} {items : List Value} {F : PySem.Fin → Shared → Prop} {ix jx : List Nat} {od : Option Addr} {n0 : Nat} {osl : Array (Option Value)}, pool ≠ it → s.heap.get? it = some (combO pool 1 old ix) → jx.length ≤ 1000 → np items.length ix = some jx →
    s.heap.get? pool = some ⟨.type "tuple", od, .seq items.toArray n0, osl⟩ →
    (∀ h', (∀ b o, b ≠ it → s.heap.get? b = some o → h'.get? b = some o) → h'.get? it = some (combO pool 1 (.ref s.heap.objs.size) jx) → h'.get? s.heap.objs.size = some { cls := .type "tuple", data := .seq (jx.map fun i => items.toArray.getD i Value.none).toArray } → F (Fin.done (Flow.ret (.ref s.heap.objs.size))) { s with heap := h' }) →
    wpAny (model prog w) A (Builtin.«itertools.combinations.__next__» ⟨[.ref it], []⟩) F E s
  done : ∀ {prog : Program} {w : World} {A : Around} {E : Value → Shared → Prop} {s : Shared} {it pool : Addr} {old : Value} {items : List Value} {F : PySem.Fin → Shared → Prop} {ix : List Nat} {od : Option Addr} {n0 : Nat} {osl : Array (Option Value)}, A.handled = none → s.heap.get? it = some (combO pool 1 old ix) → np items.length ix = none →
    s.heap.get? pool = some ⟨.type "tuple", od, .seq items.toArray n0, osl⟩ →
    (∀ e h', (∃ a o, e = Value.ref a ∧ h'.get? a = some o ∧ o.cls = .type "StopIteration") → (∀ b o, b ≠ it → s.heap.get? b = some o → h'.get? b = some o) → E e { s with heap := h' }) →
    wpAny (model prog w) A (Builtin.«itertools.combinations.__next__» ⟨[.ref it], []⟩) F E s
theorem next_is : ∃ np : NC, NextOk np ∧ ∀ n l, np n l = nxtC n l := by
  refine' ⟨_, ⟨?more, ?done⟩, ?ok⟩
  case more =>
    intro prog w A E s it pool old items F ix jx od n0 osl ne hit hl hs hp q
    show wpAny _ _ (field (.ref it) 0 >>= _) _ _ _
    refine wpAny_bind (wpAny_field hit rfl (x := .ref pool) rfl ?_)
    refine wpAny_bind (wpAny_bind (wpAny_load hit (wpAny_pure ?_)))
    refine wpAny_bind (wpAny_bind (wpAny_field hit rfl (x := rawInt 1) rfl (wpAny_pure ?_)))
    erw [nums_of]
    split
    case h_1 h => exact absurd h (by decide)
    case h_3 _ h => exact absurd rfl h
    refine wpAny_bind ?_
    unfold Builtin.Itertools.itPoolItems
    refine wpAny_bind ?_
    refine wpAny_seqItems hp rfl (wpAny_pure ?_)
    dsimp only
    rw [List.size_toArray]
    split
    case h_2 h => cases h.symm.trans hs
    case h_1 jx' h =>
      cases h.symm.trans hs
      refine wpAny_bind ?_
      unfold Builtin.Itertools.itSetNumbersFrom
      refine wpAny_updateFields hit rfl ?_ (by rw [sizeLine_eq]; simp; omega)
      have h1 := Heap.get?_update_self (Obj.mapFields fun fs => fs.extract 0 3 ++ (jx.map fun (n : Nat) => rawInt (n : Int)).toArray) hit rfl
      rw [nums_set] at h1
      have out : ∀ b o, b ≠ it → s.heap.get? b = some o → (s.heap.update it (Obj.mapFields fun fs => fs.extract 0 3 ++ (jx.map fun (n : Nat) => rawInt (n : Int)).toArray)).get? b = some o := fun b o nb e => by rw [Heap.get?_update_of_ne _ nb.symm]; exact e
      have sz : (s.heap.update it (Obj.mapFields fun fs => fs.extract 0 3 ++ (jx.map fun (n : Nat) => rawInt (n : Int)).toArray)).objs.size = s.heap.objs.size := Heap.size_update ..
      generalize s.heap.update it (Obj.mapFields fun fs => fs.extract 0 3 ++ (jx.map fun (n : Nat) => rawInt (n : Int)).toArray) = hp1 at h1 out sz ⊢
      refine wpAny_bind (wpAny_bind ?_)
      refine wpAny_bind ?_
      refine wpAny_seqItems (out pool _ ne hp) rfl (wpAny_pure ?_)
      refine wpAny_newTuple ?_ (by rw [List.length_map, sizeLine_eq]; omega)
      refine wpAny_bind (wpAny_field (Heap.get?_push_of_some _ h1) rfl (x := old) rfl ?_)
      refine wpAny_bind (wpAny_setField (Heap.get?_push_of_some _ h1) rfl (by simp [combO]) ?_)
      refine wpAny_bind (wpAny_letGo (wpAny_pure ?_))
      dsimp only
      rw [sz]
      refine q _ (fun b o nb e => ?_) ?_ ?_
      · rw [Heap.get?_update_of_ne _ nb.symm]
        exact Heap.get?_push_of_some _ (out b o nb e)
      · rw [Heap.get?_update_self _ (Heap.get?_push_of_some _ h1) rfl, set_2]
      · rw [Heap.get?_update_of_ne _ (Nat.ne_of_lt (by rw [← sz]; exact Heap.lt_size h1))]
        exact (congrArg _ sz.symm).trans (Heap.get?_push_size _ rfl)
  case done =>
    intro prog w A E s it pool old items F ix od n0 osl hh hit hs hp q
    show wpAny _ _ (field (.ref it) 0 >>= _) _ _ _
    refine wpAny_bind (wpAny_field hit rfl (x := .ref pool) rfl ?_)
    refine wpAny_bind (wpAny_bind (wpAny_load hit (wpAny_pure ?_)))
    refine wpAny_bind (wpAny_bind (wpAny_field hit rfl (x := rawInt 1) rfl (wpAny_pure ?_)))
    erw [nums_of]
    split
    case h_1 h => exact absurd h (by decide)
    case h_3 _ h => exact absurd rfl h
    refine wpAny_bind ?_
    unfold Builtin.Itertools.itPoolItems
    refine wpAny_bind ?_
    refine wpAny_seqItems hp rfl (wpAny_pure ?_)
    dsimp only
    rw [List.size_toArray]
    split
    case h_1 jx h => cases h.symm.trans hs
    case h_2 h =>
      refine wpAny_bind (wpAny_setField hit rfl (by simp [combO]) ?_)
      refine CpPerm.stop_run hh fun e h' he k => q e h' he fun b o nb eb => k b o ?_
      rw [Heap.get?_update_of_ne _ nb.symm]
      exact eb
  case ok =>
    intro n l
    conv => lhs; whnf
    split
    case h_1 h =>
      exact (nxt_none fun j hj => by simpa using find_none h j hj).symm
    case h_2 i h =>
      obtain ⟨h1, h2, h3⟩ := find_back h
      exact (nxt_some h1 (by simpa using h2) fun j g1 g2 => by simpa using h3 j g1 g2).symm
end
end CpComb
end

section
set_option maxRecDepth 100000
set_option maxHeartbeats 4000000
/-! `for x in combinations(row, r)` -/
namespace CpComb
open PySem PySem.Spec
section
variable {prog : Program} {w : World} {A : Around} {E : Value → Shared → Prop} {s : Shared} {it pool : Addr} {old : Value} {ns : List Nat} {items : List Value}
theorem py_item {Q : Option Value → Shared → Prop} {ph : Int} {jx : List Nat} (hit : s.heap.get? it = some (combO pool ph old ns))
    (h : ∀ F : PySem.Fin → Shared → Prop, ∀ E', (∀ h', (∀ b o, b ≠ it → s.heap.get? b = some o → h'.get? b = some o) → h'.get? it = some (combO pool 1 (.ref s.heap.objs.size) jx) → h'.get? s.heap.objs.size = some { cls := .type "tuple", data := .seq (jx.map fun i => items.toArray.getD i Value.none).toArray } → F (Fin.done (Flow.ret (.ref s.heap.objs.size))) { s with heap := h' }) → wpAny (model prog w) A.in1 (Builtin.«itertools.combinations.__next__» ⟨[.ref it], []⟩) F E' s)
    (q : ∀ h', (∀ b o, b ≠ it → s.heap.get? b = some o → h'.get? b = some o) → h'.get? it = some (combO pool 1 (.ref s.heap.objs.size) jx) → h'.get? s.heap.objs.size = some { cls := .type "tuple", data := .seq (jx.map fun i => items.toArray.getD i Value.none).toArray } → Q (some (.ref s.heap.objs.size)) { s with heap := h' }) :
    wpAny (model prog w) A (pyNext (.ref it)) Q E s := by
  unfold pyNext
  refine wpAny_bind (wpAny_attempt (next_one hit (h _ _ fun h' k1 k2 k3 => ⟨_, rfl, ?_⟩)))
  exact wpAny_pure (q h' k1 k2 k3)
theorem py_done {np : NC} (ok : NextOk np) {Q : Option Value → Shared → Prop} {ix : List Nat} (hh : A.handled = none) (hit : s.heap.get? it = some (combO pool 1 old ix)) (hs : np items.length ix = none) {od : Option Addr} {n0 : Nat} {osl : Array (Option Value)} (hp : s.heap.get? pool = some ⟨.type "tuple", od, .seq items.toArray n0, osl⟩)
    (q : ∀ h', (∀ b o, b ≠ it → s.heap.get? b = some o → h'.get? b = some o) → Q none { s with heap := h' }) : wpAny (model prog w) A (pyNext (.ref it)) Q E s := by
  unfold pyNext
  refine wpAny_bind (wpAny_attempt (next_one hit (ok.done (by simpa using hh) hit hs hp fun e h' he k => ?_)))
  obtain ⟨a, o, rfl, ho, hc⟩ := he
  exact wpAny_bind (wpAny_isInstance (T := "StopIteration") (b := true) ⟨o, ho, hc⟩ isSubtype_stop (wpAny_pure (q h' k)))
theorem py_iter {ph : Int} {Q : Value → Shared → Prop} (hit : s.heap.get? it = some (combO pool ph old ns)) (h : Q (.ref it) s) : wpAny (model prog w) A (pyIter (.ref it)) Q E s := by
  have hT : s.TypeIs (.ref it) "itertools.combinations" := ⟨_, hit, rfl⟩
  exact wpAny_pyIter_slot hT slot_comb_iter (wpAny_call_entry slot_comb_iter hT entry_comb_iter (wpAny_pure ⟨.ref it, rfl, "itertools.combinations", .builtin "itertools.combinations.__next__", hT, slot_comb_next.lookup, h⟩) (args_comb_iter _))
end
end CpComb
namespace L2.Cal
open PySem PySem.Spec PyProof.Rows L2 CpComb
/-- those of a row that stand at these places -/
def pickV (xs : List V) (l : List Nat) : List V := l.map fun i => xs.getD i .non
/-- all rows of r of them, in turn -/
def cmbV (xs : List V) (r : Nat) : List (List Nat) := cmb r (xs.length - r) 0
def ItCb (xs : List V) (r : Nat) : It :=
  ⟨fun i _ => i < (cmbV xs r).length, fun i H v H' => ∃ T l, v = .ref T ∧ H T = none ∧ (cmbV xs r)[i]? = some l ∧ H' = upd H T (.tup (pickV xs l)), fun i _ => (cmbV xs r).length ≤ i⟩
def PoolC (h : Heap) (pool : Addr) (xs : List V) (items : List Value) : Prop := (∃ od n0 osl, h.get? pool = some ⟨.type "tuple", od, .seq items.toArray n0, osl⟩) ∧ Vals xs items
def combAt (xs : List V) (r : Nat) (e pool : Addr) : Nat → Heap → Prop
  | 0, h => h.get? e = some (combO pool 0 .none (fstC r 0))
  | j + 1, h => ∃ l old, (cmbV xs r)[j]? = some l ∧ h.get? e = some (combO pool 1 old l)
def tnC (xs : List V) (r : Nat) (e pool : Addr) (i : Nat) (h : Heap) : Prop := e ≠ pool ∧ (∃ items, PoolC h pool xs items) ∧ combAt xs r e pool i h
theorem combAt.obj {xs : List V} {r : Nat} {e pool : Addr} {i : Nat} {h : Heap} (p : combAt xs r e pool i h) : ∃ ph old ns, h.get? e = some (combO pool ph old ns) := by
  cases i with
  | zero => exact ⟨_, _, _, p⟩
  | succ j =>
    obtain ⟨s, old, _, g⟩ := p
    exact ⟨_, _, _, g⟩
theorem vals_pick {xs : List V} {items : List Value} (hv : Vals xs items) : ∀ {l : List Nat}, (∀ b, b ∈ l → b < xs.length) → Vals (pickV xs l) (l.map fun i => items.toArray.getD i Value.none)
  | [], _ => .nil
  | a :: l, h => by
    refine .cons ?_ (vals_pick hv fun b hb => h b (List.mem_cons_of_mem _ hb))
    have lt : a < xs.length := h a List.mem_cons_self
    obtain ⟨u, hu, ru⟩ := hv.get (List.getElem?_eq_getElem lt)
    dsimp only
    rw [Array.getD_eq_getD_getElem?, List.getElem?_toArray, hu, List.getD_eq_getElem?_getD, List.getElem?_eq_getElem lt]
    exact ru
/-- a target of names takes nothing from this iterator: it keeps its last answer -/
theorem own_comb {prog : Program} {w : World} {A : Around} {E : Value → Shared → Prop} {s : Shared} {Q : Unit → Shared → Prop} (tg : Expr) {e a pool : Addr} {ph : Int} {old : Value} {ns : List Nat} (hit : s.heap.get? e = some (combO pool ph old ns)) (q : Q () s) : wpAny (model prog w) A (letOwnedTupleGo tg (.ref e) (.ref a)) Q E s := by
  unfold letOwnedTupleGo
  split
  · dsimp only
    refine wpAny_bind (wpAny_load hit ?_)
    show wpAny _ _ (if _ then _ else _) _ _ _
    rw [if_neg (by
      rw [Bool.and_eq_true]
      rintro ⟨h, _⟩
      exact absurd h (by decide +kernel))]
    exact wpAny_pure q
  · dsimp only
    refine wpAny_bind (wpAny_load hit ?_)
    show wpAny _ _ (if _ then _ else _) _ _ _
    rw [if_neg (by
      rw [Bool.and_eq_true]
      rintro ⟨h, _⟩
      exact absurd h (by decide +kernel))]
    exact wpAny_pure q
  · exact wpAny_pure q
theorem turn_comb {P : Program} {w : World} {K : PySem.W.Frag} {tg : Expr} {np : NC} (hnp : NextOk np) (hmx : ∀ n l, np n l = nxtC n l) {xs : List V} {r : Nat} (small : r ≤ 1000) (hr : r ≤ xs.length) (e pool : Addr) :
    Turn P w K tg (ItCb xs r) [e, pool] e (tnC xs r e pool) where
  mem := by simp
  obj := fun i h st b hb => by
    obtain ⟨ne, ⟨items, ⟨od, n0, osl, hp⟩, _⟩, pa⟩ := st
    obtain ⟨ph, old, ns, g⟩ := pa.obj
    rcases List.mem_cons.mp hb with z | z
    · rw [z]
      exact ⟨_, g, fun v q => nomatch q⟩
    · rw [List.mem_singleton.mp z]
      exact ⟨_, hp, fun v q => nomatch q⟩
  keep := fun i h h' st k => by
    obtain ⟨ne, ⟨items, ⟨od, n0, osl, hp⟩, h2⟩, pa⟩ := st
    refine ⟨ne, ⟨items, ⟨od, n0, osl, k pool (by simp) _ hp⟩, h2⟩, ?_⟩
    cases i with
    | zero => exact k e (by simp) _ pa
    | succ j =>
      obtain ⟨s, old, h3, g⟩ := pa
      exact ⟨s, old, h3, k e (by simp) _ g⟩
  item := by
    intro X hP hw hK hc i pins s σ H E I hf st hg
    subst hP hw hK
    obtain ⟨ne, ⟨items, ⟨od, n0, osl, hp⟩, hv⟩, pa⟩ := st
    obtain ⟨run0, run⟩ := run_cmb r (xs.length - r) 0 xs.length (by omega)
    obtain ⟨l, hl⟩ : ∃ l, (cmbV xs r)[i]? = some l := ⟨_, List.getElem?_eq_getElem hg⟩
    obtain ⟨ll, lb, ln⟩ := run i l hl
    have len : items.length = xs.length := hv.length.symm
    obtain ⟨ph, old, ns, hit⟩ := pa.obj
    have lt1 : e < s.heap.objs.size := Heap.lt_size hit
    have lt2 : pool < s.heap.objs.size := Heap.lt_size hp
    have post : ∀ h' : Heap, (∀ b o, b ≠ e → s.heap.get? b = some o → h'.get? b = some o) → h'.get? e = some (combO pool 1 (.ref s.heap.objs.size) l) → h'.get? s.heap.objs.size = some { cls := .type "tuple", data := .seq (l.map fun i => items.toArray.getD i Value.none).toArray } →
        ∃ u, some (Value.ref s.heap.objs.size) = some u ∧ wpAny (model X.prog X.w) X.A (letOwnedTupleGo tg (Value.ref e) u) (fun x1 s2 => ∃ v H', L2.Inv X pins σ H' s2 ∧ L2.RelV v u ∧ (ItCb xs r).yld i H v H' ∧ tnC xs r e pool (i + 1) s2.heap ∧ ∀ (b : Addr), b ∈ [e, pool] → H' b = none) E { s with heap := h' } := by
      intro h' k1 k2 k3
      refine ⟨_, rfl, own_comb tg k2 ?_⟩
      have new : ObjOk X.prog X.w (upd H s.heap.objs.size (.tup (pickV xs l))) h' s.heap.objs.size (.tup (pickV xs l)) := by
        refine ⟨?_, _, vals_pick hv lb, ⟨_, k3, rfl, _, rfl⟩⟩
        unfold pickV
        rw [List.length_map, ll, sizeLine_eq]
        omega
      have J : Inv X pins σ (upd H s.heap.objs.size (.tup (pickV xs l))) { s with heap := h', toks := s.toks } :=
        I.turnedNew (ch := [e]) (fun b ob hb q => k1 b ob (by simpa using hb) q) (fun b hb => hf b (by rw [List.mem_singleton.mp hb]; simp)) (Nat.le_refl _) new
      refine ⟨.ref s.heap.objs.size, _, J, rfl, ⟨_, _, rfl, I.hok.fresh (Nat.le_refl _), hl, rfl⟩, ⟨ne, ⟨items, ⟨od, n0, osl, k1 pool _ (Ne.symm ne) hp⟩, hv⟩, l, _, hl, k2⟩, fun b hb => ?_⟩
      have lt : b < s.heap.objs.size := by
        rcases List.mem_cons.mp hb with z | z
        · rw [z]; exact lt1
        · rw [List.mem_singleton.mp z]; exact lt2
      rw [upd_ne (Nat.ne_of_lt lt)]
      exact (hf b hb).1
    cases i with
    | zero =>
      have e0 : l = fstC r 0 := Option.some.inj (hl.symm.trans run0)
      subst e0
      have pa : s.heap.get? e = some (combO pool 0 .none (fstC r 0)) := pa
      exact py_item (items := items) (jx := fstC r 0) pa (fun F E' k => next_first pa (by omega) hp ne.symm fun h' k1 k2 k3 => k h' k1 k2 k3) post
    | succ j =>
      obtain ⟨l1, old1, hs1, pa⟩ := pa
      obtain ⟨_, _, ln1⟩ := run j l1 hs1
      refine py_item (items := items) (jx := l) pa (fun F E' k => ?_) post
      exact hnp.more (items := items) (jx := l) ne.symm pa (by omega) (by rw [hmx, len, ln1]; exact hl) hp fun h' k1 k2 k3 => k h' k1 k2 k3
  done := by
    intro X hP hw hK hc i pins s σ H E I hf st hg
    subst hP hw hK
    obtain ⟨ne, ⟨items, ⟨od, n0, osl, hp⟩, hv⟩, pa⟩ := st
    obtain ⟨run0, run⟩ := run_cmb r (xs.length - r) 0 xs.length (by omega)
    have len : items.length = xs.length := hv.length.symm
    have hgl : (cmbV xs r).length ≤ i := hg
    obtain ⟨f0, f1, f2, f3, f4, f5⟩ := hf e (by simp)
    cases i with
    | zero =>
      have : 0 < (cmbV xs r).length := (List.getElem?_eq_some_iff.mp run0).1
      omega
    | succ j =>
      obtain ⟨l1, old1, hs1, pa⟩ := pa
      obtain ⟨_, _, ln1⟩ := run j l1 hs1
      refine py_done (items := items) hnp (I.ok.hd hc) pa (by rw [hmx, len, ln1]; exact List.getElem?_eq_none hgl) hp fun h' k => ?_
      exact ⟨rfl, I.turned (t' := s.toks) (fun b o hb q => k b o hb q) f0 f1 f3 f4 f5⟩
  self := fun A i s Q E st h => by
    obtain ⟨ne, _, pa⟩ := st
    obtain ⟨ph, old, ns, g⟩ := pa.obj
    exact py_iter g h
theorem walk_comb {xs : List V} {r : Nat} : Walk (ItCb xs r) (cmbV xs r).length (fun _ => True) (fun i H v H' => ∃ T l, v = .ref T ∧ H T = none ∧ (cmbV xs r)[i]? = some l ∧ H' = upd H T (.tup (pickV xs l))) :=
  ⟨fun i H hi _ => hi, fun H _ => Nat.le_refl _, fun i H v H' hi _ h => h⟩
end L2.Cal
end

section
set_option maxRecDepth 100000
set_option maxHeartbeats 4000000
/-! combinations(row, r): how it begins -/
namespace CpComb
open PySem PySem.Spec
section
variable {prog : Program} {w : World} {A : Around} {E : Value → Shared → Prop} {s : Shared}
/-- what a row gives when it is gathered -/
def Gathers (v : Value) (xs : List L2.V) (s : Shared) (A : Around) : Prop := ∀ (prog : Program) (w : World) (E : Value → Shared → Prop) (Q : List Value → Shared → Prop),
  (∀ (h' : Heap) (tk : Nat) (items : List Value), s.heap.objs.size ≤ h'.objs.size → (∀ b o, s.heap.get? b = some o → h'.get? b = some o) → L2.Vals xs items → Q items { s with heap := h', toks := tk }) → wpAny (model prog w) A (collect v) Q E s
theorem comb_new {F : PySem.Fin → Shared → Prop} {v : Value} {xs : List L2.V} (g : Gathers v xs s A) (few : xs.length ≤ 1000) (r : Nat) (t2 : Tok) (hr : r ≤ xs.length)
    (q : ∀ (h' : Heap) (tk : Nat) (items : List Value) (it pool : Addr), (∀ b o, s.heap.get? b = some o → h'.get? b = some o) → L2.Vals xs items → s.heap.objs.size ≤ it → s.heap.objs.size ≤ pool → it ≠ pool →
      h'.get? it = some (combO pool 0 Value.none (fstC r 0)) → (∃ od n0 osl, h'.get? pool = some ⟨.type "tuple", od, .seq items.toArray n0, osl⟩) → F (Fin.done (Flow.ret (.ref it))) { s with heap := h', toks := tk }) :
    wpAny (model prog w) A (Builtin.«itertools.combinations.__new__» ⟨[.type "itertools.combinations", v, .int (r : Int) t2], []⟩) F E s := by
  have below := sub_comb
  unfold Builtin.«itertools.combinations.__new__»
  refine wpAny_bind (wpAny_bind ?_)
  unfold Builtin.Itertools.itClassAndRest
  wp_walk
  refine wpAny_of_eq (show isSubtype (Value.type "itertools.combinations") (Value.type ("itertools." ++ "combinations")) = pure true by rw [show ("itertools." ++ "combinations" : String) = "itertools.combinations" by decide]; exact sub_comb) ?_
  refine wpAny_pure ?_
  refine wpAny_bind ?_
  unfold Builtin.Itertools.itBindNamed
  generalize hcf : collect = cf
  wp_walk
  have c1 : (decide ((r : Int) < -2 ^ 63) || decide ((r : Int) ≥ 2 ^ 63)) = false := by
    rw [Bool.or_eq_false_iff]
    exact ⟨decide_eq_false (by omega), decide_eq_false (by omega)⟩
  have c2 : ¬ (r : Int) < 0 := by omega
  have c3 : Builtin.Itertools.itTooMany (r : Int) = false := decide_eq_false (by omega)
  rw [if_neg (by rw [c1]; exact Bool.false_ne_true)]
  refine wpAny_pure ?_
  refine wpAny_bind ?_
  subst hcf
  refine g prog w _ _ fun h' tk items k0 k1 hv => ?_
  have hn : items.length = xs.length := hv.length.symm
  dsimp only
  rw [if_neg c2, if_neg (by rw [c3]; exact Bool.false_ne_true)]
  refine wpAny_bind (wpAny_newTuple ?_ (by rw [hn, sizeLine_eq]; omega))
  refine wpAny_pure ?_
  dsimp only
  have c4 : ¬ (r : Int).toNat > items.length := by rw [hn]; omega
  rw [if_neg c4, Int.toNat_natCast]
  unfold Builtin.Itertools.itNewRecord
  rw [noDict_comb]
  refine wpAny_bind ?_
  rw [if_pos (show (!false) = true from rfl)]
  refine wpAny_newObj_type (wpAny_pure ?_) ?_
  · have ef : ([Value.ref h'.objs.size, rawInt 0, Value.none] ++ (List.range r).map fun (i : Nat) => rawInt (i : Int)) = [Value.ref h'.objs.size, rawInt 0, Value.none] ++ (fstC r 0).map fun (n : Nat) => rawInt (n : Int) := by
      unfold fstC
      rw [List.map_map]
      congr 1
      refine List.map_congr_left fun i _ => ?_
      show rawInt (i : Int) = rawInt ((0 + i : Nat) : Int)
      rw [Nat.zero_add]
    dsimp only
    rw [ef]
    have z := Heap.size_push (h := h') (o := { cls := .type "tuple", data := .seq items.toArray })
    refine q _ tk items _ h'.objs.size (fun b o e => Heap.get?_push_of_some _ (Heap.get?_push_of_some _ (k1 b o e))) hv ?_ k0 ?_ (Heap.get?_push_size _ rfl) ⟨_, _, _, Heap.get?_push_of_some _ (Heap.get?_push_size _ rfl)⟩
    · exact Nat.le_trans (Nat.le_trans k0 (Nat.le_succ _)) (Nat.le_of_eq z.symm)
    · exact Nat.ne_of_gt (Nat.lt_of_lt_of_le (Nat.lt_succ_self _) (Nat.le_of_eq z.symm))
  · unfold sizeOk
    dsimp only
    rw [List.size_toArray]
    simp only [List.length_append, List.length_map, List.length_range, List.length_cons, List.length_nil, sizeLine_eq]
    omega
end
end CpComb
end

section
set_option maxRecDepth 100000
set_option maxHeartbeats 4000000
/-! a list or tuple gathered; the heap grows -/
namespace CpComb
open PySem PySem.Spec
section
variable {prog : Program} {w : World} {A : Around} {E : Value → Shared → Prop} {s : Shared}
theorem collect_seq {Q : List Value → Shared → Prop} (it : Addr) {T : String} {o : Obj} {items : Array Value} {n : Nat} (hT : T = "list" ∨ T = "tuple") (ho : s.heap.get? it = some o) (hc : o.cls = .type T) (hd : o.data = .seq items n) (hsz : items.size ≤ sizeLine)
    (q : ∀ h' : Heap, s.heap.objs.size ≤ h'.objs.size → (∀ b o', s.heap.get? b = some o' → h'.get? b = some o') → Q items.toList { s with heap := h' }) : wpAny (model prog w) A (collect (.ref it)) Q E s := by
  have key : ∀ Q0 : Value → Shared → Prop, (∀ h' : Heap, (∀ b o', s.heap.get? b = some o' → h'.get? b = some o') → (∃ c', h'.get? s.heap.objs.size = some { cls := .type "list", data := .seq items c' }) → Q0 (.ref s.heap.objs.size) { s with heap := h' }) →
      wpAny (model prog w) A (runValue (Code.builtin "proto.collect" { pos := [.ref it] })) Q0 E s := fun Q0 q0 => by
    refine wpAny_runValue (codeAny_builtin F.entry_proto_collect ?_)
    rw [Around.under_plainId F.plain_proto_collect { pos := [.ref it] }]
    show wpAny _ _ (newList [] >>= _) _ _ _
    refine wpAny_bind (wpAny_newList ?_)
    refine wpAny_pure ⟨plainId_quiet F.plain_list_iadd _, codeAny_builtin F.entry_list_iadd ?_⟩
    rw [Around.under_plainId F.plain_list_iadd]
    show wpAny _ _ (Builtin.List.listExtendWith (.ref s.heap.objs.size) (.ref it) (.ref s.heap.objs.size)) _ _ _
    have hS : (s.heap.push { cls := .type "list", data := .seq ([] : List Value).toArray }).get? s.heap.objs.size = some { cls := .type "list", data := .seq #[] 0 } := Heap.get?_push_size _ rfl
    have hS2 := Heap.get?_update_self (Obj.mapSeq (· ++ items)) hS rfl
    refine wpAny_extend_seq (hsz := hsz) (R := fun r s' => match r with | .ok (.ret v) => Q0 v s' | .ok _ => False | .error e => E e s') (s := { s with heap := s.heap.push { cls := .type "list", data := .seq ([] : List Value).toArray } }) _ it _ 0 hT hS (Heap.get?_push_of_some _ ho) hc hd ?_
    refine q0 _ (fun b o' hb => (Heap.get?_update_other _ _ (Nat.ne_of_gt (Heap.lt_size hb))).trans (Heap.get?_push_of_some _ hb)) ?_
    have sh : ∃ c', Obj.mapSeq (· ++ items) { cls := .type "list", data := .seq #[] 0 } = { cls := .type "list", data := .seq items c' } := by
      unfold Obj.mapSeq
      dsimp only
      rw [Array.empty_append]
      exact ⟨_, rfl⟩
    obtain ⟨c', e⟩ := sh
    exact ⟨c', hS2.trans (congrArg some e)⟩
  unfold collect
  refine wpAny_bind (key _ fun h' k1 ⟨c', k2⟩ => wpAny_bind (wpAny_load k2 (wpAny_pure (q h' (Nat.le_of_lt (Heap.lt_size k2)) k1))))
end
end CpComb
end

section
set_option maxRecDepth 100000
set_option maxHeartbeats 4000000
/-! combinations(row, r) of a text, a list or a tuple -/
namespace CpComb
open PySem PySem.Spec
end CpComb
end

section
set_option maxRecDepth 100000
set_option maxHeartbeats 4000000
namespace CpComb
open PySem PySem.Spec
def combSpec (v : Value) (xs : List L2.V) (r : Nat) : PySem.Spec := fun A R s => Gathers v xs s A.in1 ∧ ∀ (h' : Heap) (tk : Nat) (items : List Value) (it pool : Addr), (∀ b o, s.heap.get? b = some o → h'.get? b = some o) → L2.Vals xs items → s.heap.objs.size ≤ it → s.heap.objs.size ≤ pool → it ≠ pool →
      h'.get? it = some (combO pool 0 Value.none (fstC r 0)) → (∃ od n0 osl, h'.get? pool = some ⟨.type "tuple", od, .seq items.toArray n0, osl⟩) → R (.ok (.ret (.ref it))) { s with heap := h', toks := tk }
theorem comb_meets (v : Value) (xs : List L2.V) (few : xs.length ≤ 1000) (r : Nat) (t2 : Tok) (hr : r ≤ xs.length) : Meets (Builtin.«itertools.combinations.__new__» ⟨[.type "itertools.combinations", v, .int (r : Int) t2], []⟩) (combSpec v xs r) :=
  .of_wp fun prog w A R s h => by
    obtain ⟨g, q⟩ := h
    exact comb_new g few r t2 hr fun h' tk items it pool k1 k2 k3 k4 k5 k6 k7 => ⟨_, rfl, q h' tk items it pool k1 k2 k3 k4 k5 k6 k7⟩
theorem comb_one {prog : Program} {w : World} {A : Around} {E : Value → Shared → Prop} {s : Shared} {Q : Value → Shared → Prop} (v : Value) (xs : List L2.V) (few : xs.length ≤ 1000) (r : Nat) (t2 : Tok) (hr : r ≤ xs.length)
    (h : combSpec v xs r A.in1 (wants (fun obj s₁ => s₁.TypeIs obj "itertools.combinations" ∧ Q obj s₁) E) s) : wpAny (model prog w) A (call (.type "itertools.combinations") [v, .int (r : Int) t2]) Q E s :=
  callType_new called_comb (by decide) (typeCall_comb_2 _ _) (newCall_comb_2 _ _) (fun obj => PySem.F.args_object_init_3 obj _ _) entry_comb_new (comb_meets v xs few r t2 hr) h
theorem comb_it {prog : Program} {w : World} {A : Around} {E : Value → Shared → Prop} {s : Shared} {Q : Value → Shared → Prop} {v : Value} {xs : List L2.V} (g : Gathers v xs s A.in1.in1) (few : xs.length ≤ 1000) (r : Nat) (t2 : Tok) (hr : r ≤ xs.length)
    (q : ∀ (h' : Heap) (tk : Nat) (items : List Value) (it pool : Addr), (∀ b o, s.heap.get? b = some o → h'.get? b = some o) → L2.Vals xs items → s.heap.objs.size ≤ it → s.heap.objs.size ≤ pool → it ≠ pool →
      h'.get? it = some (combO pool 0 Value.none (fstC r 0)) → (∃ od n0 osl, h'.get? pool = some ⟨.type "tuple", od, .seq items.toArray n0, osl⟩) → Q (.ref it) { s with heap := h', toks := tk }) :
    wpAny (model prog w) A (call (.type "itertools.combinations") [v, .int (r : Int) t2]) (fun v s1 => wpAny (model prog w) A (pyIter v) Q E s1) E s := by
  refine comb_one v xs few r t2 hr ?_
  unfold combSpec
  refine ⟨g, fun h' tk items it pool k1 k2 k3 k4 k5 k6 k7 => ?_⟩
  show _ ∧ _
  exact ⟨⟨_, k6, rfl⟩, py_iter k6 (q h' tk items it pool k1 k2 k3 k4 k5 k6 k7)⟩
end CpComb
namespace L2.Cal
open PySem PySem.Spec PyProof.Rows L2 CpComb
/-- a row that combinations takes: a text, a list or a tuple -/
def RowIs (K : PySem.W.Frag) (H : Hp) (x : V) (xs : List V) : Prop := (∃ z : Str, x = .str z ∧ z.cps.size ≤ 100 ∧ xs = (signs z).map V.str) ∨ ∃ a, x = .ref a ∧ (SqL K H a xs ∨ SqT K H a xs)
theorem gathers {X : Cx} {pins : List (Addr × Obj)} {σ : St} {H : Hp} {s : Shared} {x : V} {v : Value} {xs : List V} {A : Around} (I : Inv X pins σ H s) (hh : A.handled = none) (rx : RelV x v) (h : RowIs X.K H x xs) : Gathers v xs s A := by
  intro prog w E Q q
  rcases h with ⟨z, rfl, z100, rfl⟩ | ⟨a, rfl, h | h⟩
  · obtain ⟨t, rfl⟩ := rx
    refine CpPerm.collect_str hh z t z100 fun h' tk acc k0 k1 k2 => q h' tk _ (Nat.le_of_lt k0) k1 ?_
    exact vals_of_strs (are_signs k2)
  · cases rx
    obtain ⟨its, rv, ⟨o, n, e, hc, hd, hs⟩, z⟩ := I.list h
    exact collect_seq a (.inl rfl) e hc hs (by rw [List.size_toArray, ← rv.length]; exact z) fun h' k0 k1 => q h' s.toks _ k0 k1 (by simpa using rv)
  · cases rx
    obtain ⟨its, rv, ⟨o, e, hc, n, hs⟩, z⟩ := I.tuple h
    exact collect_seq a (.inr rfl) e hc hs (by rw [List.size_toArray, ← rv.length]; exact z) fun h' k0 k1 => q h' s.toks _ k0 k1 (by simpa using rv)
def iCb (K : PySem.W.Frag) (ta : TA) : TI := fun σ H R => ta σ H fun vs H1 => ∃ (x : V) (xs : List V) (r : Nat), vs = [x, .int (r : Nat)] ∧ RowIs K H1 x xs ∧ r ≤ xs.length ∧ xs.length ≤ 1000 ∧ R (ItCb xs r) H1
theorem pi_comb {X : Cx} {e1 e2 tg : Expr} {ta : TA} {p pos : Pos} (hg : Gl X "combinations") (hm : X.mg "combinations" = some (.type "itertools.combinations")) (hc : X.calm = true) (ha : PA X [e1, e2] ta) (hs : starEach [e1, e2] X.env = (false, eval e1 X.env) :: starEach [e2] X.env := by rfl) (hs2 : ((backTo pos (starEach [e2] X.env)).any fun x => x.fst) = false := by rfl) :
    PI X tg (.Call (.Name "combinations" p) [e1, e2] [] pos) (iCb X.K ta) := by
  refine ⟨fun pins s σ H R I h => Call_ (ld_glob I hg hm (PyProof.Rows.callWith_type1 (thn (ha.run pos pins s σ H _ I h) fun us s1 ⟨vs, H1, I1, r1, q1⟩ => ?_) hs hs2))⟩
  obtain ⟨x, xs, r, e, row, hr, few, q⟩ := q1
  subst e
  cases r1 with
  | cons c1 r1 =>
  cases r1 with
  | cons c2 r1 =>
  cases r1 with
  | nil =>
    obtain ⟨t2, rfl⟩ := c2
    obtain ⟨np, hnp, hmx⟩ := next_is
    refine comb_it (gathers I1 (by simpa using I1.ok.hd hc) c1 row) few r t2 hr fun h' tk items it pool k1 k2 k3 k4 k5 k6 k7 => ?_
    have I2 : Inv X pins σ H1 { s1 with heap := h', toks := tk } := I1.kept k1
    refine ⟨it, [it, pool], _, _, H1, rfl, I2, turn_comb hnp hmx (by omega) hr it pool, ⟨k5, ⟨items, k7, k2⟩, k6⟩, fun b hb => ?_, q⟩
    have le : s1.heap.objs.size ≤ b := by
      rcases List.mem_cons.mp hb with z | z
      · rw [z]; exact k3
      · rw [List.mem_singleton.mp z]; exact k4
    exact I1.fpOk le (I1.hok.fresh le)
end L2.Cal
end

section
set_option maxRecDepth 100000
set_option maxHeartbeats 4000000
/-! combinations(row, r) where the row may be shorter than r: there is none then -/
namespace CpComb
open PySem PySem.Spec
def phOf (n r : Nat) : Int := if r > n then 2 else 0
section
variable {prog : Program} {w : World} {A : Around} {E : Value → Shared → Prop} {s : Shared} {it pool : Addr} {old : Value} {ns : List Nat}
theorem next_over {F : PySem.Fin → Shared → Prop} (hh : A.handled = none) (hit : s.heap.get? it = some (combO pool 2 old ns))
    (q : ∀ e h', (∃ a o, e = Value.ref a ∧ h'.get? a = some o ∧ o.cls = .type "StopIteration") → (∀ b o, s.heap.get? b = some o → h'.get? b = some o) → E e { s with heap := h' }) :
    wpAny (model prog w) A (Builtin.«itertools.combinations.__next__» ⟨[.ref it], []⟩) F E s := by
  show wpAny _ _ (field (.ref it) 0 >>= _) _ _ _
  refine wpAny_bind (wpAny_field hit rfl (x := .ref pool) rfl ?_)
  refine wpAny_bind (wpAny_bind (wpAny_load hit (wpAny_pure ?_)))
  refine wpAny_bind (wpAny_bind (wpAny_field hit rfl (x := rawInt 2) rfl (wpAny_pure ?_)))
  split
  case h_1 h => exact absurd h (by decide)
  case h_2 h => exact absurd h (by decide)
  exact CpPerm.stop_run hh q
theorem py_over {Q : Option Value → Shared → Prop} (hh : A.handled = none) (hit : s.heap.get? it = some (combO pool 2 old ns)) (q : ∀ h', (∀ b o, s.heap.get? b = some o → h'.get? b = some o) → Q none { s with heap := h' }) : wpAny (model prog w) A (pyNext (.ref it)) Q E s := by
  unfold pyNext
  refine wpAny_bind (wpAny_attempt (next_one hit (next_over (by simpa using hh) hit fun e h' he k => ?_)))
  obtain ⟨a, o, rfl, ho, hc⟩ := he
  exact wpAny_bind (wpAny_isInstance (T := "StopIteration") (b := true) ⟨o, ho, hc⟩ isSubtype_stop (wpAny_pure (q h' k)))
theorem comb_newE {F : PySem.Fin → Shared → Prop} {v : Value} {xs : List L2.V} (g : Gathers v xs s A) (few : xs.length ≤ 1000) (r : Nat) (t2 : Tok) (hr : r ≤ 1000)
    (q : ∀ (h' : Heap) (tk : Nat) (items : List Value) (it pool : Addr), (∀ b o, s.heap.get? b = some o → h'.get? b = some o) → L2.Vals xs items → s.heap.objs.size ≤ it → s.heap.objs.size ≤ pool → it ≠ pool →
      h'.get? it = some (combO pool (phOf xs.length r) Value.none (fstC r 0)) → (∃ od n0 osl, h'.get? pool = some ⟨.type "tuple", od, .seq items.toArray n0, osl⟩) → F (Fin.done (Flow.ret (.ref it))) { s with heap := h', toks := tk }) :
    wpAny (model prog w) A (Builtin.«itertools.combinations.__new__» ⟨[.type "itertools.combinations", v, .int (r : Int) t2], []⟩) F E s := by
  have below := sub_comb
  unfold Builtin.«itertools.combinations.__new__»
  refine wpAny_bind (wpAny_bind ?_)
  unfold Builtin.Itertools.itClassAndRest
  wp_walk
  refine wpAny_of_eq (show isSubtype (Value.type "itertools.combinations") (Value.type ("itertools." ++ "combinations")) = pure true by rw [show ("itertools." ++ "combinations" : String) = "itertools.combinations" by decide]; exact sub_comb) ?_
  refine wpAny_pure ?_
  refine wpAny_bind ?_
  unfold Builtin.Itertools.itBindNamed
  generalize hcf : collect = cf
  wp_walk
  have c1 : (decide ((r : Int) < -2 ^ 63) || decide ((r : Int) ≥ 2 ^ 63)) = false := by
    rw [Bool.or_eq_false_iff]
    exact ⟨decide_eq_false (by omega), decide_eq_false (by omega)⟩
  have c2 : ¬ (r : Int) < 0 := by omega
  have c3 : Builtin.Itertools.itTooMany (r : Int) = false := decide_eq_false (by omega)
  rw [if_neg (by rw [c1]; exact Bool.false_ne_true)]
  refine wpAny_pure ?_
  refine wpAny_bind ?_
  subst hcf
  refine g prog w _ _ fun h' tk items k0 k1 hv => ?_
  have hn : items.length = xs.length := hv.length.symm
  dsimp only
  rw [if_neg c2, if_neg (by rw [c3]; exact Bool.false_ne_true)]
  refine wpAny_bind (wpAny_newTuple ?_ (by rw [hn, sizeLine_eq]; omega))
  refine wpAny_pure ?_
  dsimp only
  rw [Int.toNat_natCast, hn]
  unfold Builtin.Itertools.itNewRecord
  rw [noDict_comb]
  refine wpAny_bind ?_
  rw [if_pos (show (!false) = true from rfl)]
  refine wpAny_newObj_type (wpAny_pure ?_) ?_
  · have ef : ∀ z : Value, ([Value.ref h'.objs.size, z, Value.none] ++ (List.range r).map fun (i : Nat) => rawInt (i : Int)) = [Value.ref h'.objs.size, z, Value.none] ++ (fstC r 0).map fun (n : Nat) => rawInt (n : Int) := fun z => by
      unfold fstC
      rw [List.map_map]
      congr 1
      refine List.map_congr_left fun i _ => ?_
      show rawInt (i : Int) = rawInt ((0 + i : Nat) : Int)
      rw [Nat.zero_add]
    dsimp only
    rw [ef]
    have z := Heap.size_push (h := h') (o := { cls := .type "tuple", data := .seq items.toArray })
    refine q _ tk items _ h'.objs.size (fun b o e => Heap.get?_push_of_some _ (Heap.get?_push_of_some _ (k1 b o e))) hv ?_ k0 ?_ (Heap.get?_push_size _ ?_) ⟨_, _, _, Heap.get?_push_of_some _ (Heap.get?_push_size _ rfl)⟩
    · exact Nat.le_trans (Nat.le_trans k0 (Nat.le_succ _)) (Nat.le_of_eq z.symm)
    · exact Nat.ne_of_gt (Nat.lt_of_lt_of_le (Nat.lt_succ_self _) (Nat.le_of_eq z.symm))
    · rfl
  · unfold sizeOk
    dsimp only
    rw [List.size_toArray]
    simp only [List.length_append, List.length_map, List.length_range, List.length_cons, List.length_nil, sizeLine_eq]
    omega
end
def combSpecE (v : Value) (xs : List L2.V) (r : Nat) : PySem.Spec := fun A R s => Gathers v xs s A.in1 ∧ ∀ (h' : Heap) (tk : Nat) (items : List Value) (it pool : Addr), (∀ b o, s.heap.get? b = some o → h'.get? b = some o) → L2.Vals xs items → s.heap.objs.size ≤ it → s.heap.objs.size ≤ pool → it ≠ pool →
      h'.get? it = some (combO pool (phOf xs.length r) Value.none (fstC r 0)) → (∃ od n0 osl, h'.get? pool = some ⟨.type "tuple", od, .seq items.toArray n0, osl⟩) → R (.ok (.ret (.ref it))) { s with heap := h', toks := tk }
theorem comb_meetsE (v : Value) (xs : List L2.V) (few : xs.length ≤ 1000) (r : Nat) (t2 : Tok) (hr : r ≤ 1000) : Meets (Builtin.«itertools.combinations.__new__» ⟨[.type "itertools.combinations", v, .int (r : Int) t2], []⟩) (combSpecE v xs r) :=
  .of_wp fun prog w A R s h => by
    obtain ⟨g, q⟩ := h
    exact comb_newE g few r t2 hr fun h' tk items it pool k1 k2 k3 k4 k5 k6 k7 => ⟨_, rfl, q h' tk items it pool k1 k2 k3 k4 k5 k6 k7⟩
theorem comb_itE {prog : Program} {w : World} {A : Around} {E : Value → Shared → Prop} {s : Shared} {Q : Value → Shared → Prop} {v : Value} {xs : List L2.V} (g : Gathers v xs s A.in1.in1) (few : xs.length ≤ 1000) (r : Nat) (t2 : Tok) (hr : r ≤ 1000)
    (q : ∀ (h' : Heap) (tk : Nat) (items : List Value) (it pool : Addr), (∀ b o, s.heap.get? b = some o → h'.get? b = some o) → L2.Vals xs items → s.heap.objs.size ≤ it → s.heap.objs.size ≤ pool → it ≠ pool →
      h'.get? it = some (combO pool (phOf xs.length r) Value.none (fstC r 0)) → (∃ od n0 osl, h'.get? pool = some ⟨.type "tuple", od, .seq items.toArray n0, osl⟩) → Q (.ref it) { s with heap := h', toks := tk }) :
    wpAny (model prog w) A (call (.type "itertools.combinations") [v, .int (r : Int) t2]) (fun v s1 => wpAny (model prog w) A (pyIter v) Q E s1) E s := by
  refine callType_new called_comb (by decide) (typeCall_comb_2 _ _) (newCall_comb_2 _ _) (fun obj => PySem.F.args_object_init_3 obj _ _) entry_comb_new (comb_meetsE v xs few r t2 hr) ?_
  unfold combSpecE
  refine ⟨g, fun h' tk items it pool k1 k2 k3 k4 k5 k6 k7 => ?_⟩
  show _ ∧ _
  exact ⟨⟨_, k6, rfl⟩, py_iter k6 (q h' tk items it pool k1 k2 k3 k4 k5 k6 k7)⟩
end CpComb
namespace L2.Cal
open PySem PySem.Spec PyProof.Rows L2 CpComb
/-- all rows of r of them, none if there are fewer -/
def cmbW (xs : List V) (r : Nat) : List (List Nat) := if r ≤ xs.length then cmbV xs r else []
def ItCw (xs : List V) (r : Nat) : It :=
  ⟨fun i _ => i < (cmbW xs r).length, fun i H v H' => ∃ T l, v = .ref T ∧ H T = none ∧ (cmbW xs r)[i]? = some l ∧ H' = upd H T (.tup (pickV xs l)), fun i _ => (cmbW xs r).length ≤ i⟩
theorem ItCw_in {xs : List V} {r : Nat} (h : r ≤ xs.length) : ItCw xs r = ItCb xs r := by
  unfold ItCw ItCb cmbW
  rw [if_pos h]
theorem turn_over {P : Program} {w : World} {K : PySem.W.Frag} {tg : Expr} {xs : List V} {r : Nat} (hr : xs.length < r) (e pool : Addr) (ns : List Nat) :
    Turn P w K tg (ItCw xs r) [e] e (fun _ h => h.get? e = some (combO pool 2 .none ns)) where
  mem := by simp
  obj := fun i h st b hb => by
    rw [List.mem_singleton.mp hb]
    exact ⟨_, st, fun v q => nomatch q⟩
  keep := fun i h h' st k => k e (by simp) _ st
  item := by
    intro X hP hw hK hc i pins s σ H E I hf st hg
    have : i < (cmbW xs r).length := hg
    unfold cmbW at this
    rw [if_neg (by omega)] at this
    exact absurd this (Nat.not_lt_zero _)
  done := by
    intro X hP hw hK hc i pins s σ H E I hf st hg
    subst hP hw hK
    obtain ⟨f0, f1, f2, f3, f4, f5⟩ := hf e (by simp)
    exact py_over (I.ok.hd hc) st fun h' k => ⟨rfl, I.turned (t' := s.toks) (fun b o hb q => k b o q) f0 f1 f3 f4 f5⟩
  self := fun A i s Q E st h => py_iter st h
theorem walk_combW {xs : List V} {r : Nat} : Walk (ItCw xs r) (cmbW xs r).length (fun _ => True) (fun i H v H' => ∃ T l, v = .ref T ∧ H T = none ∧ (cmbW xs r)[i]? = some l ∧ H' = upd H T (.tup (pickV xs l))) :=
  ⟨fun i H hi _ => hi, fun H _ => Nat.le_refl _, fun i H v H' hi _ h => h⟩
def iCw (K : PySem.W.Frag) (ta : TA) : TI := fun σ H R => ta σ H fun vs H1 => ∃ (x : V) (xs : List V) (r : Nat), vs = [x, .int (r : Nat)] ∧ RowIs K H1 x xs ∧ r ≤ 1000 ∧ xs.length ≤ 1000 ∧ R (ItCw xs r) H1
theorem pi_combW {X : Cx} {e1 e2 tg : Expr} {ta : TA} {p pos : Pos} (hg : Gl X "combinations") (hm : X.mg "combinations" = some (.type "itertools.combinations")) (hc : X.calm = true) (ha : PA X [e1, e2] ta) (hs : starEach [e1, e2] X.env = (false, eval e1 X.env) :: starEach [e2] X.env := by rfl) (hs2 : ((backTo pos (starEach [e2] X.env)).any fun x => x.fst) = false := by rfl) :
    PI X tg (.Call (.Name "combinations" p) [e1, e2] [] pos) (iCw X.K ta) := by
  refine ⟨fun pins s σ H R I h => Call_ (ld_glob I hg hm (PyProof.Rows.callWith_type1 (thn (ha.run pos pins s σ H _ I h) fun us s1 ⟨vs, H1, I1, r1, q1⟩ => ?_) hs hs2))⟩
  obtain ⟨x, xs, r, e, row, hr, few, q⟩ := q1
  subst e
  cases r1 with
  | cons c1 r1 =>
  cases r1 with
  | cons c2 r1 =>
  cases r1 with
  | nil =>
    obtain ⟨t2, rfl⟩ := c2
    obtain ⟨np, hnp, hmx⟩ := next_is
    refine comb_itE (gathers I1 (by simpa using I1.ok.hd hc) c1 row) few r t2 hr fun h' tk items it pool k1 k2 k3 k4 k5 k6 k7 => ?_
    have I2 : Inv X pins σ H1 { s1 with heap := h', toks := tk } := I1.kept k1
    by_cases c : r ≤ xs.length
    · rw [show phOf xs.length r = 0 from if_neg (by omega)] at k6
      rw [ItCw_in c] at q
      refine ⟨it, [it, pool], _, _, H1, rfl, I2, turn_comb hnp hmx (by omega) c it pool, ⟨k5, ⟨items, k7, k2⟩, k6⟩, fun b hb => ?_, q⟩
      have le : s1.heap.objs.size ≤ b := by
        rcases List.mem_cons.mp hb with z | z
        · rw [z]; exact k3
        · rw [List.mem_singleton.mp z]; exact k4
      exact I1.fpOk le (I1.hok.fresh le)
    · rw [show phOf xs.length r = 2 from if_pos (by omega)] at k6
      refine ⟨it, [it], _, _, H1, rfl, I2, turn_over (by omega) it pool _, k6, fun b hb => ?_, q⟩
      have le : s1.heap.objs.size ≤ b := by
        rw [List.mem_singleton.mp hb]
        exact k3
      exact I1.fpOk le (I1.hok.fresh le)
end L2.Cal
end

section
set_option maxRecDepth 100000
set_option maxHeartbeats 4000000
/-! what stands among the rows of cmb -/
namespace CpComb
theorem asc_len : ∀ {l : List Nat} {lo n : Nat}, l.Pairwise (· < ·) → (∀ b, b ∈ l → lo ≤ b ∧ b < n) → lo ≤ n → l.length + lo ≤ n
  | [], lo, n, _, _, h => by simpa using h
  | a :: t, lo, n, p, h, _ => by
    have ha := h a List.mem_cons_self
    have pt := List.pairwise_cons.mp p
    have := asc_len (lo := a + 1) pt.2 (fun b hb => ⟨pt.1 b hb, (h b (List.mem_cons_of_mem _ hb)).2⟩) (by omega)
    rw [List.length_cons]
    omega
/-- these are the ascending rows of r places from lo on, below lo + r + k -/
theorem mem_cmb : ∀ {r k lo : Nat} {l : List Nat}, l ∈ cmb r k lo ↔ l.length = r ∧ l.Pairwise (· < ·) ∧ ∀ b, b ∈ l → lo ≤ b ∧ b < lo + r + k
  | 0, k, lo, l => by
    unfold cmb
    rw [List.mem_singleton]
    constructor
    · rintro rfl
      exact ⟨rfl, List.Pairwise.nil, fun b hb => by simp at hb⟩
    · rintro ⟨h, _⟩
      exact List.length_eq_zero_iff.mp h
  | r + 1, 0, lo, l => by
    unfold cmb
    rw [List.mem_map]
    constructor
    · rintro ⟨t, ht, rfl⟩
      obtain ⟨h1, h2, h3⟩ := mem_cmb.mp ht
      refine ⟨by rw [List.length_cons, h1], List.pairwise_cons.mpr ⟨fun b hb => (h3 b hb).1, h2⟩, fun b hb => ?_⟩
      rcases List.mem_cons.mp hb with z | z
      · omega
      · have := h3 b z
        omega
    · rintro ⟨h1, h2, h3⟩
      cases l with
      | nil => simp at h1
      | cons a t =>
        have pt := List.pairwise_cons.mp h2
        rw [List.length_cons] at h1
        have ha := h3 a List.mem_cons_self
        have ln := asc_len (lo := a + 1) (n := lo + (r + 1)) pt.2 (fun b hb => ⟨pt.1 b hb, by have := (h3 b (List.mem_cons_of_mem _ hb)).2; omega⟩) (by omega)
        have e : a = lo := by omega
        subst e
        exact ⟨t, mem_cmb.mpr ⟨by omega, pt.2, fun b hb => ⟨pt.1 b hb, by have := (h3 b (List.mem_cons_of_mem _ hb)).2; omega⟩⟩, rfl⟩
  | r + 1, k + 1, lo, l => by
    unfold cmb
    rw [List.mem_append, List.mem_map]
    constructor
    · rintro (⟨t, ht, rfl⟩ | h)
      · obtain ⟨h1, h2, h3⟩ := mem_cmb.mp ht
        refine ⟨by rw [List.length_cons, h1], List.pairwise_cons.mpr ⟨fun b hb => (h3 b hb).1, h2⟩, fun b hb => ?_⟩
        rcases List.mem_cons.mp hb with z | z
        · omega
        · have := h3 b z
          omega
      · obtain ⟨h1, h2, h3⟩ := mem_cmb.mp h
        exact ⟨h1, h2, fun b hb => by have := h3 b hb; omega⟩
    · rintro ⟨h1, h2, h3⟩
      cases l with
      | nil => simp at h1
      | cons a t =>
        have pt := List.pairwise_cons.mp h2
        have ha := h3 a List.mem_cons_self
        by_cases e : a = lo
        · subst e
          rw [List.length_cons] at h1
          exact .inl ⟨t, mem_cmb.mpr ⟨by omega, pt.2, fun b hb => ⟨pt.1 b hb, by have := (h3 b (List.mem_cons_of_mem _ hb)).2; omega⟩⟩, rfl⟩
        · refine .inr (mem_cmb.mpr ⟨h1, h2, fun b hb => ?_⟩)
          have := h3 b hb
          rcases List.mem_cons.mp hb with z | z
          · omega
          · have := pt.1 b z
            omega
end CpComb
end

section
set_option maxRecDepth 100000
set_option maxHeartbeats 4000000
/-! sorted(..) of a list of tuples, each a number and a text: the numbers ascend then -/
namespace L2.Cal
open PySem PySem.Spec PyProof.Rows L2 PySem.W
abbrev encIT (b : Addr × Int × Str) : PyData := .tuple [.int b.2.1, .str b.2.2]
theorem le_it {a b : Addr × Int × Str} (h : dataLe false encIT a b = true) : a.2.1 ≤ b.2.1 := by
  rcases Int.lt_or_le b.2.1 a.2.1 with k | k
  · exfalso
    have e : dataLt (encIT b) (encIT a) = true := by
      show dataLt (.tuple [.int b.2.1, .str b.2.2]) (.tuple [.int a.2.1, .str a.2.2]) = true
      rw [dataLt_pair (by simp [alike]) (by simp [alike])]
      rw [if_neg (by simp [PyData.eqv]; omega), dataLt_int]
      exact decide_eq_true k
    have h2 : (!dataLt (encIT b) (encIT a)) = true := h
    rw [e] at h2
    cases h2
  · exact k
def rSortIT (K : PySem.W.Frag) : List V → Hp → VK → Prop := fun vs H Q => ∃ (a : Addr) (bs : List (Addr × Int × Str)), vs = [V.ref a] ∧ SqL K H a (bs.map fun b => V.ref b.1) ∧ (∀ b ∈ bs, H b.1 = some (.tup [.int b.2.1, .str b.2.2])) ∧ bs.length ≤ 1000 ∧
  ∀ (cs : List (Addr × Int × Str)) (p : Addr), cs.Perm bs → cs.Pairwise (fun x y => x.2.1 ≤ y.2.1) → H p = none → Q (.ref p) (upd H p (.lst (cs.map fun b => V.ref b.1)))
theorem each_refs {bs : List (Addr × Int × Str)} : ∀ {its : List Value}, Vals (bs.map fun b => V.ref b.1) its → EachIs (fun v b => v = Value.ref b.1) its bs := by
  induction bs with
  | nil => intro its h; cases h; exact .nil
  | cons b bs ih =>
    intro its h
    cases h with
    | cons r t => exact .cons r (ih t)
theorem refs_each {bs : List (Addr × Int × Str)} : ∀ {its : List Value}, EachIs (fun v b => v = Value.ref b.1) its bs → Vals (bs.map fun b => V.ref b.1) its := by
  induction bs with
  | nil => intro its h; cases h; exact .nil
  | cons b bs ih =>
    intro its h
    cases h with
    | cons r t => exact .cons r (ih t)
theorem each_imp {α β : Type} {R S : α → β → Prop} : ∀ {l : List α} {m : List β}, EachIs R l m → (∀ a b, b ∈ m → R a b → S a b) → EachIs S l m
  | _, _, .nil, _ => .nil
  | _, _, .cons h t, f => .cons (f _ _ List.mem_cons_self h) (each_imp t fun a b hb r => f a b (List.mem_cons_of_mem _ hb) r)
theorem cr_sortIT {X : Cx} (hu : X.A.units + 64 < cLine) : CallR X (.builtin "sorted") (rSortIT X.K) := by
  intro pins s σ H vs us Q I r h
  obtain ⟨a, bs, rfl, hs, hb, few, q⟩ := h
  obtain ⟨its, rv, hl, _⟩ := I.list hs
  rw [Vals.ref1 r]
  have e := each_refs rv
  have er : EachIs (fun v b => ∃ as, Reads s.heap v (encIT b) as) its bs := each_imp e fun v b hm ev => by
    obtain ⟨as, rd⟩ := Dp.reads I (encIT b) (V.ref b.1) v (.tup (SqT.of (hb b hm)) (.cons (.int _) (.cons (.str _) .nil))) ev
    exact ⟨as, rd⟩
  refine sorted_data hl.isList e er (AllAlike.of fun b b' => by simp [alike, alikeAll]) (Sortable.tuples fun b => ⟨_, _, rfl⟩) (by rw [sizeLine_eq]; omega) (fun b _ => by
    have : (encIT b).depth = 1 := by simp [PyData.depth, PyData.depthAll]
    omega) fun out h1 h2 => ?_
  obtain ⟨ep, he'⟩ := PyProof.Rows.sortedAll_at s.heap its (List.toArray out)
  have pm : (bs.mergeSort (dataLe false encIT)).Perm bs := List.mergeSort_perm _ _
  have hlen : ((bs.mergeSort (dataLe false encIT)).map fun b => V.ref b.1).length ≤ sizeLine := by rw [List.length_map, pm.length_eq, sizeLine_eq]; omega
  refine ⟨.ref _, upd H (s.heap.objs.size + 1) (.lst ((bs.mergeSort (dataLe false encIT)).map fun b => V.ref b.1)), I.laid (t' := s.toks) (fun _ _ => PyProof.Rows.sortedAll_old) (Nat.le_succ _) ⟨hlen, out, ep, refs_each h2, he'⟩, rfl, q _ _ pm ?_ (I.hok.fresh (Nat.le_succ _))⟩
  exact (sort_pairwise (sortLe_total _ _ _) bs).imp fun h => le_it h
end L2.Cal
end

section
set_option maxRecDepth 100000
set_option maxHeartbeats 4000000
/-! sorted(..) of a list of tuples of texts, all of one length; a list of one empty tuple, too -/
namespace L2.Cal
open PySem PySem.Spec PyProof.Rows L2 PySem.W
abbrev encT (b : Addr × List Str) : PyData := .tuple (b.2.map PyData.str)
/-- the first ones of two rows of texts that differ decide -/
def ltT : List Str → List Str → Bool
  | [], _ => false
  | _ :: _, [] => false
  | x :: xs, y :: ys => if x = y then ltT xs ys else decide (x.cps.toList < y.cps.toList)
theorem ltT_irr : ∀ xs : List Str, ltT xs xs = false
  | [] => rfl
  | x :: xs => by
    show (if x = x then ltT xs xs else _) = false
    rw [if_pos rfl, ltT_irr xs]
theorem alike_texts : ∀ {xs ys : List Str}, xs.length = ys.length → alikeAll (xs.map PyData.str) (ys.map PyData.str) = true
  | [], [], _ => by simp [alikeAll]
  | x :: xs, y :: ys, h => by
    rw [List.length_cons, List.length_cons] at h
    have := alike_texts (xs := xs) (ys := ys) (by omega)
    simp only [List.map_cons, alikeAll, alike, this, Bool.and_self]
theorem rowLt_texts : ∀ {xs ys : List Str}, xs.length = ys.length → rowLt (xs.map PyData.str) (ys.map PyData.str) = ltT xs ys
  | [], [], _ => lex_irrefl _
  | x :: xs, y :: ys, h => by
    rw [List.length_cons, List.length_cons] at h
    have ih := rowLt_texts (xs := xs) (ys := ys) (by omega)
    unfold rowLt at ih ⊢
    rw [List.map_cons, List.map_cons, dataLt_cons (by simp [alike]), ih, dataLt_str]
    show _ = if x = y then ltT xs ys else decide (x.cps.toList < y.cps.toList)
    by_cases e : x = y
    · rw [if_pos e, if_pos (by simp [PyData.eqv, e])]
    · rw [if_neg e, if_neg (by simp [PyData.eqv, e])]
def rSortTT (K : PySem.W.Frag) : List V → Hp → VK → Prop := fun vs H Q => ∃ (a : Addr) (bs : List (Addr × List Str)) (r : Nat), vs = [V.ref a] ∧ SqL K H a (bs.map fun b => V.ref b.1) ∧ (∀ b ∈ bs, H b.1 = some (.tup (b.2.map V.str))) ∧ (∀ b ∈ bs, b.2.length = r) ∧ (r = 0 → bs.length = 1) ∧ bs.length ≤ 1000 ∧
  ∀ (cs : List (Addr × List Str)) (p : Addr), cs.Perm bs → cs.Pairwise (fun x y => ltT y.2 x.2 = false) → H p = none → Q (.ref p) (upd H p (.lst (cs.map fun b => V.ref b.1)))
theorem each_refsT {bs : List (Addr × List Str)} : ∀ {its : List Value}, Vals (bs.map fun b => V.ref b.1) its → EachIs (fun v b => v = Value.ref b.1) its bs := by
  induction bs with
  | nil => intro its h; cases h; exact .nil
  | cons b bs ih =>
    intro its h
    cases h with
    | cons r t => exact .cons r (ih t)
theorem refs_eachT {bs : List (Addr × List Str)} : ∀ {its : List Value}, EachIs (fun v b => v = Value.ref b.1) its bs → Vals (bs.map fun b => V.ref b.1) its := by
  induction bs with
  | nil => intro its h; cases h; exact .nil
  | cons b bs ih =>
    intro its h
    cases h with
    | cons r t => exact .cons r (ih t)
/-- one value alone is sorted -/
theorem SortsAt.one {prog : Program} {w : World} {A : Around} {s : Shared} {v : Value} {d : PyData} {as : List Addr} (r : Reads s.heap v d as) (ha : alike d d = true) (hn : d ≠ .none) (hu : A.units + d.depth < cLine) : SortsAt prog w A s (dataKind s.heap [d]) [v] := by
  have hal : AllAlike [d] := fun x hx y hy => by rw [List.mem_singleton.mp hx, List.mem_singleton.mp hy]; exact ha
  refine ⟨fun u hu => ?_, general', fun E x y a b Q ha' hb hq => ?_, fun h2 => absurd h2 (by simp)⟩
  · rw [List.mem_singleton.mp hu]
    exact ⟨_, dataKind_some hal (List.mem_singleton.mpr rfl) r⟩
  · obtain ⟨d1, as1, hd1, ra, rfl⟩ := dataKind_inv ha'
    obtain ⟨d2, as2, hd2, rb, rfl⟩ := dataKind_inv hb
    have e1 := List.mem_singleton.mp hd1
    have e2 := List.mem_singleton.mp hd2
    subst e1
    subst e2
    show wpAny _ _ (oneLt' false x y) _ _ _
    exact oneLt_alike (fun h => by cases h) ra rb ha hn (by rw [Nat.min_self]; exact hu) hq
theorem dp_strsS {K : PySem.W.Frag} {H0 : Hp} : ∀ ys : List Str, DpAll K H0 (ys.map V.str) (ys.map PyData.str)
  | [] => .nil
  | y :: ys => .cons (.str y) (dp_strsS ys)
theorem cr_sortTT {X : Cx} (hu : X.A.units + 64 < cLine) : CallR X (.builtin "sorted") (rSortTT X.K) := by
  intro pins s σ H vs us Q I r h
  obtain ⟨a, bs, n, rfl, hs, hb, hn, h0, few, q⟩ := h
  obtain ⟨its, rv, hl, _⟩ := I.list hs
  rw [Vals.ref1 r]
  have e := each_refsT rv
  have rd : ∀ b ∈ bs, ∃ as, Reads s.heap (Value.ref b.1) (encT b) as := fun b hm => Dp.reads I (encT b) (V.ref b.1) (Value.ref b.1) (.tup (SqT.of (hb b hm)) (dp_strsS _)) rfl
  have er : EachIs (fun v b => ∃ as, Reads s.heap v (encT b) as) its bs := each_imp e fun v b hm ev => by
    rw [ev]
    exact rd b hm
  have al : ∀ b ∈ bs, ∀ b' ∈ bs, alike (encT b) (encT b') = true := fun b h1 b' h2 => by
    show alike (.tuple _) (.tuple _) = true
    simp only [alike]
    exact alike_texts (by rw [hn b h1, hn b' h2])
  have hal : AllAlike (bs.map encT) := fun d hd d' hd' => by
    obtain ⟨b, h1, rfl⟩ := List.mem_map.mp hd
    obtain ⟨b', h2, rfl⟩ := List.mem_map.mp hd'
    exact al b h1 b' h2
  have dep : ∀ b ∈ bs, (encT b).depth ≤ 1 := fun b _ => by
    have dp : ∀ zs : List Str, PyData.depthAll (zs.map PyData.str) = 0 := fun zs => by
      induction zs with
      | nil => simp [PyData.depthAll]
      | cons z zs ih => simp [PyData.depthAll, PyData.depth, ih]
    simp only [encT, PyData.depth, dp]
    omega
  have pmS : (bs.mergeSort (dataLe false encT)).Perm bs := List.mergeSort_perm _ _
  have srt : (bs.mergeSort (dataLe false encT)).Pairwise (fun x y => ltT y.2 x.2 = false) := by
    refine (List.Pairwise.and_mem.mp (sort_pairwise (sortLe_total _ _ _) bs)).imp ?_
    rintro x y ⟨hx, hy, h⟩
    have h' : (!dataLt (encT y) (encT x)) = true := h
    rw [dataLt_tuple] at h'
    have e2 := rowLt_texts (xs := y.2) (ys := x.2) (by rw [hn _ (pmS.mem_iff.mp hy), hn _ (pmS.mem_iff.mp hx)])
    unfold rowLt at e2
    rw [e2] at h'
    simpa using h'
  have fin : ∀ out : List Value, EachIs (fun v b => v = Value.ref b.1) out (bs.mergeSort (dataLe false encT)) → ∃ v H', Inv X pins σ H' { s with heap := sortedAll s.heap its (List.toArray out) } ∧ RelV v (Value.ref (s.heap.objs.size + 1)) ∧ Q v H' := fun out h2 => by
    obtain ⟨ep, he'⟩ := PyProof.Rows.sortedAll_at s.heap its (List.toArray out)
    have hlen : ((bs.mergeSort (dataLe false encT)).map fun b => V.ref b.1).length ≤ sizeLine := by rw [List.length_map, pmS.length_eq, sizeLine_eq]; omega
    exact ⟨.ref _, upd H (s.heap.objs.size + 1) (.lst ((bs.mergeSort (dataLe false encT)).map fun b => V.ref b.1)), I.laid (t' := s.toks) (fun _ _ => PyProof.Rows.sortedAll_old) (Nat.le_succ _) ⟨hlen, out, ep, refs_eachT h2, he'⟩, rfl, q _ _ pmS srt (I.hok.fresh (Nat.le_succ _))⟩
  cases hn0 : n with
  | succ n' =>
    refine sorted_data hl.isList e er hal (.inl fun d hd => ?_) (by rw [sizeLine_eq]; omega) (fun b hm => by have := dep b hm; omega) fun out h1 h2 => fin out h2
    obtain ⟨b, hm, rfl⟩ := List.mem_map.mp hd
    cases hb2 : b.2 with
    | nil =>
      have := hn b hm
      rw [hb2, hn0] at this
      cases this
    | cons x xs => exact ⟨.str x, xs.map PyData.str, by show PyData.tuple (b.2.map PyData.str) = _; rw [hb2] <;> rfl⟩
  | zero =>
    obtain ⟨b, rfl⟩ := List.length_eq_one_iff.mp (h0 hn0)
    have er' : EachIs (fun v b => ∃ as, Reads (sortingHeap (copyHeap s.heap its) (s.heap.objs.size + 1) its) v (encT b) as) its [b] := er.mono fun _ _ ⟨as, r⟩ => ⟨as, PyProof.Rows.Reads.keeps (fun _ _ => sorting_copy_old) r⟩
    have e1 : its.length = 1 := e.length
    obtain ⟨v, rfl⟩ := List.length_eq_one_iff.mp e1
    cases er' with
    | cons r0 _ =>
      obtain ⟨as, r0⟩ := r0
      refine sorted_vals hl.isList (SortsAt.one (s := { s with heap := sortingHeap (copyHeap s.heap [v]) (s.heap.objs.size + 1) [v] }) r0 (al b List.mem_cons_self b List.mem_cons_self) (fun z => by cases z) (by have := dep b List.mem_cons_self; show X.A.in1.in1.units + _ < _; have h2 : X.A.in1.in1.units = X.A.units + 2 := rfl; omega)) (by show 1 ≤ sizeLine; decide) ?_
      have hv : sortVals (dataKind (sortingHeap (copyHeap s.heap [v]) (s.heap.objs.size + 1) [v]) [encT b]) false [v] [v] = [v] := by
        unfold sortVals
        rw [List.zip_cons_cons, List.zip_nil_left, List.mergeSort_singleton] <;> rfl
      rw [hv]
      refine fin [v] ?_
      rw [List.mergeSort_singleton]
      exact e
end L2.Cal
end

section
set_option maxRecDepth 100000
set_option maxHeartbeats 4000000
/-! sorted(a tuple of texts); x not in o; one order of texts alone -/
namespace L2.Cal
open PySem PySem.Spec PyProof.Rows PySem.Froz L2
theorem below_lt {a b : Str} : Below a b ↔ a.cps.toList < b.cps.toList := by
  unfold Below
  rw [ltCps_eq, decide_eq_true_iff]
theorem below_trans {a b c : Str} (h : Below a b) (k : Below b c) : Below a c := below_lt.mpr (List.lt_trans (below_lt.mp h) (below_lt.mp k))
theorem below_irr {a : Str} (h : Below a a) : False := List.lt_irrefl _ (below_lt.mp h)
theorem climbs_all : ∀ {ys : List Str}, Climbs ys → ys.Pairwise Below
  | [], _ => .nil
  | [_], _ => List.pairwise_singleton _ _
  | a :: b :: r, h => by
    have ih := climbs_all (ys := b :: r) h.2
    refine List.Pairwise.cons (fun x hx => ?_) ih
    rcases List.mem_cons.mp hx with e | hx
    · exact e ▸ h.1
    · exact below_trans h.1 ((List.pairwise_cons.mp ih).1 x hx)
theorem climbs_of : ∀ {ys : List Str}, ys.Pairwise Below → Climbs ys
  | [], _ => trivial
  | [_], _ => trivial
  | a :: b :: r, h => ⟨(List.pairwise_cons.mp h).1 b List.mem_cons_self, climbs_of (List.pairwise_cons.mp h).2⟩
theorem climbs_nodup {ys : List Str} (h : Climbs ys) : ys.Nodup := by
  refine List.Pairwise.imp (R := Below) (fun {a b} k => ?_) (climbs_all h)
  intro e
  subst e
  exact below_irr k
theorem only_order : ∀ {xs ys : List Str}, xs.Pairwise Below → ys.Pairwise Below → (∀ z, z ∈ xs ↔ z ∈ ys) → xs = ys
  | [], [], _, _, _ => rfl
  | [], y :: ys, _, _, m => absurd ((m y).mpr List.mem_cons_self) (by simp)
  | x :: xs, [], _, _, m => absurd ((m x).mp List.mem_cons_self) (by simp)
  | x :: xs, y :: ys, hx, hy, m => by
    obtain ⟨h1, h2⟩ := List.pairwise_cons.mp hx
    obtain ⟨k1, k2⟩ := List.pairwise_cons.mp hy
    have e : x = y := by
      rcases List.mem_cons.mp ((m x).mp List.mem_cons_self) with e | h
      · exact e
      rcases List.mem_cons.mp ((m y).mpr List.mem_cons_self) with e | k
      · exact e.symm
      exact (below_irr (below_trans (h1 y k) (k1 x h))).elim
    subst e
    rw [only_order h2 k2 fun z => ⟨fun h => ?_, fun h => ?_⟩]
    · rcases List.mem_cons.mp ((m z).mp (List.mem_cons_of_mem _ h)) with e | k
      · exact (below_irr (e ▸ h1 z h)).elim
      · exact k
    · rcases List.mem_cons.mp ((m z).mpr (List.mem_cons_of_mem _ h)) with e | k
      · exact (below_irr (e ▸ k1 z h)).elim
      · exact k
theorem climbs_only {xs ys : List Str} (hx : Climbs xs) (hy : Climbs ys) (m : ∀ z, z ∈ xs ↔ z ∈ ys) : xs = ys := only_order (climbs_all hx) (climbs_all hy) m
theorem climbs_filter {ys : List Str} (p : Str → Bool) (h : Climbs ys) : Climbs (ys.filter p) := climbs_of ((climbs_all h).filter p)
section
variable {X : Cx} {CX : CXT} {k : Nat} {C f : Addr} {fd : FuncData} {ps : List Str} {sp : Sp} {E : XK}
/-- x not in o -/
def rNotInO (C : Addr) (sp : Sp) (E : XK) : V → V → Hp → VK → Prop := fun x y H Q => ∃ (a dx : Addr) (fs : List (Str × V)), y = .ref a ∧ H a = some (.ins C dx fs) ∧ sp [.ref a, x] H (fun v H' => ∃ b : Bool, v = .bl b ∧ Q (.bl (!b)) H') E
theorem op_notInO (o : Own X.K C "__contains__" f) (F : FnOk X.prog X.w X.K X.mg X.base CX k f fd ps sp) (hr : Room k X.A) (hb : Binds X.K fd ps []) (hx : Passes CX X.nox E) : OpR X (compareOp .NotIn) (rNotInO C sp E) := by
  rintro pins s σ H x _ v u Q I rx ry ⟨a, dx, fs, rfl, ea, h⟩
  cases ry
  obtain ⟨ox, od, J⟩ := ins_at I ea
  refine wpAny_bind (m := contains _ _) ?_
  unfold contains
  refine wpAny_holding (wpAny_bind (wpAny_bind (J.type.here ((PySem.W.looks_findIn I.kIn o.at_).here ?_))))
  rw [if_neg (by simp)]
  refine wpAny_bind (PySem.W.unlessNone_K I.kIn J o.at_ o.isFn (wpAny_mono (run_at (vs := [.ref a, x]) I.env0 hr I F hb (.cons rfl (.cons rx .nil)) hx h) (fun u s' hq => ?_) fun _ _ z => z))
  obtain ⟨v', H', I', rv, b, rfl, q⟩ := hq
  cases rv
  exact wpAny_pure (wpAny_pure ⟨.bl (!b), H', I', rfl, q⟩)
/-- sorted(t), t a tuple of texts -/
def rSortedT (K : PySem.W.Frag) : List V → Hp → VK → Prop := fun vs H Q => ∃ (a : Addr) (xs : List Str), vs = [.ref a] ∧ SqT K H a (xs.map V.str) ∧ xs.length < 64 ∧
  ∀ (ys : List Str) (p : Addr), ys.Perm xs → sortedS ys = true → H p = none → Q (.ref p) (upd H p (.lst (ys.map V.str)))
theorem cr_sortedT : CallR X (.builtin "sorted") (rSortedT X.K) := by
  rintro pins s σ H vs us Q I r ⟨a, xs, rfl, hs, few, q⟩
  rw [Vals.ref1 r]
  obtain ⟨its, rv, ⟨o, ho, hc, n, hd⟩, hl⟩ := I.tuple hs
  have len := rv.length
  rw [List.length_map] at len
  refine sort_texts (good := fun s1 ss => ss = xs ∧ (∀ b o, s.heap.get? b = some o → s1.heap.get? b = some o) ∧ s1.gens = s.gens ∧ s1.drawn = s.drawn ∧ s1.os = s.os ∧ s1.toks = s.toks ∧ s.heap.objs.size ≤ s1.heap.objs.size) (fun s1 ss h => by rw [h.1]; exact few) (fun E' Q' k => ?_)
    fun s1 s' out c ys ss ⟨e, k1, g1, d1, o1, t1, z1⟩ k g o at1 are pm so => ?_
  · refine CpComb.collect_seq a (T := "tuple") (.inr rfl) ho hc hd (by rw [List.size_toArray, ← len, sizeLine_eq]; omega) fun h' z kk => ?_
    exact k { s with heap := h' } _ xs ⟨rfl, kk, rfl, rfl, rfl, rfl, z⟩ (by simpa using rv.strs)
  · subst e
    have I1 : Inv X pins σ H s1 := by
      have z : s1 = { s with heap := s1.heap, toks := s1.toks } := by
        cases s1
        cases s
        cases g1
        cases d1
        cases o1
        rfl
      rw [z]
      exact I.kept k1
    obtain ⟨J, n⟩ := inv_list I1 k g o (Nat.le_refl _) at1 are (by rw [pm.length_eq]; exact few)
    exact ⟨.ref _, _, J, rfl, q ys _ pm so n⟩
end
end L2.Cal
end

section
set_option maxRecDepth 100000
set_option maxHeartbeats 4000000
/-! rows of so many of some texts, in turn; all parts of some texts (pure) -/
namespace L2.Cal
open PySem PySem.Spec PyProof.Rows L2 CpComb
def pickT (ys : List Str) (l : List Nat) : List Str := l.map fun i => ys.getD i ⟨#[]⟩
def cmbT : Nat → List Str → List (List Str)
  | 0, _ => [[]]
  | _ + 1, [] => []
  | r + 1, a :: l => (cmbT r l).map (a :: ·) ++ cmbT (r + 1) l
termination_by structural _ l => l
theorem cmbT_zero (l : List Str) : cmbT 0 l = [[]] := by cases l <;> rfl
theorem cmbT_short : ∀ {r : Nat} {l : List Str}, l.length < r → cmbT r l = []
  | 0, _, h => absurd h (Nat.not_lt_zero _)
  | _ + 1, [], _ => rfl
  | r + 1, a :: l, h => by
    rw [List.length_cons] at h
    show (cmbT r l).map (a :: ·) ++ cmbT (r + 1) l = []
    rw [cmbT_short (by omega), cmbT_short (by omega)] <;> rfl
theorem cmb_T (ys : List Str) : ∀ r k lo, lo + r + k = ys.length → (cmb r k lo).map (pickT ys) = cmbT r (ys.drop lo)
  | 0, k, lo, _ => by simp [cmb, cmbT, pickT]
  | r + 1, 0, lo, h => by
    have hl : lo < ys.length := by omega
    rw [List.drop_eq_getElem_cons hl]
    rw [show cmb (r + 1) 0 lo = (cmb r 0 (lo + 1)).map (lo :: ·) by rw [cmb]]
    show ((cmb r 0 (lo + 1)).map (lo :: ·)).map (pickT ys) = (cmbT r (ys.drop (lo + 1))).map (ys[lo] :: ·) ++ cmbT (r + 1) (ys.drop (lo + 1))
    rw [cmbT_short (r := r + 1) (by rw [List.length_drop]; omega), List.append_nil, ← cmb_T ys r 0 (lo + 1) (by omega), List.map_map, List.map_map]
    refine List.map_congr_left fun l _ => ?_
    show pickT ys (lo :: l) = ys[lo] :: pickT ys l
    unfold pickT
    rw [List.map_cons, List.getD_eq_getElem?_getD, List.getElem?_eq_getElem hl] <;> rfl
  | r + 1, k + 1, lo, h => by
    have hl : lo < ys.length := by omega
    rw [List.drop_eq_getElem_cons hl]
    rw [show cmb (r + 1) (k + 1) lo = (cmb r (k + 1) (lo + 1)).map (lo :: ·) ++ cmb (r + 1) k (lo + 1) by rw [cmb]]
    show ((cmb r (k + 1) (lo + 1)).map (lo :: ·) ++ cmb (r + 1) k (lo + 1)).map (pickT ys) = (cmbT r (ys.drop (lo + 1))).map (ys[lo] :: ·) ++ cmbT (r + 1) (ys.drop (lo + 1))
    rw [List.map_append, cmb_T ys (r + 1) k (lo + 1) (by omega), ← cmb_T ys r (k + 1) (lo + 1) (by omega), List.map_map, List.map_map]
    refine congrArg (· ++ _) (List.map_congr_left fun l _ => ?_)
    show pickT ys (lo :: l) = ys[lo] :: pickT ys l
    unfold pickT
    rw [List.map_cons, List.getD_eq_getElem?_getD, List.getElem?_eq_getElem hl] <;> rfl
theorem cmbW_T (ys : List Str) (r : Nat) : (cmbW (ys.map V.str) r).map (pickT ys) = cmbT r ys := by
  unfold cmbW cmbV
  rw [List.length_map]
  by_cases h : r ≤ ys.length
  · rw [if_pos h, cmb_T ys r (ys.length - r) 0 (by omega), List.drop_zero]
  · rw [if_neg h, cmbT_short (by omega)] <;> rfl
theorem cmbW_pick {ys : List Str} {r : Nat} {l : List Nat} (h : l ∈ cmbW (ys.map V.str) r) : pickV (ys.map V.str) l = (pickT ys l).map V.str := by
  unfold cmbW cmbV at h
  rw [List.length_map] at h
  split at h
  · have hb := (mem_cmb.mp h).2.2
    unfold pickV pickT
    rw [List.map_map]
    refine List.map_congr_left fun i hi => ?_
    have := (hb i hi).2
    have hl : i < ys.length := by omega
    show (ys.map V.str).getD i .non = V.str (ys.getD i ⟨#[]⟩)
    rw [List.getD_eq_getElem?_getD, List.getElem?_map, List.getElem?_eq_getElem hl, List.getD_eq_getElem?_getD, List.getElem?_eq_getElem hl] <;> rfl
  · cases h
theorem mem_cmbT : ∀ {r : Nat} {l s : List Str}, s ∈ cmbT r l ↔ s.Sublist l ∧ s.length = r
  | 0, l, s => by
    rw [cmbT_zero, List.mem_singleton, List.length_eq_zero_iff]
    exact ⟨fun h => ⟨by rw [h]; exact List.nil_sublist _, h⟩, fun h => h.2⟩
  | r + 1, [], s => by
    show s ∈ [] ↔ _
    refine ⟨(fun h => by cases h), fun ⟨h1, h2⟩ => ?_⟩
    rw [List.eq_nil_of_sublist_nil h1] at h2
    cases h2
  | r + 1, a :: l, s => by
    show s ∈ (cmbT r l).map (a :: ·) ++ cmbT (r + 1) l ↔ _
    rw [List.mem_append, List.mem_map, mem_cmbT (r := r + 1) (l := l), List.sublist_cons_iff]
    constructor
    · rintro (⟨t, ht, rfl⟩ | ⟨h1, h2⟩)
      · obtain ⟨h1, h2⟩ := mem_cmbT.mp ht
        exact ⟨.inr ⟨t, rfl, h1⟩, by rw [List.length_cons, h2]⟩
      · exact ⟨.inl h1, h2⟩
    · rintro ⟨h1 | ⟨t, rfl, h1⟩, h2⟩
      · exact .inr ⟨h1, h2⟩
      · exact .inl ⟨t, mem_cmbT.mpr ⟨h1, by rw [List.length_cons] at h2; omega⟩, rfl⟩
theorem ltT_cons {x y : Str} {xs ys : List Str} : ltT (x :: xs) (y :: ys) = if x = y then ltT xs ys else decide (x.cps.toList < y.cps.toList) := rfl
/-- they ascend -/
theorem cmbT_up : ∀ {r : Nat} {l : List Str}, l.Pairwise Below → (cmbT r l).Pairwise (fun s t => ltT s t = true)
  | 0, l, _ => by rw [cmbT_zero]; exact List.pairwise_singleton _ _
  | _ + 1, [], _ => .nil
  | r + 1, a :: l, h => by
    obtain ⟨h1, h2⟩ := List.pairwise_cons.mp h
    show ((cmbT r l).map (a :: ·) ++ cmbT (r + 1) l).Pairwise _
    refine List.pairwise_append.mpr ⟨?_, cmbT_up h2, fun s hs t ht => ?_⟩
    · refine List.pairwise_map.mpr ((cmbT_up (r := r) h2).imp fun {s t} e => ?_)
      rw [ltT_cons, if_pos rfl]
      exact e
    · obtain ⟨s', _, rfl⟩ := List.mem_map.mp hs
      obtain ⟨t1, t2⟩ := mem_cmbT.mp ht
      cases t with
      | nil => cases t2
      | cons b t' =>
        have hb := h1 b (t1.subset List.mem_cons_self)
        rw [ltT_cons, if_neg fun e => below_irr (e ▸ hb)]
        exact decide_eq_true (below_lt.mp hb)
/-! ### all parts -/
def prt (ys : List Str) : List (List Str) := ys.foldl (fun acc w => acc ++ acc.map (· ++ [w])) [[]]
theorem prt_snoc (l : List Str) (w : Str) : prt (l ++ [w]) = prt l ++ (prt l).map (· ++ [w]) := by
  unfold prt
  rw [List.foldl_append] <;> rfl
theorem prt_all : ∀ (n : Nat) (l : List Str), l.length = n → (∀ s, s ∈ prt l ↔ s.Sublist l) ∧ (l.Nodup → (prt l).Nodup) ∧ (prt l).length = 2 ^ n ∧ ∃ ini, prt l = ini ++ [l] ∧ ∀ s ∈ ini, s.length < l.length
  | 0, l, h => by
    have := List.length_eq_zero_iff.mp h
    subst this
    refine ⟨fun s => ?_, fun _ => by simp [prt], rfl, [], rfl, fun s hs => by cases hs⟩
    show s ∈ [[]] ↔ _
    rw [List.mem_singleton, List.sublist_nil]
  | n + 1, l, h => by
    have hne : l ≠ [] := fun e => by rw [e] at h; cases h
    obtain ⟨l', w, rfl⟩ : ∃ l' w, l = l' ++ [w] := ⟨l.dropLast, l.getLast hne, (List.dropLast_concat_getLast hne).symm⟩
    have hl : l'.length = n := by rw [List.length_append] at h; simpa using h
    obtain ⟨m, nd, len, ini, ei, hi⟩ := prt_all n l' hl
    rw [prt_snoc]
    refine ⟨fun s => ?_, fun hn => ?_, ?_, prt l' ++ ini.map (· ++ [w]), ?_, fun s hs => ?_⟩
    · rw [List.mem_append, m, List.mem_map, List.sublist_append_iff]
      constructor
      · rintro (h | ⟨t, ht, rfl⟩)
        · exact ⟨s, [], by simp, h, List.nil_sublist _⟩
        · exact ⟨t, [w], rfl, (m t).mp ht, List.Sublist.refl _⟩
      · rintro ⟨t, u, rfl, h1, h2⟩
        rcases List.sublist_cons_iff.mp h2 with h | ⟨v, rfl, h⟩
        · rw [List.eq_nil_of_sublist_nil h, List.append_nil]
          exact .inl h1
        · rw [List.eq_nil_of_sublist_nil h]
          exact .inr ⟨t, (m t).mpr h1, rfl⟩
    · obtain ⟨h1, _, h3⟩ := List.nodup_append.mp hn
      refine List.nodup_append.mpr ⟨nd h1, ?_, fun s hs t ht e => ?_⟩
      · exact List.pairwise_map.mpr ((nd h1).imp fun {s t} ne e => ne (List.append_inj_left' e rfl))
      · obtain ⟨u, _, rfl⟩ := List.mem_map.mp ht
        have hw : w ∈ l' := ((m s).mp hs).subset (by rw [e]; simp)
        exact h3 w hw w (List.mem_singleton.mpr rfl) rfl
    · rw [List.length_append, List.length_map, len, Nat.pow_succ]
      omega
    · rw [ei, List.map_append, ← List.append_assoc] <;> rfl
    · rw [List.length_append]
      show s.length < l'.length + 1
      rcases List.mem_append.mp hs with h | h
      · have := ((m s).mp h).length_le
        omega
      · obtain ⟨u, hu, rfl⟩ := List.mem_map.mp h
        have := hi u hu
        rw [List.length_append]
        show u.length + 1 < l'.length + 1
        omega
theorem prt_in {l s : List Str} : s ∈ prt l ↔ s.Sublist l := (prt_all _ l rfl).1 s
theorem prt_nd {l : List Str} (h : l.Nodup) : (prt l).Nodup := (prt_all _ l rfl).2.1 h
theorem prt_len (l : List Str) : (prt l).length = 2 ^ l.length := (prt_all _ l rfl).2.2.1
theorem prt_less {l s : List Str} : s ∈ (prt l).dropLast ↔ s.Sublist l ∧ s.length < l.length := by
  obtain ⟨m, _, _, ini, ei, hi⟩ := prt_all _ l rfl
  have e : (prt l).dropLast = ini := by rw [ei, List.dropLast_concat]
  rw [e]
  constructor
  · intro h
    exact ⟨(m s).mp (by rw [ei]; exact List.mem_append_left _ h), hi s h⟩
  · rintro ⟨h1, h2⟩
    have := (m s).mpr h1
    rw [ei] at this
    rcases List.mem_append.mp this with h | h
    · exact h
    · rw [List.mem_singleton.mp h] at h2
      exact absurd h2 (Nat.lt_irrefl _)
end L2.Cal
end

section
set_option maxRecDepth 100000
set_option maxHeartbeats 4000000
set_option synthInstance.maxHeartbeats 400000
/-! orders that break all wheels -/
namespace L2.Cal
open PySem PySem.Spec PyProof.Rows L2 CpComb
abbrev sBrk : Stmt := topS 33
abbrev nBrk : List Str := ["out", "wheels", "wheel", "order"]
theorem scBrk : FnScope nBrk ["out", "wheels"] (defScope sBrk) := ⟨rfl, rfl, rfl, by decide +kernel, rfl, by decide +kernel, by decide +kernel⟩
abbrev sWay : Stmt := topS 34
abbrev nWay : List Str := ["orders", "wheels", "many", "out"]
theorem scWay : FnScope nWay ["orders", "wheels", "many"] (defScope sWay) := ⟨rfl, rfl, rfl, by decide +kernel, rfl, by decide +kernel, by decide +kernel⟩
/-- tuples of texts -/
def TextsAt (H : Hp) (vs : List V) (ts : List (List Str)) : Prop := ∃ bs : List (Addr × List Str), vs = bs.map (fun b => V.ref b.1) ∧ bs.map (·.2) = ts ∧ ∀ b ∈ bs, H b.1 = some (.tup (b.2.map V.str))
theorem TextsAt.same {H H' : Hp} {vs : List V} {ts : List (List Str)} (h : TextsAt H vs ts) (s : Same H H') : TextsAt H' vs ts := by
  obtain ⟨bs, e1, e2, hb⟩ := h
  exact ⟨bs, e1, e2, fun b m => s _ _ (hb b m)⟩
theorem TextsAt.app {H : Hp} {vs ws : List V} {ps qs : List (List Str)} (h : TextsAt H vs ps) (g : TextsAt H ws qs) : TextsAt H (vs ++ ws) (ps ++ qs) := by
  obtain ⟨bs, rfl, rfl, hb⟩ := h
  obtain ⟨cs, rfl, rfl, hc⟩ := g
  refine ⟨bs ++ cs, by rw [List.map_append], by rw [List.map_append], fun b m => ?_⟩
  rcases List.mem_append.mp m with m | m
  · exact hb b m
  · exact hc b m
theorem TextsAt.len {H : Hp} {vs : List V} {ps : List (List Str)} (h : TextsAt H vs ps) : vs.length = ps.length := by
  obtain ⟨bs, rfl, rfl, _⟩ := h
  rw [List.length_map, List.length_map]
theorem TextsAt.nil {H : Hp} : TextsAt H [] [] := ⟨[], rfl, rfl, fun b h => by cases h⟩
theorem TextsAt.one {H : Hp} {a : Addr} {t : List Str} (h : H a = some (.tup (t.map V.str))) : TextsAt H [.ref a] [t] := ⟨[(a, t)], rfl, rfl, fun b m => by rw [List.mem_singleton.mp m]; exact h⟩
theorem TextsAt.get {H : Hp} {vs : List V} {ts : List (List Str)} (h : TextsAt H vs ts) {k : Nat} {v : V} (hv : vs[k]? = some v) : ∃ a t, v = .ref a ∧ ts[k]? = some t ∧ H a = some (.tup (t.map V.str)) := by
  obtain ⟨bs, rfl, rfl, hb⟩ := h
  rw [List.getElem?_map] at hv
  obtain ⟨b, hk, rfl⟩ := Option.map_eq_some_iff.mp hv
  exact ⟨b.1, b.2, rfl, by rw [List.getElem?_map, hk] <;> rfl, hb b (List.mem_of_getElem? hk)⟩
/-- what is appended to a list beside the tuples -/
theorem TextsAt.keep {H H' : Hp} {D : Addr} {vs us : List V} {ts : List (List Str)} {o : HO} (h : TextsAt H vs ts) (eD : H D = some (.lst us)) (s : Same H H') : TextsAt (upd H' D o) vs ts := by
  obtain ⟨bs, e1, e2, hb⟩ := h
  refine ⟨bs, e1, e2, fun b m => ?_⟩
  have := hb b m
  rw [upd_ne (fun z => by rw [z, eD] at this; cases this)]
  exact s _ _ this
theorem in_lst (z : Str) (L : List Str) : inV (.str z) (L.map V.str) = decide (z ∈ L) := by
  unfold inV
  rw [List.any_map, Bool.eq_iff_iff, List.any_eq_true, decide_eq_true_iff]
  constructor
  · rintro ⟨o, ho, e⟩
    have : o = z := eq_of_beq e
    exact this ▸ ho
  · exact fun h => ⟨z, h, beq_iff_eq.mpr rfl⟩
theorem flat_strs (L : List Str) : (L.map V.str).all flatV = true := by
  rw [List.all_map, List.all_eq_true]
  exact fun _ _ => rfl
/-- whether some orders break all wheels -/
def hitB (ws : List (List Str)) (out : List Str) : Bool := ws.all fun w => !(w.all fun o => !decide (o ∈ out))
def wayT (ys : List Str) (ws : List (List Str)) (m : Nat) : List (List Str) := (cmbT m ys).filter (hitB ws)
theorem cmbT_len : ∀ (r : Nat) (l : List Str), (cmbT r l).length ≤ 2 ^ l.length
  | 0, l => by rw [cmbT_zero]; exact Nat.one_le_two_pow
  | _ + 1, [] => Nat.zero_le _
  | r + 1, a :: l => by
    have h1 := cmbT_len r l
    have h2 := cmbT_len (r + 1) l
    show ((cmbT r l).map (a :: ·) ++ cmbT (r + 1) l).length ≤ 2 ^ (l.length + 1)
    rw [List.length_append, List.length_map, Nat.pow_succ]
    omega
def spBrk (K : PySem.W.Frag) : Sp := fun vs H Q _ => ∃ (t a : Addr) (out : List Str) (us : List V) (ws : List (List Str)), vs = [.ref t, .ref a] ∧ SqT K H t (out.map V.str) ∧ H a = some (.lst us) ∧ TextsAt H us ws ∧ (∀ w ∈ ws, w.length ≤ 10) ∧
  ∀ H', Same H H' → Q (.bl (hitB ws out)) H'
def spWay (K : PySem.W.Frag) : Sp := fun vs H Q _ => ∃ (o a : Addr) (m : Nat) (ys : List Str) (us : List V) (ws : List (List Str)), vs = [.ref o, .ref a, .int m] ∧ H o = some (.lst (ys.map V.str)) ∧ H a = some (.lst us) ∧ TextsAt H us ws ∧ (∀ w ∈ ws, w.length ≤ 10) ∧ ys.length ≤ 12 ∧ m ≤ 100 ∧
  ∀ (p : Addr) (H' : Hp) (vs' : List V), Same H H' → H p = none → H' p = some (.lst vs') → TextsAt H' vs' (wayT ys ws m) → Q (.ref p) H'
section
variable {P : Program} {w : World} {K : PySem.W.Frag} {mg : Str → Option Value} {base : Heap} {C : Addr}
theorem ok_brk {f : Addr} {fd : FuncData} (D : DefAt K mg "breaks_all" sBrk ["out", "wheels"] f fd) (T : Txt mg) : FnOk P w K mg base CX0 1 f fd ["out", "wheels"] (spBrk K) := by
  refine D.F.ok scBrk (fun vs H Q E h => ?_) (fun cdv A outer sh H vs Q E hr h => ?_)
  · obtain ⟨t, a, out, us, ws, rfl, _⟩ := h
    rfl
  · obtain ⟨t, a, out, us, ws, rfl, ht, ha, ta, w10, q⟩ := h
    refine ⟨_, (pss_cons (ps_for PassesOwn.never rfl (pi_list (pv 1)) (pg_name (i := 2) scBrk.nd rfl (.inl rfl))
        (pss_one (ps_if (pt_val (pe_callB (cr_all rfl) (by rfl) T.b_all (by decide +kernel) (pa_cons (pe_lc (own := [("order", 3)]) (g := gName 3) (tt := tYes) rfl scBrk.nd (pi_tup (pv 2)) (blkOk_by (own := [("order", 3)]) (N := nBrk) (sc := defScope sBrk) (by decide +kernel))
            (fun _ _ _ _ _ => pg_name (i := 3) scBrk.nd rfl (Or.inl rfl)) (fun _ _ _ _ _ => pts_nil) (fun _ _ _ _ _ => pe_cmpR (show OpR _ _ (rIn K true) from op_notIn_seq) (pv 3) (pv 0) (by rfl))) pa_nil))) (pss_one (ps_ret pe_bl)) pss_nil)))
      (pss_one (ps_ret pe_bl))), ?_⟩
    refine ⟨_, rfl, a, rfl, ⟨_, SqL.of ha⟩, for_list (K := K) (a := a) (xs := us) (fun k σ H' => ∃ v2 v3, σ = [some (.ref t), some (.ref a), v2, v3] ∧ Same H H' ∧ hitB (ws.take k) out = true) ⟨_, _, rfl, fun _ _ e => e, rfl⟩ (fun k σ H' _ hP => ?_) (fun k v σ H1 hv hP => ?_) (fun σ H1 hP => ?_)⟩
    · obtain ⟨_, _, _, s, _⟩ := hP
      exact SqL.of (s _ _ ha)
    · obtain ⟨v2, v3, rfl, s1, hb⟩ := hP
      obtain ⟨qq, wl, rfl, hw, eqq⟩ := (ta.same s1).get hv
      have tk : ws.take (k + 1) = ws.take k ++ [wl] := by rw [List.take_succ, hw, Option.toList_some]
      have l10 := w10 wl (List.mem_of_getElem? hw)
      refine ⟨_, rfl, qq, rfl, ⟨_, SqT.of eqq⟩, fun D nD => lc_tup (K := K) (a := qq) (xs := wl.map V.str) (fun j H' => Same H1 H' ∧ H' D = some (.lst (((wl.take j).map fun o => !decide (o ∈ out)).map V.bl))) ⟨same_new nD, upd_same⟩ (fun j H' _ hP => SqT.of (hP.1 _ _ eqq)) (fun j x H2 hx hP => ?_) (fun H2 hP => ?_)⟩
      · obtain ⟨s2, e2⟩ := hP
        rw [List.getElem?_map] at hx
        obtain ⟨o, ho, rfl⟩ := Option.map_eq_some_iff.mp hx
        refine ⟨rfl, _, rfl, _, rfl, t, _, rfl, .inr (same_seqT ht (s1.trans s2)), rfl, flat_strs out, _, e2, ?_, fun b u h => ?_, ?_⟩
        · rw [List.length_map, List.length_map, List.length_take, sizeLine_eq]
          omega
        · rw [upd_ne (ne_of_none h nD)]
          exact s2 _ _ h
        · rw [upd_same, List.take_succ, ho, Option.toList_some, List.map_append, List.map_append]
          show some (HO.lst (_ ++ [V.bl (!inV (.str o) (out.map V.str))])) = _
          rw [in_lst] <;> rfl
      · obtain ⟨s2, e2⟩ := hP
        rw [List.length_map, List.take_length] at e2
        refine ⟨D, wl.map fun o => !decide (o ∈ out), rfl, SqL.of e2, _, rfl, ite2 (fun c => ?_) (fun c => ?_)⟩
        · have c2 : (wl.all fun o => !decide (o ∈ out)) = true := by
            rw [List.all_map] at c
            exact c
          have : hitB ws out = false := by
            refine Bool.eq_false_iff.mpr fun h => ?_
            have := List.all_eq_true.mp h wl (List.mem_of_getElem? hw)
            rw [c2] at this
            cases this
          have q2 := q _ (s1.trans s2)
          rw [this] at q2
          exact q2
        · have c2 : (wl.all fun o => !decide (o ∈ out)) = false := by
            rw [List.all_map] at c
            exact Bool.eq_false_iff.mpr c
          refine ⟨_, _, rfl, s1.trans s2, ?_⟩
          unfold hitB at hb ⊢
          rw [tk, List.all_append, hb, List.all_cons, c2] <;> rfl
    · obtain ⟨v2, v3, rfl, s1, hb⟩ := hP
      have q2 := q _ s1
      rw [ta.len, List.take_length] at hb
      rw [hb] at q2
      exact q2
theorem ok_way {f fB : Addr} {fd fdB : FuncData} (D : DefAt K mg "ways_out" sWay ["orders", "wheels", "many"] f fd) (DB : DefAt K mg "breaks_all" sBrk ["out", "wheels"] fB fdB) (hcb : mg "combinations" = some (.type "itertools.combinations")) (T : Txt mg) : FnOk P w K mg base CX0 2 f fd ["orders", "wheels", "many"] (spWay K) := by
  have GB : FnOk P w K mg base CX0 1 fB fdB ["out", "wheels"] (spBrk K) := ok_brk DB T
  refine D.F.ok scWay (fun vs H Q E h => ?_) (fun cdv A outer sh H vs Q E hr h => ?_)
  · obtain ⟨o, a, m, ys, us, ws, rfl, _⟩ := h
    rfl
  · obtain ⟨o, a, m, ys, us, ws, rfl, ho, ha, ta, w10, few, m100, q⟩ := h
    refine ⟨_, pss_one (ps_ret (pe_lc (own := [("out", 3)]) (g := gName 3) (tt := _) rfl scWay.nd (pi_combW (by rfl) hcb (by rfl) (pa_cons (pv 0) (pa_cons (pv 2) pa_nil))) (blkOk_by (own := [("out", 3)]) (N := nWay) (sc := defScope sWay) (by decide +kernel))
      (fun _ _ _ _ _ => pg_name (i := 3) scWay.nd rfl (Or.inl rfl)) (fun _ _ _ _ _ => pts_one (pt_val (pe_call GB (hr.mono (by decide)) (by rfl) DB.g DB.F.kp DB.b .nil pass0 (pa_cons (pv 3) (pa_cons (pv 1) pa_nil))))) (fun _ _ _ _ _ => pv 3))), ?_⟩
    have pw : 2 ^ ys.length ≤ 4096 := Nat.le_trans (Nat.pow_le_pow_right (by decide) few) (by decide)
    have clen : (cmbW (ys.map V.str) m).length ≤ 4096 := by
      have := cmbT_len m ys
      rw [← cmbW_T, List.length_map] at this
      omega
    refine ⟨_, rfl, _, rfl, .ref o, ys.map V.str, m, rfl, .inr ⟨o, rfl, .inl (SqL.of ho)⟩, by omega, by rw [List.length_map]; omega, fun D nD => lc_it walk_combW (fun k H' => Same H H' ∧ ∃ vs', H' D = some (.lst vs') ∧ TextsAt H' vs' ((((cmbW (ys.map V.str) m).take k).map (pickT ys)).filter (hitB ws)))
      ⟨same_new nD, [], upd_same, .nil⟩ (fun _ _ _ _ => trivial) (fun k v H1 H2 hk hP hY => ?_) (fun H1 hP => ?_)⟩
    · obtain ⟨s1, vs', e1, t1⟩ := hP
      obtain ⟨TT, l, rfl, nT, hl, rfl⟩ := hY
      have tk : (cmbW (ys.map V.str) m).take (k + 1) = (cmbW (ys.map V.str) m).take k ++ [l] := by rw [List.take_succ, hl, Option.toList_some]
      have s2 : Same H1 (upd H1 TT (.tup (pickV (ys.map V.str) l))) := same_new nT
      have eT : (upd H1 TT (.tup (pickV (ys.map V.str) l))) TT = some (.tup ((pickT ys l).map V.str)) := by rw [upd_same, cmbW_pick (List.mem_of_getElem? hl)]
      generalize upd H1 TT (.tup (pickV (ys.map V.str) l)) = H2 at s2 eT
      have S2 := s1.trans s2
      have vl := t1.len
      have vlen : vs'.length ≤ 4096 := by
        rw [vl]
        refine Nat.le_trans (List.length_filter_le _ _) ?_
        rw [List.length_map, List.length_take]
        omega
      refine ⟨rfl, _, rfl, _, rfl, TT, a, pickT ys l, us, ws, rfl, SqT.of eT, S2 _ _ ha, ta.same S2, w10, fun H3 s3' => ⟨_, rfl, ite2 (fun c => ?_) (fun c => ?_)⟩⟩
      · refine ⟨_, rfl, _, s3' _ _ (s2 _ _ e1), by rw [sizeLine_eq]; omega, fun b u h => ?_, _, upd_same, ?_⟩
        · rw [upd_ne (ne_of_none h nD)]
          exact s3' _ _ (S2 _ _ h)
        · have e3 := s3' _ _ (s2 _ _ e1)
          have := ((t1.same (s2.trans s3')).app (TextsAt.one (s3' _ _ eT))).keep (o := .lst (vs' ++ [V.ref TT])) e3 (fun _ _ e => e)
          rw [tk, List.map_append, List.filter_append, List.map_cons, List.map_nil, List.filter_cons, if_pos c]
          exact this
      · refine ⟨S2.trans s3', vs', s3' _ _ (s2 _ _ e1), ?_⟩
        rw [tk, List.map_append, List.filter_append, List.map_cons, List.map_nil, List.filter_cons, if_neg c, List.filter_nil, List.append_nil]
        exact t1.same (s2.trans s3')
    · obtain ⟨s1, vs', e1, t1⟩ := hP
      rw [List.take_length, cmbW_T] at t1
      exact q D H1 vs' s1 nD e1 t1
end
end L2.Cal
end

section
set_option maxRecDepth 100000
set_option maxHeartbeats 4000000
set_option synthInstance.maxHeartbeats 400000
/-! all parts of some orders but the whole -/
namespace L2.Cal
open PySem PySem.Spec PyProof.Rows L2 CpComb
abbrev sPar : Stmt := topS 51
abbrev nPar : List Str := ["_law_lots_here", "_law_found", "_law_word", "_law_some"]
theorem scPar : FnScope nPar ["_law_lots_here"] (defScope sPar) := ⟨rfl, rfl, rfl, by decide +kernel, rfl, by decide +kernel, by decide +kernel⟩
theorem cut_last (xs : List V) : cutV xs none (some (-1)) = xs.dropLast := by
  show (xs.drop 0).take (((-1 : Int) + (xs.length : Int)).toNat - 0) = _
  rw [List.drop_zero, Nat.sub_zero, List.dropLast_eq_take]
  congr 1
  omega
theorem TextsAt.dropLast {H : Hp} {vs : List V} {ts : List (List Str)} (h : TextsAt H vs ts) : TextsAt H vs.dropLast ts.dropLast := by
  obtain ⟨bs, rfl, rfl, hb⟩ := h
  exact ⟨bs.dropLast, by rw [List.map_dropLast], by rw [List.map_dropLast], fun b m => hb b (List.dropLast_subset _ m)⟩
def spPar (K : PySem.W.Frag) : Sp := fun vs H Q _ => ∃ (a : Addr) (ys : List Str), vs = [.ref a] ∧ SqT K H a (ys.map V.str) ∧ ys.length ≤ 8 ∧
  ∀ (p : Addr) (H' : Hp) (vs' : List V), Same H H' → H' p = some (.lst vs') → TextsAt H' vs' (prt ys).dropLast → Q (.ref p) H'
section
variable {P : Program} {w : World} {K : PySem.W.Frag} {mg : Str → Option Value} {base : Heap} {C : Addr}
theorem ok_par {f : Addr} {fd : FuncData} (D : DefAt K mg "_law_parts" sPar ["_law_lots_here"] f fd) (T : Txt mg) : FnOk P w K mg base CX0 1 f fd ["_law_lots_here"] (spPar K) := by
  refine D.F.ok scPar (fun vs H Q E h => ?_) (fun cdv A outer sh H vs Q E hr h => ?_)
  · obtain ⟨a, ys, rfl, _⟩ := h
    rfl
  · obtain ⟨a, ys, rfl, ha, few, q⟩ := h
    refine ⟨_, (pss_cons (ps_set (i := 1) scPar.nd rfl (.inl rfl) (pe_lstS (pa_cons (pe_tupS pa_nil) pa_nil)))
      (pss_cons (ps_for PassesOwn.never rfl (pi_tup (pv 0)) (pg_name (i := 2) scPar.nd rfl (.inr rfl))
        (pss_one (ps_set (i := 1) scPar.nd rfl (.inl rfl) (pe_op op_catS (pv 1) (pe_lc (own := [("_law_some", 3)]) (g := gName 3) (tt := tYes) rfl scPar.nd (pi_list (pv 1)) (blkOk_by (own := [("_law_some", 3)]) (N := nPar) (sc := defScope sPar) (by decide +kernel))
          (fun _ _ _ _ _ => pg_name (i := 3) scPar.nd rfl (Or.inl rfl)) (fun _ _ _ _ _ => pts_nil) (fun _ _ _ _ _ => show PE _ _ (tOp (rCatA K) (tVar 3) (tTupS (tCons (tVar 2) tNil))) from pe_op op_catA (pv 3) (pe_tupS (pa_cons (pv 2) pa_nil))))))))
      (pss_one (ps_ret (pe_slice sl_list (pv 1) po_none (po_some (pe_un un_neg pe_int))))))), ?_⟩
    have lim : ∀ {n : Nat}, n ≤ 1000 → n ≤ sizeLine := fun h => by rw [sizeLine_eq]; omega
    have plen : ∀ k, k ≤ 8 → ∀ zs : List Str, zs.length = k → (prt zs).length ≤ 256 := fun k hk zs hz => by
      rw [prt_len, hz]
      exact Nat.le_trans (Nat.pow_le_pow_right (by decide) hk) (by decide)
    refine ⟨lim (show 0 ≤ 1000 by decide), fun T0 H0 s0 n0 e0 => ⟨lim (show 1 ≤ 1000 by decide), fun F0 H1 s1 n1 e1 => ⟨_, rfl, a, rfl, ⟨_, same_seqT ha (s0.trans s1)⟩, for_tup (K := K) (a := a) (xs := ys.map V.str) (fun k σ H' => ∃ (F : Addr) (us : List V) (v2 v3 : Option V), σ = [some (.ref a), some (.ref F), v2, v3] ∧ Same H H' ∧ H' F = some (.lst us) ∧ TextsAt H' us (prt (ys.take k)))
      ⟨F0, _, _, _, rfl, s0.trans s1, e1, TextsAt.one (s1 _ _ e0)⟩ (fun k σ H' _ hP => ?_) (fun k v σ H2 hv hP => ?_) (fun σ H2 hP => ?_)⟩⟩⟩
    · obtain ⟨_, _, _, _, _, s, _⟩ := hP
      exact same_seqT ha s
    · obtain ⟨F, us, v2, v3, rfl, s2, e2, t2⟩ := hP
      rw [List.getElem?_map] at hv
      obtain ⟨z, hz, rfl⟩ := Option.map_eq_some_iff.mp hv
      have kl := (List.getElem?_eq_some_iff.mp hz).1
      have tk : ys.take (k + 1) = ys.take k ++ [z] := by rw [List.take_succ, hz, Option.toList_some]
      have lk := plen k (by omega) (ys.take k) (by rw [List.length_take]; omega)
      have ul := t2.len
      refine ⟨_, rfl, _, rfl, F, rfl, ⟨_, SqL.of e2⟩, fun D nD => lc_list (K := K) (a := F) (xs := us) (fun j H' => Same H2 H' ∧ ∃ ws, H' D = some (.lst ws) ∧ TextsAt H' ws (((prt (ys.take k)).take j).map (· ++ [z]))) ⟨same_new nD, [], upd_same, .nil⟩ (fun j H' _ hP => SqL.of (hP.1 _ _ e2)) (fun j v H3 hv2 hP => ?_) (fun H3 hP => ?_)⟩
      · obtain ⟨s3', ws, e3, t3⟩ := hP
        obtain ⟨qq, t, rfl, ht, eqq⟩ := (t2.same s3').get hv2
        have tj : (prt (ys.take k)).take (j + 1) = (prt (ys.take k)).take j ++ [t] := by rw [List.take_succ, ht, Option.toList_some]
        have tsub := (prt_in.mp (List.mem_of_getElem? ht)).length_le
        rw [List.length_take] at tsub
        have wl := t3.len
        rw [List.length_map, List.length_take] at wl
        have done : ∀ (x : Addr) (H4 : Hp), Same H3 H4 → H4 x = some (.tup ((t ++ [z]).map V.str)) → ∃ acc, H4 D = some (.lst acc) ∧ acc.length < sizeLine ∧ Same H2 (upd H4 D (.lst (acc ++ [.ref x]))) ∧ ∃ ws, (upd H4 D (.lst (acc ++ [.ref x]))) D = some (.lst ws) ∧ TextsAt (upd H4 D (.lst (acc ++ [.ref x]))) ws (((prt (ys.take k)).take (j + 1)).map (· ++ [z])) := fun x H4 s4 ex => by
          have e4 := s4 _ _ e3
          refine ⟨ws, e4, by rw [sizeLine_eq]; omega, fun b u h => ?_, _, upd_same, ?_⟩
          · rw [upd_ne (ne_of_none h nD)]
            exact s4 _ _ (s3' _ _ h)
          · have := ((t3.same s4).app (TextsAt.one ex)).keep (o := .lst (ws ++ [V.ref x])) e4 (fun _ _ e => e)
            rw [tj, List.map_append]
            exact this
        refine ⟨rfl, _, rfl, _, rfl, lim (show 1 ≤ 1000 by decide), fun T1 H4 s4 n4 e4 => ⟨qq, T1, t.map V.str, [.str z], rfl, rfl, SqT.of (s4 _ _ eqq), SqT.of e4, ?_, fun h => ?_, (fun _ h => by cases h), fun _ _ p np => ?_⟩⟩
        · rw [List.length_map]
          exact lim (show t.length + 1 ≤ 1000 by omega)
        · have : t = [] := List.map_eq_nil_iff.mp h
          exact done T1 H4 s4 (by rw [e4, this] <;> rfl)
        · exact done p _ (s4.trans (same_new np)) (by rw [upd_same, List.map_append] <;> rfl)
      · obtain ⟨s3', ws, e3, t3⟩ := hP
        rw [ul, List.take_length] at t3
        have wl := t3.len
        rw [List.length_map] at wl
        refine ⟨F, D, _, _, rfl, rfl, s3' _ _ e2, e3, lim (by omega), fun p H4 s4 n4 e4 => ⟨p, _, _, _, rfl, s2.trans (s3'.trans s4), e4, ?_⟩⟩
        rw [tk, prt_snoc]
        exact ((t2.same s3').app t3).same s4
    · obtain ⟨F, us, v2, v3, rfl, s2, e2, t2⟩ := hP
      rw [List.length_map, List.take_length] at t2
      refine ⟨_, rfl, _, rfl, -1, rfl, F, us, rfl, SqL.of e2, fun p np => ?_⟩
      rw [cut_last]
      exact q p _ us.dropLast (s2.trans (same_new np)) upd_same (t2.dropLast.same (same_new np))
end
end L2.Cal
end

section
set_option maxRecDepth 100000
set_option maxHeartbeats 4000000
set_option synthInstance.maxHeartbeats 400000
namespace L2.Cal
open PySem PySem.Spec PyProof.Rows L2
theorem lo_climbs : ∀ ys : List Str, ys.Pairwise Lo → Climbs ys
  | [], _ => trivial
  | [_], _ => trivial
  | a :: b :: r, h => ⟨(List.pairwise_cons.mp h).1 b List.mem_cons_self, lo_climbs (b :: r) (List.pairwise_cons.mp h).2⟩
theorem climbs_sub {ys fs : List Str} (s : ys.Sublist fs) (h : Climbs fs) : Climbs ys := lo_climbs _ ((climbs_lo _ h).sublist s)
theorem eqv_lstrs (ys zs : List Str) : PyData.eqv (.list (ys.map PyData.str)) (.list (zs.map PyData.str)) = decide (ys = zs) := by
  have h := eqv_strs ys zs
  simp only [PyData.eqv] at h ⊢
  exact h
theorem shaped_lstrs (ys : List Str) (ok : ∀ y, y ∈ ys → PyData.strOk y = true) : SeqAt.shaped (.list (ys.map PyData.str)) = true := by
  have h := shaped_strs ys ok
  simp only [SeqAt.shaped, PyData.canLay0, PyData.depth] at h ⊢
  exact h
abbrev sPrt : Stmt := topS 45
theorem scPrt : FnScope ["_law_creek", "_law_lots_here", "_law_found", "_law_each"] ["_law_creek", "_law_lots_here"] (defScope sPrt) := ⟨rfl, rfl, rfl, by decide +kernel, rfl, by decide +kernel, by decide +kernel⟩
theorem jar_ne {H : Hp} {j D : Addr} (J : Jar H j) (n : H D = none) : D ≠ j := fun z => by
  obtain ⟨_, _, _, w, _⟩ := J
  rw [z, w] at n
  cases n
/-- some of a list of texts, in their order -/
def spPrt (K : PySem.W.Frag) : Sp := fun vs H Q _ => ∃ (j m : Addr) (fs : List Str), vs = [.ref j, .ref m] ∧ Jar H j ∧ m ≠ j ∧ SqL K H m (fs.map V.str) ∧ 0 < fs.length ∧ fs.length ≤ 32 ∧ (∀ z ∈ fs, PyData.strOk z = true) ∧
  ∀ (ys : List Str) (p : Addr) (H' : Hp), Kp j H H' → Jar H' j → H p = none → H' p = some (.tup (ys.map V.str)) → ys.Sublist fs → 0 < ys.length → Q (.ref p) H'
section
variable {P : Program} {w : World} {K : PySem.W.Frag} {mg : Str → Option Value} {base : Heap}
theorem ok_prt {f fD fS : Addr} {fd fdD fdS : FuncData} (D : DefAt K mg "_law_part" sPrt ["_law_creek", "_law_lots_here"] f fd) (DD : DefAt K mg "_law_sip" sSip ["_law_creek", "_law_size"] fD fdD) (DS : DefAt K mg "_law_some_one" sSom ["_law_creek", "_law_menu"] fS fdS) (bd : mg "divmod" = none) (T : Txt mg) :
    FnOk P w K mg base CX0 3 f fd ["_law_creek", "_law_lots_here"] (spPrt K) := by
  have GD : FnOk P w K mg base CX0 1 fD fdD ["_law_creek", "_law_size"] spSip := ok_sip DD bd T
  have GS : FnOk P w K mg base CX0 2 fS fdS ["_law_creek", "_law_menu"] (spSom K) := ok_som DS DD bd T
  refine D.F.ok scPrt (fun vs H Q E h => ?_) (fun cdv A outer sh H vs Q E hr h => ?_)
  · obtain ⟨j, m, fs, rfl, _⟩ := h
    rfl
  · obtain ⟨j, m, fs, rfl, hj, mj, hm, some0, few, oks, q⟩ := h
    have hu := hr.units
    refine ⟨_, pss_cons (ps_setLc (i := 2) (own := [("_law_each", 3)]) (g := gName 3) (tt := _) rfl scPrt.nd rfl rfl (sw_true rfl rfl rfl (by decide +kernel)) (pi_list (pv 1)) (blkOk_by (own := [("_law_each", 3)]) (N := ["_law_creek", "_law_lots_here", "_law_found", "_law_each"]) (sc := defScope sPrt) (by decide +kernel))
        (fun _ _ _ _ _ => pg_name (i := 3) scPrt.nd rfl (Or.inl rfl)) (fun _ _ _ _ _ => pts_one (show PT _ _ (tTest (tOp _ (tCall spSip [] E0 (tCons (tVar 0) (tCons (tC (.int 2)) tNil))) (tC (.int 0)))) from pt_cmpR op_eq (pe_call GD (hr.mono (by decide)) (by rfl) DD.g DD.F.kp DD.b .nil pass0 (pa_cons (pv 0) (pa_cons pe_int pa_nil))) pe_int (nomark _))) (fun _ _ _ _ _ => pv 3))
      (pss_one (ps_ret (pe_callTy call_tuple_of (by rfl) T.b_tuple (by decide +kernel) (pa_cons (pe_ifExp (pt_cmpR (op_neD hu) (pv 2) (pe_lstS pa_nil) (nomark _)) (pv 2) (pe_lstS (pa_cons (pe_call GS (hr.mono (by decide)) (by rfl) DS.g DS.F.kp DS.b .nil pass0 (pa_cons (pv 0) (pa_cons (pv 1) pa_nil))) pa_nil))) pa_nil)))), ?_⟩
    have lim : ∀ {n : Nat}, n ≤ 1000 → n ≤ sizeLine := fun h => by rw [sizeLine_eq]; omega
    refine ⟨_, rfl, m, rfl, ⟨_, hm⟩, fun D nD => lc_list (K := K) (a := m) (xs := fs.map V.str) (fun k H' => Jar H' j ∧ Kp j H H' ∧ ∃ ys : List Str, H' D = some (.lst (ys.map V.str)) ∧ ys.Sublist (fs.take k)) ⟨hj.new nD, Kp.new nD, [], upd_same, List.nil_sublist _⟩ (fun k H' _ hP => hP.2.1.seqL mj hm) (fun k v H1 hv hP => ?_) (fun H1 hP => ?_)⟩
    · obtain ⟨J1, k1, ys, eD, sub⟩ := hP
      rw [List.getElem?_map] at hv
      obtain ⟨z, hz, rfl⟩ := Option.map_eq_some_iff.mp hv
      have Dj : D ≠ j := jar_ne hj nD
      have tk : fs.take (k + 1) = fs.take k ++ [z] := by rw [List.take_succ, hz, Option.toList_some]
      have yl := sub.length_le
      have tl : (fs.take k).length ≤ 32 := by rw [List.length_take]; omega
      refine ⟨rfl, _, rfl, j, 2, rfl, J1, by decide, by decide, fun r H2 r0 r1 k2 J2 => ⟨rfl, _, rfl, ite2 (fun e => ?_) (fun e => ?_)⟩⟩
      · have eD2 := k2 _ _ Dj eD
        refine ⟨_, rfl, _, eD2, by rw [List.length_map, sizeLine_eq]; omega, ?_⟩
        refine ⟨?_, fun b o n e => ?_, ys ++ [z], by rw [upd_same, List.map_append] <;> rfl, by rw [tk]; exact sub.append (List.Sublist.refl _)⟩
        · obtain ⟨d, s, c, ej, r⟩ := J2
          exact ⟨d, s, c, by rw [upd_ne Dj.symm]; exact ej, r⟩
        · rw [upd_ne (ne_of_none e nD)]
          exact (k1.trans k2) b o n e
      · exact ⟨J2, k1.trans k2, ys, k2 _ _ Dj eD, by rw [tk]; exact sub.trans (List.sublist_append_left _ _)⟩
    · obtain ⟨J1, k1, ys, eD, sub⟩ := hP
      rw [List.length_map, List.take_length] at sub
      have Dj : D ≠ j := jar_ne hj nD
      have yl := sub.length_le
      have oky : ∀ z ∈ ys, PyData.strOk z = true := fun z hz => oks z (sub.subset hz)
      refine ⟨_, rfl, lim (show 0 ≤ 1000 by decide), fun l0 H3 s3 n3 e3 => ⟨.list (ys.map PyData.str), .list (([] : List Str).map PyData.str), .lst (SqL.of (s3 _ _ eD)) (dp_strs ys), .lst (SqL.of e3) .nil, shaped_lstrs ys oky, by decide +kernel, ?_⟩⟩
      rw [eqv_lstrs]
      have J3 := J1.same s3
      have k3 : Kp j H H3 := k1.trans (.of s3)
      have free : ∀ {t : Addr} {H' : Hp}, Kp j H H' → Jar H' j → H' t = none → H t = none := fun {t H'} k J n => by
        cases e : H t with
        | none => rfl
        | some o =>
          by_cases c : t = j
          · obtain ⟨_, _, _, q1, _⟩ := J
            rw [c, q1] at n
            cases n
          · rw [k t o c e] at n
            cases n
      by_cases ye : ys = []
      · rw [decide_eq_true ye]
        refine ⟨_, rfl, iteF ⟨_, rfl, _, rfl, j, m, _, rfl, J3, mj, .inl (k3.seqL mj hm), by rw [List.length_map]; exact some0, by rw [List.length_map]; omega, fun i v H4 hv k4 J4 => ⟨lim (show 1 ≤ 1000 by decide), fun l H5 s5 n5 e5 => ?_⟩⟩⟩
        rw [List.getElem?_map] at hv
        obtain ⟨z, hz, rfl⟩ := Option.map_eq_some_iff.mp hv
        have k5 : Kp j H H5 := k3.trans (k4.trans (.of s5))
        have J5 := J4.same s5
        exact ⟨l, _, rfl, .inl ⟨SqL.of e5, fun t nt => q [z] t _ (k5.trans (Kp.new nt)) (J5.new nt) (free k5 J5 nt) upd_same (List.singleton_sublist.mpr (List.mem_of_getElem? hz)) (by simp)⟩⟩
      · rw [decide_eq_false ye]
        refine ⟨_, rfl, iteT ⟨_, rfl, D, _, rfl, .inl ⟨SqL.of (s3 _ _ eD), fun t nt => q ys t _ (k3.trans (Kp.new nt)) (J3.new nt) (free k3 J3 nt) upd_same sub (List.length_pos_iff.mpr ye)⟩⟩⟩
end
end L2.Cal
end

section
set_option maxRecDepth 100000
set_option maxHeartbeats 4000000
/-! cuts of tuples and texts -/
namespace L2.Cal
open PySem PySem.Spec PyProof.Rows L2
theorem sl_j {K : PySem.W.Frag} {H : Hp} {a : Addr} {xs : List V} {lo hi : Option Int} {Q : VK} (e : H a = some (.tup xs)) (q : ∀ b H', Same H H' → H' b = some (.tup (cutV xs lo hi)) → Q (.ref b) H') : rSlA K (.ref a) lo hi H Q := by
  refine ⟨a, xs, rfl, SqT.of e, fun h => q a H (fun _ _ z => z) ?_, fun _ p np => q p _ (same_new np) upd_same⟩
  rw [e]
  unfold cutV
  rw [h.1, h.2, List.drop_zero, Nat.sub_zero, List.take_length]
theorem cut_take (xs : List V) (k : Nat) : cutV xs none (some (k : Int)) = xs.take k := by
  unfold cutV
  rw [HT.sIx_none, HT.sIx_nat, List.drop_zero, Nat.sub_zero]
  rcases Nat.le_total k xs.length with h | h
  · rw [Nat.min_eq_left h]
  · rw [Nat.min_eq_right h, List.take_length, List.take_of_length_le h]
theorem cut_from (z : Str) (k : Nat) : (cutS z (some (k : Int)) none).cps.toList = z.cps.toList.drop k := by
  have l : z.cps.toList.length = z.length := Array.length_toList
  unfold cutS
  rw [HT.sIx_none, HT.sIx_nat, List.toList_toArray]
  refine (List.take_of_length_le ?_).trans ?_
  · rw [List.length_drop, l]; exact Nat.le_refl _
  · rcases Nat.le_total k z.length with h | h
    · rw [Nat.min_eq_left h]
    · rw [Nat.min_eq_right h, List.drop_of_length_le (by omega), List.drop_of_length_le (by omega)]
theorem cut_to (z : Str) (k : Nat) : (cutS z none (some (k : Int))).cps.toList = z.cps.toList.take k := by
  have l : z.cps.toList.length = z.length := Array.length_toList
  unfold cutS
  rw [HT.sIx_none, HT.sIx_nat, List.toList_toArray, List.drop_zero, Nat.sub_zero]
  rcases Nat.le_total k z.length with h | h
  · rw [Nat.min_eq_left h]
  · rw [Nat.min_eq_right h, List.take_of_length_le (by omega), List.take_of_length_le (by omega)]
theorem turn_perm (l : List Nat) (k : Nat) : (l.drop k ++ l.take k).Perm l := by
  have := List.perm_append_comm (l₁ := l.drop k) (l₂ := l.take k)
  rwa [List.take_append_drop] at this
end L2.Cal
end

section
set_option maxRecDepth 100000
set_option maxHeartbeats 4000000
set_option synthInstance.maxHeartbeats 400000
namespace L2.Cal
open PySem PySem.Spec PyProof.Rows L2
abbrev sLts : Stmt := topS 46
theorem scLts : FnScope ["_law_creek", "_law_letters", "_law_most_here", "_law_way", "_law_peaked_here", "_law_word", "_law_turned"] ["_law_creek", "_law_letters", "_law_most_here"] (defScope sLts) := ⟨rfl, rfl, rfl, by decide +kernel, rfl, by decide +kernel, by decide +kernel⟩
/-- a lot of orders of the letters of y -/
def spLts : Sp := fun vs H Q _ => ∃ (j : Addr) (y : Str) (m : Nat), vs = [.ref j, .str y, .int m] ∧ Jar H j ∧ Lett y ∧ 3 ≤ y.cps.size ∧ y.cps.size ≤ 6 ∧ 0 < m ∧ m ≤ 60 ∧
  ∀ (ys : List Str) (p : Addr) (H' : Hp), Kp j H H' → Jar H' j → H' p = some (.tup (ys.map V.str)) → Lot ys y → ys.length ≤ m → Q (.ref p) H'
theorem lot_take {ys : List Str} {y : Str} {k : Nat} (c : Climbs ys) (nd : ys.Nodup) (s : 0 < ys.length) (kin : Kin ys y) (h : 0 < k) : Lot (ys.take k) y :=
  ⟨climbs_sub (List.take_sublist k ys) c, nd.sublist (List.take_sublist k ys), by rw [List.length_take]; omega, fun z hz => kin z (List.mem_of_mem_take hz)⟩
section
variable {P : Program} {w : World} {K : PySem.W.Frag} {mg : Str → Option Value} {base : Heap}
theorem ok_lts {f fD fS fO fA fW fP fR : Addr} {fd fdD fdS fdO fdA fdW fdP fdR : FuncData} (D : DefAt K mg "_law_lots" sLts ["_law_creek", "_law_letters", "_law_most_here"] f fd) (DD : DefAt K mg "_law_sip" sSip ["_law_creek", "_law_size"] fD fdD) (DO : DefAt K mg "_law_some_one" sSom ["_law_creek", "_law_menu"] fO fdO) (DS : DefAt K mg "_law_shuffled" sShu ["_law_creek", "_law_bag"] fS fdS)
    (DA : DefAt K mg "_law_any_lots" sAny ["_law_creek", "_law_letters", "_law_most_here"] fA fdA) (DW : DefAt K mg "_law_walk" sWlk ["_law_creek", "_law_letters"] fW fdW) (DP : DefAt K mg "_law_peaked" sPek ["_law_line_here"] fP fdP) (DR : DefAt K mg "_law_part" sPrt ["_law_creek", "_law_lots_here"] fR fdR) (bd : mg "divmod" = none) (T : Txt mg) :
    FnOk P w K mg base CX0 4 f fd ["_law_creek", "_law_letters", "_law_most_here"] spLts := by
  have GD : FnOk P w K mg base CX0 1 fD fdD ["_law_creek", "_law_size"] spSip := ok_sip DD bd T
  have GS : FnOk P w K mg base CX0 2 fS fdS ["_law_creek", "_law_bag"] spShu := ok_shu DS DD bd T
  have GA : FnOk P w K mg base CX0 3 fA fdA ["_law_creek", "_law_letters", "_law_most_here"] spAny := ok_any DA DD DS bd T
  have GW : FnOk P w K mg base CX0 3 fW fdW ["_law_creek", "_law_letters"] spWlk := ok_wlk DW DD DS bd T
  have GP : FnOk P w K mg base CX0 1 fP fdP ["_law_line_here"] spPek := ok_pek DP T
  have GR : FnOk P w K mg base CX0 3 fR fdR ["_law_creek", "_law_lots_here"] (spPrt K) := ok_prt DR DD DO bd T
  refine D.F.ok scLts (fun vs H Q E h => ?_) (fun cdv A outer sh H vs Q E hr h => ?_)
  · obtain ⟨j, y, m, rfl, _⟩ := h
    rfl
  · obtain ⟨j, y, m, rfl, hj, ly, y3, y6, m0, m60, q⟩ := h
    refine ⟨_, pss_cons (ps_set (i := 3) scLts.nd rfl (.inl rfl) (pe_call GD (hr.mono (by decide)) (by rfl) DD.g DD.F.kp DD.b .nil pass0 (pa_cons (pv 0) (pa_cons pe_int pa_nil))))
      (pss_cons (ps_if (pt_cmpR op_eq (pv 3) pe_int (nomark _)) (pss_one (ps_ret (pe_call GA (hr.mono (by decide)) (by rfl) DA.g DA.F.kp DA.b .nil pass0 (pa_cons (pv 0) (pa_cons (pv 1) (pa_cons (pv 2) pa_nil)))))) pss_nil)
      (pss_cons (ps_if (pt_cmpR op_eq (pv 3) pe_int (nomark _)) (pss_one (ps_ret (pe_slice sl_tupA (pe_callTy call_tuple_of (by rfl) T.b_tuple (by decide +kernel) (pa_cons (pe_sortedSet rfl (by rfl) T.b_sorted (by rfl) T.b_set (pe_call GW (hr.mono (by decide)) (by rfl) DW.g DW.F.kp DW.b .nil pass0 (pa_cons (pv 0) (pa_cons (pv 1) pa_nil)))) pa_nil)) po_none (po_some (pv 2))))) pss_nil)
      (pss_cons (ps_set (i := 4) scLts.nd rfl (.inl rfl) (pe_call GP (hr.mono (by decide)) (by rfl) DP.g DP.F.kp DP.b .nil pass0 (pa_cons (pe_join pe_str (pe_call GS (hr.mono (by decide)) (by rfl) DS.g DS.F.kp DS.b .nil pass0 (pa_cons (pv 0) (pa_cons (pv 1) pa_nil)))) pa_nil)))
      (pss_cons (ps_if (pt_cmpR op_eq (pv 3) pe_int (nomark _)) (pss_one (ps_ret (pe_slice sl_tupA (pe_callTy call_tuple_of (by rfl) T.b_tuple (by decide +kernel) (pa_cons (pv 4) pa_nil)) po_none (po_some (pv 2))))) pss_nil)
      (pss_cons (ps_if (pt_cmpR op_eq (pv 3) pe_int (nomark _)) (pss_one (ps_ret (pe_slice sl_tupA (pe_call GR (hr.mono (by decide)) (by rfl) DR.g DR.F.kp DR.b .nil pass0 (pa_cons (pv 0) (pa_cons (pv 4) pa_nil))) po_none (po_some (pv 2))))) pss_nil)
      (pss_cons (ps_set (i := 5) scLts.nd rfl (.inl rfl) (pe_join pe_str (pe_call GS (hr.mono (by decide)) (by rfl) DS.g DS.F.kp DS.b .nil pass0 (pa_cons (pv 0) (pa_cons (pv 1) pa_nil)))))
      (pss_cons (ps_set (i := 6) scLts.nd rfl (.inl rfl) (pe_lstS (pa_cons (pv 5) (pa_cons (pe_op op_add_str (pe_slice sl_str (pv 5) (po_some pe_int) po_none) (pe_ix ix_str (pv 5) pe_int (fun _ _ => rfl))) (pa_cons (pe_op op_add_str (pe_slice sl_str (pv 5) (po_some pe_int) po_none) (pe_slice sl_str (pv 5) po_none (po_some pe_int))) pa_nil)))))
      (pss_one (ps_ret (pe_slice sl_tupA (pe_callTy call_tuple_of (by rfl) T.b_tuple (by decide +kernel) (pa_cons (pe_sortedSet rfl (by rfl) T.b_sorted (by rfl) T.b_set (pe_op op_catS (pv 6) (pe_callTy call_list_of (by rfl) T.b_list (by decide +kernel) (pa_cons (pe_call GA (hr.mono (by decide)) (by rfl) DA.g DA.F.kp DA.b .nil pass0 (pa_cons (pv 0) (pa_cons (pv 1) (pa_cons pe_int pa_nil)))) pa_nil)))) pa_nil)) po_none (po_some (pv 2)))))))))))), ?_⟩
    have lim : ∀ {n : Nat}, n ≤ 1000 → n ≤ sizeLine := fun h => by rw [sizeLine_eq]; omega
    have yl : y.cps.toList.length = y.cps.size := Array.length_toList
    have oks : ∀ {z : Str}, z.cps.toList.Perm y.cps.toList → PyData.strOk z = true := fun {z} p => by
      unfold PyData.strOk
      rw [← Array.all_toList, List.all_eq_true]
      intro c hc
      have := (ly.perm p).2 c hc
      exact decide_eq_true (by omega)
    have fin : ∀ {H1 : Hp} {a : Addr} {ys : List Str}, Kp j H H1 → Jar H1 j → H1 a = some (.tup (ys.map V.str)) → Climbs ys → ys.Nodup → 0 < ys.length → Kin ys y → rSlA K (.ref a) none (some (m : Int)) H1 Q := fun {H1 a ys} k J e c nd s kin => by
      refine sl_j e fun b H2 s2 eb => ?_
      rw [cut_take, ← List.map_take] at eb
      exact q (ys.take m) b H2 (k.trans (.of s2)) (J.same s2) eb (lot_take c nd s kin m0) (by rw [List.length_take]; omega)
    have kin_mem : ∀ {ys fs : List Str}, (∀ z, z ∈ ys ↔ z ∈ fs) → Kin fs y → Kin ys y := fun m k z hz => k z ((m z).mp hz)
    have pos_mem : ∀ {ys fs : List Str}, (∀ z, z ∈ ys ↔ z ∈ fs) → 0 < fs.length → 0 < ys.length := fun {ys fs} mm f0 => by
      cases ys with
      | cons _ _ => exact Nat.succ_pos _
      | nil =>
        cases fs with
        | nil => exact f0
        | cons f _ => exact absurd ((mm f).mpr List.mem_cons_self) (by simp)
    have two : ∀ {H1 : Hp} {p t : Addr} {ys : List Str}, Kp j H H1 → Jar H1 j → H1 p = none → (upd H1 p (.lst (ys.map V.str))) t = none → Kp j H (upd (upd H1 p (.lst (ys.map V.str))) t (.tup (ys.map V.str))) ∧ Jar (upd (upd H1 p (.lst (ys.map V.str))) t (.tup (ys.map V.str))) j := fun {H1 p t ys} k J np nt =>
      ⟨k.trans ((Kp.new np).trans (Kp.new nt)), (J.new np).new nt⟩
    refine ⟨_, rfl, j, 5, rfl, hj, by decide, by decide, fun way H1 w0 w1 k1 J1 => ?_⟩
    -- any
    refine ⟨_, rfl, rfl, _, rfl, ite2 (fun e => ?_) (fun e => ?_)⟩
    · exact ⟨_, rfl, _, rfl, _, rfl, j, y, m, rfl, J1, by omega, by omega, by omega, fun ys p H2 k2 J2 np ep lo lm => q ys p H2 (k1.trans k2) J2 ep lo (by omega)⟩
    -- a walk
    refine ⟨_, rfl, rfl, _, rfl, ite2 (fun e => ?_) (fun e => ?_)⟩
    · refine ⟨_, rfl, _, rfl, j, y, rfl, J1, by omega, by omega, fun fs l H2 k2 J2 nl el kin f0 fl => ⟨l, fs, rfl, SqL.of el, by omega, fun ys p cl nd mem np => ⟨p, _, rfl, .inl ⟨SqL.of upd_same, fun t nt => ⟨_, rfl, _, rfl, ?_⟩⟩⟩⟩⟩
      obtain ⟨k3, J3⟩ := two (k1.trans k2) J2 np nt
      exact fin k3 J3 upd_same cl nd (pos_mem mem f0) (kin_mem mem kin)
    -- peaked
    refine ⟨⟨_, rfl⟩, _, rfl, _, rfl, j, y, rfl, J1, by omega, fun l2 z H2 k2 J2 n2 e2 pz => ?_⟩
    obtain ⟨sq, sz⟩ := join_sh (K := K) e2 (by rw [perm_size pz]; omega)
    refine ⟨_, l2, signs z, rfl, rfl, .inl sq, sz, ?_⟩
    rw [join_signs]
    have zs := perm_size pz
    refine ⟨z, rfl, pz.nodup_iff.mpr ly.1, by omega, by omega, fun fs l H3 s3 n3 e3 cl nd kin f0 f32 => ?_⟩
    have kin : Kin fs y := fun u hu => (kin u hu).trans pz
    have k3 : Kp j H H3 := k1.trans (k2.trans (.of s3))
    have J3 := J2.same s3
    have lj : l ≠ j := jar_ne J2 n3
    refine ⟨_, rfl, rfl, _, rfl, ite2 (fun e => ?_) (fun e => ?_)⟩
    · refine ⟨_, rfl, l, _, rfl, .inl ⟨SqL.of e3, fun t nt => ⟨_, rfl, _, rfl, ?_⟩⟩⟩
      exact fin (k3.trans (Kp.new nt)) (J3.new nt) upd_same cl nd f0 kin
    refine ⟨_, rfl, rfl, _, rfl, ite2 (fun e => ?_) (fun e => ?_)⟩
    · refine ⟨_, rfl, _, rfl, j, l, fs, rfl, J3, lj, SqL.of e3, f0, f32, fun u hu => oks (kin u hu), fun ys p H4 k4 J4 np ep sub y0 => ⟨_, rfl, _, rfl, ?_⟩⟩
      exact fin (k3.trans k4) J4 ep (climbs_sub sub cl) (nd.sublist sub) y0 (fun u hu => kin u (sub.subset hu))
    -- a word and two turned ones
    refine ⟨⟨_, rfl⟩, _, rfl, _, rfl, j, y, rfl, J3, by omega, fun l4 x H4 k4 J4 n4 e4 px => ?_⟩
    obtain ⟨sq4, sz4⟩ := join_sh (K := K) e4 (by rw [perm_size px]; omega)
    refine ⟨_, l4, signs x, rfl, rfl, .inl sq4, sz4, ?_⟩
    rw [join_signs]
    have xs := perm_size px
    have xl : x.length = x.cps.size := rfl
    have xll : x.cps.toList.length = x.cps.size := Array.length_toList
    have g0 : atI x.cps.toList 0 = some (x.cps.toList.getD 0 0) := atI_nat (j := 0) (by rw [List.getD_eq_getElem?_getD, List.getElem?_eq_getElem (by omega)] <;> rfl)
    have c1 := cutS_length x (some 1) none
    have c2 := cutS_length x (some 2) none
    have c3 := cutS_length x none (some 2)
    have o1 : ∀ c : Nat, (⟨#[c]⟩ : Str).length = 1 := fun _ => rfl
    have k04 : Kp j H H4 := k3.trans k4
    refine ⟨_, rfl, _, rfl, _, rfl, x, rfl, lim (by omega), _, rfl, x, 0, _, rfl, rfl, lim (by omega), g0, _, _, rfl, rfl, lim (by rw [o1]; omega), ?_⟩
    refine ⟨_, rfl, _, rfl, x, rfl, lim (by omega), _, rfl, _, rfl, x, rfl, lim (by omega), _, _, rfl, rfl, lim (by omega), lim (show 3 ≤ 1000 by decide), fun m3 H5 s5 n5 e5 => ?_⟩
    have p1 : (cutS x (some 1) none ++ (⟨#[x.cps.toList.getD 0 0]⟩ : Str)).cps.toList.Perm y.cps.toList := by
      rw [app_cps, show (cutS x (some 1) none).cps.toList = x.cps.toList.drop 1 from cut_from x 1]
      refine List.Perm.trans ?_ px
      cases e : x.cps.toList with
      | nil => rw [e] at xll; simp at xll; omega
      | cons c l => exact List.perm_append_singleton c l
    have p2 : (cutS x (some 2) none ++ cutS x none (some 2)).cps.toList.Perm y.cps.toList := by
      rw [app_cps, show (cutS x (some 2) none).cps.toList = x.cps.toList.drop 2 from cut_from x 2, show (cutS x none (some 2)).cps.toList = x.cps.toList.take 2 from cut_to x 2]
      exact (turn_perm x.cps.toList 2).trans px
    generalize cutS x (some 1) none ++ (⟨#[x.cps.toList.getD 0 0]⟩ : Str) = x1 at p1 e5
    generalize cutS x (some 2) none ++ cutS x none (some 2) = x2 at p2 e5
    have J5 := J4.same s5
    have k05 : Kp j H H5 := k04.trans (.of s5)
    have mj : m3 ≠ j := jar_ne J4 n5
    refine ⟨_, rfl, _, rfl, _, rfl, j, y, 2, rfl, J5, by omega, by decide, by decide, fun zs p H6 k6 J6 np ep lo lm => ⟨p, _, rfl, .inr (SqT.of ep), fun l7 n7 => ?_⟩⟩
    have e67 : (upd H6 l7 (.lst (zs.map V.str))) m3 = some (.lst [.str x, .str x1, .str x2]) := by rw [upd_ne (ne_of_none (k6 _ _ mj e5) n7)]; exact k6 _ _ mj e5
    have k07 : Kp j H (upd H6 l7 (.lst (zs.map V.str))) := k05.trans (k6.trans (Kp.new n7))
    have J7 := J6.new (o := .lst (zs.map V.str)) n7
    refine ⟨m3, l7, _, _, rfl, rfl, e67, upd_same, by rw [List.length_map, sizeLine_eq]; simp only [List.length_cons, List.length_nil]; omega, fun c H8 s8 n8 e8 => ?_⟩
    have e8 : H8 c = some (.lst (([x, x1, x2] ++ zs).map V.str)) := by rw [e8, List.map_append] <;> rfl
    have kin8 : Kin ([x, x1, x2] ++ zs) y := fun u hu => by
      rcases List.mem_append.mp hu with h | h
      · rcases List.mem_cons.mp h with h | h
        · rw [h]; exact px
        · rcases List.mem_cons.mp h with h | h
          · rw [h]; exact p1
          · rw [List.mem_singleton.mp h]; exact p2
      · exact lo.of u h
    refine ⟨c, [x, x1, x2] ++ zs, rfl, SqL.of e8, by rw [List.length_append]; simp only [List.length_cons, List.length_nil]; omega, fun us p9 cl nd mem np9 => ⟨p9, _, rfl, .inl ⟨SqL.of upd_same, fun t nt => ⟨_, rfl, _, rfl, ?_⟩⟩⟩⟩
    obtain ⟨k9, J9⟩ := two (k07.trans (.of s8)) (J7.same s8) np9 nt
    exact fin k9 J9 upd_same cl nd (pos_mem mem (by simp)) (kin_mem mem kin8)
end
end L2.Cal
end

section
set_option maxRecDepth 100000
set_option maxHeartbeats 4000000
set_option synthInstance.maxHeartbeats 400000
namespace L2.Cal
open PySem PySem.Spec PyProof.Rows L2
abbrev sTri : Stmt := topS 47
theorem scTri : FnScope ["_law_letters", "_law_found", "_law_k", "_law_j", "_law_ends", "_law_m"] ["_law_letters"] (defScope sTri) := ⟨rfl, rfl, rfl, by decide +kernel, rfl, by decide +kernel, by decide +kernel⟩
abbrev sUpo : Stmt := topS 48
theorem scUpo : FnScope ["_law_word", "_law_trio", "_law_letter"] ["_law_word", "_law_trio"] (defScope sUpo) := ⟨rfl, rfl, rfl, by decide +kernel, rfl, by decide +kernel, by decide +kernel⟩
/-- three letters, the last one and the middle one fixed, and so on outwards -/
def trj (l : List Nat) (k : Nat) : Nat → List Str
  | 0 => []
  | j + 1 => trj l k j ++ (List.range j).map fun m => s3 (l.getD m 0) (l.getD j 0) (l.getD k 0)
def trk (l : List Nat) : Nat → List Str
  | 0 => []
  | k + 1 => trk l k ++ trj l k k
theorem trj_len (l : List Nat) (k : Nat) : ∀ j, 2 * (trj l k j).length ≤ j * j
  | 0 => Nat.le_refl _
  | j + 1 => by
    have := trj_len l k j
    show 2 * (trj l k j ++ _).length ≤ _
    rw [List.length_append, List.length_map, List.length_range]
    have e : (j + 1) * (j + 1) = j * j + j + j + 1 := by rw [Nat.add_mul, Nat.mul_add]; omega
    omega
theorem trk_len (l : List Nat) : ∀ n, 6 * (trk l n).length ≤ n * n * n
  | 0 => Nat.le_refl _
  | n + 1 => by
    have h1 := trk_len l n
    have h2 := trj_len l n n
    show 6 * (trk l n ++ trj l n n).length ≤ _
    rw [List.length_append]
    have e0 : (n + 1) * (n + 1) = n * n + n + n + 1 := by rw [Nat.add_mul, Nat.mul_add]; omega
    have e : (n + 1) * (n + 1) * (n + 1) = n * n * n + 3 * (n * n) + 3 * n + 1 := by
      rw [e0, Nat.mul_add, Nat.mul_one, Nat.add_mul, Nat.add_mul, Nat.add_mul, Nat.one_mul]
      omega
    omega
theorem trj_in {l : List Nat} {k : Nat} (hk : k < l.length) : ∀ {j : Nat}, j ≤ k → ∀ t ∈ trj l k j, ∃ a b c i0 i1 i2 : Nat, t = s3 a b c ∧ i0 < i1 ∧ i1 < i2 ∧ l[i0]? = some a ∧ l[i1]? = some b ∧ l[i2]? = some c
  | 0, _, t, h => by cases h
  | j + 1, hj, t, h => by
    rcases List.mem_append.mp h with h | h
    · exact trj_in hk (by omega) t h
    · obtain ⟨m, hm, rfl⟩ := List.mem_map.mp h
      rw [List.mem_range] at hm
      exact ⟨_, _, _, m, j, k, rfl, hm, by omega, by rw [List.getD_eq_getElem?_getD, List.getElem?_eq_getElem (by omega)] <;> rfl, by rw [List.getD_eq_getElem?_getD, List.getElem?_eq_getElem (by omega)] <;> rfl, by rw [List.getD_eq_getElem?_getD, List.getElem?_eq_getElem hk] <;> rfl⟩
theorem trk_in {l : List Nat} : ∀ {n : Nat}, n ≤ l.length → ∀ t ∈ trk l n, ∃ a b c i0 i1 i2 : Nat, t = s3 a b c ∧ i0 < i1 ∧ i1 < i2 ∧ l[i0]? = some a ∧ l[i1]? = some b ∧ l[i2]? = some c
  | 0, _, t, h => by cases h
  | n + 1, hn, t, h => by
    rcases List.mem_append.mp h with h | h
    · exact trk_in (by omega) t h
    · exact trj_in (by omega) (Nat.le_refl _) t h
theorem trk_apart {l : List Nat} (nd : l.Nodup) {t : Str} (h : t ∈ trk l l.length) : ∃ a b c, t = s3 a b c ∧ Apart a b c ∧ a ∈ l ∧ b ∈ l ∧ c ∈ l := by
  obtain ⟨a, b, c, i0, i1, i2, rfl, h01, h12, ea, eb, ec⟩ := trk_in (Nat.le_refl _) t h
  obtain ⟨l0, e0⟩ := List.getElem?_eq_some_iff.mp ea
  obtain ⟨l1, e1⟩ := List.getElem?_eq_some_iff.mp eb
  obtain ⟨l2, e2⟩ := List.getElem?_eq_some_iff.mp ec
  have pw := List.pairwise_iff_getElem.mp nd
  refine ⟨a, b, c, rfl, ⟨?_, ?_, ?_⟩, List.mem_of_getElem? ea, List.mem_of_getElem? eb, List.mem_of_getElem? ec⟩
  · rw [← e0, ← e1]; exact pw _ _ l0 l1 h01
  · rw [← e0, ← e2]; exact pw _ _ l0 l2 (by omega)
  · rw [← e1, ← e2]; exact pw _ _ l1 l2 h12
def spTri : Sp := fun vs H Q _ => ∃ z : Str, vs = [.str z] ∧ z.cps.size ≤ 6 ∧ ∀ (ts : List Str) (p : Addr) (H' : Hp), Same H H' → H' p = some (.lst (ts.map V.str)) → ts.Perm (trk z.cps.toList z.cps.size) → Q (.ref p) H'
def spUpo : Sp := fun vs H Q _ => ∃ y x : Str, vs = [.str y, .str x] ∧ y.cps.size ≤ 6 ∧ ∀ H', Same H H' → Q (.str (press y x)) H'
section
variable {P : Program} {w : World} {K : PySem.W.Frag} {mg : Str → Option Value} {base : Heap} {C : Addr}
theorem ok_tri {f : Addr} {fd : FuncData} (D : DefAt K mg "_law_trios" sTri ["_law_letters"] f fd) (T : Txt mg) : FnOk P w K mg base CX0 1 f fd ["_law_letters"] spTri := by
  refine D.F.ok scTri (fun vs H Q E h => ?_) (fun cdv A outer sh H vs Q E hr h => ?_)
  · obtain ⟨z, rfl, _⟩ := h
    rfl
  · obtain ⟨z, rfl, z6, q⟩ := h
    refine ⟨_, pss_cons (ps_set (i := 1) scTri.nd rfl (.inl rfl) (pe_lstS pa_nil))
      (pss_cons (ps_for PassesOwn.never rfl (pi_range1 (by rfl) T.b_range (pa_cons (pe_callB call_len_str (by rfl) T.b_len (by decide +kernel) (pa_cons (pv 0) pa_nil)) pa_nil)) (pg_name (i := 2) scTri.nd rfl (.inl rfl))
        (pss_one (ps_for PassesOwn.never rfl (pi_range1 (by rfl) T.b_range (pa_cons (pv 2) pa_nil)) (pg_name (i := 3) scTri.nd rfl (.inl rfl))
          (pss_cons (ps_set (i := 4) scTri.nd rfl (.inr rfl) (pe_op op_add_str (pe_ix ix_str (pv 0) (pv 3) (fun _ _ => rfl)) (pe_ix ix_str (pv 0) (pv 2) (fun _ _ => rfl))))
          (pss_one (ps_set (i := 1) scTri.nd rfl (.inl rfl) (pe_op op_catS (pv 1) (pe_lc (own := [("_law_m", 5)]) (g := gName 5) (tt := tYes) rfl scTri.nd (pi_range1 (by rfl) T.b_range (pa_cons (pv 3) pa_nil)) (blkOk_by (own := [("_law_m", 5)]) (N := ["_law_letters", "_law_found", "_law_k", "_law_j", "_law_ends", "_law_m"]) (sc := defScope sTri) (by decide +kernel))
            (fun _ _ _ _ _ => pg_name (i := 5) scTri.nd rfl (Or.inl rfl)) (fun _ _ _ _ _ => pts_nil) (fun _ _ _ _ _ => pe_op op_add_str (pe_ix ix_str (pv 0) (pv 5) (fun _ _ => rfl)) (pv 4))))))))))
      (pss_one (ps_ret (pe_callB cr_sortedS (by rfl) T.b_sorted (by decide +kernel) (pa_cons (pv 1) pa_nil))))), ?_⟩
    have lim : ∀ {n : Nat}, n ≤ 1000 → n ≤ sizeLine := fun h => by rw [sizeLine_eq]; omega
    obtain ⟨l, hl⟩ : ∃ l, l = z.cps.toList := ⟨_, rfl⟩
    have ll : l.length = z.cps.size := by rw [hl, Array.length_toList]
    have zl : z.length = z.cps.size := rfl
    have gx : ∀ i : Nat, i < l.length → atI z.cps.toList (0 + (i : Int)) = some (l.getD i 0) := fun i h => by
      rw [Int.zero_add, ← hl]
      exact atI_nat (by rw [List.getD_eq_getElem?_getD, List.getElem?_eq_getElem h] <;> rfl)
    have sm : ∀ n, n ≤ 6 → (trk l n).length ≤ 36 := fun n h => by
      have h1 := trk_len l n
      have h2 : n * n * n ≤ 216 := Nat.le_trans (Nat.mul_le_mul (Nat.mul_le_mul h h) h) (by decide)
      omega
    have sj : ∀ k j, j ≤ 6 → (trj l k j).length ≤ 18 := fun k j h => by
      have h1 := trj_len l k j
      have h2 : j * j ≤ 36 := Nat.le_trans (Nat.mul_le_mul h h) (by decide)
      omega
    refine ⟨lim (show 0 ≤ 1000 by decide), fun F H1 s1 n1 e1 => ⟨_, rfl, z, rfl, lim (by omega), (z.length : Int), rfl, by omega, by omega, for_range (lo := 0) (n := (z.length : Int).toNat) (fun k σ H' => ∃ (F : Addr) (v2 v3 v4 v5 : Option V), σ = [some (.str z), some (.ref F), v2, v3, v4, v5] ∧ Same H H' ∧ H' F = some (.lst ((trk l k).map V.str)))
      ⟨F, _, _, _, _, rfl, s1, e1⟩ (fun k σ H2 hk hP => ?_) (fun σ H2 hP => ?_)⟩⟩
    · obtain ⟨F, v2, v3, v4, v5, rfl, s2, e2⟩ := hP
      have kl : k < l.length := by omega
      have k6 : k ≤ 6 := by omega
      have trz := sm k k6
      refine ⟨_, rfl, 0 + (k : Int), rfl, by omega, by omega, for_range (lo := 0) (n := (0 + (k : Int)).toNat) (fun j σ H' => ∃ (F : Addr) (v3 v4 v5 : Option V), σ = [some (.str z), some (.ref F), some (.int (0 + (k : Int))), v3, v4, v5] ∧ Same H H' ∧ H' F = some (.lst ((trk l k ++ trj l k j).map V.str)))
        ⟨F, _, _, _, rfl, s2, by rw [e2, show trj l k 0 = [] from rfl, List.append_nil]⟩ (fun j σ H3 hj hP => ?_) (fun σ H3 hP => ?_)⟩
      · obtain ⟨F, v3, v4, v5, rfl, s3', e3⟩ := hP
        have jk : j < k := by omega
        have tz := sj k j (by omega)
        refine ⟨_, rfl, _, rfl, z, _, _, rfl, rfl, lim (by omega), gx j (by omega), _, rfl, _, rfl, z, _, _, rfl, rfl, lim (by omega), gx k kl, _, _, rfl, rfl, lim (show 1 + 1 ≤ 1000 by decide), ?_⟩
        refine ⟨_, rfl, _, rfl, 0 + (j : Int), rfl, by omega, by omega, fun D nD => lc_range (lo := 0) (n := (0 + (j : Int)).toNat) (fun m H' => Same H3 H' ∧ H' D = some (.lst (((List.range m).map fun m => s3 (l.getD m 0) (l.getD j 0) (l.getD k 0)).map V.str))) ⟨same_new nD, upd_same⟩ (fun m H4 hm hP => ?_) (fun H4 hP => ?_)⟩
        · obtain ⟨s4, e4⟩ := hP
          refine ⟨rfl, _, rfl, _, rfl, z, _, _, rfl, rfl, lim (by omega), gx m (by omega), _, rfl, _, _, rfl, rfl, lim (show 1 + 2 ≤ 1000 by decide), ?_⟩
          refine ⟨_, e4, by rw [List.length_map, List.length_map, List.length_range, sizeLine_eq]; omega, fun b o h => by rw [upd_ne (ne_of_none h nD)]; exact s4 _ _ h, ?_⟩
          rw [upd_same, List.range_succ, List.map_append, List.map_append] <;> rfl
        · obtain ⟨s4, e4⟩ := hP
          have jt : (0 + (j : Int)).toNat = j := by omega
          rw [jt] at e4
          refine ⟨F, D, _, _, rfl, rfl, s4 _ _ e3, e4, lim (by rw [List.length_map, List.length_append, List.length_map, List.length_map, List.length_range]; omega), fun p H5 s5 n5 e5 => ⟨p, _, _, _, rfl, s3'.trans (s4.trans s5), ?_⟩⟩
          rw [e5, ← List.map_append, List.append_assoc] <;> rfl
      · obtain ⟨F, v3, v4, v5, rfl, s3', e3⟩ := hP
        have kt : (0 + (k : Int)).toNat = k := by omega
        rw [kt] at e3
        exact ⟨F, _, _, _, _, rfl, s3', e3⟩
    · obtain ⟨F, v2, v3, v4, v5, rfl, s2, e2⟩ := hP
      have kt : (z.length : Int).toNat = l.length := by omega
      rw [kt] at e2
      have := sm l.length (by omega)
      refine ⟨_, rfl, F, _, rfl, SqL.of e2, by omega, fun ts p pm so np => q ts p _ (s2.trans (same_new np)) upd_same ?_⟩
      rw [← hl, ← ll]
      exact pm
end
end L2.Cal
end

section
set_option maxRecDepth 100000
set_option maxHeartbeats 4000000
/-! small questions asked of tuples of numbers and texts: none of them shows a search -/
namespace L2.Cal
open PySem PySem.Spec PyProof.Rows L2
section
variable {P : Program} {w : World} {A : Around} {E : Value → Shared → Prop} {s : Shared}
/-- a tuple of numbers and texts -/
abbrev MixT (P : Program) (w : World) (h : Heap) (k : List Key) (b : Addr) : Prop := IsTupleKey (mixKind P w) h k b
def Leaf (v : Value) : Prop := (∃ i t, v = Value.int i t) ∨ ∃ z t, v = Value.str z t
theorem leaves {k : List Key} {vs : List Value} (h : ItemsAre (mixKind P w) k vs) : ∀ v ∈ vs, Leaf v := by
  induction h with
  | nil => exact fun v m => nomatch m
  | cons h1 _ ih =>
    intro v m
    rcases List.mem_cons.mp m with rfl | m
    · rcases keyIs_shape h1 with ⟨i, t, _, e⟩ | ⟨z, t, _, e⟩
      · exact .inl ⟨i, t, e⟩
      · exact .inr ⟨z, t, e⟩
    · exact ih v m
theorem leaf_class {v : Value} (h : Leaf v) (n : Nat) : ofAClassStatement n v = pure false := by
  rcases h with ⟨i, t, rfl⟩ | ⟨z, t, rfl⟩ <;> cases n <;> rfl
/-- a tuple of such is of no class statement -/
theorem mix_class {k : List Key} {b : Addr} {Q : Bool → Shared → Prop} (hk : MixT P w s.heap k b) (q : Q false s) : wpAny (model P w) A (ofAClassStatement 8 (.ref b)) Q E s := by
  have ty := hk.typeIs
  obtain ⟨o, its, n, at_, _, dat, are⟩ := hk
  have lv := leaves are
  unfold ofAClassStatement
  refine wpAny_bind (wpAny_typeOf ty ?_)
  simp only [show (("tuple" : String) == "tuple") = true by decide, if_true, Bool.not_true, Bool.false_eq_true, if_false]
  try refine wpAny_bind (wpAny_pure ?_)
  try simp only [Bool.not_true, Bool.false_eq_true, if_false]
  show wpAny _ _ (seqItems? (.ref b) >>= _) _ _ s
  refine wpAny_bind (wpAny_seqItems at_ dat ?_)
  dsimp only
  refine wpAny_bind ?_
  show wpAny _ _ (forIn its _ _) _ _ s
  rw [← Array.forIn_toList]
  refine wpAny_forIn_list _ (fun l r s' => r.1 = none ∧ s' = s ∧ ∀ v ∈ l, Leaf v) _ (fun v l r s' ⟨e, es, all⟩ => ?_) (fun r s' ⟨e, es, _⟩ => ?_) _ _ ⟨rfl, rfl, lv⟩
  · subst es
    rw [leaf_class (all v List.mem_cons_self)]
    refine wpAny_bind (wpAny_pure ?_)
    simp only [Bool.false_eq_true, if_false]
    exact wpAny_pure ⟨rfl, rfl, fun u m => all u (List.mem_cons_of_mem _ m)⟩
  · subst es
    obtain ⟨r1, r2⟩ := r
    obtain rfl : r1 = none := e
    exact wpAny_pure q
/-- a search among such tuples shows nothing -/
theorem mix_seen {k : List Key} {b : Addr} {ys : List Value} {Q : Bool → Shared → Prop} (hk : MixT P w s.heap k b) (hy : ∀ y ∈ ys, ∃ k' c, y = Value.ref c ∧ MixT P w s.heap k' c) (q : Q false s) : wpAny (model P w) A (searchCouldBeSeen (.ref b) ys) Q E s := by
  unfold searchCouldBeSeen
  refine wpAny_bind (wpAny_forIn_list _ (fun l r s' => r.1 = none ∧ s' = s ∧ ∀ y ∈ l, ∃ k' c, y = Value.ref c ∧ MixT P w s.heap k' c) _ (fun v l r s' ⟨e, es, all⟩ => ?_) (fun r s' ⟨e, es, _⟩ => ?_) _ _ ⟨rfl, rfl, hy⟩)
  · subst es
    have next : ∀ y ∈ l, ∃ k' c, y = Value.ref c ∧ MixT P w s'.heap k' c := fun u m => all u (List.mem_cons_of_mem _ m)
    obtain ⟨k', c, rfl, hc⟩ := all v List.mem_cons_self
    dsimp only
    by_cases same : (b == c || (carriedByValue (.ref b) && carriedByValue (.ref c))) = true
    · exact wp_if_pos same (wpAny_pure ⟨rfl, rfl, next⟩)
    · refine wp_if_neg same (wpAny_bind (wpAny_eqIsQuiet_tuple hk ?_))
      simp only [Bool.not_true, Bool.false_eq_true, if_false]
      refine wpAny_bind (wpAny_eqIsQuiet_tuple hc ?_)
      simp only [Bool.not_true, Bool.false_eq_true, if_false]
      refine wpAny_bind (mix_class hk ?_)
      simp only [Bool.false_eq_true, if_false]
      refine wpAny_bind (mix_class hc ?_)
      simp only [Bool.false_eq_true, if_false]
      exact wpAny_pure ⟨rfl, rfl, next⟩
  · subst es
    obtain ⟨r1, r2⟩ := r
    obtain rfl : r1 = none := e
    exact wpAny_pure q
/-- whether such a tuple is hashed by value is told without a change -/
theorem mix_hashBy {k : List Key} {b : Addr} {Q : Bool → Shared → Prop} (hk : MixT P w s.heap k b) (q : ∀ c, Q c s) : wpAny (model P w) A (hashByValue 8 (.ref b)) Q E s := by
  have ty := hk.typeIs
  obtain ⟨o, its, n, at_, _, dat, are⟩ := hk
  have lv := leaves are
  unfold hashByValue
  refine wpAny_bind (wpAny_specialOf ty F.slot_tuple_hash.lookup ?_)
  show wpAny _ _ (seqItems? (.ref b) >>= _) _ _ s
  refine wpAny_bind (wpAny_seqItems at_ dat ?_)
  refine wpAny_bind ?_
  show wpAny _ _ (forIn its _ _) _ _ s
  rw [← Array.forIn_toList]
  refine wpAny_forIn_list _ (fun l r s' => s' = s ∧ ∀ v ∈ l, Leaf v) _ (fun v l r s' ⟨es, all⟩ => ?_) (fun r s' ⟨es, _⟩ => ?_) _ _ ⟨rfl, lv⟩
  · subst es
    have next : ∀ u ∈ l, Leaf u := fun u m => all u (List.mem_cons_of_mem _ m)
    rcases all v List.mem_cons_self with ⟨i, t, rfl⟩ | ⟨z, t, rfl⟩
    · refine wpAny_bind (wpAny_pure ?_)
      simp only [Bool.not_true, Bool.false_eq_true, if_false]
      exact wpAny_pure ⟨rfl, next⟩
    · refine wpAny_bind (wpAny_pure ?_)
      simp only [Bool.not_false, if_true]
      exact wpAny_pure (wpAny_pure (q false))
  · subst es
    obtain ⟨r1, r2⟩ := r
    cases r1 with
    | none => exact wpAny_pure (q _)
    | some c => exact wpAny_pure (q c)
end
end L2.Cal
end

section
set_option maxRecDepth 100000
set_option maxHeartbeats 4000000
/-! a set of tuples of numbers and texts: how one is looked up -/
namespace L2.Cal
open PySem PySem.Spec PyProof.Rows L2
theorem nth_dm (m : Nat) : ∀ (c : Nat) (p : SetTable.Probe), p.dummy = none → (nth m p c).dummy = none
  | 0, _, h => h
  | c + 1, p, h => nth_dm m c (adv m p) (by unfold adv; split <;> exact h)
/-- the c-th stop of a search -/
def stop (m : Nat) (h : Int) (c : Nat) : SetTable.Probe := nth m (runAt m (SetTable.bits h % (m + 1)) (SetTable.bits h)) c
theorem stop_j (m : Nat) (h : Int) (c : Nat) : (stop m h c).j = way m h c := rfl
theorem stop_on (m : Nat) (h : Int) (c q : Nat) : nth m (stop m h c) q = stop m h (c + q) := (nth_add m c _ q).symm
section
variable {P : Program} {w : World} {A : Around} {E : Value → Shared → Prop} {s : Shared}
def mixH (P : Program) (w : World) (k : List Key) : Int := tupleKeyHash (mixKind P w) k
/-- at a stands a set of the tuples L -/
structure Book (P : Program) (w : World) (h : Heap) (a : Addr) (L : List (Addr × List Key)) (es : Array (Int × Value)) (ep : Nat) (t : SetTable) : Prop where
  at_ : ∃ o, h.get? a = some o ∧ o.ExactSet ∧ o.data = .set es ep t
  rows : es.toList = L.map fun p => (mixH P w p.2, Value.ref p.1)
  tab : TabOk t (L.map fun p => mixH P w p.2)
  once : (L.map (·.2)).Nodup
  are : ∀ p ∈ L, MixT P w h p.2 p.1
  led : w.params.followText "set-order" = true ∨ t.led = true
  room : L.length * 5 < t.mask * 3
  few : L.length < 64
variable {a : Addr} {L : List (Addr × List Key)} {es : Array (Int × Value)} {ep : Nat} {t : SetTable}
theorem Book.many (B : Book P w s.heap a L es ep t) : es.size = L.length := by
  have := congrArg List.length B.rows
  rwa [Array.length_toList, List.length_map] at this
theorem Book.fit (B : Book P w s.heap a L es ep t) : t.fits es.size = true := by
  have sz := B.tab.sz
  rw [List.length_map] at sz
  have mn := B.many
  have rm := B.room
  unfold SetTable.fits SetTable.fill
  rw [B.tab.dm, Bool.and_eq_true, beq_iff_eq, decide_eq_true_eq]
  refine ⟨by omega, ?_⟩
  show t.place.size + 0 ≤ t.mask
  omega
theorem Book.row (B : Book P w s.heap a L es ep t) {i : Nat} {p : Addr × List Key} (h : L[i]? = some p) : es[i]? = some (mixH P w p.2, Value.ref p.1) := by
  rw [← Array.getElem?_toList, B.rows, List.getElem?_map, h] <;> rfl
theorem Book.stays (B : Book P w s.heap a L es ep t) : ¬ t.gaveWay = true := by
  unfold SetTable.gaveWay
  rw [mask_odd B.tab.mok]
  decide
theorem Book.look (B : Book P w s.heap a L es ep t) {x : Addr} {k : List Key} (hx : MixT P w s.heap k x) (hu : A.units < cLine) {K : Nat} (hKf : K < 10 * SetTable.turns t.mask)
    (hK : way t.mask (mixH P w k) K ∉ t.place.toList) (hKb : ∀ c, c < K → way t.mask (mixH P w k) c ∈ t.place.toList) {Q : SetFound → Shared → Prop}
    (yes : k ∈ L.map (·.2) → Q (.there none) s) (no : k ∉ L.map (·.2) → Q (.free (way t.mask (mixH P w k) K) false) s) :
    ∀ (n c f : Nat) (st : Option SetTable.Probe), c + n = K → n < f → st.getD (t.probeStart (mixH P w k)) = stop t.mask (mixH P w k) c →
      (∀ (i : Nat) (p : Addr × List Key), L[i]? = some p → p.2 = k → ∃ c', c ≤ c' ∧ c' < K ∧ t.place.toList[i]? = some (way t.mask (mixH P w k) c')) →
      wpAny (model P w) A (setSearchFrom a (.ref x) (mixH P w k) true f st) Q E s := by
  obtain ⟨o, hob, _, hdat⟩ := id B.at_
  generalize hh : mixH P w k = g at *
  intro n
  induction n using Nat.strongRecOn with
  | ind n ih =>
  intro c f st hc hf hst hre
  obtain ⟨f, rfl⟩ : ∃ f', f = f' + 1 := ⟨f - 1, by omega⟩
  rw [setSearchFrom_succ]
  refine wpAny_bind (wpAny_setState_of hob hdat B.fit ?_)
  dsimp only
  refine wp_if_neg B.stays ?_
  try refine wpAny_bind (wpAny_pure ?_)
  let hashAt : Nat → Int := fun i => (es[i]?.map (·.1)).getD 0
  have hashIs : ∀ {i : Nat} {p : Addr × List Key}, L[i]? = some p → hashAt i = mixH P w p.2 := fun {i p} hp => by
    show (es[i]?.map (·.1)).getD 0 = _
    rw [B.row hp] <;> rfl
  have spec := go_spec t B.tab.ris B.tab.dm hashAt g (10 * SetTable.turns t.mask) n (stop t.mask g c) (nth_dm _ _ _ rfl) (by omega)
    (fun q hq => by rw [stop_on, stop_j]; exact hKb _ (by omega)) (by rw [stop_on, stop_j, hc]; exact hK)
  simp only [stop_on, stop_j] at spec
  rcases spec with ⟨q, i, hq, hi, heq, hno, hpr⟩ | ⟨hno, hpr⟩
  · have probe : t.probe hashAt g (st.getD (t.probeStart g)) = some (.candidate (way t.mask g (c + q)) i (stop t.mask g (c + (q + 1)))) := by
      rw [hst]
      exact hpr
    rw [show t.probe (fun i => (es[i]?.map (·.1)).getD 0) g (st.getD (t.probeStart g)) = _ from probe]
    dsimp only
    have il : i < L.length := by
      have h1 := (List.getElem?_eq_some_iff.mp hi).1
      have h2 := B.tab.sz
      rw [List.length_map] at h2
      rw [Array.length_toList] at h1
      omega
    obtain ⟨p, hp⟩ : ∃ p, L[i]? = some p := ⟨_, List.getElem?_eq_getElem il⟩
    have pin := List.mem_of_getElem? hp
    have go : wpAny (model P w) A (searchRest a (.ref x) g true f es t (way t.mask g (c + q)) i (stop t.mask g (c + (q + 1)))) Q E s := by
      unfold searchRest
      rw [B.row hp]
      dsimp only
      refine wpAny_bind (wpAny_holding (wpAny_eqBool_tuple hu (B.are p pin) hx ?_))
      refine wpAny_bind (wpAny_setState_of hob hdat B.fit ?_)
      dsimp only
      by_cases e : p.2 = k
      · exact wp_if_pos (by simp [e]) (wpAny_pure (yes (List.mem_map.mpr ⟨p, pin, e⟩)))
      · refine wp_if_neg (by simp [e]) ?_
        try refine wpAny_bind (wpAny_pure ?_)
        rw [sameMem]
        dsimp only
        have live : t.slot (way t.mask g (c + q)) = .live i := slot_live B.tab.ris hi
        simp only [if_true, live, B.row hp]
        refine wpAny_bind (wpAny_isSame_ref_self (wpAny_bind (wpAny_pure ?_)))
        simp only [if_true]
        refine wp_if_neg (by simp [e]) ?_
        refine ih (n - (q + 1)) (by omega) (c + (q + 1)) f _ (by omega) (by omega) rfl fun i0 p0 h0 hk0 => ?_
        obtain ⟨c', a1, a2, a3⟩ := hre i0 p0 h0 hk0
        refine ⟨c', ?_, a2, a3⟩
        refine Classical.byContradiction fun far => ?_
        have hash0 : hashAt i0 = g := by rw [hashIs h0, hk0, hh]
        by_cases z : c' < c + q
        · exact hno (c' - c) i0 (by omega) (by rw [show c + (c' - c) = c' by omega]; exact a3) hash0
        · have ec : c' = c + q := by omega
          rw [ec] at a3
          have l0 := slot_live B.tab.ris a3
          rw [live] at l0
          have ei : i = i0 := by injection l0
          rw [← ei, hp] at h0
          exact e ((congrArg Prod.snd (Option.some.inj h0)).trans hk0)
    by_cases hl : t.led = true
    · refine wp_if_neg (by simp [hl]) ?_
      try refine wpAny_bind (wpAny_pure ?_)
      exact go
    · refine wp_if_pos (by simp [hl]) (wpAny_bind (mix_seen hx (fun y hy => ?_) ?_))
      · obtain ⟨r, hr, er⟩ := List.mem_map.mp hy
        have r1 : r ∈ es ∧ r.1 = g := by simpa using hr
        have r2 : r ∈ es.toList := by simpa using r1.1
        rw [B.rows] at r2
        obtain ⟨p2, hp2, e2⟩ := List.mem_map.mp r2
        exact ⟨p2.2, p2.1, by rw [← er, ← e2], B.are p2 hp2⟩
      · refine wp_if_neg (by decide) ?_
        try refine wpAny_bind (wpAny_pure ?_)
        exact go
  · have probe : t.probe hashAt g (st.getD (t.probeStart g)) = some (.empty (way t.mask g (c + n)) none) := by
      rw [hst]
      exact hpr
    rw [show t.probe (fun i => (es[i]?.map (·.1)).getD 0) g (st.getD (t.probeStart g)) = _ from probe, hc]
    dsimp only
    refine wpAny_pure (no fun hm => ?_)
    obtain ⟨p0, h0, hk0⟩ := List.mem_map.mp hm
    obtain ⟨i0, hi0, e0⟩ := List.getElem_of_mem h0
    have h00 : L[i0]? = some p0 := by rw [List.getElem?_eq_getElem hi0, e0]
    obtain ⟨c', a1, a2, a3⟩ := hre i0 p0 h00 hk0
    exact hno (c' - c) i0 (by omega) (by rw [show c + (c' - c) = c' by omega]; exact a3) (by rw [hashIs h00, hk0, hh])
end
end L2.Cal
end

section
set_option maxRecDepth 100000
set_option maxHeartbeats 4000000
/-! .. and how one is added -/
namespace L2.Cal
open PySem PySem.Spec PyProof.Rows L2
section
variable {P : Program} {w : World} {A : Around} {E : Value → Shared → Prop} {s : Shared}
theorem mix_but {h h' : Heap} {k : List Key} {a b : Addr} {o : Obj} {es : Array (Int × Value)} {ep : Nat} {t : SetTable} (m : MixT P w h k b) (ha : h.get? a = some o) (hd : o.data = .set es ep t) (sb : Heap.SameBut a h h') : MixT P w h' k b := by
  obtain ⟨o', its, n, hb, hc, dat, are⟩ := m
  refine ⟨o', its, n, (sb.2 b fun z => ?_).trans hb, hc, dat, are⟩
  rw [z, ha] at hb
  cases hb
  rw [hd] at dat
  cases dat
abbrev rowM (P : Program) (w : World) (p : Addr × List Key) : Int × Value := (mixH P w p.2, Value.ref p.1)
/-- rows taken in another order -/
theorem rows_by {L : List (Addr × List Key)} {es : Array (Int × Value)} (r : es.toList = L.map (rowM P w)) : ∀ l : List Nat, (∀ i ∈ l, i < L.length) →
    l.filterMap (fun i => es[i]?) = (l.map fun i => L.getD i (0, [])).map (rowM P w) ∧ (l.map fun i => L.getD i (0, [])).map (fun p => mixH P w p.2) = l.map fun i => (es.map (·.1)).getD i 0
  | [], _ => ⟨rfl, rfl⟩
  | i :: l, h => by
    obtain ⟨h1, h2⟩ := rows_by r l fun j hj => h j (List.mem_cons_of_mem _ hj)
    have hi := h i List.mem_cons_self
    have e : es[i]? = some (rowM P w (L.getD i (0, []))) := by
      rw [← Array.getElem?_toList, r, List.getElem?_map, List.getD_eq_getElem?_getD, List.getElem?_eq_getElem hi] <;> rfl
    refine ⟨?_, ?_⟩
    · rw [List.filterMap_cons_some e, h1] <;> rfl
    · rw [List.map_cons, List.map_cons, List.map_cons, h2]
      have e2 : (es.map (·.1)).getD i 0 = mixH P w (L.getD i (0, [])).2 := by
        rw [Array.getD_eq_getD_getElem?, Array.getElem?_map, e] <;> rfl
      rw [e2]
theorem all_of (L : List (Addr × List Key)) : (List.range L.length).map (fun i => L.getD i (0, [])) = L := by
  refine List.ext_getElem (by simp) fun i h1 h2 => ?_
  rw [List.getElem_map, List.getElem_range, List.getD_eq_getElem?_getD, List.getElem?_eq_getElem h2] <;> rfl
variable {a : Addr} {L : List (Addr × List Key)} {es : Array (Int × Value)} {ep : Nat} {t : SetTable}
/-- a larger table for the same tuples -/
theorem relay_mix {o : Obj} (hob : s.heap.get? a = some o) (hex : o.ExactSet) (hdat : o.data = .set es ep t) (rows : es.toList = L.map (rowM P w)) (sz : t.place.size = es.size) (dm : t.dummies = #[]) (fl : es.size ≤ t.mask)
    (once : (L.map (·.2)).Nodup) (are : ∀ p ∈ L, MixT P w s.heap p.2 p.1) (led : w.params.followText "set-order" = true ∨ t.led = true) (few : L.length < 64) {want M : Nat}
    (hw : SetTable.sizeAbove want - 1 = M) (hM : MaskOk M) (top : SetTable.sizeAbove want ≤ 128) (room : L.length * 5 < M * 3) {Q : Unit → Shared → Prop}
    (q : ∀ h' L' es' ep' t', Heap.SameBut a s.heap h' → Book P w h' a L' es' ep' t' → L'.Perm L → Q () { s with heap := h' }) : wpAny (model P w) A (setRelay a want) Q E s := by
  have mn : es.size = L.length := by
    have := congrArg List.length rows
    rwa [Array.length_toList, List.length_map] at this
  have fit : t.fits es.size = true := by
    unfold SetTable.fits SetTable.fill
    rw [dm, Bool.and_eq_true, beq_iff_eq, decide_eq_true_eq]
    refine ⟨sz, ?_⟩
    show t.place.size + 0 ≤ t.mask
    omega
  obtain ⟨t', ord, e, hp, T, em, el, _, _⟩ := relaid_ok t (hs := es.map (·.1)) (wanted := want) hw hM (by rw [Array.size_map, mn]; omega)
  rw [Array.size_map, mn] at hp
  obtain ⟨r1, r2⟩ := rows_by rows ord.toList fun i hi => List.mem_range.mp (hp.mem_iff.mp hi)
  have pm : (ord.toList.map fun i => L.getD i (0, [])).Perm L := (hp.map _).trans (.of_eq (all_of L))
  generalize (ord.toList.map fun i => L.getD i (0, [])) = L2 at r1 r2 pm
  rw [← r2] at T
  have rl : (ord.filterMap (es[·]?)).toList = L2.map (rowM P w) := by
    rw [Array.toList_filterMap]
    exact r1
  have sz2 : (ord.filterMap (es[·]?)).size = es.size := by
    have := congrArg List.length rl
    rw [Array.length_toList, List.length_map, pm.length_eq] at this
    omega
  rw [setRelay_eq]
  refine wpAny_bind (wpAny_setState_of hob hdat fit ?_)
  dsimp only
  refine wp_if_neg (by rw [sizeLine_eq]; omega) ?_
  try refine wpAny_bind (wpAny_pure ?_)
  rw [e]
  dsimp only
  refine wpAny_bind (wp_if_neg (by rw [sz2]; simp) ?_)
  try refine wpAny_bind (wpAny_pure ?_)
  refine wpAny_pure ?_
  dsimp only
  refine wpAny_storeSet_of hob hdat ?_ (by rw [sz2, mn, sizeLine_eq]; omega)
  have sb : Heap.SameBut a s.heap (s.heap.update a (Obj.putSet (ord.filterMap (es[·]?)) t')) := Heap.SameBut.update ..
  exact q _ L2 (ord.filterMap (es[·]?)) (ep + 1) t' sb ⟨⟨_, store_at hob hdat, ⟨hex.1, hex.2.1, hex.2.2⟩, rfl⟩, rl, T, (pm.map (·.2)).nodup_iff.mpr once, fun p hpm => mix_but (are p (pm.mem_iff.mp hpm)) hob hdat sb, by rw [el]; exact led, by rw [pm.length_eq, em]; exact room, by rw [pm.length_eq]; exact few⟩ pm
end
end L2.Cal
end

section
set_option maxRecDepth 100000
set_option maxHeartbeats 4000000
namespace L2.Cal
open PySem PySem.Spec PyProof.Rows L2
section
variable {P : Program} {w : World} {A : Around} {E : Value → Shared → Prop} {s : Shared} {a : Addr} {L : List (Addr × List Key)} {es : Array (Int × Value)} {ep : Nat} {t : SetTable}
theorem Book.find (B : Book P w s.heap a L es ep t) {x : Addr} {k : List Key} (hx : MixT P w s.heap k x) (hu : A.units < cLine) {Q : SetFound → Shared → Prop}
    (yes : k ∈ L.map (·.2) → Q (.there none) s)
    (no : ∀ K, k ∉ L.map (·.2) → way t.mask (mixH P w k) K ∉ t.place.toList → (∀ c, c < K → way t.mask (mixH P w k) c ∈ t.place.toList) → Q (.free (way t.mask (mixH P w k) K) false) s) :
    wpAny (model P w) A (setSearch a (.ref x) (mixH P w k) true) Q E s := by
  have rm := B.room
  obtain ⟨K, hKf, hK, hKb⟩ := B.tab.first (by rw [List.length_map]; omega) (mixH P w k)
  have turns : 10 * SetTable.turns t.mask ≤ 1420 := by
    unfold SetTable.turns
    rcases B.tab.mok with e | e | e <;> omega
  unfold setSearch
  refine B.look hx hu hKf hK hKb yes (fun n => no K n hK hKb) K 0 100000 none (Nat.zero_add _) (by omega) rfl fun i p hp hk => ?_
  have hi : (L.map fun p => mixH P w p.2)[i]? = some (mixH P w k) := by rw [List.getElem?_map, hp, ← hk] <;> rfl
  have il : i < t.place.toList.length := by
    have h1 := (List.getElem?_eq_some_iff.mp hp).1
    have h2 := B.tab.sz
    rw [List.length_map] at h2
    rw [Array.length_toList]
    omega
  obtain ⟨c, hc, e⟩ := B.tab.before hK hi (List.getElem?_eq_getElem il)
  exact ⟨c, Nat.zero_le _, hc, by rw [List.getElem?_eq_getElem il, e]⟩
theorem mid_perm {α : Type} (l : List α) (p : Nat) (x : α) : (l.take p ++ x :: l.drop p).Perm (x :: l) :=
  List.perm_middle.trans (.of_eq (by rw [List.take_append_drop]))
theorem Book.add (B : Book P w s.heap a L es ep t) {x : Addr} {k : List Key} (hx : MixT P w s.heap k x) (hu : A.units < cLine) (few : L.length + 1 < 64) {Q : Bool → Shared → Prop}
    (q : ∀ b h' L' es' ep' t', Heap.SameBut a s.heap h' → Book P w h' a L' es' ep' t' → (k ∈ L.map (·.2) → L' = L) → (k ∉ L.map (·.2) → L'.Perm ((x, k) :: L)) → Q b { s with heap := h' }) :
    wpAny (model P w) A (setAddHashed a (.ref x) (mixH P w k)) Q E s := by
  obtain ⟨o, hob, hex, hdat⟩ := id B.at_
  have mn := B.many
  have rm := B.room
  unfold setAddHashed
  refine wpAny_holding ?_
  rw [show (100000 : Nat) = 99999 + 1 from rfl, setAddHashedIn_succ]
  refine wpAny_bind (wpAny_setState_of hob hdat B.fit ?_)
  dsimp only
  refine wp_if_neg (by simp [byScan, Value.scannable]) ?_
  try refine wpAny_bind (wpAny_pure ?_)
  refine wpAny_bind (B.find hx hu (fun hm => ?_) fun K hm hK hb => ?_)
  · dsimp only
    exact wpAny_pure (q false s.heap L es ep t (Heap.SameBut.refl a s.heap) B (fun _ => rfl) fun z => absurd hm z)
  · dsimp only
    refine wpAny_bind (wpAny_setState_of hob hdat B.fit ?_)
    dsimp only
    obtain ⟨q1, q2, q3, q4, q5, _, _, _, q9⟩ := B.tab.put hK hb
    generalize hpt : t.put (way t.mask (mixH P w k) K) = pt at q1 q3 q4 q5 q9 ⊢
    obtain ⟨t1, p⟩ := pt
    dsimp only at q1 q3 q4 q5 q9 ⊢
    subst q1
    have hin : (SetTable.insertAt es (SetTable.below t.place (way t.mask (mixH P w k) K)) (mixH P w k, Value.ref x)).toList = (L.take (SetTable.below t.place (way t.mask (mixH P w k) K)) ++ (x, k) :: L.drop (SetTable.below t.place (way t.mask (mixH P w k) K))).map (rowM P w) := by
      rw [SetTable.toList_insertAt, B.rows, List.map_append, List.map_cons, List.map_take, List.map_drop]
    generalize SetTable.below t.place (way t.mask (mixH P w k) K) = p at q2 q3 hin ⊢
    have pm := mid_perm L p (x, k)
    have together : (L.map fun p => mixH P w p.2).take p ++ mixH P w k :: (L.map fun p => mixH P w p.2).drop p = (L.take p ++ (x, k) :: L.drop p).map fun p => mixH P w p.2 := by rw [List.map_append, List.map_cons, List.map_take, List.map_drop]
    rw [together] at q3
    have len : (L.take p ++ (x, k) :: L.drop p).length = L.length + 1 := pm.length_eq
    have once1 : ((L.take p ++ (x, k) :: L.drop p).map (·.2)).Nodup := (pm.map (·.2)).nodup_iff.mpr (List.nodup_cons.mpr ⟨hm, B.once⟩)
    have size1 : (SetTable.insertAt es p (mixH P w k, Value.ref x)).size = L.length + 1 := by
      have := congrArg List.length hin
      rwa [Array.length_toList, List.length_map, len] at this
    generalize SetTable.insertAt es p (mixH P w k, Value.ref x) = es1 at hin size1 ⊢
    generalize L.take p ++ (x, k) :: L.drop p = L1 at pm len q3 once1 hin
    -- whatever the table's other marks
    have fin : ∀ t2 : SetTable, TabOk t2 (L1.map fun p => mixH P w p.2) → t2.mask = t.mask → t2.led = t.led → t2.fill = L.length + 1 → wpAny (model P w) A (do
        storeSet a es1 t2
        if !false && t2.tooFull then setRelay a (SetTable.grown (es.size + 1))
        return true) Q E s := fun t2 T2 hmask hled hfill => by
      refine wpAny_bind (wpAny_storeSet_of hob hdat ?_ (by rw [size1, sizeLine_eq]; omega))
      have sb : Heap.SameBut a s.heap (s.heap.update a (Obj.putSet es1 t2)) := Heap.SameBut.update ..
      have ob1 := store_at (es' := es1) (t' := t2) hob hdat
      generalize s.heap.update a (Obj.putSet es1 t2) = h1 at sb ob1 ⊢
      have are1 : ∀ p ∈ L1, MixT P w h1 p.2 p.1 := fun p hp => by
        rcases List.mem_cons.mp (pm.mem_iff.mp hp) with e | hp
        · rw [e]; exact mix_but hx hob hdat sb
        · exact mix_but (B.are p hp) hob hdat sb
      have led1 : w.params.followText "set-order" = true ∨ t2.led = true := by rw [hled]; exact B.led
      have full : t2.tooFull = true ↔ (L.length + 1) * 5 ≥ t.mask * 3 := by
        unfold SetTable.tooFull
        rw [decide_eq_true_eq, hfill, hmask]
      have sz2 : t2.place.size = es1.size := by
        have := T2.sz
        rw [List.length_map, len] at this
        rw [this, size1]
      by_cases hf : t2.tooFull = true
      · have hfull := full.mp hf
        have grow : ∀ M, SetTable.sizeAbove (SetTable.grown (L.length + 1)) - 1 = M → MaskOk M → SetTable.sizeAbove (SetTable.grown (L.length + 1)) ≤ 128 → (L.length + 1) * 5 < M * 3 → es1.size ≤ t2.mask →
            wpAny (model P w) A (setRelay a (SetTable.grown (es.size + 1))) (fun _ s' => wpAny (model P w) A (pure true) Q E s') E { s with heap := h1 } := fun M g1 g2 g3 g4 g5 => by
          rw [mn]
          refine relay_mix (s := { s with heap := h1 }) ob1 ⟨hex.1, hex.2.1, hex.2.2⟩ rfl hin sz2 T2.dm g5 once1 are1 led1 (by rw [len]; exact few) g1 g2 g3 (by rw [len]; exact g4) fun h2 L2 es2 ep2 t3 sb2 B2 pm2 => ?_
          exact wpAny_pure (q true h2 L2 es2 ep2 t3 (sb.trans sb2) B2 (fun z => absurd z hm) fun _ => pm2.trans pm)
        have go : wpAny (model P w) A (setRelay a (SetTable.grown (es.size + 1))) (fun _ s' => wpAny (model P w) A (pure true) Q E s') E { s with heap := h1 } := by
          rcases B.tab.mok with e | e | e
          · have l4 : L.length = 4 := by rw [e] at hfull rm; omega
            exact grow 31 (by rw [l4, size_20]) (.inr (.inl rfl)) (by rw [l4, size_20]; decide) (by omega) (by rw [size1, hmask, e]; omega)
          · have l18 : L.length = 18 := by rw [e] at hfull rm; omega
            exact grow 127 (by rw [l18, size_76]) (.inr (.inr rfl)) (by rw [l18, size_76]; decide) (by omega) (by rw [size1, hmask, e]; omega)
          · exfalso
            rw [e] at hfull
            omega
        first
          | (refine wpAny_bind ?_; refine wp_if_pos (by simp [hf]) ?_; exact go)
          | (refine wp_if_pos (by simp [hf]) ?_; refine wpAny_bind ?_; exact go)
      · have bk : Book P w h1 a L1 es1 (ep + 1) t2 := ⟨⟨_, ob1, ⟨hex.1, hex.2.1, hex.2.2⟩, rfl⟩, hin, T2, once1, are1, led1, by
          have : ¬ (L.length + 1) * 5 ≥ t.mask * 3 := fun z => hf (full.mpr z)
          rw [len, hmask]
          omega, by rw [len]; exact few⟩
        first
          | (refine wp_if_neg (by simp [hf]) ?_; exact wpAny_pure (q true h1 L1 es1 (ep + 1) t2 sb bk (fun z => absurd z hm) fun _ => pm))
          | (refine wpAny_bind ?_; refine wp_if_neg (by simp [hf]) ?_; refine wpAny_pure ?_; exact wpAny_pure (q true h1 L1 es1 (ep + 1) t2 sb bk (fun z => absurd z hm) fun _ => pm))
    have fill1 : t1.fill = L.length + 1 := by rw [q9, List.length_map]
    by_cases hp1 : t1.plain = true
    · first
        | (refine wpAny_bind ?_; refine wp_if_pos hp1 ?_; refine mix_hashBy hx fun c => ?_)
        | refine wp_if_pos hp1 (wpAny_bind (mix_hashBy hx fun c => ?_))
      cases c with
      | true => simp only [if_true]; exact fin t1 q3 q4 q5 fill1
      | false => simp only [Bool.false_eq_true, if_false]; exact fin { t1 with plain := false } ⟨q3.ris, q3.dm, q3.sz, q3.mok, q3.bd, q3.reach⟩ q4 q5 fill1
    · first
        | (refine wpAny_bind ?_; refine wp_if_neg hp1 ?_; refine wpAny_pure ?_)
        | refine wp_if_neg hp1 (wpAny_bind (wpAny_pure ?_))
        | refine wp_if_neg hp1 ?_
      try simp only [if_true]
      exact fin t1 q3 q4 q5 fill1
end
end L2.Cal
end

section
set_option maxRecDepth 100000
set_option maxHeartbeats 4000000
namespace L2.Cal
open PySem PySem.Spec PyProof.Rows PySem.Froz L2
section
variable {P : Program} {w : World} {A : Around} {E : Value → Shared → Prop} {s : Shared}
theorem Book.moved {h h' : Heap} {a : Addr} {L : List (Addr × List Key)} {es : Array (Int × Value)} {ep : Nat} {t : SetTable} (B : Book P w h a L es ep t) (ha : ∀ o, h.get? a = some o → h'.get? a = some o) (are : ∀ p ∈ L, MixT P w h' p.2 p.1) : Book P w h' a L es ep t := by
  obtain ⟨o, e, r⟩ := B.at_
  exact ⟨⟨o, ha o e, r⟩, B.rows, B.tab, B.once, are, B.led, B.room, B.few⟩
theorem Book.fresh {h : Heap} {a : Addr} (e : h.get? a = some (sObj "set" (#[], 0, .fresh 0 0 (!w.params.followText "set-order")))) : Book P w h a [] #[] 0 (.fresh 0 0 (!w.params.followText "set-order")) := by
  refine ⟨⟨_, e, ⟨rfl, rfl, rfl⟩, rfl⟩, rfl, ⟨List.Pairwise.nil, rfl, rfl, .inl rfl, (fun x m => nomatch m), fun i g j hi => by simp at hi⟩, List.nodup_nil, (fun p m => nomatch m), ?_, (by show 0 * 5 < 7 * 3; decide), (by show 0 < 64; decide)⟩
  show _ ∨ (!w.params.followText "set-order") = true
  cases w.params.followText "set-order" <;> simp
/-- the rest of a walk over tuples goes into the set -/
theorem fillU {R : Result → Shared → Prop} {I S : Addr} {fp wr : List Addr} {n : Nat} {Pv : Nat → Value → Prop} {St : Nat → Heap → Prop} (W : Walks P w A.in1 I fp wr n Pv St) (away : S ∉ fp) (ks : List (Addr × List Key)) (hn : n = ks.length) (few : ks.length < 63) (hu : A.in1.units < cLine)
    (is : ∀ i v, Pv i v → ∃ p, ks[i]? = some p ∧ v = .ref p.1) (stay : ∀ p ∈ ks, ∀ h : Heap, (∀ b o, b ≠ S → b ∉ wr → s.heap.get? b = some o → h.get? b = some o) → MixT P w h p.2 p.1)
    (done : ∀ (h' : Heap) (tk : Nat) L es ep t, (∀ b o, b ≠ S → b ∉ wr → s.heap.get? b = some o → h'.get? b = some o) → Book P w h' S L es ep t → (∀ p ∈ L, p ∈ ks) → (∀ p ∈ ks, p.2 ∈ L.map (·.2)) → R (.ok (.ret .none)) { s with heap := h', toks := tk }) :
    ∀ (m i : Nat) (h : Heap) (tk : Nat) L es ep t, n - i = m → i ≤ n → St i h → (∀ b o, b ≠ S → b ∉ wr → s.heap.get? b = some o → h.get? b = some o) → Book P w h S L es ep t → (∀ p ∈ L, p ∈ ks.take i) → (∀ p ∈ ks.take i, p.2 ∈ L.map (·.2)) →
      codeAny (model P w) A (.builtin "set.update.loop" ⟨[.ref S, .ref I], []⟩) R { s with heap := h, toks := tk } := by
  intro m
  have awr : S ∉ wr := fun z => away (W.sub _ z)
  induction m with
  | zero =>
    intro i h tk L es ep t hm hi hst keep B sub all
    have e : i = n := by omega
    subst e
    refine codeAny_builtin PyProof.Rows.F.entry_set_update_loop ?_
    rw [Around.under_plainId PyProof.Rows.F.plain_set_update_loop _]
    show wpAny _ A.in1 (pyNext (.ref I) >>= _) _ _ _
    refine wpAny_bind (W.done _ _ _ hst fun h2 tk2 k2 => wpAny_pure ?_)
    rw [hn, List.take_length] at sub all
    have keep2 : ∀ b o, b ≠ S → b ∉ wr → s.heap.get? b = some o → h2.get? b = some o := fun b o n1 n2 z => k2 b o n2 (keep b o n1 n2 z)
    exact done h2 tk2 L es ep t keep2 (B.moved (fun o z => k2 _ _ awr z) fun p hp => stay p (sub p hp) h2 keep2) sub all
  | succ m ih =>
    intro i h tk L es ep t hm hi hst keep B sub all
    refine codeAny_builtin PyProof.Rows.F.entry_set_update_loop ?_
    rw [Around.under_plainId PyProof.Rows.F.plain_set_update_loop _]
    show wpAny _ A.in1 (pyNext (.ref I) >>= _) _ _ _
    refine wpAny_bind (W.item i _ _ _ (by omega) hst fun v h2 tk2 hv hst2 k2 => ?_)
    obtain ⟨p, hp, rfl⟩ := is i v hv
    have pin := List.mem_of_getElem? hp
    have tk1 : ks.take (i + 1) = ks.take i ++ [p] := by rw [List.take_succ, hp, Option.toList_some]
    have keep2 : ∀ b o, b ≠ S → b ∉ wr → s.heap.get? b = some o → h2.get? b = some o := fun b o n1 n2 z => k2 b o n2 (keep b o n1 n2 z)
    have B2 : Book P w h2 S L es ep t := B.moved (fun o z => k2 _ _ awr z) fun r hr => stay r (List.mem_of_mem_take (sub r hr)) h2 keep2
    have ndL : L.Nodup := List.Pairwise.of_map _ (fun x y n e => n (by rw [e])) B.once
    have lenL : L.length ≤ i := by
      have := List.Nodup.length_le_of_subset ndL sub
      rw [List.length_take] at this
      omega
    show wpAny _ A.in1 (holding [Value.ref p.1] (setAdd S (.ref p.1)) >>= _) _ _ _
    refine wpAny_bind (wpAny_holding ?_)
    unfold setAdd
    have mixed := stay p pin h2 keep2
    refine wpAny_holding (wpAny_bind (wpAny_pyHash_tuple hu mixed ?_))
    refine Book.add (s := { s with heap := h2, toks := tk2 + (p.2.length + 1) }) B2 mixed hu (by omega) fun b h3 L3 es3 ep3 t3 sb B3 old new => ?_
    have keep3 : ∀ b o, b ≠ S → b ∉ wr → s.heap.get? b = some o → h3.get? b = some o := fun b o n1 n2 z => (sb.2 b n1).trans (keep2 b o n1 n2 z)
    refine wpAny_pure ⟨plainId_quiet PyProof.Rows.F.plain_set_update_loop _, ih (i + 1) h3 _ L3 es3 ep3 t3 (by omega) (by omega) (W.frame _ _ _ hst2 fun b hb o z => (sb.2 b fun e => away (e ▸ hb)).trans z) keep3 B3 (fun r hr => ?_) fun r hr => ?_⟩
    · rw [tk1]
      by_cases c : p.2 ∈ L.map (·.2)
      · rw [old c] at hr
        exact List.mem_append_left _ (sub r hr)
      · rcases List.mem_cons.mp ((new c).mem_iff.mp hr) with e | hr
        · rw [e]; exact List.mem_append_right _ (List.mem_singleton.mpr rfl)
        · exact List.mem_append_left _ (sub r hr)
    · rw [tk1] at hr
      by_cases c : p.2 ∈ L.map (·.2)
      · rw [old c]
        rcases List.mem_append.mp hr with h | h
        · exact all r h
        · rw [List.mem_singleton.mp h]; exact c
      · refine ((new c).map (·.2)).mem_iff.mpr ?_
        rw [List.map_cons]
        rcases List.mem_append.mp hr with h | h
        · exact List.mem_cons_of_mem _ (all r h)
        · rw [List.mem_singleton.mp h]; exact List.mem_cons_self
/-- set(x): what x holds goes into a fresh set -/
theorem fresh_any {src : Value} {Gd : Heap → Prop} {Q : Value → Shared → Prop}
    (run : ∀ (A' : Around) (E' : Value → Shared → Prop) (Q' : Unit → Shared → Prop), A'.handled = A.handled → A'.units ≤ A.units + 8 →
      (∀ (h' : Heap) (tk : Nat), (∀ b o, s.heap.get? b = some o → h'.get? b = some o) → Gd h' → Q' () { s with heap := h', toks := tk }) →
      wpAny (model P w) A' (Builtin.Frozenset.updateFrom "set.__init__" s.heap.objs.size src) Q' E' { s with heap := s.heap.push (sObj "set" (#[], 0, .fresh 0 0 (!w.params.followText "set-order"))) })
    (q : ∀ (h' : Heap) (tk : Nat), (∀ b o, s.heap.get? b = some o → h'.get? b = some o) → Gd h' → Q (.ref s.heap.objs.size) { s with heap := h', toks := tk }) :
    wpAny (model P w) A (call (.type "set") [src]) Q E s := by
  obtain ⟨c, tl, chain⟩ := PySem.F.called_set.mro
  have made := PySem.F.called_set.made
  have below := PySem.F.called_set.sub
  have plain1 := PySem.F.called_set.notType
  have plain2 := PySem.F.called_set.canCreate
  have ask := PySem.F.typeCall_set_1 src
  refine wpAny_call (codeAny_of_tree (show wpAny _ _ (callAny (.type "set") _) _ _ _ from wpAny_pure ⟨Code.quiet_builtin _ (by decide +kernel), codeAny_builtin F.entry_type_call ?_⟩))
  rw [Around.under_plain (weight_type_call_type "set" [src] []) rfl]
  repeat (any_goals (first | assumption | wp_step))
  have laid : (s.heap.push (sObj "set" (#[], 0, .fresh 0 0 (!w.params.followText "set-order")))).get? s.heap.objs.size = some (sObj "set" (#[], 0, .fresh 0 0 (!w.params.followText "set-order"))) := Heap.get?_push_size _ rfl
  have kind : Shared.TypeIs { s with heap := s.heap.push (sObj "set" (#[], 0, .fresh 0 0 (!w.params.followText "set-order"))) } (.ref s.heap.objs.size) "set" := ⟨_, laid, rfl⟩
  have look := PySem.F.called_set.init.lookup
  have tie := PySem.F.called_set.init.bind (.ref s.heap.objs.size)
  refine codeAny_mono (code_set_led1 src (E := E) (Q₁ := fun v s1 => v = .ref s.heap.objs.size ∧ s1 = { s with heap := s.heap.push (sObj "set" (#[], 0, .fresh 0 0 (!w.params.followText "set-order"))) }) ⟨rfl, rfl⟩) fun r s1 hr => ?_
  match r, hr with
  | .error _, hr => exact hr
  | .ok (.ret v), ⟨e1, e2⟩ =>
    subst e1 e2
    repeat (any_goals (first | assumption | wp_step))
    refine codeAny_mono (codeAny_call_builtin (R := wants (fun v s2 => v = .none ∧ ∃ h' tk, s2 = { s with heap := h', toks := tk } ∧ (∀ b o, s.heap.get? b = some o → h'.get? b = some o) ∧ Gd h') E)
      PySem.F.called_set.init.plain PySem.F.entry_set_init (PySem.check_set_init_1 kind ?_)) fun r2 s2 hr2 => ?_
    · unfold Builtin.«set.__init__» noKeywords
      generalize hU : Builtin.Frozenset.updateFrom "set.__init__" = U
      wp_walk
      subst hU
      refine run _ _ _ (by simp) (by simp [Around.in1]; try omega) fun h' tk k1 k2 => ?_
      show wpAny _ _ _ _ _ _
      first
        | exact wpAny_pure ⟨rfl, h', tk, rfl, k1, k2⟩
        | exact wpAny_pure (wpAny_pure ⟨rfl, h', tk, rfl, k1, k2⟩)
        | (wp_walk
           exact ⟨rfl, h', tk, rfl, k1, k2⟩)
    · match r2, hr2 with
      | .error _, hr2 => exact hr2
      | .ok (.ret v), ⟨e1, h', tk, e2, k1, k2⟩ =>
        subst e1 e2
        repeat (any_goals (first | assumption | wp_step))
        exact q _ _ k1 k2
end
end L2.Cal
end

section
set_option maxRecDepth 100000
set_option maxHeartbeats 4000000
/-! how many unlike tuples, each a text and a number, stand in a list: len(set(..)) -/
namespace L2.Cal
open PySem PySem.Spec PyProof.Rows PySem.Froz L2
/-- a list of tuples, each a text and a number -/
def PairsSI (H : Hp) (vs : List V) (ps : List (Str × Int)) : Prop := ∃ bs : List (Addr × Str × Int), vs = bs.map (fun b => V.ref b.1) ∧ bs.map (·.2) = ps ∧ ∀ b ∈ bs, H b.1 = some (.tup [.str b.2.1, .int b.2.2])
theorem PairsSI.same {H H' : Hp} {vs : List V} {ps : List (Str × Int)} (h : PairsSI H vs ps) (s : Same H H') : PairsSI H' vs ps := by
  obtain ⟨bs, e1, e2, hb⟩ := h
  exact ⟨bs, e1, e2, fun b m => s _ _ (hb b m)⟩
theorem PairsSI.app {H : Hp} {vs ws : List V} {ps qs : List (Str × Int)} (h : PairsSI H vs ps) (g : PairsSI H ws qs) : PairsSI H (vs ++ ws) (ps ++ qs) := by
  obtain ⟨bs, rfl, rfl, hb⟩ := h
  obtain ⟨cs, rfl, rfl, hc⟩ := g
  refine ⟨bs ++ cs, by rw [List.map_append], by rw [List.map_append], fun b m => ?_⟩
  rcases List.mem_append.mp m with m | m
  · exact hb b m
  · exact hc b m
theorem PairsSI.len {H : Hp} {vs : List V} {ps : List (Str × Int)} (h : PairsSI H vs ps) : vs.length = ps.length := by
  obtain ⟨bs, rfl, rfl, _⟩ := h
  rw [List.length_map, List.length_map]
theorem PairsSI.nil {H : Hp} : PairsSI H [] [] := ⟨[], rfl, rfl, fun b h => by cases h⟩
abbrev keyIT (p : Str × Int) : List Key := [Sum.inr p.1, Sum.inl p.2]
theorem keyIT_inj {p q : Str × Int} (e : keyIT p = keyIT q) : p = q := by
  unfold keyIT at e
  have h1 := (List.cons.inj e).1
  have h2 := (List.cons.inj (List.cons.inj e).2).1
  exact Prod.ext (Sum.inr.inj h1) (Sum.inl.inj h2)
theorem set_listU {P : Program} {w : World} {A : Around} {E : Value → Shared → Prop} {s : Shared} {b : Addr} {items : Array Value} {Q : Value → Shared → Prop} (ks : List (Addr × List Key)) (hh : A.handled = none) (hu : A.units + 64 < cLine) (at_ : s.heap.IsList b items) (it : items.toList = ks.map fun p => Value.ref p.1) (few : ks.length < 63) (are : ∀ p ∈ ks, MixT P w s.heap p.2 p.1)
    (q : ∀ (h' : Heap) (tk : Nat) L es ep t, (∀ b o, s.heap.get? b = some o → h'.get? b = some o) → Book P w h' s.heap.objs.size L es ep t → (∀ p ∈ L, p ∈ ks) → (∀ p ∈ ks, p.2 ∈ L.map (·.2)) → Q (.ref s.heap.objs.size) { s with heap := h', toks := tk }) :
    wpAny (model P w) A (call (.type "set") [.ref b]) Q E s := by
  refine fresh_any (Gd := fun h' => ∃ L es ep t, Book P w h' s.heap.objs.size L es ep t ∧ (∀ p ∈ L, p ∈ ks) ∧ ∀ p ∈ ks, p.2 ∈ L.map (·.2)) (fun A' E' Q' hA hun k => ?_) fun h' tk k1 ⟨L, es, ep, t, B, k2, k3⟩ => q h' tk L es ep t k1 B k2 k3
  have h2 : A'.handled = none := hA.trans hh
  obtain ⟨ol, hol, hcl, nl, hdl⟩ := at_
  have lt : b < s.heap.objs.size := Heap.lt_size hol
  obtain ⟨ocls, odict, odata, oslots⟩ := ol
  simp only at hcl hdl
  subst hcl; subst hdl
  have there : (s.heap.push (sObj "set" (#[], 0, .fresh 0 0 (!w.params.followText "set-order")))).get? b = some { cls := .type "list", dict := odict, data := .seq items nl, slots := oslots } := Heap.get?_push_of_some _ hol
  have no1 := PySem.F.sub_list_set
  have no2 := PySem.F.sub_list_frozenset
  have no3 : (Value.type "list" == Value.type "dict") = false := by decide
  have isl : (s.heap.push (sObj "set" (#[], 0, .fresh 0 0 (!w.params.followText "set-order")))).IsList b items := ⟨_, there, rfl, nl, rfl⟩
  unfold Builtin.Frozenset.updateFrom
  generalize hI : pyIter = it
  wp_walk
  subst hI
  refine wpAny_pyIter_list isl (wpAny_bind (wpAny_runValue ?_))
  have sz : (s.heap.push (sObj "set" (#[], 0, .fresh 0 0 (!w.params.followText "set-order")))).objs.size = s.heap.objs.size + 1 := Heap.size_push ..
  have off : b ≠ (s.heap.push (sObj "set" (#[], 0, .fresh 0 0 (!w.params.followText "set-order")))).objs.size := by rw [sz]; exact Nat.ne_of_lt (Nat.lt_succ_of_lt lt)
  have n : items.size = ks.length := by
    have := congrArg List.length it
    rwa [Array.length_toList, List.length_map] at this
  refine fillU (s := s) (Walks.list (by simp [h2]) _ b off items) (S := s.heap.objs.size) ?_ ks n few (by simp [Around.in1]; try omega) (fun i v hv => ?_) (fun p hp h keep => ?_) (fun h' tk L es ep t keep B k2 k3 => wpAny_pure (k h' tk (fun c o z => keep c o (Nat.ne_of_lt (Heap.lt_size z)) (fun m => ?_) z) ⟨L, es, ep, t, B, k2, k3⟩))
    (items.size - 0) 0 _ _ [] #[] 0 _ rfl (Nat.zero_le _) ⟨⟨_, Heap.get?_push_size _ rfl, rfl, rfl⟩, isl.push _⟩ (fun c o _ _ z => Heap.get?_push_of_some _ (Heap.get?_push_of_some _ z)) (Book.fresh (Heap.get?_push_of_some _ (Heap.get?_push_size _ rfl))) (fun p m => nomatch m) (fun p m => by rw [List.take_zero] at m; exact nomatch m)
  · rw [sz]
    intro z
    rcases List.mem_cons.mp z with z | z
    · exact absurd z (Nat.ne_of_lt (Nat.lt_succ_self _))
    · exact absurd (List.mem_singleton.mp z) (Nat.ne_of_gt lt)
  · have e : items.toList[i]? = some v := by rw [Array.getElem?_toList]; exact hv
    rw [it, List.getElem?_map] at e
    obtain ⟨p, hp, e⟩ := Option.map_eq_some_iff.mp e
    exact ⟨p, hp, e.symm⟩
  · obtain ⟨o, its, m, hb, r⟩ := are p hp
    refine ⟨o, its, m, keep _ _ (Nat.ne_of_lt (Heap.lt_size hb)) (fun z => ?_) hb, r⟩
    rw [List.mem_singleton.mp z, sz] at hb
    exact absurd (Heap.lt_size hb) (Nat.not_lt.mpr (Nat.le_succ _))
  · rw [List.mem_singleton.mp m, sz] at z
    exact absurd (Heap.lt_size z) (Nat.not_lt.mpr (Nat.le_succ _))
def tLenSetSI (ta : TE) : TE := fun σ H Q => ta σ H fun x H1 => ∃ (l : Addr) (vs : List V) (ps : List (Str × Int)), x = V.ref l ∧ H1 l = some (.lst vs) ∧ PairsSI H1 vs ps ∧ ps.length < 63 ∧ ∀ qs : List (Str × Int), qs.Nodup → (∀ p, p ∈ qs ↔ p ∈ ps) → Q (.int qs.length) H1
theorem pe_lenSetSI {X : Cx} {a : Expr} {ta : TE} {p p2 q pos : Pos} (hc : X.calm = true) (hu : X.A.units + 64 < cLine) (hg : Gl X "len") (hm : X.mg "len" = none) (hg2 : Gl X "set") (hm2 : X.mg "set" = none) (ha : PE X a ta)
    (na : starEach [a] X.env = (false, eval a X.env) :: starEach [] X.env := by rfl) : PE X (.Call (.Name "len" p) [.Call (.Name "set" p2) [a] [] q] [] pos) (tLenSetSI ta) := by
  refine ⟨fun pins s σ H Q I h => Call_ (ld_blt I hg hm PySem.boot_len (PyProof.Rows.callWith_builtin1 (PyProof.Rows.args_cons ?_ rfl) rfl rfl))⟩
  refine Call_ (ld_blt I hg2 hm2 PyProof.Rows.boot_set (PyProof.Rows.callWith_type1 (PyProof.Rows.args_cons (thn (ha.run pins s σ H _ I h) fun v s1 ⟨x, H1, I1, r1, q1⟩ => PyProof.Rows.args_nil ?_) na) na rfl))
  obtain ⟨l, vs, ps, rfl, hl, ⟨bs, rfl, rfl, hb⟩, few, fin⟩ := q1
  cases r1
  obtain ⟨its, r, pl, _⟩ := I1.list (SqL.of hl)
  have refs : ∀ (bs : List (Addr × Str × Int)) (its : List Value), Vals (bs.map fun b => V.ref b.1) its → its = bs.map fun b => Value.ref b.1 := fun bs => by
    induction bs with
    | nil => intro its h; cases h; rfl
    | cons b bs ih =>
      intro its h
      cases h with
      | cons c t =>
        cases c
        rw [ih _ t, List.map_cons]
  have eq := refs bs its r
  have mix : ∀ p ∈ bs.map (fun b => (b.1, keyIT b.2)), MixT X.prog X.w s1.heap p.2 p.1 := fun p hp => by
    obtain ⟨b, hbm, rfl⟩ := List.mem_map.mp hp
    obtain ⟨_, us, ru, o, ho, hc, n, hd⟩ := I1.hok _ _ (hb b hbm)
    cases ru with
    | cons c1 t =>
      cases t with
      | cons c2 t =>
        cases t
        obtain ⟨t1, rfl⟩ := c1
        obtain ⟨t2, rfl⟩ := c2
        exact ⟨o, _, n, ho, hc, hd, .cons (keyIs_str b.2.1 t1) (.cons (keyIs_int b.2.2 t2) .nil)⟩
  rw [List.length_map] at few
  refine set_listU (bs.map fun b => (b.1, keyIT b.2)) (I1.ok.hd hc) hu pl.isList (by rw [List.map_map]; show its.toArray.toList = _; rw [show its.toArray.toList = its from rfl]; exact eq) (by rw [List.length_map]; exact few) mix fun h' tk L es ep t k1 B sub all => PyProof.Rows.args_nil ?_
  have I2 : Inv X pins σ H1 { s1 with heap := h', toks := tk } := I1.kept k1
  obtain ⟨o, ho, hex, hdat⟩ := B.at_
  have mn := B.many (s := { s1 with heap := h' })
  have lf := B.few
  refine call_len_set ho hex hdat (B.fit (s := { s1 with heap := h' })) (by rw [mn]; omega) ⟨.int L.length, H1, I2.tok _, ⟨_, by rw [mn]⟩, ?_⟩
  -- the texts and numbers of those in the set
  have back : ∃ qs : List (Str × Int), L.map (·.2) = qs.map keyIT ∧ ∀ q ∈ qs, q ∈ bs.map (·.2) := by
    clear B all mn lf hdat
    induction L with
    | nil => exact ⟨[], rfl, fun q m => nomatch m⟩
    | cons p L ih =>
      obtain ⟨qs, e, m⟩ := ih fun p hp => sub p (List.mem_cons_of_mem _ hp)
      obtain ⟨b, hbm, eb⟩ := List.mem_map.mp (sub p List.mem_cons_self)
      refine ⟨b.2 :: qs, by rw [List.map_cons, List.map_cons, e, ← eb], fun q hq => ?_⟩
      rcases List.mem_cons.mp hq with rfl | hq
      · exact List.mem_map.mpr ⟨b, hbm, rfl⟩
      · exact m q hq
  obtain ⟨qs, eqs, mqs⟩ := back
  have ln : L.length = qs.length := by
    have := congrArg List.length eqs
    rwa [List.length_map, List.length_map] at this
  have once := B.once
  rw [eqs] at once
  have := fin qs (List.Pairwise.of_map _ (fun x y n e => n (by rw [e])) once) fun p => ⟨mqs p, fun hp => ?_⟩
  · rw [ln]
    exact this
  · obtain ⟨b, hbm, rfl⟩ := List.mem_map.mp hp
    have := all (b.1, keyIT b.2) (List.mem_map.mpr ⟨b, hbm, rfl⟩)
    rw [eqs] at this
    obtain ⟨q, hq, e⟩ := List.mem_map.mp this
    rw [← keyIT_inj e]
    exact hq
end L2.Cal
end

section
set_option maxRecDepth 100000
set_option maxHeartbeats 4000000
set_option synthInstance.maxHeartbeats 400000
namespace L2.Cal
open PySem PySem.Spec PyProof.Rows L2
abbrev sSpo : Stmt := topS 49
theorem scSpo : FnScope ["_law_lots_here", "_law_trio", "_law_found", "_law_word", "_law_stood", "_law_k"] ["_law_lots_here", "_law_trio"] (defScope sSpo) := ⟨rfl, rfl, rfl, by decide +kernel, rfl, by decide +kernel, by decide +kernel⟩
/-- which of three letters stands where, told of one order and of some -/
def spotsO (x : Str) (y : Str) : List (Str × Int) := (List.range 3).map fun k => (atP (press y x) k, (k : Int))
def spotsL (x : Str) (ys : List Str) : List (Str × Int) := ys.flatMap (spotsO x)
def spSpo (K : PySem.W.Frag) : Sp := fun vs H Q _ => ∃ (a : Addr) (x : Str) (ys : List Str), vs = [.ref a, .str x] ∧ SqL K H a (ys.map V.str) ∧ (∀ y ∈ ys, y.cps.size ≤ 6 ∧ (press y x).cps.size = 3) ∧ ys.length ≤ 48 ∧
  ∀ (p : Addr) (H' : Hp) (vs : List V), Same H H' → H' p = some (.lst vs) → PairsSI H' vs (spotsL x ys) → Q (.ref p) H'
theorem same_seqL {K : PySem.W.Frag} {a : Addr} {H H' : Hp} {xs : List V} (h : SqL K H a xs) (s : Same H H') : SqL K H' a xs := s.seq h
section
variable {P : Program} {w : World} {K : PySem.W.Frag} {mg : Str → Option Value} {base : Heap} {C : Addr}
theorem ok_upo {f : Addr} {fd : FuncData} (D : DefAt K mg "_law_upon" sUpo ["_law_word", "_law_trio"] f fd) : FnOk P w K mg base CX0 1 f fd ["_law_word", "_law_trio"] spUpo := by
  refine D.F.ok scUpo (fun vs H Q E h => ?_) (fun cdv A outer sh H vs Q E hr h => ?_)
  · obtain ⟨y, x, rfl, _⟩ := h
    rfl
  · obtain ⟨y, x, rfl, hy, q⟩ := h
    refine ⟨_, pss_one (ps_ret (pe_join pe_str (pe_lc (own := [("_law_letter", 2)]) (g := gName 2) (tt := _) rfl scUpo.nd (pi_str (pv 0)) (blkOk_by (own := [("_law_letter", 2)]) (N := ["_law_word", "_law_trio", "_law_letter"]) (sc := defScope sUpo) (by decide +kernel))
      (fun _ _ _ _ _ => pg_name (i := 2) scUpo.nd rfl (Or.inl rfl)) (fun _ _ _ _ _ => pts_one (pt_cmpR op_in_str (pv 2) (pv 1) (by rfl))) (fun _ _ _ _ _ => pv 2)))), ?_⟩
    refine ⟨⟨_, rfl⟩, _, rfl, y, rfl, fun D nD => lc_it walk_str (fun k H' => Same H H' ∧ H' D = some (.lst (((y.cps.toList.take k).filter fun c => decide (c ∈ x.cps.toList)).map fun c => V.str ⟨#[c]⟩))) ⟨same_new nD, upd_same⟩ (fun _ _ _ _ => trivial) (fun k v H1 H2 hk hP hY => ?_) (fun H1 hP => ?_)⟩
    · obtain ⟨sm, eD⟩ := hP
      obtain ⟨rfl, c, hc, rfl⟩ := hY
      have ec : y.cps.toList[k]? = some c := by rw [Array.getElem?_toList]; exact hc
      refine ⟨rfl, _, rfl, _, rfl, _, _, rfl, rfl, decide (c ∈ x.cps.toList), congrArg V.bl (PySem.StrLaws.found_one x c), ite2 (fun e => ?_) (fun e => ?_)⟩
      · refine ⟨_, rfl, _, eD, ?_, fun b o h => ?_, ?_⟩
        · rw [List.length_map]
          refine Nat.lt_of_le_of_lt (List.length_filter_le _ _) ?_
          rw [List.length_take, Array.length_toList, sizeLine_eq]
          omega
        · rw [upd_ne (ne_of_none h nD)]
          exact sm _ _ h
        · rw [upd_same, List.take_succ, ec, Option.toList_some, List.filter_append, List.map_append]
          rw [show [c].filter (fun c => decide (c ∈ x.cps.toList)) = [c] by rw [List.filter_cons, if_pos e, List.filter_nil]] <;> rfl
      · refine ⟨sm, ?_⟩
        rw [eD, List.take_succ, ec, Option.toList_some, List.filter_append]
        rw [show [c].filter (fun c => decide (c ∈ x.cps.toList)) = [] by rw [List.filter_cons, if_neg e, List.filter_nil], List.append_nil]
    · obtain ⟨sm, eD⟩ := hP
      rw [List.take_of_length_le (by rw [Array.length_toList]; exact Nat.le_refl _)] at eD
      have e2 : H1 D = some (.lst ((signs (press y x)).map V.str)) := by
        rw [eD]
        unfold signs press
        rw [List.map_map] <;> rfl
      have sz : (press y x).cps.size ≤ 100 := by
        unfold press
        dsimp only
        rw [List.size_toArray]
        refine Nat.le_trans (List.length_filter_le _ _) ?_
        rw [Array.length_toList]
        omega
      obtain ⟨sq, sz2⟩ := join_sh (K := K) e2 sz
      refine ⟨_, D, signs (press y x), rfl, rfl, .inl sq, sz2, ?_⟩
      rw [join_signs]
      exact q _ sm
theorem ok_spo {f fU : Addr} {fd fdU : FuncData} (D : DefAt K mg "_law_spots" sSpo ["_law_lots_here", "_law_trio"] f fd) (DU : DefAt K mg "_law_upon" sUpo ["_law_word", "_law_trio"] fU fdU) (T : Txt mg) : FnOk P w K mg base CX0 2 f fd ["_law_lots_here", "_law_trio"] (spSpo K) := by
  have GU : FnOk P w K mg base CX0 1 fU fdU ["_law_word", "_law_trio"] spUpo := ok_upo DU
  refine D.F.ok scSpo (fun vs H Q E h => ?_) (fun cdv A outer sh H vs Q E hr h => ?_)
  · obtain ⟨a, x, ys, rfl, _⟩ := h
    rfl
  · obtain ⟨a, x, ys, rfl, ha, hy, few, q⟩ := h
    refine ⟨_, pss_cons (ps_set (i := 2) scSpo.nd rfl (.inl rfl) (pe_lstS pa_nil))
      (pss_cons (ps_for PassesOwn.never rfl (pi_list (pv 0)) (pg_name (i := 3) scSpo.nd rfl (.inl rfl))
        (pss_cons (ps_set (i := 4) scSpo.nd rfl (.inr rfl) (pe_call GU (hr.mono (by decide)) (by rfl) DU.g DU.F.kp DU.b .nil pass0 (pa_cons (pv 3) (pa_cons (pv 1) pa_nil))))
        (pss_one (ps_set (i := 2) scSpo.nd rfl (.inl rfl) (pe_op op_catS (pv 2) (pe_lc (own := [("_law_k", 5)]) (g := gName 5) (tt := tYes) rfl scSpo.nd (pi_range1 (by rfl) T.b_range (pa_cons pe_int pa_nil)) (blkOk_by (own := [("_law_k", 5)]) (N := ["_law_lots_here", "_law_trio", "_law_found", "_law_word", "_law_stood", "_law_k"]) (sc := defScope sSpo) (by decide +kernel))
          (fun _ _ _ _ _ => pg_name (i := 5) scSpo.nd rfl (Or.inl rfl)) (fun _ _ _ _ _ => pts_nil) (fun _ _ _ _ _ => pe_tupS (pa_cons (pe_ix ix_str (pv 4) (pv 5) (fun _ _ => rfl)) (pa_cons (pv 5) pa_nil)))))))))
      (pss_one (ps_ret (pv 2)))), ?_⟩
    have lim : ∀ {n : Nat}, n ≤ 1000 → n ≤ sizeLine := fun h => by rw [sizeLine_eq]; omega
    have sl : ∀ l : List Str, (spotsL x l).length = 3 * l.length := fun l => by
      induction l with
      | nil => rfl
      | cons y l ih =>
        unfold spotsL at ih ⊢
        rw [List.flatMap_cons, List.length_append, ih, List.length_cons]
        unfold spotsO
        rw [List.length_map, List.length_range]
        omega
    refine ⟨lim (show 0 ≤ 1000 by decide), fun F H1 s1 n1 e1 => ⟨_, rfl, a, rfl, ⟨_, same_seqL ha s1⟩, for_list (K := K) (a := a) (xs := ys.map V.str) (fun k σ H' => ∃ (F : Addr) (vs : List V) (v3 v4 v5 : Option V), σ = [some (.ref a), some (.str x), some (.ref F), v3, v4, v5] ∧ Same H H' ∧ H' F = some (.lst vs) ∧ PairsSI H' vs (spotsL x (ys.take k)))
      ⟨F, [], _, _, _, rfl, s1, e1, .nil⟩ (fun k σ H' _ hP => ?_) (fun k v σ H2 hv hP => ?_) (fun σ H2 hP => ?_)⟩⟩
    · obtain ⟨_, _, _, _, _, _, s, _⟩ := hP
      exact same_seqL ha s
    · obtain ⟨F, vs, v3, v4, v5, rfl, s2, eF, ps⟩ := hP
      rw [List.getElem?_map] at hv
      obtain ⟨y, hyk, rfl⟩ := Option.map_eq_some_iff.mp hv
      have yin := List.mem_of_getElem? hyk
      obtain ⟨y6, p3⟩ := hy y yin
      have tk : ys.take (k + 1) = ys.take k ++ [y] := by rw [List.take_succ, hyk, Option.toList_some]
      refine ⟨_, rfl, _, rfl, y, x, rfl, y6, fun H3 s3' => ?_⟩
      refine ⟨_, rfl, 3, rfl, by decide, by decide, fun D nD => lc_range (lo := 0) (n := (3 : Int).toNat) (fun m H' => Same H3 H' ∧ ∃ ws : List V, H' D = some (.lst ws) ∧ PairsSI H' ws ((List.range m).map fun k => (atP (press y x) k, (k : Int)))) ⟨same_new nD, [], upd_same, .nil⟩ (fun m H4 hm hP => ?_) (fun H4 hP => ?_)⟩
      · obtain ⟨s4, ws, e4, pw⟩ := hP
        have m3 : m < 3 := hm
        have pl : (press y x).cps.toList.length = 3 := by rw [Array.length_toList]; exact p3
        have g : atI (press y x).cps.toList (0 + (m : Int)) = some ((press y x).cps.getD m 0) := by
          rw [Int.zero_add]
          refine atI_nat ?_
          rw [List.getElem?_eq_getElem (by omega), Array.getD_eq_getD_getElem?, ← Array.getElem?_toList, List.getElem?_eq_getElem (by omega)] <;> rfl
        have wl := pw.len
        rw [List.length_map, List.length_range] at wl
        refine ⟨rfl, _, rfl, _, rfl, press y x, _, _, rfl, rfl, lim (by show (press y x).cps.size ≤ 1000; omega), g, _, rfl, lim (show 2 ≤ 1000 by decide), fun T0 H5 s5 n5 e5 => ⟨ws, s5 _ _ e4, by rw [sizeLine_eq]; omega, fun b o h => by rw [upd_ne (ne_of_none h nD)]; exact s5 _ _ (s4 _ _ h), ws ++ [.ref T0], upd_same, ?_⟩⟩
        have T0D : T0 ≠ D := fun z => by
          rw [z, e4] at n5
          cases n5
        have old : ∀ {b : Addr} {o : HO}, H4 b = some o → b ≠ D → (upd H5 D (.lst (ws ++ [.ref T0]))) b = some o := fun {b o} h n => by
          rw [upd_ne n]
          exact s5 _ _ h
        obtain ⟨bs, e1', e2', hb⟩ := pw
        refine ⟨bs ++ [(T0, atP (press y x) m, (m : Int))], by rw [e1', List.map_append] <;> rfl, by rw [List.map_append, e2', List.range_succ, List.map_append] <;> rfl, fun b hbm => ?_⟩
        rcases List.mem_append.mp hbm with h | h
        · have hbb := hb b h
          exact old hbb fun z => by rw [z, e4] at hbb; cases hbb
        · rw [List.mem_singleton.mp h, upd_ne T0D, e5]
          show some (HO.tup [V.str ⟨#[_]⟩, V.int (0 + (m : Int))]) = some (HO.tup [V.str (atP (press y x) m), V.int (m : Int)])
          rw [Int.zero_add] <;> rfl
      · obtain ⟨s4, ws, e4, pw⟩ := hP
        have S4 : Same H2 H4 := s3'.trans s4
        have vl := ps.len
        rw [sl, List.length_take] at vl
        have wl := pw.len
        rw [List.length_map, List.length_range] at wl
        have w3 : ws.length = 3 := wl
        refine ⟨F, D, _, _, rfl, rfl, S4 _ _ eF, e4, lim (by omega), fun p H5 s5 n5 e5 => ⟨p, vs ++ ws, _, _, _, rfl, s2.trans (S4.trans s5), e5, ?_⟩⟩
        have := ((ps.same S4).app pw).same s5
        unfold spotsL at this ⊢
        rw [tk, List.flatMap_append]
        simpa [spotsO] using this
    · obtain ⟨F, vs, v3, v4, v5, rfl, s2, eF, ps⟩ := hP
      rw [List.length_map, List.take_length] at ps
      exact ⟨_, rfl, q F H2 vs s2 eF ps⟩
end
end L2.Cal
end

section
set_option maxRecDepth 100000
set_option maxHeartbeats 4000000
/-! calm by places and by wheels (pure) -/
namespace L2.Cal
open PySem PySem.Spec PyProof.Rows L2
/-- orders of the same letters, one behind the other in any way -/
structure Loose (ys : List Str) (y : Str) : Prop where
  of : ∀ z ∈ ys, z.cps.toList.Perm y.cps.toList
  let_ : Lett y
  h3 : 3 ≤ y.cps.size
  h6 : y.cps.size ≤ 6
  some : 0 < ys.length
theorem Good.loose {ys : List Str} {y : Str} (G : Good ys y) : Loose ys y := ⟨G.lot.of, G.let_, G.h3, G.h6, G.lot.some⟩
theorem Loose.snoc {ys : List Str} {y z : Str} (L : Loose ys y) (h : z.cps.toList.Perm y.cps.toList) : Loose (ys ++ [z]) y :=
  ⟨fun u hu => by rcases List.mem_append.mp hu with k | k; exact L.of u k; rw [List.mem_singleton.mp k]; exact h, L.let_, L.h3, L.h6, by rw [List.length_append]; exact Nat.lt_of_lt_of_le L.some (Nat.le_add_right _ _)⟩
theorem tidy_lt {y : Str} (h : Lett y) : (tidy y).cps.toList.Pairwise (· < ·) := by
  have n : (tidy y).cps.toList.Nodup := (tidy_perm y).nodup_iff.mpr h.1
  exact (List.Pairwise.and (tidy_up y) n).imp fun ⟨a, b⟩ => Nat.lt_of_le_of_ne a b
theorem trj_put {l : List Nat} {k m : Nat} : ∀ {J j : Nat}, m < j → j < J → s3 (l.getD m 0) (l.getD j 0) (l.getD k 0) ∈ trj l k J
  | 0, _, _, h => absurd h (Nat.not_lt_zero _)
  | J + 1, j, h1, h2 => by
    show _ ∈ trj l k J ++ _
    rw [List.mem_append]
    by_cases c : j < J
    · exact .inl (trj_put h1 c)
    · have : j = J := by omega
      subst this
      exact .inr (List.mem_map.mpr ⟨m, List.mem_range.mpr h1, rfl⟩)
theorem trk_put {l : List Nat} {m j : Nat} : ∀ {n k : Nat}, m < j → j < k → k < n → s3 (l.getD m 0) (l.getD j 0) (l.getD k 0) ∈ trk l n
  | 0, _, _, _, h => absurd h (Nat.not_lt_zero _)
  | n + 1, k, h1, h2, h3 => by
    show _ ∈ trk l n ++ trj l n n
    rw [List.mem_append]
    by_cases c : k < n
    · exact .inl (trk_put h1 h2 c)
    · have : k = n := by omega
      subst this
      exact .inr (trj_put h1 h2)
theorem trk_tri {l : List Nat} (up : l.Pairwise (· < ·)) {x : Str} : x ∈ trk l l.length ↔ x ∈ tri l := by
  have pw := List.pairwise_iff_getElem.mp up
  rw [mem_tri]
  constructor
  · intro h
    obtain ⟨a, b, c, i0, i1, i2, rfl, h01, h12, ea, eb, ec⟩ := trk_in (Nat.le_refl _) x h
    obtain ⟨l0, e0⟩ := List.getElem?_eq_some_iff.mp ea
    obtain ⟨l1, e1⟩ := List.getElem?_eq_some_iff.mp eb
    obtain ⟨l2, e2⟩ := List.getElem?_eq_some_iff.mp ec
    refine ⟨a, b, c, List.mem_of_getElem? ea, List.mem_of_getElem? eb, List.mem_of_getElem? ec, ?_, ?_, rfl⟩
    · rw [← e0, ← e1]; exact pw _ _ l0 l1 h01
    · rw [← e1, ← e2]; exact pw _ _ l1 l2 h12
  · rintro ⟨a, b, c, ha, hb, hc, ab, bc, rfl⟩
    obtain ⟨i, li, ei⟩ := List.mem_iff_getElem.mp ha
    obtain ⟨j, lj, ej⟩ := List.mem_iff_getElem.mp hb
    obtain ⟨k, lk, ek⟩ := List.mem_iff_getElem.mp hc
    have ord : ∀ {i j : Nat} (li : i < l.length) (lj : j < l.length), l[i] < l[j] → i < j := fun {i j} li lj h => by
      rcases Nat.lt_trichotomy i j with z | z | z
      · exact z
      · subst z
        exact absurd h (Nat.lt_irrefl _)
      · exact absurd (Nat.lt_trans h (pw _ _ lj li z)) (Nat.lt_irrefl _)
    have gd : ∀ {i : Nat} (h : i < l.length), l.getD i 0 = l[i] := fun {i} h => by rw [List.getD_eq_getElem?_getD, List.getElem?_eq_getElem h] <;> rfl
    have := trk_put (l := l) (ord li lj (by rw [ei, ej]; exact ab)) (ord lj lk (by rw [ej, ek]; exact bc)) lk
    rw [gd li, gd lj, gd lk, ei, ej, ek] at this
    exact this
theorem Loose.six {ys : List Str} {y : Str} (L : Loose ys y) {a b c : Nat} (d : Apart a b c) (ha : a ∈ y.cps.toList) (hb : b ∈ y.cps.toList) (hc : c ∈ y.cps.toList) : ∀ o ∈ ys, press o (s3 a b c) ∈ six a b c := fun o ho => by
  have p := L.of o ho
  have nd : o.cps.toList.Nodup := (L.let_.perm p).1
  refine six_of d ?_
  show (o.cps.toList.filter fun x => decide (x ∈ (s3 a b c).cps.toList)).Perm [a, b, c]
  obtain ⟨ab, ac, bc⟩ := d
  refine (List.perm_ext_iff_of_nodup (nd.filter _) (by simp [ab, ac, bc])).mpr fun x => ?_
  have e : (s3 a b c).cps.toList = [a, b, c] := rfl
  rw [List.mem_filter, e, decide_eq_true_eq]
  constructor
  · exact fun h => h.2
  · intro h
    refine ⟨?_, h⟩
    simp only [List.mem_cons, List.not_mem_nil, or_false] at h
    rcases h with rfl | rfl | rfl
    · exact p.mem_iff.mpr ha
    · exact p.mem_iff.mpr hb
    · exact p.mem_iff.mpr hc
/-- nine spots are taken exactly if no place is left -/
theorem nine_iff {ys : List Str} {y : Str} (L : Loose ys y) {a b c : Nat} (d : Apart a b c) (ha : a ∈ y.cps.toList) (hb : b ∈ y.cps.toList) (hc : c ∈ y.cps.toList) {qs : List (Str × Int)} (nd : qs.Nodup) (mem : ∀ p, p ∈ qs ↔ p ∈ spotsL (s3 a b c) ys) :
    qs.length = 9 ↔ wheelAt ys (s3 a b c) ≠ none := by
  have six' := L.six d ha hb hc
  rw [wheelAt_s3, ne_eq, wheel_none d (pr := prs a b c) six', Classical.not_not]
  let nn : List (Str × Int) := [⟨#[a]⟩, ⟨#[b]⟩, ⟨#[c]⟩].flatMap fun t : Str => [(t, 0), (t, 1), (t, 2)]
  have sub : ∀ p ∈ qs, p ∈ nn := fun p hp => by
    obtain ⟨o, ho, hp⟩ := List.mem_flatMap.mp ((mem p).mp hp)
    obtain ⟨k, hk, rfl⟩ := List.mem_map.mp hp
    rw [List.mem_range] at hk
    have h6 := six' o ho
    generalize press o (s3 a b c) = m at h6
    simp only [six, W1, W2, List.cons_append, List.nil_append, List.mem_cons, List.not_mem_nil, or_false] at h6
    have k3 : k = 0 ∨ k = 1 ∨ k = 2 := by omega
    rcases h6 with rfl | rfl | rfl | rfl | rfl | rfl <;> rcases k3 with rfl | rfl | rfl <;> simp [nn, atP, s3]
  have nnd : nn.Nodup := by
    obtain ⟨ab, ac, bc⟩ := d
    simp [nn, ab, ac, bc]
  constructor
  · intro nine
    have full : ∀ p ∈ nn, p ∈ qs := fun p hp => by
      refine Classical.byContradiction fun no => ?_
      have nd2 : (p :: qs).Nodup := List.nodup_cons.mpr ⟨no, nd⟩
      have := List.Nodup.length_le_of_subset nd2 (l₂ := nn) fun z hz => by
        rcases List.mem_cons.mp hz with rfl | hz
        · exact hp
        · exact sub z hz
      rw [List.length_cons, nine] at this
      exact absurd this (show ¬ 9 + 1 ≤ 9 by decide)
    unfold placesL spotsOf
    rw [List.flatMap_eq_nil_iff]
    intro t ht
    rw [List.map_eq_nil_iff, List.filter_eq_nil_iff]
    intro q hq hall
    have hk : (t, (q.2 : Int)) ∈ nn := by
      have e : signs (s3 a b c) = [⟨#[a]⟩, ⟨#[b]⟩, ⟨#[c]⟩] := rfl
      rw [e] at ht
      simp only [List.mem_cons, List.not_mem_nil, or_false] at ht
      simp only [posOf, List.mem_cons, List.not_mem_nil, or_false] at hq
      rcases ht with rfl | rfl | rfl <;> rcases hq with rfl | rfl | rfl <;> simp [nn]
    obtain ⟨o, ho, hp⟩ := List.mem_flatMap.mp ((mem _).mp (full _ hk))
    obtain ⟨k, _, ek⟩ := List.mem_map.mp hp
    have ek1 : atP (press o (s3 a b c)) k = t := (Prod.mk.inj ek).1
    have ek2 : (k : Int) = (q.2 : Int) := (Prod.mk.inj ek).2
    have : k = q.2 := by omega
    subst this
    have := List.all_eq_true.mp hall _ (List.mem_map.mpr ⟨o, ho, rfl⟩)
    rw [show atP (prs a b c o) q.2 = t from ek1, decide_eq_true rfl] at this
    cases this
  · intro place
    have full : ∀ p ∈ nn, p ∈ qs := fun p hp => by
      obtain ⟨t, ht, hp⟩ := List.mem_flatMap.mp hp
      have hs : ∀ q ∈ posOf, (t, (q.2 : Int)) ∈ qs := fun q hq => by
        unfold placesL spotsOf at place
        rw [List.flatMap_eq_nil_iff] at place
        have h1 := place t ht
        rw [List.map_eq_nil_iff, List.filter_eq_nil_iff] at h1
        have h2 := h1 q hq
        rw [List.all_eq_true] at h2
        refine Classical.byContradiction fun no => h2 fun m hm => ?_
        obtain ⟨o, ho, rfl⟩ := List.mem_map.mp hm
        refine (Bool.not_eq_true' _).mpr (decide_eq_false fun e => no ((mem _).mpr (List.mem_flatMap.mpr ⟨o, ho, List.mem_map.mpr ⟨q.2, ?_, ?_⟩⟩)))
        · rw [List.mem_range]
          simp only [posOf, List.mem_cons, List.not_mem_nil, or_false] at hq
          rcases hq with rfl | rfl | rfl <;> decide
        · exact Prod.ext e rfl
      simp only [List.mem_cons, List.not_mem_nil, or_false] at hp
      rcases hp with rfl | rfl | rfl
      · exact hs ("first", 0) (by simp [posOf])
      · exact hs ("middle", 1) (by simp [posOf])
      · exact hs ("last", 2) (by simp [posOf])
    have l1 := List.Nodup.length_le_of_subset nd sub
    have l2 := List.Nodup.length_le_of_subset nnd full
    have : nn.length = 9 := rfl
    omega
/-- whether some orders are calm -/
def calmB (ys : List Str) (y : Str) : Bool := decide (roughR ys (tidy y).cps.toList = none)
theorem calm_iff {ys : List Str} {y : Str} : calmB ys y = true ↔ ∀ x ∈ tri (tidy y).cps.toList, wheelAt ys x = none := by
  unfold calmB
  rw [decide_eq_true_iff, rough_none]
end L2.Cal
end

section
set_option maxRecDepth 100000
set_option maxHeartbeats 4000000
set_option synthInstance.maxHeartbeats 400000
/-! the fewest orders that are left out -/
namespace L2.Cal
open PySem PySem.Spec PyProof.Rows L2 CpComb
abbrev sLst : Stmt := topS 35
abbrev nLst : List Str := ["roll", "orders", "wheels", "many", "found", "three"]
theorem scLst : FnScope nLst ["roll"] (defScope sLst) := ⟨rfl, rfl, rfl, by decide +kernel, rfl, by decide +kernel, by decide +kernel⟩
/-- the three orders that are not calm -/
def whlT (ys : List Str) (y : Str) : List (List Str) := (cmbT 3 ys).filter fun t => !calmB t y
/-- the least number with which there is a way -/
def leastN (ys : List Str) (ws : List (List Str)) : Nat := ((List.range (ys.length + 1)).find? fun m => !(wayT ys ws m).isEmpty).getD 0
theorem Good.sub {ys t : List Str} {y : Str} (G : Good ys y) (s : t.Sublist ys) (h0 : 0 < t.length) : Good t y where
  lot := ⟨climbs_of ((climbs_all G.lot.up).sublist s), G.lot.one.sublist s, h0, fun z hz => G.lot.of z (s.subset hz)⟩
  let_ := G.let_
  h3 := G.h3
  h6 := G.h6
  few := Nat.le_trans s.length_le G.few
theorem Good.rollY {K : PySem.W.Frag} {C : Addr} {H : Hp} {r t : Addr} {y : Str} {ys : List Str} (G : Good ys y) (ra : RollAt C H r t (tidy y)) (ht : SqT K H t (ys.map V.str)) : RollY K C H r t y ys :=
  ⟨ra, ht, by rw [perm_size (tidy_perm y)]; exact G.h6, fun z hz => by rw [perm_size (G.lot.of z hz)]; exact G.h6, by have := G.few; omega⟩
theorem way_whole {ys : List Str} {ws : List (List Str)} (h : ∀ w ∈ ws, 0 < w.length ∧ ∀ o ∈ w, o ∈ ys) : ys ∈ wayT ys ws ys.length := by
  refine List.mem_filter.mpr ⟨mem_cmbT.mpr ⟨List.Sublist.refl _, rfl⟩, ?_⟩
  unfold hitB
  rw [List.all_eq_true]
  intro w hw
  obtain ⟨h0, h1⟩ := h w hw
  rw [Bool.not_eq_true', Bool.eq_false_iff]
  intro hall
  have hg := List.getElem_mem h0
  have := List.all_eq_true.mp hall _ hg
  rw [decide_eq_true (h1 _ hg)] at this
  cases this
theorem least_is {ys : List Str} {ws : List (List Str)} {m : Nat} (hm : m ≤ ys.length) (h : wayT ys ws m ≠ []) (no : ∀ k, k < m → wayT ys ws k = []) : leastN ys ws = m := by
  unfold leastN
  have e : (List.range (ys.length + 1)).find? (fun m => !(wayT ys ws m).isEmpty) = some m := by
    refine List.find?_eq_some_iff_append.mpr ⟨?_, List.range m, (List.range (ys.length + 1)).drop (m + 1), ?_, ?_⟩
    · cases q : wayT ys ws m with
      | nil => exact absurd q h
      | cons _ _ => rfl
    · have h1 : m < (List.range (ys.length + 1)).length := by rw [List.length_range]; omega
      have h2 := List.drop_eq_getElem_cons h1
      rw [List.getElem_range] at h2
      have h3 := List.take_append_drop m (List.range (ys.length + 1))
      rw [h2, List.take_range, Nat.min_eq_left (by omega)] at h3
      exact h3.symm
    · intro k hk
      rw [no k (List.mem_range.mp hk)] <;> rfl
  rw [e] <;> rfl
def spLst (K : PySem.W.Frag) (C : Addr) : Sp := fun vs H Q _ => ∃ (r t : Addr) (ys : List Str) (y : Str), vs = [.ref r] ∧ RollAt C H r t (tidy y) ∧ SqT K H t (ys.map V.str) ∧ Good ys y ∧ ys.length ≤ 12 ∧
  ∀ (p : Addr) (H' : Hp) (vs' : List V), Same H H' → H' p = some (.tup vs') → TextsAt H' vs' (wayT ys (whlT ys y) (leastN ys (whlT ys y))) → Q (.ref p) H'
section
variable {P : Program} {w : World} {K : PySem.W.Frag} {mg : Str → Option Value} {base : Heap} {C : Addr}
theorem ok_lst {f fK fW fB fI fRu fTo fSt fWu fWa fN fR fIs fH fL fT fOr pT pO : Addr} {fd fdK fdW fdB fdI fdRu fdTo fdSt fdWu fdWa fdN fdR fdIs fdH fdL fdT fdOr : FuncData}
    (D : DefAt K mg "least_out" sLst ["roll"] f fd) (DK : DefAt K mg "check_roll" sChk ["roll"] fK fdK) (DW : DefAt K mg "ways_out" sWay ["orders", "wheels", "many"] fW fdW) (DB : DefAt K mg "breaks_all" sBrk ["out", "wheels"] fB fdB)
    (DI : DefAt K mg "is_calm" sIsC ["roll"] fI fdI) (DRu : DefAt K mg "rough" sRou ["roll"] fRu fdRu) (DTo : DefAt K mg "threes_of" sThs ["things"] fTo fdTo)
    (DSt : DefAt K mg "standing" sSta ["order", "three"] fSt fdSt) (DWu : DefAt K mg "wheels_upon" sWup ["three"] fWu fdWu) (DWa : DefAt K mg "wheel_among" sWam ["orders", "three"] fWa fdWa)
    (DR : DefAt K mg "right_ahead" sRah ["orders"] fR fdR) (DIs : DefAt K mg "is_order" sIsO ["value"] fIs fdIs) (DH : DefAt K mg "things_of" sThO ["order"] fH fdH)
    (FN : Fun K "__init__" "Roll.__init__" sIni fN fdN) (bI : Binds K fdN ["self", "orders"] []) (MK : Mk K C fN)
    (OL : Own K C "__len__" fL) (FL : Fun K "__len__" "Roll.__len__" sLen fL fdL) (bL : Binds K fdL ["self"] [])
    (PT : PropOf K C "things" pT fT) (FT : Fun K "things" "Roll.things" sThi fT fdT) (bT : Binds K fdT ["self"] []) (PO : PropOf K C "orders" pO fOr) (FO : Fun K "orders" "Roll.orders" sOrd fOr fdOr) (bO : Binds K fdOr ["self"] [])
    (hcb : mg "combinations" = some (.type "itertools.combinations")) (cO : ∃ t, mg "MOST_OUT" = some (.int 12 t)) (T : Txt mg) (Lm : Lims mg) (R : RollC K mg C) : FnOk P w K mg base CX0 5 f fd ["roll"] (spLst K C) := by
  have GK : FnOk P w K mg base CX0 1 fK fdK ["roll"] (spChk C) := ok_chk DK T R
  have GW : FnOk P w K mg base CX0 2 fW fdW ["orders", "wheels", "many"] (spWay K) := ok_way DW DB hcb T
  have GI : FnOk P w K mg base CX0 4 fI fdI ["roll"] (spIsC K C) := ok_isc DI DRu DK DTo DSt DWu DWa T R PT FT bT PO FO bO
  have GN : FnOk P w K mg base CX0 3 fN fdN ["self", "orders"] (spIni K C) := ok_ini FN DR DIs DH T Lm R
  have GL : FnOk P w K mg base CX0 1 fL fdL ["self"] (spLen K C) := ok_len FL T R
  have GO : FnOk P w K mg base CX0 1 fOr fdOr ["self"] (spOrd C) := ok_ord FO R
  obtain ⟨_, cO⟩ := cO
  refine D.F.ok scLst (fun vs H Q E h => ?_) (fun cdv A outer sh H vs Q E hr h => ?_)
  · obtain ⟨r, t, ys, y, rfl, _⟩ := h
    rfl
  · obtain ⟨r, t, ys, y, rfl, ra, ht, G, few, q⟩ := h
    refine ⟨_, (pss_cons (ps_expr (pe_call GK (hr.mono (by decide)) (by rfl) DK.g DK.F.kp DK.b .nil pass0 (pa_cons (pv 0) pa_nil)))
      (pss_cons (ps_if (pt_cmpR op_gt (pe_callB (call_lenO OL GL (hr.mono (by decide)) bL pass0) (by rfl) T.b_len (by decide +kernel) (pa_cons (pv 0) pa_nil)) (pe_glob (v := .int 12) (by rfl) cO ⟨_, rfl⟩) (nomark _)) (pss_one ps_never) pss_nil)
      (pss_cons (ps_set (i := 1) scLst.nd rfl (.inl rfl) (pe_callTy call_list_of (by rfl) T.b_list (by decide +kernel) (pa_cons (pe_prop (pv 0) R.cls PO GO (hr.mono (by decide)) bO .nil pass0 rfl) pa_nil)))
      (pss_cons (ps_setLc (i := 2) (own := [("three", 5)]) (g := gName 5) (tt := _) rfl scLst.nd rfl rfl (sw_true rfl rfl rfl (by decide +kernel)) (pi_combW (by rfl) hcb (by rfl) (pa_cons (pv 1) (pa_cons pe_int pa_nil))) (blkOk_by (own := [("three", 5)]) (N := nLst) (sc := defScope sLst) (by decide +kernel))
          (fun _ _ _ _ _ => pg_name (i := 5) scLst.nd rfl (Or.inl rfl)) (fun _ _ _ _ _ => pts_one (pt_not (pt_val (pe_call GI (hr.mono (by decide)) (by rfl) DI.g DI.F.kp DI.b .nil pass0 (pa_cons (pe_make MK GN (hr.mono (by decide)) (by rfl) R.g bI .nil pass0 (pa_cons (pv 5) pa_nil)) pa_nil))))) (fun _ _ _ _ _ => pv 5))
      (pss_cons (ps_set (i := 3) scLst.nd rfl (.inl rfl) pe_int)
      (pss_cons (ps_set (i := 4) scLst.nd rfl (.inl rfl) (pe_call GW (hr.mono (by decide)) (by rfl) DW.g DW.F.kp DW.b .nil pass0 (pa_cons (pv 1) (pa_cons (pv 2) (pa_cons (pv 3) pa_nil)))))
      (pss_cons (ps_while PassesOwn.never (pt_cmpR op_eq (pe_callB call_len_seq (by rfl) T.b_len (by decide +kernel) (pa_cons (pv 4) pa_nil)) pe_int (nomark _))
        (pss_cons (ps_aug (i := 3) scLst.nd rfl (.inl rfl) pe_int ip_add)
        (pss_one (ps_set (i := 4) scLst.nd rfl (.inl rfl) (pe_call GW (hr.mono (by decide)) (by rfl) DW.g DW.F.kp DW.b .nil pass0 (pa_cons (pv 1) (pa_cons (pv 2) (pa_cons (pv 3) pa_nil))))))))
      (pss_one (ps_ret (pe_callTy call_tuple_of (by rfl) T.b_tuple (by decide +kernel) (pa_cons (pv 4) pa_nil))))))))))), ?_⟩
    obtain ⟨dx, fs, hx, _, _⟩ := id ra
    have small : ys.length < 2 ^ 62 := by omega
    refine ⟨_, rfl, r, t, _, rfl, ra, ?_⟩
    refine ⟨_, rfl, r, dx, fs.1, rfl, hx, r, t, _, ys.map V.str, rfl, ra, ht, ys.length, by rw [List.length_map], small, _, _, rfl, rfl, _, rfl, ite2 (fun c => ?_) (fun _ => ?_)⟩
    · exfalso
      have c := of_decide_eq_true c
      omega
    refine ⟨_, rfl, r, dx, fs.1, rfl, hx, r, t, _, rfl, ra, t, _, rfl, .inr ht, fun l1 n1 => ?_⟩
    have s1 : Same H (upd H l1 (.lst (ys.map V.str))) := same_new n1
    have e1 : (upd H l1 (.lst (ys.map V.str))) l1 = some (.lst (ys.map V.str)) := upd_same
    generalize upd H l1 (.lst (ys.map V.str)) = H1 at s1 e1 ⊢
    have pw : 2 ^ ys.length ≤ 4096 := Nat.le_trans (Nat.pow_le_pow_right (by decide) few) (by decide)
    have clen : (cmbW (ys.map V.str) 3).length ≤ 4096 := by
      have := cmbT_len 3 ys
      rw [← cmbW_T, List.length_map] at this
      omega
    refine ⟨_, rfl, .ref l1, ys.map V.str, 3, rfl, .inr ⟨l1, rfl, .inl (SqL.of e1)⟩, by decide, by rw [List.length_map]; omega, fun D nD => lc_it walk_combW (fun k H' => Same H1 H' ∧ ∃ vs', H' D = some (.lst vs') ∧ TextsAt H' vs' ((((cmbW (ys.map V.str) 3).take k).map (pickT ys)).filter fun t => !calmB t y))
      ⟨same_new nD, [], upd_same, .nil⟩ (fun _ _ _ _ => trivial) (fun k v H2 H3 hk hP hY => ?_) (fun H2 hP => ?_)⟩
    · obtain ⟨s2, vs', e2, t2⟩ := hP
      obtain ⟨TT, l, rfl, nT, hl, rfl⟩ := hY
      have lin := List.mem_of_getElem? hl
      have tk : (cmbW (ys.map V.str) 3).take (k + 1) = (cmbW (ys.map V.str) 3).take k ++ [l] := by rw [List.take_succ, hl, Option.toList_some]
      have s3' : Same H2 (upd H2 TT (.tup (pickV (ys.map V.str) l))) := same_new nT
      have eT : (upd H2 TT (.tup (pickV (ys.map V.str) l))) TT = some (.tup ((pickT ys l).map V.str)) := by rw [upd_same, cmbW_pick lin]
      generalize upd H2 TT (.tup (pickV (ys.map V.str) l)) = H3 at s3' eT
      obtain ⟨sub, l3⟩ := mem_cmbT.mp (show pickT ys l ∈ cmbT 3 ys by rw [← cmbW_T]; exact List.mem_map.mpr ⟨l, lin, rfl⟩)
      have G3 := G.sub sub (by omega)
      have vlen : vs'.length ≤ 4096 := by
        rw [t2.len]
        refine Nat.le_trans (List.length_filter_le _ _) ?_
        rw [List.length_map, List.length_take]
        omega
      refine ⟨rfl, _, rfl, fun x1 dx1 nx1 nd1 ne1 => ?_⟩
      have m1 : Same H3 (upd (upd H3 dx1 (.own x1)) x1 (.ins C dx1 [])) := fun b o e => by rw [upd_ne (ne_of_none e nx1), upd_ne (ne_of_none e nd1)]; exact e
      refine ⟨x1, TT, dx1, pickT ys l, y, rfl, upd_same, SqT.of (m1 _ _ eT), .base (.tup (m1 _ _ eT)), G3, fun H4 k4 r4 => ⟨rfl, ?_⟩⟩
      have s4 : Same H3 H4 := fun b o e => k4 b o (ne_of_none e nx1) (m1 _ _ e)
      refine ⟨x1, TT, y, pickT ys l, rfl, G3.rollY r4 (SqT.of (s4 _ _ eT)), fun H5 s5 => ⟨_, rfl, ?_⟩⟩
      show (if (!calmB (pickT ys l) y) = true then _ else _)
      have S5 : Same H2 H5 := s3'.trans (s4.trans s5)
      refine ite2 (fun c => ?_) (fun c => ?_)
      · have e5 := S5 _ _ e2
        refine ⟨_, rfl, _, e5, by rw [sizeLine_eq]; omega, fun b u h => ?_, _, upd_same, ?_⟩
        · rw [upd_ne (ne_of_none h nD)]
          exact S5 _ _ (s2 _ _ h)
        · have := ((t2.same S5).app (TextsAt.one (s5 _ _ (s4 _ _ eT)))).keep (o := .lst (vs' ++ [V.ref TT])) e5 (fun _ _ e => e)
          rw [tk, List.map_append, List.filter_append, List.map_cons, List.map_nil, List.filter_cons, if_pos c]
          exact this
      · refine ⟨s2.trans S5, vs', S5 _ _ e2, ?_⟩
        rw [tk, List.map_append, List.filter_append, List.map_cons, List.map_nil, List.filter_cons, if_neg c, List.filter_nil, List.append_nil]
        exact t2.same S5
    · obtain ⟨s2, us, e2, t2⟩ := hP
      rw [List.take_length, cmbW_T] at t2
      have t2' : TextsAt H2 us (whlT ys y) := t2
      have w3 : ∀ w ∈ whlT ys y, w.length = 3 ∧ ∀ o ∈ w, o ∈ ys := fun w hw => by
        obtain ⟨h1, h2⟩ := mem_cmbT.mp (List.mem_filter.mp hw).1
        exact ⟨h2, fun o ho => h1.subset ho⟩
      have w10 : ∀ w ∈ whlT ys y, w.length ≤ 10 := fun w hw => by rw [(w3 w hw).1]; decide
      have whole := way_whole (ys := ys) (ws := whlT ys y) fun w hw => ⟨by rw [(w3 w hw).1]; decide, (w3 w hw).2⟩
      refine ⟨_, rfl, _, rfl, _, rfl, l1, D, 0, ys, us, whlT ys y, rfl, s2 _ _ e1, e2, t2', w10, few, by decide, fun p0 H3 vs3 s3' n3 e3 t3 => ?_⟩
      refine while_by (fun σ H' => ∃ (m : Nat) (p : Addr) (vs' : List V) (v5 : Option V), σ = [some (.ref r), some (.ref l1), some (.ref D), some (.int (m : Nat)), some (.ref p), v5] ∧ Same H2 H' ∧ H' p = some (.lst vs') ∧ TextsAt H' vs' (wayT ys (whlT ys y) m) ∧ m ≤ ys.length ∧ ∀ k, k < m → wayT ys (whlT ys y) k = [])
        (fun σ _ => match σ[3]? with | some (some (V.int i)) => ys.length + 1 - i.toNat | _ => 0)
        ⟨0, p0, vs3, _, rfl, s3', e3, t3, Nat.zero_le _, fun k hk => absurd hk (Nat.not_lt_zero _)⟩ (fun σ H4 hP => ?_) (fun σ H' Q Q' m h => ?_)
      · obtain ⟨m, p, vs', v5, rfl, s4, e4, t4, ml, no⟩ := hP
        have vl := t4.len
        refine ⟨_, rfl, p, _, rfl, .inl (SqL.of e4), rfl, _, rfl, ite2 (fun c => ?_) (fun c => ?_)⟩
        · have l0 : vs'.length = 0 := by
            have := V.int.inj (of_decide_eq_true c)
            omega
          have em : wayT ys (whlT ys y) m = [] := List.length_eq_zero_iff.mp (by omega)
          have mlt : m < ys.length := by
            rcases Nat.lt_or_ge m ys.length with h | h
            · exact h
            · have : m = ys.length := by omega
              rw [← this, em] at whole
              cases whole
          refine ⟨_, rfl, _, _, rfl, rfl, ?_⟩
          refine ⟨_, rfl, _, rfl, _, rfl, l1, D, m + 1, ys, us, whlT ys y, rfl, s4 _ _ (s2 _ _ e1), s4 _ _ e2, t2'.same s4, w10, few, by omega, fun p5 H5 vs5 s5 n5 e5 t5 => ?_⟩
          refine ⟨⟨m + 1, p5, vs5, _, rfl, s4.trans s5, e5, t5, mlt, fun k hk => ?_⟩, ?_⟩
          · by_cases h : k < m
            · exact no k h
            · have : k = m := by omega
              rw [this]
              exact em
          · show ys.length + 1 - ((m : Int) + 1).toNat < ys.length + 1 - ((m : Nat) : Int).toNat
            omega
        · have ne : wayT ys (whlT ys y) m ≠ [] := fun h => by
            rw [h] at vl
            exact c (decide_eq_true (by rw [vl] <;> rfl))
          refine ⟨_, rfl, p, _, rfl, .inl ⟨SqL.of e4, fun l nl => ?_⟩⟩
          refine q l _ vs' (s1.trans (s2.trans (s4.trans (same_new nl)))) upd_same ?_
          rw [least_is ml ne no]
          exact t4.same (same_new nl)
      · obtain ⟨v, e, a, xs, e2, hs, e3, k, ek, hq⟩ := h
        exact ⟨v, e, a, xs, e2, hs, e3, k, ek, m _ _ hq⟩
end
end L2.Cal
end

section
set_option maxRecDepth 100000
set_option maxHeartbeats 4000000
/-! what is left is calm exactly if all wheels are broken; the fewest (pure) -/
namespace L2.Cal
open PySem PySem.Spec PyProof.Rows L2 CpComb
theorem wheelR_none {pr : Str → Str} {ys : List Str} {a b c : Nat} : wheelR pr ys a b c = none ↔ (W1 a b c).all (has pr ys) = false ∧ (W2 a b c).all (has pr ys) = false := by
  unfold wheelR
  generalize (W1 a b c).all (has pr ys) = p
  generalize (W2 a b c).all (has pr ys) = q
  cases p <;> cases q <;> simp
theorem all_has {pr : Str → Str} {ys W : List Str} : W.all (has pr ys) = W.all fun e => decide (e ∈ ys.map pr) := congrArg (List.all W) (funext fun e => has_map)
theorem tri_apart {cs : List Nat} {x : Str} (h : x ∈ tri cs) : ∃ a b c, x = s3 a b c ∧ Apart a b c := by
  obtain ⟨a, b, c, _, _, _, ab, bc, rfl⟩ := mem_tri.mp h
  exact ⟨a, b, c, rfl, by omega, by omega, by omega⟩
theorem W1_nd {a b c : Nat} (d : Apart a b c) : (W1 a b c).Nodup := by
  obtain ⟨ab, ac, bc⟩ := d
  simp [W1, s3_inj, ab, ac, bc, ab.symm, ac.symm, bc.symm]
theorem W2_nd {a b c : Nat} (d : Apart a b c) : (W2 a b c).Nodup := by
  obtain ⟨ab, ac, bc⟩ := d
  simp [W2, s3_inj, ab, ac, bc, ab.symm, ac.symm, bc.symm]
theorem wheel_mono {w rs : List Str} {a b c : Nat} (sub : ∀ o ∈ w, o ∈ rs) (h : wheelAt rs (s3 a b c) = none) : wheelAt w (s3 a b c) = none := by
  rw [wheelAt_s3, wheelR_none, all_has, all_has] at h ⊢
  have one : ∀ W : List Str, (W.all fun e => decide (e ∈ rs.map (prs a b c))) = false → (W.all fun e => decide (e ∈ w.map (prs a b c))) = false := fun W hW => by
    refine Bool.eq_false_iff.mpr fun hall => ?_
    have : (W.all fun e => decide (e ∈ rs.map (prs a b c))) = true := by
      rw [List.all_eq_true] at hall ⊢
      intro e he
      obtain ⟨o, ho, q⟩ := List.mem_map.mp (of_decide_eq_true (hall e he))
      exact decide_eq_true (List.mem_map.mpr ⟨o, sub o ho, q⟩)
    rw [this] at hW
    cases hW
  exact ⟨one _ h.1, one _ h.2⟩
theorem calm_mono {w rs : List Str} {y : Str} (sub : ∀ o ∈ w, o ∈ rs) (h : calmB rs y = true) : calmB w y = true := by
  rw [calm_iff] at h ⊢
  intro x hx
  have := h x hx
  obtain ⟨a, b, c, rfl, _⟩ := tri_apart hx
  exact wheel_mono sub this
/-- three of them that make the wheel -/
theorem wheel_three {ys rs : List Str} {a b c : Nat} (nd : ys.Nodup) (sub : ∀ o ∈ rs, o ∈ ys) (d : Apart a b c) (h : wheelAt rs (s3 a b c) ≠ none) : ∃ t, t ∈ cmbT 3 ys ∧ (∀ o ∈ t, o ∈ rs) ∧ wheelAt t (s3 a b c) ≠ none := by
  have go : ∀ e1 e2 e3 : Str, [e1, e2, e3].Nodup → ([e1, e2, e3].all fun e => decide (e ∈ rs.map (prs a b c))) = true → ∃ t, t ∈ cmbT 3 ys ∧ (∀ o ∈ t, o ∈ rs) ∧ ([e1, e2, e3].all fun e => decide (e ∈ t.map (prs a b c))) = true := fun e1 e2 e3 hn hall => by
    have hall := List.all_eq_true.mp hall
    obtain ⟨o1, m1, q1⟩ := List.mem_map.mp (of_decide_eq_true (hall e1 (by simp)))
    obtain ⟨o2, m2, q2⟩ := List.mem_map.mp (of_decide_eq_true (hall e2 (by simp)))
    obtain ⟨o3, m3, q3⟩ := List.mem_map.mp (of_decide_eq_true (hall e3 (by simp)))
    simp only [List.nodup_cons, List.mem_cons, List.not_mem_nil, or_false, not_or, not_false_eq_true, List.nodup_nil, and_true] at hn
    obtain ⟨⟨n12, n13⟩, n23⟩ := hn
    have d12 : o1 ≠ o2 := fun e => n12 (by rw [← q1, ← q2, e])
    have d13 : o1 ≠ o3 := fun e => n13 (by rw [← q1, ← q3, e])
    have d23 : o2 ≠ o3 := fun e => n23 (by rw [← q2, ← q3, e])
    have mem : ∀ z, z ∈ ys.filter (fun o => decide (o ∈ [o1, o2, o3])) ↔ z ∈ [o1, o2, o3] := fun z => by
      rw [List.mem_filter, decide_eq_true_eq]
      refine ⟨fun h => h.2, fun h => ⟨?_, h⟩⟩
      simp only [List.mem_cons, List.not_mem_nil, or_false] at h
      rcases h with rfl | rfl | rfl
      · exact sub _ m1
      · exact sub _ m2
      · exact sub _ m3
    have pm : (ys.filter fun o => decide (o ∈ [o1, o2, o3])).Perm [o1, o2, o3] := (List.perm_ext_iff_of_nodup (nd.filter _) (by simp [d12, d13, d23])).mpr mem
    refine ⟨_, mem_cmbT.mpr ⟨List.filter_sublist, pm.length_eq⟩, fun o ho => ?_, ?_⟩
    · have := (mem o).mp ho
      simp only [List.mem_cons, List.not_mem_nil, or_false] at this
      rcases this with rfl | rfl | rfl <;> assumption
    · rw [List.all_eq_true]
      intro e he
      simp only [List.mem_cons, List.not_mem_nil, or_false] at he
      rcases he with rfl | rfl | rfl
      · exact decide_eq_true (List.mem_map.mpr ⟨o1, (mem o1).mpr (by simp), q1⟩)
      · exact decide_eq_true (List.mem_map.mpr ⟨o2, (mem o2).mpr (by simp), q2⟩)
      · exact decide_eq_true (List.mem_map.mpr ⟨o3, (mem o3).mpr (by simp), q3⟩)
  rw [wheelAt_s3, ne_eq, wheelR_none, all_has, all_has] at h
  cases e1 : (W1 a b c).all fun e => decide (e ∈ rs.map (prs a b c)) with
  | true =>
    obtain ⟨t, h1, h2, h3⟩ := go _ _ _ (W1_nd d) e1
    refine ⟨t, h1, h2, ?_⟩
    rw [wheelAt_s3, ne_eq, wheelR_none, all_has, all_has]
    rintro ⟨h4, _⟩
    rw [show ((W1 a b c).all fun e => decide (e ∈ t.map (prs a b c))) = true from h3] at h4
    cases h4
  | false =>
    cases e2 : (W2 a b c).all fun e => decide (e ∈ rs.map (prs a b c)) with
    | true =>
      obtain ⟨t, h1, h2, h3⟩ := go _ _ _ (W2_nd d) e2
      refine ⟨t, h1, h2, ?_⟩
      rw [wheelAt_s3, ne_eq, wheelR_none, all_has, all_has]
      rintro ⟨_, h4⟩
      rw [show ((W2 a b c).all fun e => decide (e ∈ t.map (prs a b c))) = true from h3] at h4
      cases h4
    | false => exact absurd ⟨e1, e2⟩ h
/-- the orders that are not left out -/
def restL (ys s : List Str) : List Str := ys.filter fun o => !decide (o ∈ s)
theorem rest_in {ys s : List Str} {o : Str} : o ∈ restL ys s ↔ o ∈ ys ∧ o ∉ s := by
  unfold restL
  rw [List.mem_filter, Bool.not_eq_true', decide_eq_false_iff_not]
theorem hit_calm {ys s : List Str} {y : Str} (nd : ys.Nodup) : hitB (whlT ys y) s = calmB (restL ys s) y := by
  rw [Bool.eq_iff_iff]
  unfold hitB
  rw [List.all_eq_true]
  constructor
  · intro h
    rw [calm_iff]
    intro x hx
    refine Classical.byContradiction fun bad => ?_
    obtain ⟨a, b, c, rfl, d⟩ := tri_apart hx
    obtain ⟨t, ht, tin, wt⟩ := wheel_three nd (fun o ho => (rest_in.mp ho).1) d bad
    have tw : t ∈ whlT ys y := List.mem_filter.mpr ⟨ht, by
      rw [Bool.not_eq_true', Bool.eq_false_iff]
      exact fun hc => wt (calm_iff.mp hc _ hx)⟩
    have := h t tw
    rw [Bool.not_eq_true', Bool.eq_false_iff] at this
    refine this (List.all_eq_true.mpr fun o ho => ?_)
    rw [Bool.not_eq_true', decide_eq_false_iff_not]
    exact (rest_in.mp (tin o ho)).2
  · intro h w hw
    obtain ⟨hw1, hw2⟩ := List.mem_filter.mp hw
    rw [Bool.not_eq_true', Bool.eq_false_iff]
    intro hall
    have hall := List.all_eq_true.mp hall
    have := calm_mono (w := w) (fun o ho => rest_in.mpr ⟨(mem_cmbT.mp hw1).1.subset ho, by have := hall o ho; rw [Bool.not_eq_true', decide_eq_false_iff_not] at this; exact this⟩) h
    rw [this] at hw2
    cases hw2
/-- the parts without which the roll is calm -/
def goodL (ys : List Str) (y : Str) : List (List Str) := (prt ys).dropLast.filter fun s => calmB (restL ys s) y
theorem good_in {ys s : List Str} {y : Str} (nd : ys.Nodup) : s ∈ goodL ys y ↔ (s.Sublist ys ∧ s.length < ys.length) ∧ hitB (whlT ys y) s = true := by
  unfold goodL
  rw [List.mem_filter, prt_less, hit_calm nd]
/-- there is one -/
theorem good_some {ys : List Str} {y : Str} (nd : ys.Nodup) (h0 : 0 < ys.length) : goodL ys y ≠ [] := by
  cases ys with
  | nil => cases h0
  | cons a l =>
    intro e
    have : l ∈ goodL (a :: l) y := (good_in nd).mpr ⟨⟨List.sublist_cons_self _ _, by rw [List.length_cons]; omega⟩, by
      unfold hitB
      rw [List.all_eq_true]
      intro w hw
      obtain ⟨w1, w2⟩ := mem_cmbT.mp (List.mem_filter.mp hw).1
      rw [Bool.not_eq_true', Bool.eq_false_iff]
      intro hall
      have hall := List.all_eq_true.mp hall
      have wa : ∀ o ∈ w, o = a := fun o ho => by
        have := hall o ho
        rw [Bool.not_eq_true', decide_eq_false_iff_not] at this
        exact (List.mem_cons.mp (w1.subset ho)).resolve_right this
      have wn := nd.sublist w1
      match w, w2, wa, wn with
      | [o1, o2, o3], _, wa, wn =>
        have e1 := wa o1 (by simp)
        have e2 := wa o2 (by simp)
        exact (List.nodup_cons.mp wn).1 (by rw [e1, e2]; simp)⟩
    rw [e] at this
    cases this
theorem good_nd {ys : List Str} {y : Str} (nd : ys.Nodup) : (goodL ys y).Nodup := ((prt_nd nd).sublist (List.dropLast_sublist _)).filter _
theorem fewest_least {ys : List Str} {y : Str} {m : Nat} (nd : ys.Nodup) (h1 : ∃ s ∈ goodL ys y, s.length = m) (h2 : ∀ s ∈ goodL ys y, m ≤ s.length) : leastN ys (whlT ys y) = m ∧ m < ys.length := by
  obtain ⟨s, hs, sl⟩ := h1
  obtain ⟨⟨s1, s2⟩, s3⟩ := (good_in nd).mp hs
  refine ⟨least_is (by omega) (fun e => ?_) (fun k hk => ?_), by omega⟩
  · have : s ∈ wayT ys (whlT ys y) m := List.mem_filter.mpr ⟨mem_cmbT.mpr ⟨s1, sl⟩, s3⟩
    rw [e] at this
    cases this
  · refine List.eq_nil_iff_forall_not_mem.mpr fun t ht => ?_
    obtain ⟨t1, t2⟩ := List.mem_filter.mp ht
    obtain ⟨t3, t4⟩ := mem_cmbT.mp t1
    have := h2 t ((good_in nd).mpr ⟨⟨t3, by omega⟩, t2⟩)
    omega
theorem ltT_asymm : ∀ {s t : List Str}, ltT s t = true → ltT t s = false
  | [], _, h => by cases h
  | _ :: _, [], h => by cases h
  | x :: xs, y :: ys, h => by
    rw [ltT_cons] at h ⊢
    by_cases e : x = y
    · rw [if_pos e] at h
      rw [if_pos e.symm]
      exact ltT_asymm h
    · rw [if_neg e] at h
      rw [if_neg fun z => e z.symm]
      exact decide_eq_false fun k => below_irr (below_trans (below_lt.mpr (of_decide_eq_true h)) (below_lt.mpr k))
/-- the law's parts in order are the program's ways -/
theorem due_ways {ys : List Str} {y : Str} {m : Nat} (cl : Climbs ys) (nd : ys.Nodup) (hm : m < ys.length) {tl : List (List Str)} (pm : tl.Perm ((goodL ys y).filter fun s => decide (s.length = m))) (so : tl.Pairwise fun s t => ltT t s = false) : tl = wayT ys (whlT ys y) m := by
  have up : (wayT ys (whlT ys y) m).Pairwise fun s t => ltT s t = true := (cmbT_up (climbs_all cl)).filter _
  have wn : (wayT ys (whlT ys y) m).Nodup := up.imp fun {s t} h e => by
    rw [e, ltT_irr] at h
    cases h
  have mem : ∀ s, s ∈ tl ↔ s ∈ wayT ys (whlT ys y) m := fun s => by
    rw [pm.mem_iff, List.mem_filter, good_in nd, decide_eq_true_eq]
    unfold wayT
    rw [List.mem_filter, mem_cmbT]
    exact ⟨fun ⟨⟨⟨a, _⟩, b⟩, c⟩ => ⟨⟨a, c⟩, b⟩, fun ⟨⟨a, c⟩, b⟩ => ⟨⟨⟨a, by omega⟩, b⟩, c⟩⟩
  have tn : tl.Nodup := pm.nodup_iff.mpr ((good_nd nd).filter _)
  refine List.Perm.eq_of_pairwise (le := fun s t => ltT t s = false) (fun a b ha hb h1 h2 => ?_) so (up.imp fun h => ltT_asymm h) ((List.perm_ext_iff_of_nodup tn wn).mpr mem)
  refine Classical.byContradiction fun ne => ?_
  obtain ⟨i, hi, ei⟩ := List.mem_iff_getElem.mp ((mem a).mp ha)
  obtain ⟨j, hj, ej⟩ := List.mem_iff_getElem.mp hb
  have pw := List.pairwise_iff_getElem.mp up
  rcases Nat.lt_trichotomy i j with k | k | k
  · have := pw i j hi hj k
    rw [ei, ej, h2] at this
    cases this
  · subst k
    exact ne (ei.symm.trans ej)
  · have := pw j i hj hi k
    rw [ei, ej, h1] at this
    cases this
end L2.Cal
end

section
set_option maxRecDepth 100000
set_option maxHeartbeats 4000000
set_option synthInstance.maxHeartbeats 400000
namespace L2.Cal
open PySem PySem.Spec PyProof.Rows L2
abbrev sCal : Stmt := topS 50
theorem scCal : FnScope ["_law_lots_here", "_law_trio"] ["_law_lots_here"] (defScope sCal) := ⟨rfl, rfl, rfl, by decide +kernel, rfl, by decide +kernel, by decide +kernel⟩
def spCal (K : PySem.W.Frag) : Sp := fun vs H Q _ => ∃ (a : Addr) (ys : List Str) (y : Str), vs = [.ref a] ∧ SqL K H a (ys.map V.str) ∧ Loose ys y ∧ ys.length ≤ 20 ∧ ∀ H', Same H H' → Q (.bl (calmB ys y)) H'
theorem spots_len (x : Str) (l : List Str) : (spotsL x l).length = 3 * l.length := by
  induction l with
  | nil => rfl
  | cons y l ih =>
    unfold spotsL at ih ⊢
    rw [List.flatMap_cons, List.length_append, ih, List.length_cons]
    unfold spotsO
    rw [List.length_map, List.length_range]
    omega
section
variable {P : Program} {w : World} {K : PySem.W.Frag} {mg : Str → Option Value} {base : Heap} {C : Addr}
theorem ok_cal {f fT fS fU : Addr} {fd fdT fdS fdU : FuncData} (D : DefAt K mg "_law_is_calm" sCal ["_law_lots_here"] f fd) (DT : DefAt K mg "_law_trios" sTri ["_law_letters"] fT fdT) (DS : DefAt K mg "_law_spots" sSpo ["_law_lots_here", "_law_trio"] fS fdS) (DU : DefAt K mg "_law_upon" sUpo ["_law_word", "_law_trio"] fU fdU) (T : Txt mg) : FnOk P w K mg base CX0 3 f fd ["_law_lots_here"] (spCal K) := by
  have GT : FnOk P w K mg base CX0 1 fT fdT ["_law_letters"] spTri := ok_tri DT T
  have GS : FnOk P w K mg base CX0 2 fS fdS ["_law_lots_here", "_law_trio"] (spSpo K) := ok_spo DS DU T
  refine D.F.ok scCal (fun vs H Q E h => ?_) (fun cdv A outer sh H vs Q E hr h => ?_)
  · obtain ⟨a, ys, y, rfl, _⟩ := h
    rfl
  · obtain ⟨a, ys, y, rfl, ha, G, few, q⟩ := h
    have hu := hr.units
    refine ⟨_, pss_cons (ps_for PassesOwn.never rfl (pi_list (pe_call GT (hr.mono (by decide)) (by rfl) DT.g DT.F.kp DT.b .nil pass0 (pa_cons (pe_join pe_str (pe_callB (cr_sortText rfl) (by rfl) T.b_sorted (by decide +kernel) (pa_cons (pe_ix ix_list (pv 0) pe_int (fun _ _ => rfl)) pa_nil))) pa_nil))) (pg_name (i := 1) scCal.nd rfl (.inl rfl))
        (pss_one (ps_if (pt_cmpR op_eq (pe_lenSetSI rfl hu (by rfl) T.b_len (by rfl) T.b_set (pe_call GS (hr.mono (by decide)) (by rfl) DS.g DS.F.kp DS.b .nil pass0 (pa_cons (pv 0) (pa_cons (pv 1) pa_nil)))) pe_int (nomark _)) (pss_one (ps_ret pe_bl)) pss_nil)))
      (pss_one (ps_ret pe_bl)), ?_⟩
    have y6 := G.h6
    have y3 := G.h3
    obtain ⟨o0, ho0⟩ : ∃ o, ys[0]? = some o := ⟨_, List.getElem?_eq_getElem G.some⟩
    have o0in := List.mem_of_getElem? ho0
    have po0 := G.of o0 o0in
    have so0 := perm_size po0
    have ix0 : atI (ys.map V.str) 0 = some (.str o0) := atI_nat (j := 0) (by rw [List.getElem?_map, ho0] <;> rfl)
    refine ⟨⟨_, rfl⟩, _, rfl, a, _, 0, _, rfl, rfl, ha, ix0, o0, rfl, by omega, fun zs p pm so np => ?_⟩
    obtain ⟨z, rfl, hz⟩ := ys_signs pm
    have ez : z = tidy y := (tidy_of pm so).trans (tidy_same po0)
    subst ez
    have tp := tidy_perm y
    have ts : (tidy y).cps.size = y.cps.size := perm_size tp
    have s1 : Same H (upd H p (.lst ((signs (tidy y)).map V.str))) := same_new np
    obtain ⟨sq, sz⟩ := join_sh (K := K) (H := upd H p (.lst ((signs (tidy y)).map V.str))) upd_same (by rw [ts]; omega)
    refine ⟨_, p, _, rfl, rfl, .inl sq, sz, ?_⟩
    rw [join_signs]
    generalize upd H p (.lst ((signs (tidy y)).map V.str)) = H1 at s1 ⊢
    refine ⟨tidy y, rfl, by omega, fun ts' p2 H2 s2 e2 pt => ⟨p2, rfl, ⟨_, SqL.of e2⟩, for_list (K := K) (a := p2) (xs := ts'.map V.str) (fun k σ H' => ∃ v1 : Option V, σ = [some (.ref a), v1] ∧ Same H2 H' ∧ ∀ u ∈ ts'.take k, wheelAt ys u = none) ⟨_, rfl, fun _ _ e => e, fun u hu => by simp at hu⟩ (fun k σ H' _ hP => ?_) (fun k x σ H3 hx hP => ?_) (fun σ H3 hP => ?_)⟩⟩
    · obtain ⟨_, _, s, _⟩ := hP
      exact SqL.of (s _ _ e2)
    · obtain ⟨v1, rfl, s3', no⟩ := hP
      rw [List.getElem?_map] at hx
      obtain ⟨t, ht, rfl⟩ := Option.map_eq_some_iff.mp hx
      have tin := pt.mem_iff.mp (List.mem_of_getElem? ht)
      rw [show (tidy y).cps.size = (tidy y).cps.toList.length from Array.length_toList.symm] at tin
      have tri' := (trk_tri (tidy_lt G.let_)).mp tin
      obtain ⟨b0, b1, b2, rfl, d, h0, h1, h2⟩ := trk_apart (tp.nodup_iff.mpr G.let_.1) tin
      have i0 := tp.mem_iff.mp h0
      have i1 := tp.mem_iff.mp h1
      have i2 := tp.mem_iff.mp h2
      have S3 : Same H H3 := s1.trans (s2.trans s3')
      refine ⟨_, rfl, _, rfl, a, s3 b0 b1 b2, ys, rfl, same_seqL ha S3, fun o ho => ⟨by rw [perm_size (G.of o ho)]; exact y6, ?_⟩, by omega, fun p4 H4 vs4 s4 e4 ps4 => ?_⟩
      · have h6 := G.six d i0 i1 i2 o ho
        generalize press o (s3 b0 b1 b2) = m at h6
        simp only [six, W1, W2, List.cons_append, List.nil_append, List.mem_cons, List.not_mem_nil, or_false] at h6
        rcases h6 with rfl | rfl | rfl | rfl | rfl | rfl <;> rfl
      · refine ⟨p4, vs4, _, rfl, e4, ps4, by rw [spots_len]; omega, fun qs nd mem => ⟨rfl, _, rfl, ite2 (fun e => ?_) (fun e => ?_)⟩⟩
        · have e := of_decide_eq_true e
          have n9 : qs.length = 9 := by have := V.int.inj e; omega
          have bad := (nine_iff G d i0 i1 i2 nd mem).mp n9
          have := q _ (S3.trans s4)
          rw [show calmB ys y = false from Bool.eq_false_iff.mpr fun h => bad (calm_iff.mp h _ tri')] at this
          exact this
        · refine ⟨_, rfl, s3'.trans s4, fun u hu => ?_⟩
          rw [List.take_succ, ht, Option.toList_some, List.mem_append, List.mem_singleton] at hu
          rcases hu with hu | rfl
          · exact no u hu
          · refine Classical.byContradiction fun bad => e ?_
            rw [(nine_iff G d i0 i1 i2 nd mem).mpr bad]
            rfl
    · obtain ⟨v1, rfl, s3', no⟩ := hP
      rw [List.length_map, List.take_length] at no
      have := q _ (s1.trans (s2.trans s3'))
      rw [show calmB ys y = true from calm_iff.mpr fun x hx => no x (pt.mem_iff.mpr (by rw [show (tidy y).cps.size = (tidy y).cps.toList.length from Array.length_toList.symm]; exact (trk_tri (tidy_lt G.let_)).mpr hx))] at this
      exact this
end
end L2.Cal
end

section
set_option maxRecDepth 100000
set_option maxHeartbeats 4000000
/-! repr of any data; promises of defs that are called where nothing is being shown (repr asks that) -/
namespace L2.Cal
open PySem PySem.Spec PyProof.Rows L2
mutual
theorem dp_nodict {K : PySem.W.Frag} {H : Hp} : ∀ (d : PyData) (v : V), Dp K H v d → d.hasDict = false
  | .none, _, _ => by simp only [PyData.hasDict]
  | .bool _, _, _ => by simp only [PyData.hasDict]
  | .int _, _, _ => by simp only [PyData.hasDict]
  | .str _, _, _ => by simp only [PyData.hasDict]
  | .list ds, _, h => by
    cases h with
    | lst _ h => simp only [PyData.hasDict]; exact dp_nodictAll ds _ h
  | .tuple ds, _, h => by
    cases h with
    | tup _ h => simp only [PyData.hasDict]; exact dp_nodictAll ds _ h
  | .dict _, _, h => by cases h
theorem dp_nodictAll {K : PySem.W.Frag} {H : Hp} : ∀ (ds : List PyData) (vs : List V), DpAll K H vs ds → PyData.hasDictAll ds = false
  | [], _, _ => by simp only [PyData.hasDictAll]
  | d :: ds, _, h => by
    cases h with
    | cons h1 h2 => simp only [PyData.hasDictAll, dp_nodict d _ h1, dp_nodictAll ds _ h2, Bool.or_false]
end
mutual
theorem dp_same {K : PySem.W.Frag} {H H' : Hp} (e : Same H H') : ∀ (d : PyData) (v : V), Dp K H v d → Dp K H' v d
  | .none, _, h => by cases h; exact .non
  | .bool _, _, h => by cases h; exact .bl _
  | .int _, _, h => by cases h; exact .int _
  | .str _, _, h => by cases h; exact .str _
  | .list ds, _, h => by
    cases h with
    | lst q h => exact .lst (e.seq q) (dp_sameAll e ds _ h)
  | .tuple ds, _, h => by
    cases h with
    | tup q h =>
      refine .tup ?_ (dp_sameAll e ds _ h)
      rcases q with (q | ⟨o, q⟩) | q
      · exact .inl (.inl (e _ _ q))
      · exact .inl (.inr ⟨o, e _ _ q⟩)
      · exact .inr q
  | .dict _, _, h => by cases h
theorem dp_sameAll {K : PySem.W.Frag} {H H' : Hp} (e : Same H H') : ∀ (ds : List PyData) (vs : List V), DpAll K H vs ds → DpAll K H' vs ds
  | [], _, h => by cases h; exact .nil
  | d :: ds, _, h => by
    cases h with
    | cons h1 h2 => exact .cons (dp_same e d _ h1) (dp_sameAll e ds _ h2)
end
/-- data, perhaps a dict of at most one text and a number -/
inductive DD (K : PySem.W.Frag) (H : Hp) : V → PyData → Prop
  | base {v : V} {d : PyData} : Dp K H v d → DD K H v d
  | dict0 {a : Addr} : H a = some (.dK []) → DD K H (.ref a) (.dict [])
  | dict1 {a : Addr} {x : Str} {i : Int} : H a = some (.dK [(Sum.inr x, .int i)]) → DD K H (.ref a) (.dict [(.str x, .int i)])
theorem DD.same {K : PySem.W.Frag} {H H' : Hp} {v : V} {d : PyData} (e : Same H H') (h : DD K H v d) : DD K H' v d := by
  cases h with
  | base h => exact .base (dp_same e _ _ h)
  | dict0 h => exact .dict0 (e _ _ h)
  | dict1 h => exact .dict1 (e _ _ h)
theorem DD.reads {X : Cx} {pins : List (Addr × Obj)} {σ : St} {H : Hp} {s : Shared} (I : Inv X pins σ H s) {v : V} {d : PyData} {u : Value} (h : DD X.K H v d) (r : RelV v u) : ∃ as, Reads s.heap u d as ∧ (d.hasDict = true → sysModules ∉ as) := by
  cases h with
  | base h =>
    obtain ⟨as, q⟩ := Dp.reads I d v u h r
    exact ⟨as, q, fun z => by rw [dp_nodict d v h] at z; cases z⟩
  | @dict0 a h =>
    obtain rfl : u = Value.ref a := r
    obtain ⟨_, ns, vs, rk, o, es, ep, ho, hx, hd, _, hp, _⟩ := I.hok a _ h
    cases rk
    have he : es.toList = [] := by
      cases e : es.toList with
      | nil => rfl
      | cons y r => rw [e] at hp; cases hp
    refine ⟨[a], Reads.dict (as := []) (bs := []) ho hx.1 hd (by rw [he]; exact .nil) (by rw [he]; exact .nil), fun _ z => ?_⟩
    rw [List.mem_singleton] at z
    rw [← z] at ns
    simp at ns
  | @dict1 a x i h =>
    obtain rfl : u = Value.ref a := r
    obtain ⟨_, ns, vs, rk, o, es, ep, ho, hx, hd, _, hp, _⟩ := I.hok a _ h
    cases rk with
    | @cons _ q _ vr r0 rr =>
      cases rr
      obtain ⟨qk, qv⟩ := q
      obtain ⟨e1, e2⟩ := r0
      have e1' : (Sum.inr x : L2.Key) = qk := e1
      subst e1'
      obtain ⟨t, e2'⟩ := (show ∃ t, qv = Value.int i t from e2)
      subst e2'
      cases e : es.toList with
      | nil => rw [e] at hp; cases hp
      | cons y r =>
        rw [e] at hp
        cases hp with
        | cons k1 k2 k3 =>
          cases k3
          obtain ⟨t', hk⟩ : ∃ t', y.key = Value.str x t' := by
            rcases keyIs_shape (k := Sum.inr x) (v := y.key) k1 with ⟨_, _, z, _⟩ | ⟨x', t', z, q⟩
            · cases z
            · cases z
              exact ⟨t', q⟩
          refine ⟨[a], Reads.dict (as := [] ++ []) (bs := [] ++ []) ho hx.1 hd ?_ ?_, fun _ z => ?_⟩
          · rw [e]
            show ReadsAll s.heap [y.key] [.str x] ([] ++ [])
            rw [hk]
            exact .cons (.str x t') .nil
          · rw [e]
            show ReadsAll s.heap [y.val] [.int i] ([] ++ [])
            rw [k2]
            exact .cons (.int i t) .nil
          · rw [List.mem_singleton] at z
            rw [← z] at ns
            simp at ns
def rRepr (K : PySem.W.Frag) : List V → Hp → VK → Prop := fun xs H Q => ∃ x d, xs = [x] ∧ DD K H x d ∧ d.showable = true ∧ d.shown.length ≤ sizeLine ∧ d.depth ≤ 40 ∧ Q (.str d.shown) H
theorem call_reprD {X : Cx} (hg : X.A.guards = some []) (hu : X.A.units + 64 < cLine) : CallR X (.builtin "repr") (rRepr X.K) := by
  intro pins s σ H xs us Q I r h
  obtain ⟨x, d, rfl, hd, hs, hz, hdp, q⟩ := h
  cases r with
  | @cons _ u _ ur r rr =>
    cases rr
    obtain ⟨as, rd, hm⟩ := hd.reads I r
    cases rd with
    | none =>
      rw [PyData.shown_none] at q
      exact P.repr_of_none ⟨.str _, H, I.tok _, ⟨_, rfl⟩, q⟩
    | bool b =>
      rw [PyData.shown_bool] at q
      exact P.repr_of_bool ⟨.str _, H, I.tok _, ⟨_, rfl⟩, q⟩
    | int i t =>
      rw [PyData.shown_int] at q
      exact P.repr_of_int (by simpa [PyData.showable] using hs) ⟨.str _, H, I.tok _, ⟨_, rfl⟩, q⟩
    | str y t =>
      rw [PyData.shown_str] at q hz
      exact P.repr_of_str ⟨.str _, H, I.tok _, ⟨_, rfl⟩, q⟩ hz
    | list h1 h2 h3 h4 => exact repr_of_reads' (.list h1 h2 h3 h4) hs hm hg (by omega) (fun _ _ e => e) (fun h' u tk hk => ⟨.str _, H, I.kept (t' := tk) hk, ⟨_, rfl⟩, q⟩) hz
    | tuple h1 h2 h3 h4 => exact repr_of_reads' (.tuple h1 h2 h3 h4) hs hm hg (by omega) (fun _ _ e => e) (fun h' u tk hk => ⟨.str _, H, I.kept (t' := tk) hk, ⟨_, rfl⟩, q⟩) hz
    | dict h1 h2 h3 h4 h5 => exact repr_of_reads' (.dict h1 h2 h3 h4 h5) hs hm hg (by omega) (fun _ _ e => e) (fun h' u tk hk => ⟨.str _, H, I.kept (t' := tk) hk, ⟨_, rfl⟩, q⟩) hz
/-! ### promises where nothing is being shown -/
structure FnOkG (P : Program) (w : World) (K : PySem.W.Frag) (mg : Str → Option Value) (base : Heap) (CX : CXT) (k : Nat) (f : Addr) (fd : FuncData) (ps : List Str) (sp : Sp) : Prop where
  len : ∀ vs H Q E, sp vs H Q E → vs.length = ps.length
  run : ∀ (A : Around) (outer : List Env) (s : Shared) (H : Hp) (args : Args) (us : List Value) (vs : List V) (Q : VK) (E : XK), A.guards = some [] → Room k A → Env0 P w K mg base A outer s H → BindsTo s fd args (ps.zip us) → Vals vs us → sp vs H Q E →
    codeAny (model P w) A (.call (.ref f) args) (CR CX outer P w H s Q E) s
theorem FnOk.toG {P : Program} {w : World} {K : PySem.W.Frag} {mg : Str → Option Value} {base : Heap} {CX : CXT} {k : Nat} {f : Addr} {fd : FuncData} {ps : List Str} {sp : Sp} (F : FnOk P w K mg base CX k f fd ps sp) : FnOkG P w K mg base CX k f fd ps sp := ⟨F.len, fun A o s H a us vs Q E _ => F.run A o s H a us vs Q E⟩
section
variable {P : Program} {w : World} {K : PySem.W.Frag} {mg : Str → Option Value} {base : Heap}
theorem Fun.okG {x qual : Str} {st : Stmt} {f : Addr} {fd : FuncData} {N ps : List Str} {k : Nat} {sp : Sp} (F : Fun K x qual st f fd) (S : FnScope N ps (defScope st)) (len : ∀ vs H Q E, sp vs H Q E → vs.length = ps.length)
    (body : ∀ (cdv : Value) (A : Around) (outer : List Env) (s : Shared) (H : Hp) (vs : List V) (Q : VK) (E : XK), A.guards = some [] → Room k (A.deeper (envOfC qual (defScope st) s.heap.objs.size f cdv)) → sp vs H Q E →
      ∃ t, PSs (cxOf CX0 P w K mg base N qual (defScope st) f cdv A outer s H E).nox (defBody st) t ∧ t { nx := fun _ H' => Q .non H', rt := Q } (start N vs) H) : FnOkG P w K mg base CX0 (k + 1) f fd ps sp := by
  obtain ⟨oc, od, kV, doc, pm, an, cdv, ct, osl, rfl, lk, hcd⟩ := F.ex
  refine ⟨len, fun A outer s H args us vs Q E hg hr e0 hb r hsp => ?_⟩
  have same : ∀ b o, base.get? b = some o → s.heap.get? b = some o := fun b o e => (e0.bs b o e).1
  have KX : K.In s.heap := e0.mod.kin.keeps same
  have lim : s.heap.NoLimit := e0.mod.nolimit.keeps same
  refine codeAny_call_function hr.depth (KX _ _ lk) rfl S.co S.gen rfl (PySem.W.codeRec_of KX hcd) (hb _ _ _ _ ?_)
  refine wpAny_newFunctionEnv_cells S.kind (fun y hy => ?_) fun env he s1 y => ?_
  · obtain ⟨n, v⟩ := y
    exact (S.par n (List.of_mem_zip hy).1).elim .inl fun q => .inr ⟨q, PySem.W.cellsFrom_some _ _ _ (.inl q)⟩
  · subst he
    refine ⟨lim.keeps y.toInCall.keep, codeAny_func ?_⟩
    obtain ⟨t, ht, hq⟩ := body cdv A outer s H vs Q E hg (hr.deeper _) hsp
    have I := inv_start (CX := CX0) (P := P) (w := w) (mg := mg) (E := E) S hr.hd e0 (len _ _ _ _ hsp) r y
    refine wpAny_mono (ht.nox.run [] s1 (start N vs) H _ I hq) (fun fl s' hs => ?_) fun e s' hs => hs
    cases fl with
    | ret u => obtain ⟨v, σ', H', J, rv, q⟩ := hs; exact ⟨v, H', J.os, J.bare, J.base, J.hok, rv, q⟩
    | next => obtain ⟨σ', H', J, q⟩ := hs; exact ⟨.non, H', J.os, J.bare, J.base, J.hok, rfl, q⟩
    | brk => obtain ⟨_, _, _, q⟩ := hs; exact q.elim
    | cont => obtain ⟨_, _, _, q⟩ := hs; exact q.elim
end
section
variable {X : Cx} {CX : CXT} {k : Nat} {f : Addr} {fd : FuncData} {ps : List Str} {sp : Sp} {E : XK} {x : Str} {p pos : Pos} {e : Expr} {es : List Expr} {t : TA} {dvs : List V} {ds : List Value}
theorem pe_callG (F : FnOkG X.prog X.w X.K X.mg X.base CX k f fd ps sp) (hA : X.A.guards = some []) (hr : Room k X.A) (hg : Gl X x) (hm : X.mg x = some (.ref f)) (hk : PySem.W.keepIn X.K (.ref f) = true) (hb : Binds X.K fd ps ds) (hd : Vals dvs ds) (hx : Passes CX X E)
    (ha : PA X (e :: es) t) (hdb : (x == ("__debug__" : Str)) = false := by decide) (he : starEach (e :: es) X.env = (false, eval e X.env) :: starEach es X.env := by rfl) (hpl : (backTo pos (starEach es X.env)).any (·.1) = false := by rfl) :
    PE X (.Call (.Name x p) (e :: es) [] pos) (tCall sp dvs E t) := ⟨fun pins s σ H Q I h => wpAny_Call_Name_kw (ld_glob I hg hm
    (PySem.W.callWith_K (h₀ := X.base) I.ok.mod.kin hk (thn (ha.run pos pins s σ H _ I h) fun us s1 ⟨vs, H1, I1, r, q⟩ => ⟨I1.kIn, by
      have r2 : Vals (vs ++ dvs) (us ++ ds) := r.append hd
      have hl : (us ++ ds).length = ps.length := r2.length.symm.trans (F.len _ _ _ _ q)
      refine wpAny_call (codeAny_mono (F.run X.A X.stack s1 H1 ⟨us, []⟩ (us ++ ds) (vs ++ dvs) Q E hA hr I1.env0 (hb s1 us I1.kIn hl) r2 q) fun r s' hq => ?_)
      cases r with
      | error e => exact hx pins σ H1 s1 e s' I1 hq
      | ok fl => cases fl <;> first | exact I1.after hq | exact False.elim hq⟩) he hpl) hdb)⟩
end
end L2.Cal
end

section
set_option maxRecDepth 100000
set_option maxHeartbeats 4000000
/-! the law's call, from a promise that asks that nothing is being shown -/
namespace L2.Cal
open PySem PySem.Spec PyProof.Rows L2
/-- the script's object, as it is tracked: unless the module itself holds it -/
def scriptH (K : PySem.W.Frag) (a : Addr) (ob : Obj) (ns : List Int) : Hp := fun b => if b = a ∧ (K.lookup a).isNone = true then some (.frz ob (.lst (ns.map V.int))) else none
theorem scriptH_some {K : PySem.W.Frag} {a b : Addr} {ob : Obj} {ns : List Int} {u : HO} (e : scriptH K a ob ns b = some u) : b = a ∧ K.lookup a = none ∧ u = .frz ob (.lst (ns.map V.int)) := by
  unfold scriptH at e
  split at e
  · rename_i h
    exact ⟨h.1, Option.isNone_iff_eq_none.mp h.2, (Option.some.inj e).symm⟩
  · cases e
theorem law_callG {P : Program} {w : World} {K : PySem.W.Frag} {mg mb : Str → Option Value} {CX : CXT} {k : Nat} {fa a : Addr} {fd : FuncData} {x : Str} {sp : Sp} {s : Shared} {vs : List Value} {ns : List Int}
    (KX : K.In s.heap) (hmg : s.heap.Ns mainGlobals mg) (hmb : s.heap.Ns builtinsNs mb) (hbb : ∀ x : Str, x ≠ "__name__" → mb x = bootBuiltins x) (hlim : s.heap.NoLimit) (hg : s.gens = #[])
    (ha : s.heap.get? a = some { cls := .type "list", data := .seq vs.toArray }) (hi : IntsAre vs ns) (hl : ns.length ≤ sizeLine) (hr : Room k callerA)
    (F : ∀ base : Heap, K.In base → base.Ns mainGlobals mg → FnOkG P w K mg base CX k fa fd [x] sp) (hbind : ∀ (s : Shared) (u : Value), BindsTo s fd ⟨[u], []⟩ [(x, u)])
    (hsp : ∀ H : Hp, SqL K H a (ns.map V.int) → sp [.ref a] H (fun v _ => v = .bl true) fun _ _ _ => False)
    (hCX : ∀ H e s', CX [] H s (fun _ _ _ => False) e s' → False) :
    codeAny (model P w) callerA (.call (.ref fa) ⟨[.ref a], []⟩) (fun r s' => r = .ok (.ret (.bool true)) ∧ OldK s.heap s'.heap ∧ s'.os = s.os ∧ AllBare s'.gens) s := by
  have rv := vals_ints hi
  let ob : Obj := { cls := .type "list", data := .seq vs.toArray }
  let H := scriptH K a ob ns
  have stay : ∀ {b : Addr} {o : Obj}, s.heap.get? b = some o → (b ≠ a ∨ (K.lookup a).isSome = true) → (hidT s.heap H).get? b = some o := fun {b o} e h => hidT_get e (by
    cases q : H b with
    | none => rfl
    | some u =>
      obtain ⟨e1, e2, _⟩ := scriptH_some q
      rcases h with h | h
      · exact absurd e1 h
      · rw [e2] at h; cases h)
  have ndict : ∀ {b : Addr} {m : Str → Option Value}, s.heap.Ns b m → (hidT s.heap H).Ns b m := fun {b m} h => by
    obtain ⟨o, es, ep, e, d, r⟩ := h
    refine ⟨o, es, ep, stay e (.inl fun z => ?_), d, r⟩
    rw [z, ha] at e
    cases e
    cases d
  have KB : K.In (hidT s.heap H) := fun b o e => stay (KX b o e) (by
    by_cases h : b = a
    · exact .inr (by rw [← h, e]; rfl)
    · exact .inl h)
  have M : Mod K mg (hidT s.heap H) := ⟨KB, ndict hmg, ⟨mb, ndict hmb, hbb⟩, by obtain ⟨mc, h1, h2⟩ := hlim; exact ⟨mc, ndict h1, h2⟩⟩
  have hok : HOk P w H s.heap := fun b u e => by
    obtain ⟨rfl, _, rfl⟩ := scriptH_some e
    exact ⟨ha, by rw [List.length_map]; exact hl, vs, _, rv, ha⟩
  have hS : SqL K H a (ns.map V.int) := by
    cases q : K.lookup a with
    | none => exact .inl (.inr ⟨ob, if_pos ⟨rfl, by rw [q]; rfl⟩⟩)
    | some o =>
      have e := KX a o q
      rw [ha] at e
      cases e
      exact .inr ⟨_, vs.toArray, _, q, rfl, rfl, rfl, by rw [List.size_toArray, hi.length]; exact hl, by simpa using rv⟩
  have e0 : Env0 P w K mg (hidT s.heap H) callerA [] s H := ⟨rfl, M, fun b o e => of_hidT e, Nat.le_of_eq (hidT_size _ _), trivial, fun b hb => (List.not_mem_nil (show b ∈ ([] : List Addr) from hb)).elim, hok, .of_eq hg⟩
  refine codeAny_mono ((F _ KB (ndict hmg)).run callerA [] s H ⟨[.ref a], []⟩ [.ref a] [.ref a] _ _ rfl hr e0 (hbind s (.ref a)) (.cons rfl .nil) (hsp H hS)) fun r s' h => ?_
  cases r with
  | error e => exact (hCX H e s' h).elim
  | ok fl =>
    cases fl with
    | ret u =>
      obtain ⟨v, H', os, bare, un, hok', r', q⟩ := h
      obtain rfl : v = .bl true := q
      obtain rfl : u = Value.bool true := r'
      refine ⟨rfl, OldK.of_keep fun b o e => ?_, os, bare⟩
      cases q : H b with
      | none => exact un.keep b o e q List.not_mem_nil List.not_mem_nil
      | some u =>
        obtain ⟨rfl, _, rfl⟩ := scriptH_some q
        obtain ⟨e2, _⟩ := hok' b _ (un.frzs b _ _ q)
        rw [ha] at e
        cases e
        exact e2
    | next => exact False.elim h
    | brk => exact False.elim h
    | cont => exact False.elim h
theorem walkG {l : PySem.W.OpenLaw} {n k : Nat} {q : Program} {loose : List Str} {XP : (Str → Option Value) → Heap → Prop} {YP : World → Heap → Prop} {d : DefRec} {K : Params → PySem.W.Frag} {CX : World → CXT} {sp : World → Sp} {x : Str}
    (hn : l.most = some n) (hn2 : n ≤ sizeLine) (hdf : d.params.defaults = []) (hr : Room k callerA) (hY : ∀ (w : World) (h : Heap), YP w h → (K w.params).In h)
    (F : ∀ (w : World) (mg : Str → Option Value) (fa : Addr) (h : Heap), (K w.params).In h → h.Ns mainGlobals mg → mg d.name = some (.ref fa) → ∃ fd : FuncData, (∀ (s : Shared) (u : Value), BindsTo s fd ⟨[u], []⟩ [(x, u)]) ∧
        ∀ base : Heap, (K w.params).In base → base.Ns mainGlobals mg → FnOkG l.prog w (K w.params) mg base (CX w) k fa fd [x] (sp w))
    (hsp : ∀ (w : World) (H : Hp) (a : Addr) (ns : List Int), ns.length ≤ n → SqL (K w.params) H a (ns.map V.int) → sp w [.ref a] H (fun v _ => v = .bl true) fun _ _ _ => False)
    (hCX : ∀ (w : World) (H : Hp) (s : Shared) (e : Value) (s' : Shared), CX w [] H s (fun _ _ _ => False) e s' → False) :
    PySem.W.WalkO q loose XP YP l.row.toRowW d [] (fun f vs => PySem.call f vs) := by
  refine Att.attach_call hn hdf fun w s₀ s₁ mg mb fa o pm cd doc a vs ns G Y ho hd hcd hmg hobj hints hlen hg => ?_
  obtain ⟨fd, hb, hF⟩ := F w mg fa _ (hY w _ Y) G.T.g hmg
  exact law_callG (hY w _ Y) G.T.g G.T.b G.T.builtins G.T.nolimit hg hobj hints (Nat.le_trans hlen hn2) hr hF hb (fun H hS => hsp w H a ns hlen hS) fun H e s' => hCX w H s₁ e s'
end L2.Cal
end

section
set_option maxRecDepth 100000
set_option maxHeartbeats 4000000
/-! walkG, the script's bits told -/
namespace L2.Cal
open PySem PySem.Spec PyProof.Rows L2
theorem walkGB {l : PySem.W.OpenLaw} {n k : Nat} {q : Program} {loose : List Str} {XP : (Str → Option Value) → Heap → Prop} {YP : World → Heap → Prop} {d : DefRec} {K : Params → PySem.W.Frag} {CX : World → CXT} {sp : World → Sp} {x : Str}
    (hn : l.most = some n) (hn2 : n ≤ sizeLine) (hdf : d.params.defaults = []) (hr : Room k callerA) (hY : ∀ (w : World) (h : Heap), YP w h → (K w.params).In h)
    (F : ∀ (w : World) (mg : Str → Option Value) (fa : Addr) (h : Heap), (K w.params).In h → h.Ns mainGlobals mg → mg d.name = some (.ref fa) → ∃ fd : FuncData, (∀ (s : Shared) (u : Value), BindsTo s fd ⟨[u], []⟩ [(x, u)]) ∧
        ∀ base : Heap, (K w.params).In base → base.Ns mainGlobals mg → FnOkG l.prog w (K w.params) mg base (CX w) k fa fd [x] (sp w))
    (hsp : ∀ (w : World) (H : Hp) (a : Addr) (ns : List Int), ns.length ≤ n → (∀ z ∈ ns, Builtin.Int.intBits z ≤ 1048576) → SqL (K w.params) H a (ns.map V.int) → sp w [.ref a] H (fun v _ => v = .bl true) fun _ _ _ => False)
    (hCX : ∀ (w : World) (H : Hp) (s : Shared) (e : Value) (s' : Shared), CX w [] H s (fun _ _ _ => False) e s' → False) :
    PySem.W.WalkO q loose XP YP l.row.toRowW d [] (fun f vs => PySem.call f vs) := by
  refine Att.attach_callB hn hdf fun w s₀ s₁ mg mb fa o pm cd doc a vs ns G Y ho hd hcd hmg hobj hints hlen hbits hg => ?_
  obtain ⟨fd, hb, hF⟩ := F w mg fa _ (hY w _ Y) G.T.g hmg
  exact law_callG (hY w _ Y) G.T.g G.T.b G.T.builtins G.T.nolimit hg hobj hints (Nat.le_trans hlen hn2) hr hF hb (fun H hS => hsp w H a ns hlen hbits hS) fun H e s' => hCX w H s₁ e s'
end L2.Cal
end

section
set_option maxRecDepth 100000
set_option maxHeartbeats 4000000
/-! f(k = v, ..): a def called by names alone -/
namespace L2.KwF
open PySem PySem.Spec PyProof.Rows L2
structure KB0 (fd : FuncData) (ps ks : List Str) (g : List Value → List Value) (gV : List V → List V) : Prop where
  to : ∀ (s : Shared) (ws : List Value), ws.length = ks.length → BindsTo s fd ⟨[], ks.zip ws⟩ (ps.zip (g ws))
  rel : ∀ {zs : List V} {ws : List Value}, zs.length = ks.length → Vals zs ws → Vals (gV zs) (g ws)
def tKw0 (n : Nat) (sp : Sp) (gV : List V → List V) (E : XK) (tk : TA) : TE := fun σ H Q => tk σ H fun zs H2 => zs.length = n ∧ sp (gV zs) H2 Q E
section
variable {X : Cx} {CX : CXT} {k : Nat} {f : Addr} {fd : FuncData} {ps ks : List Str} {sp : Sp} {E : XK} {x : Str} {p pos : Pos} {kws : List Keyword} {tk : TA} {g : List Value → List Value} {gV : List V → List V}
theorem pe_callK0 (F : FnOk X.prog X.w X.K X.mg X.base CX k f fd ps sp) (hr : Room k X.A) (hg : Gl X x) (hm : X.mg x = some (.ref f)) (hk : PySem.W.keepIn X.K (.ref f) = true) (hb : KB0 fd ps ks g gV) (hx : Passes CX X E) (hkw : PK X kws tk)
    (hall : (backToKw pos (keywordEach kws X.env)).all (·.1.isSome) = true := by rfl) (hks : (backToKw pos (keywordEach kws X.env)).filterMap (·.1) = ks := by rfl) (hdb : (x == ("__debug__" : Str)) = false := by decide)
    (hpl : ((backTo pos (starEach [] X.env)).any (·.1) || (backToKw pos (keywordEach kws X.env)).any (·.1.isNone)) = false := by rfl) :
    PE X (.Call (.Name x p) [] kws pos) (tKw0 ks.length sp gV E tk) := by
  refine ⟨fun pins s σ H Q I h => wpAny_Call_Name_kw (ld_glob I hg hm ?_ hdb)⟩
  refine PySem.W.callWith_KW0 (h₀ := X.base) I.ok.mod.kin hk hall (thn (hkw.run pos pins s σ H _ I h) fun ws s2 ⟨zs, H2, I2, rz, hl, q⟩ => ⟨I2.kIn, ?_⟩) hpl
  rw [hks]
  refine wpAny_call (codeAny_mono (F.run X.A X.stack s2 H2 ⟨[], ks.zip ws⟩ (g ws) (gV zs) Q E hr I2.env0 (hb.to s2 ws (rz.length.symm.trans hl)) (hb.rel hl rz) q) fun r s' hq => ?_)
  cases r with
  | error e => exact hx pins σ H2 s2 e s' I2 hq
  | ok fl => cases fl <;> first | exact I2.after hq | exact False.elim hq
end
end L2.KwF
end

section
set_option maxRecDepth 100000
set_option maxHeartbeats 4000000
set_option synthInstance.maxHeartbeats 400000
namespace L2.Cal
open PySem PySem.Spec PyProof.Rows L2 CpComb
abbrev sRgt : Stmt := topS 52
abbrev nRgt : List Str := ["_law_creek", "_law_turn", "_law_letters", "_law_lots_here", "_law_mine", "_law_good", "_law_some", "_law_fewest", "_law_due", "_law_word"]
theorem scRgt : FnScope nRgt ["_law_creek"] (defScope sRgt) := ⟨rfl, rfl, rfl, by decide +kernel, rfl, by decide +kernel, by decide +kernel⟩
def spRgt : Sp := fun vs H Q _ => ∃ j : Addr, vs = [.ref j] ∧ Jar H j ∧ ∀ H', Kp j H H' → Jar H' j → Q (.bl true) H'
abbrev txtD (t : List Str) : PyData := .tuple (t.map PyData.str)
abbrev outD (ts : List (List Str)) : PyData := .tuple (ts.map txtD)
theorem dp_txts {K : PySem.W.Frag} {H : Hp} : ∀ (bs : List (Addr × List Str)), (∀ b ∈ bs, H b.1 = some (.tup (b.2.map V.str))) → DpAll K H (bs.map fun b => V.ref b.1) (bs.map fun b => txtD b.2)
  | [], _ => .nil
  | b :: bs, h => .cons (.tup (SqT.of (h b List.mem_cons_self)) (dp_strs b.2)) (dp_txts bs fun c hc => h c (List.mem_cons_of_mem _ hc))
theorem dp_out {K : PySem.W.Frag} {H : Hp} {p : Addr} {vs : List V} {ts : List (List Str)} (e : H p = some (.tup vs)) (t : TextsAt H vs ts) : Dp K H (.ref p) (outD ts) := by
  obtain ⟨bs, rfl, rfl, hb⟩ := t
  have := Dp.tup (K := K) (SqT.of e) (dp_txts bs hb)
  rw [show outD (bs.map (·.2)) = .tuple (bs.map fun b => txtD b.2) by show PyData.tuple _ = _; rw [List.map_map] <;> rfl]
  exact this
theorem out_fine {ts : List (List Str)} (h : ∀ t ∈ ts, t.length ≤ 8 ∧ ∀ z ∈ t, z.cps.size ≤ 6 ∧ ∀ c ∈ z.cps.toList, c < 16 ^ 8) (n : ts.length ≤ 300) : (PyData.list [outD ts, outD ts]).showable = true ∧ (PyData.list [outD ts, outD ts]).shown.length ≤ sizeLine ∧ (PyData.list [outD ts, outD ts]).depth ≤ 40 := by
  have lv : ∀ zs : List Str, (∀ z, z ∈ zs → ∀ c ∈ z.cps.toList, c < 16 ^ 8) → PyData.leavesShortAll 13 (zs.map PyData.str) = true := fun zs => by
    induction zs with
    | nil => intro _; simp [PyData.leavesShortAll]
    | cons z zs ih =>
      intro h
      simp only [List.map_cons, PyData.leavesShortAll, PyData.leavesShort, Bool.and_eq_true, List.all_eq_true]
      exact ⟨fun c hc => decide_eq_true (h z (List.mem_cons_self ..) c hc), ih fun x hx => h x (List.mem_cons_of_mem _ hx)⟩
  have wt : ∀ zs : List Str, (∀ z, z ∈ zs → z.cps.size ≤ 6) → PyData.weightAll (zs.map PyData.str) ≤ 7 * zs.length := fun zs => by
    induction zs with
    | nil => intro _; simp [PyData.weightAll]
    | cons z zs ih =>
      intro h
      have h1 := h z (List.mem_cons_self ..)
      have h2 := ih fun x hx => h x (List.mem_cons_of_mem _ hx)
      simp only [List.map_cons, PyData.weightAll, PyData.weight, List.length_cons]
      have e : z.length = z.cps.size := rfl
      omega
  have dp : ∀ zs : List Str, PyData.depthAll (zs.map PyData.str) = 0 := fun zs => by
    induction zs with
    | nil => simp [PyData.depthAll]
    | cons z zs ih => simp [PyData.depthAll, PyData.depth, ih]
  have sw : ∀ zs : List Str, PyData.showableAll (zs.map PyData.str) = true := fun zs => by
    induction zs with
    | nil => simp [PyData.showableAll]
    | cons z zs ih => simp [PyData.showableAll, PyData.showable, ih]
  have lv2 : ∀ ts : List (List Str), (∀ t ∈ ts, ∀ z ∈ t, ∀ c ∈ z.cps.toList, c < 16 ^ 8) → PyData.leavesShortAll 13 (ts.map txtD) = true := fun ts => by
    induction ts with
    | nil => intro _; simp [PyData.leavesShortAll]
    | cons t ts ih =>
      intro h
      have h1 := lv t (h t List.mem_cons_self)
      have h2 := ih fun x hx => h x (List.mem_cons_of_mem _ hx)
      simp only [List.map_cons, PyData.leavesShortAll, PyData.leavesShort, h1, h2, Bool.and_true]
  have wt2 : ∀ ts : List (List Str), (∀ t ∈ ts, t.length ≤ 8 ∧ ∀ z ∈ t, z.cps.size ≤ 6) → PyData.weightAll (ts.map txtD) ≤ 70 * ts.length := fun ts => by
    induction ts with
    | nil => intro _; simp [PyData.weightAll]
    | cons t ts ih =>
      intro h
      obtain ⟨h0, h1⟩ := h t List.mem_cons_self
      have h1 := wt t h1
      have h2 := ih fun x hx => h x (List.mem_cons_of_mem _ hx)
      simp only [List.map_cons, PyData.weightAll, PyData.weight, List.length_cons]
      omega
  have dp2 : ∀ ts : List (List Str), PyData.depthAll (ts.map txtD) ≤ 1 := fun ts => by
    induction ts with
    | nil => simp [PyData.depthAll]
    | cons t ts ih =>
      simp only [List.map_cons, PyData.depthAll, PyData.depth, dp]
      omega
  have sw2 : ∀ ts : List (List Str), PyData.showableAll (ts.map txtD) = true := fun ts => by
    induction ts with
    | nil => simp [PyData.showableAll]
    | cons t ts ih => simp only [List.map_cons, PyData.showableAll, PyData.showable, sw, ih, Bool.and_true]
  have l1 := lv2 ts fun t ht z hz => ((h t ht).2 z hz).2
  have w1 := wt2 ts fun t ht => ⟨(h t ht).1, fun z hz => ((h t ht).2 z hz).1⟩
  have d1 := dp2 ts
  refine ⟨?_, ?_, ?_⟩
  · simp only [outD, PyData.showable, PyData.showableAll, sw2, Bool.and_true]
  · have lf : (PyData.list [outD ts, outD ts]).leavesShort 13 = true := by
      simp only [outD, PyData.leavesShort, PyData.leavesShortAll, l1, Bool.and_true]
    have h := PyData.shown_le 13 (by decide) (PyData.list [outD ts, outD ts]) lf
    have w : (PyData.list [outD ts, outD ts]).weight ≤ 60000 := by
      simp only [outD, PyData.weight, PyData.weightAll]
      omega
    rw [sizeLine_eq]
    omega
  · simp only [outD, PyData.depth, PyData.depthAll]
    omega
section
variable {P : Program} {w : World} {K : PySem.W.Frag} {mg : Str → Option Value} {base : Heap} {C : Addr}
theorem ok_rgt {f fTg fSi fLt fSo fSh fAy fWk fPt fPk fTr fUp fSp fCa fPa fLs fK fWy fB fIc fRu fTo fSt fWu fWa fN fR fIs fH fL fT fOr pT pO : Addr} {fd fdTg fdSi fdLt fdSo fdSh fdAy fdWk fdPt fdPk fdTr fdUp fdSp fdCa fdPa fdLs fdK fdWy fdB fdIc fdRu fdTo fdSt fdWu fdWa fdN fdR fdIs fdH fdL fdT fdOr : FuncData}
    (D : DefAt K mg "_law_right" sRgt ["_law_creek"] f fd) (DTg : DefAt K mg "_law_tags" sTag ["_law_creek", "_law_size"] fTg fdTg) (DSi : DefAt K mg "_law_sip" sSip ["_law_creek", "_law_size"] fSi fdSi) (DLt : DefAt K mg "_law_lots" sLts ["_law_creek", "_law_letters", "_law_most_here"] fLt fdLt) (DSo : DefAt K mg "_law_some_one" sSom ["_law_creek", "_law_menu"] fSo fdSo) (DSh : DefAt K mg "_law_shuffled" sShu ["_law_creek", "_law_bag"] fSh fdSh)
    (DAy : DefAt K mg "_law_any_lots" sAny ["_law_creek", "_law_letters", "_law_most_here"] fAy fdAy) (DWk : DefAt K mg "_law_walk" sWlk ["_law_creek", "_law_letters"] fWk fdWk) (DPk : DefAt K mg "_law_peaked" sPek ["_law_line_here"] fPk fdPk) (DPt : DefAt K mg "_law_part" sPrt ["_law_creek", "_law_lots_here"] fPt fdPt)
    (DTr : DefAt K mg "_law_trios" sTri ["_law_letters"] fTr fdTr) (DUp : DefAt K mg "_law_upon" sUpo ["_law_word", "_law_trio"] fUp fdUp) (DSp : DefAt K mg "_law_spots" sSpo ["_law_lots_here", "_law_trio"] fSp fdSp) (DCa : DefAt K mg "_law_is_calm" sCal ["_law_lots_here"] fCa fdCa) (DPa : DefAt K mg "_law_parts" sPar ["_law_lots_here"] fPa fdPa)
    (DLs : DefAt K mg "least_out" sLst ["roll"] fLs fdLs) (kLs : KwF.KB0 fdLs ["roll"] ["roll"] id id) (DK : DefAt K mg "check_roll" sChk ["roll"] fK fdK) (DWy : DefAt K mg "ways_out" sWay ["orders", "wheels", "many"] fWy fdWy) (DB : DefAt K mg "breaks_all" sBrk ["out", "wheels"] fB fdB)
    (DIc : DefAt K mg "is_calm" sIsC ["roll"] fIc fdIc) (DRu : DefAt K mg "rough" sRou ["roll"] fRu fdRu) (DTo : DefAt K mg "threes_of" sThs ["things"] fTo fdTo)
    (DSt : DefAt K mg "standing" sSta ["order", "three"] fSt fdSt) (DWu : DefAt K mg "wheels_upon" sWup ["three"] fWu fdWu) (DWa : DefAt K mg "wheel_among" sWam ["orders", "three"] fWa fdWa)
    (DR : DefAt K mg "right_ahead" sRah ["orders"] fR fdR) (DIs : DefAt K mg "is_order" sIsO ["value"] fIs fdIs) (DH : DefAt K mg "things_of" sThO ["order"] fH fdH)
    (FN : Fun K "__init__" "Roll.__init__" sIni fN fdN) (bI : Binds K fdN ["self", "orders"] []) (MK : Mk K C fN)
    (OL : Own K C "__len__" fL) (FL : Fun K "__len__" "Roll.__len__" sLen fL fdL) (bL : Binds K fdL ["self"] [])
    (PT : PropOf K C "things" pT fT) (FT : Fun K "things" "Roll.things" sThi fT fdT) (bT : Binds K fdT ["self"] []) (PO : PropOf K C "orders" pO fOr) (FO : Fun K "orders" "Roll.orders" sOrd fOr fdOr) (bO : Binds K fdOr ["self"] [])
    (hcb : mg "combinations" = some (.type "itertools.combinations")) (cO : ∃ t, mg "MOST_OUT" = some (.int 12 t)) (bd : mg "divmod" = none) (T : Txt mg) (Lm : Lims mg) (R : RollC K mg C) : FnOkG P w K mg base CX0 6 f fd ["_law_creek"] spRgt := by
  have GTg : FnOk P w K mg base CX0 2 fTg fdTg ["_law_creek", "_law_size"] spTag := ok_tag DTg DSi bd T
  have GSo : FnOk P w K mg base CX0 2 fSo fdSo ["_law_creek", "_law_menu"] (spSom K) := ok_som DSo DSi bd T
  have GLt : FnOk P w K mg base CX0 4 fLt fdLt ["_law_creek", "_law_letters", "_law_most_here"] spLts := ok_lts DLt DSi DSo DSh DAy DWk DPk DPt bd T
  have GAy : FnOk P w K mg base CX0 3 fAy fdAy ["_law_creek", "_law_letters", "_law_most_here"] spAny := ok_any DAy DSi DSh bd T
  have GN : FnOk P w K mg base CX0 3 fN fdN ["self", "orders"] (spIni K C) := ok_ini FN DR DIs DH T Lm R
  have GCa : FnOk P w K mg base CX0 3 fCa fdCa ["_law_lots_here"] (spCal K) := ok_cal DCa DTr DSp DUp T
  have GPa : FnOk P w K mg base CX0 1 fPa fdPa ["_law_lots_here"] (spPar K) := ok_par DPa T
  have GLs : FnOk P w K mg base CX0 5 fLs fdLs ["roll"] (spLst K C) := ok_lst DLs DK DWy DB DIc DRu DTo DSt DWu DWa DR DIs DH FN bI MK OL FL bL PT FT bT PO FO bO hcb cO T Lm R
  refine Fun.okG D.F scRgt (fun vs H Q E h => ?_) (fun cdv A outer sh H vs Q E hA hr h => ?_)
  · obtain ⟨j, rfl, _⟩ := h
    rfl
  · obtain ⟨j, rfl, hj, q⟩ := h
    have hu := hr.units
    refine ⟨_, (pss_cons (ps_for PassesOwn.never rfl (pi_range1 (by rfl) T.b_range (pa_cons pe_int pa_nil)) (pg_name (i := 1) scRgt.nd rfl (.inl rfl))
      (pss_cons (ps_set (i := 2) scRgt.nd rfl (.inl rfl) (pe_call GTg (hr.mono (by decide)) (by rfl) DTg.g DTg.F.kp DTg.b .nil pass0 (pa_cons (pv 0) (pa_cons (pe_call GSo (hr.mono (by decide)) (by rfl) DSo.g DSo.F.kp DSo.b .nil pass0 (pa_cons (pv 0) (pa_cons (pe_lstS (pa_cons pe_int (pa_cons pe_int (pa_cons pe_int (pa_cons pe_int pa_nil))))) pa_nil))) pa_nil))))
      (pss_cons (ps_set (i := 3) scRgt.nd rfl (.inl rfl) (pe_call GLt (hr.mono (by decide)) (by rfl) DLt.g DLt.F.kp DLt.b .nil pass0 (pa_cons (pv 0) (pa_cons (pv 2) (pa_cons pe_int pa_nil)))))
      (pss_cons (ps_if (pt_cmpR op_eq (pv 1) pe_int (nomark _))
        (pss_one (ps_set (i := 3) scRgt.nd rfl (.inl rfl) (pe_slice sl_tupA (pe_callTy call_tuple_of (by rfl) T.b_tuple (by decide +kernel) (pa_cons (pe_sortedSetT rfl (by rfl) T.b_sorted (by rfl) T.b_set (pe_op op_catT (pv 3) (pe_call GAy (hr.mono (by decide)) (by rfl) DAy.g DAy.F.kp DAy.b .nil pass0 (pa_cons (pv 0) (pa_cons (pv 2) (pa_cons pe_int pa_nil)))))) pa_nil)) po_none (po_some pe_int))))
        pss_nil)
      (pss_cons (ps_par (i := 4) (j := 5) (by rfl) scRgt.nd rfl rfl (by decide) rfl rfl (pa_cons (pe_make MK GN (hr.mono (by decide)) (by rfl) R.g bI .nil pass0 (pa_cons (pv 3) pa_nil)) (pa_cons (pe_lstS pa_nil) pa_nil)) (by rfl))
      (pss_cons (ps_for PassesOwn.never rfl (pi_list (pe_call GPa (hr.mono (by decide)) (by rfl) DPa.g DPa.F.kp DPa.b .nil pass0 (pa_cons (pv 3) pa_nil))) (pg_name (i := 6) scRgt.nd rfl (.inr rfl))
        (pss_one (ps_if (pt_val (pe_call GCa (hr.mono (by decide)) (by rfl) DCa.g DCa.F.kp DCa.b .nil pass0 (pa_cons (pe_lc (own := [("_law_word", 9)]) (g := gName 9) (tt := _) rfl scRgt.nd (pi_tup (pv 3)) (blkOk_by (own := [("_law_word", 9)]) (N := nRgt) (sc := defScope sRgt) (by decide +kernel))
              (fun _ _ _ _ _ => pg_name (i := 9) scRgt.nd rfl (Or.inl rfl)) (fun _ _ _ _ _ => pts_one (pt_cmpR (show OpR _ _ (rIn K true) from op_notIn_seq) (pv 9) (pv 6) (by rfl))) (fun _ _ _ _ _ => pv 9)) pa_nil)))
          (pss_one (ps_expr (pe_bm PySem.F.plainAttrs_list PySem.F.slot_list_append PySem.F.type_list_append mt_append (pv 5) (pa_cons (pv 6) pa_nil)))) pss_nil)))
      (pss_cons (ps_set (i := 7) scRgt.nd rfl (.inr rfl) (pe_callB (cr_min rfl) (by rfl) T.b_min (by decide +kernel) (pa_cons (pe_lc (own := [("_law_some", 6)]) (g := gName 6) (tt := tYes) rfl scRgt.nd (pi_list (pv 5)) (blkOk_by (own := [("_law_some", 6)]) (N := nRgt) (sc := defScope sRgt) (by decide +kernel))
            (fun _ _ _ _ _ => pg_name (i := 6) scRgt.nd rfl (Or.inl rfl)) (fun _ _ _ _ _ => pts_nil) (fun _ _ _ _ _ => show PE _ _ (tCB (fun xs H Q => ∃ p ys, xs = [V.ref p] ∧ (SqL K H p ys ∨ SqT K H p ys) ∧ Q (.int ys.length) H) _) from pe_callB call_len_seq (by rfl) T.b_len (by decide +kernel) (pa_cons (pv 6) pa_nil))) pa_nil)))
      (pss_cons (ps_set (i := 8) scRgt.nd rfl (.inl rfl) (pe_callTy call_tuple_of (by rfl) T.b_tuple (by decide +kernel) (pa_cons (pe_callB (cr_sortTT hu) (by rfl) T.b_sorted (by decide +kernel) (pa_cons (pe_lc (own := [("_law_some", 6)]) (g := gName 6) (tt := _) rfl scRgt.nd (pi_list (pv 5)) (blkOk_by (own := [("_law_some", 6)]) (N := nRgt) (sc := defScope sRgt) (by decide +kernel))
            (fun _ _ _ _ _ => pg_name (i := 6) scRgt.nd rfl (Or.inl rfl)) (fun _ _ _ _ _ => pts_one (pt_cmpR op_eq (show PE _ _ (tCB (fun xs H Q => ∃ p ys, xs = [V.ref p] ∧ (SqL K H p ys ∨ SqT K H p ys) ∧ Q (.int ys.length) H) _) from pe_callB call_len_seq (by rfl) T.b_len (by decide +kernel) (pa_cons (pv 6) pa_nil)) (pv 7) (nomark _))) (fun _ _ _ _ _ => pv 6)) pa_nil)) pa_nil)))
      (pss_one (ps_if (pt_cmpR op_ne (pe_callB (call_reprD hA hu) (by rfl) T.b_repr (by decide +kernel) (pa_cons (pe_lstS (pa_cons (pe_call GLs (hr.mono (by decide)) (by rfl) DLs.g DLs.F.kp DLs.b .nil pass0 (pa_cons (pv 4) pa_nil)) (pa_cons (KwF.pe_callK0 GLs (hr.mono (by decide)) (by rfl) DLs.g DLs.F.kp kLs pass0 (pk_cons (pv 4) pk_nil)) pa_nil))) pa_nil))
          (pe_callB (call_reprD hA hu) (by rfl) T.b_repr (by decide +kernel) (pa_cons (pe_lstS (pa_cons (pv 8) (pa_cons (pv 8) pa_nil))) pa_nil)) (nomark _)) (pss_one (ps_ret pe_bl)) pss_nil))))))))))
      (pss_one (ps_ret pe_bl))), ?_⟩
    have lim : ∀ {n : Nat}, n ≤ 1000 → n ≤ sizeLine := fun h => by rw [sizeLine_eq]; omega
    have slim : ∀ {n : Nat}, n ≤ 1000 → n < sizeLine := fun h => by rw [sizeLine_eq]; omega
    refine ⟨4, rfl, by decide, by decide, for_range (n := 4) (fun i σ H' => ∃ v1 v2 v3 v4 v5 v6 v7 v8 v9, σ = [some (.ref j), v1, v2, v3, v4, v5, v6, v7, v8, v9] ∧ Jar H' j ∧ Kp j H H') ⟨_, _, _, _, _, _, _, _, _, rfl, hj, .refl⟩ (fun i σ H0 hi hP => ?_) (fun σ H0 hP => ?_)⟩
    · obtain ⟨v1, v2, v3, v4, v5, v6, v7, v8, v9, rfl, hJ, hk⟩ := hP
      refine ⟨_, rfl, _, rfl, lim (show 4 ≤ 1000 by decide), fun m H1 s1 n1 e1 => ⟨j, m, [.int 3, .int 4, .int 4, .int 5], rfl, hJ.same s1, jar_ne hJ n1, .inl (SqL.of e1), by decide, by decide, fun ix vx H2 hx k2 J2 => ?_⟩⟩
      obtain ⟨n, rfl, n5⟩ : ∃ n : Nat, vx = .int n ∧ n ∈ [3, 4, 5] := by
        match ix, hx with
        | 0, hx => cases hx; exact ⟨3, rfl, by decide⟩
        | 1, hx => cases hx; exact ⟨4, rfl, by decide⟩
        | 2, hx => cases hx; exact ⟨4, rfl, by decide⟩
        | 3, hx => cases hx; exact ⟨5, rfl, by decide⟩
        | n + 4, hx => simp at hx
      have n3 : 3 ≤ n ∧ n ≤ 5 := by
        simp only [List.mem_cons, List.not_mem_nil, or_false] at n5
        omega
      refine ⟨j, n, rfl, J2, by omega, fun y H3 k3 J3 ly so ysz => ?_⟩
      have y3 : 3 ≤ y.cps.size := by omega
      have y6 : y.cps.size ≤ 6 := by omega
      refine ⟨_, rfl, _, rfl, j, y, 6, rfl, J3, ly, y3, y6, by decide, by decide, fun ys0 p0 H4 k4 J4 ep0 lot0 ym0 => ?_⟩
      have K4 : Kp j H H4 := hk.trans ((Kp.of s1).trans (k2.trans (k3.trans k4)))
      clear hJ hk s1 n1 e1 k2 k3 k4 J2 J3 n5 n3
      have jne : ∀ {H' : Hp} {p : Addr} {xs : List V}, Jar H' j → H' p = some (.tup xs) → p ≠ j := fun {H' p xs} J e z => by
        obtain ⟨_, _, _, e', _⟩ := J
        rw [← z, e] at e'
        cases e'
      dsimp only [gName]
      refine seq_key (t := tIfS _ _ _) (fun σ H' => ∃ (p : Addr) (ys : List Str), σ = [some (.ref j), some (.int (0 + (i : Int))), some (.str y), some (.ref p), v4, v5, v6, v7, v8, v9] ∧ Kp j H4 H' ∧ Jar H' j ∧ H' p = some (.tup (ys.map V.str)) ∧ Lot ys y ∧ ys.length ≤ 7) (fun σ H5 hP => ?_) (fun key => ?_)
      · obtain ⟨p, ys, rfl, k5, J5, ep, lot, ym⟩ := hP
        have G : Good ys y := ⟨lot, ly, y3, y6, by omega⟩
        have K5 : Kp j H H5 := K4.trans k5
        clear K4 k5 J4 ep0 lot0 ym0
        have nd := lot.one
        have n0 := lot.some
        refine ⟨_, rfl, fun x1 dx1 nx1 nd1 ne1 => ?_⟩
        have m1 : Same H5 (upd (upd H5 dx1 (.own x1)) x1 (.ins C dx1 [])) := fun b o e => by rw [upd_ne (ne_of_none e nx1), upd_ne (ne_of_none e nd1)]; exact e
        refine ⟨x1, p, dx1, ys, y, rfl, upd_same, SqT.of (m1 _ _ ep), .base (.tup (m1 _ _ ep)), G, fun H6 k6 ra => ⟨rfl, ?_⟩⟩
        have s6 : Same H5 H6 := fun b o e => k6 b o (ne_of_none e nx1) (m1 _ _ e)
        clear m1 k6 ne1 nd1
        have ep6 := s6 _ _ ep
        have J6 := J5.same s6
        have K6 : Kp j H H6 := K5.trans (.of s6)
        clear s6 J5 K5 nx1 ep
        refine ⟨lim (show 0 ≤ 1000 by decide), fun Dg H7 s7 nDg eDg => ⟨_, _, rfl, ?_⟩⟩
        have pl : (prt ys).length ≤ 128 := by
          rw [prt_len]
          exact Nat.le_trans (Nat.pow_le_pow_right (by decide) ym) (by decide)
        have pl2 : 2 ≤ (prt ys).length := by
          rw [prt_len]
          exact Nat.le_trans (show 2 ≤ 2 ^ 1 by decide) (Nat.pow_le_pow_right (by decide) n0)
        refine ⟨_, rfl, p, ys, rfl, SqT.of (s7 _ _ ep6), by omega, fun pp H8 us s8 e8 t8 => ?_⟩
        have eDg8 := s8 _ _ eDg
        have ul := t8.len
        rw [List.length_dropLast] at ul
        have ppg : pp ≠ Dg := fun z => by
          rw [z, eDg8] at e8
          cases HO.lst.inj (Option.some.inj e8)
          simp at ul
          omega
        have ep8 := s8 _ _ (s7 _ _ ep6)
        have pg : ∀ {b : Addr} {o : HO}, H6 b = some o → b ≠ Dg := fun {b o} e z => by rw [z, nDg] at e; cases e
        refine ⟨pp, rfl, ⟨_, SqL.of e8⟩, for_list (K := K) (a := pp) (xs := us) (fun k σ H' => ∃ (v6 v9 : Option V) (gs : List V), σ = [some (.ref j), some (.int (0 + (i : Int))), some (.str y), some (.ref p), some (.ref x1), some (.ref Dg), v6, v7, v8, v9] ∧ (∀ b o, b ≠ Dg → H8 b = some o → H' b = some o) ∧ H' Dg = some (.lst gs) ∧ TextsAt H' gs (((prt ys).dropLast.take k).filter fun s => calmB (restL ys s) y))
          ⟨v6, v9, [], rfl, fun _ _ _ e => e, eDg8, .nil⟩ (fun k σ H' _ hP => ?_) (fun k v σ H9 hv hP => ?_) (fun σ H9 hP => ?_)⟩
        · obtain ⟨_, _, _, _, s, _⟩ := hP
          exact SqL.of (s _ _ ppg e8)
        · obtain ⟨w6, w9, gs, rfl, s9, e9, t9⟩ := hP
          obtain ⟨qq, t, rfl, ht, eqq8⟩ := t8.get hv
          have qg : qq ≠ Dg := fun z => by rw [z, eDg8] at eqq8; cases eqq8
          have eqq := s9 _ _ qg eqq8
          have tin := prt_less.mp (List.mem_of_getElem? ht)
          have tk : (prt ys).dropLast.take (k + 1) = (prt ys).dropLast.take k ++ [t] := by rw [List.take_succ, ht, Option.toList_some]
          have ep9 := s9 _ _ (pg ep6) ep8
          have gl := t9.len
          have gl2 : gs.length ≤ 128 := by
            rw [gl]
            refine Nat.le_trans (List.length_filter_le _ _) ?_
            rw [List.length_take, List.length_dropLast]
            omega
          refine ⟨_, rfl, p, rfl, ⟨_, SqT.of ep9⟩, fun D nD => lc_tup (K := K) (a := p) (xs := ys.map V.str) (fun m H' => Same H9 H' ∧ H' D = some (.lst (((ys.take m).filter fun o => !decide (o ∈ t)).map V.str))) ⟨same_new nD, upd_same⟩ (fun m H' _ hP => SqT.of (hP.1 _ _ ep9)) (fun m v H10 hv2 hP => ?_) (fun H10 hP => ?_)⟩
          · obtain ⟨s10, e10⟩ := hP
            rw [List.getElem?_map] at hv2
            obtain ⟨z, hz, rfl⟩ := Option.map_eq_some_iff.mp hv2
            have tm : ys.take (m + 1) = ys.take m ++ [z] := by rw [List.take_succ, hz, Option.toList_some]
            refine ⟨rfl, _, rfl, _, rfl, qq, _, rfl, .inr (SqT.of (s10 _ _ eqq)), rfl, flat_strs t, !decide (z ∈ t), by rw [← in_lst] <;> rfl, ite2 (fun c => ?_) (fun c => ?_)⟩
            · refine ⟨_, rfl, _, e10, ?_, fun b o h => ?_, ?_⟩
              · rw [List.length_map]
                refine slim (Nat.le_trans (List.length_filter_le _ _) ?_)
                rw [List.length_take]
                omega
              · rw [upd_ne (ne_of_none h nD)]
                exact s10 _ _ h
              · rw [upd_same, tm, List.filter_append, List.filter_cons, if_pos c, List.map_append] <;> rfl
            · refine ⟨s10, ?_⟩
              rw [e10, tm, List.filter_append, List.filter_cons, if_neg c, List.filter_nil, List.append_nil]
          · obtain ⟨s10, e10⟩ := hP
            rw [List.length_map, List.take_length] at e10
            have e10' : H10 D = some (.lst ((restL ys t).map V.str)) := e10
            have rpos : 0 < (restL ys t).length := by
              rcases Nat.eq_zero_or_pos (restL ys t).length with h | h
              · exfalso
                have hn := List.length_eq_zero_iff.mp h
                have := List.Nodup.length_le_of_subset nd (l₂ := t) fun o ho => Classical.byContradiction fun no => by
                  have := rest_in.mpr ⟨ho, no⟩
                  rw [hn] at this
                  cases this
                omega
              · exact h
            have L : Loose (restL ys t) y := ⟨fun z hz => G.lot.of z (rest_in.mp hz).1, ly, y3, y6, rpos⟩
            refine ⟨D, restL ys t, y, rfl, SqL.of e10', L, Nat.le_trans (List.length_filter_le _ _) (by omega), fun H11 s11 => ⟨_, rfl, ite2 (fun c => ?_) (fun c => ?_)⟩⟩
            · have S11 := s10.trans s11
              have e11 := S11 _ _ e9
              refine ⟨_, rfl, .inl ⟨rfl, _, SqL.of e11⟩, _, rfl, Dg, gs, .ref qq, rfl, rfl, e11, by rw [sizeLine_eq]; omega, ⟨_, _, gs ++ [.ref qq], rfl, fun b o nb e => ?_, upd_same, ?_⟩⟩
              · rw [upd_ne nb]
                exact S11 _ _ (s9 _ _ nb e)
              · have := ((t9.same S11).app (TextsAt.one (S11 _ _ eqq))).keep (o := .lst (gs ++ [V.ref qq])) e11 (fun _ _ e => e)
                rw [tk, List.filter_append, List.filter_cons, if_pos c, List.filter_nil]
                exact this
            · have S11 := s10.trans s11
              refine ⟨_, _, gs, rfl, fun b o nb e => S11 _ _ (s9 _ _ nb e), S11 _ _ e9, ?_⟩
              rw [tk, List.filter_append, List.filter_cons, if_neg c, List.filter_nil, List.append_nil]
              exact t9.same S11
        · obtain ⟨w6, w9, gs, rfl, s9, e9, t9⟩ := hP
          have ul' : us.length = (prt ys).dropLast.length := by rw [List.length_dropLast]; exact ul
          rw [ul', List.take_length] at t9
          have t9' : TextsAt H9 gs (goodL ys y) := t9
          have S9 : Same H6 H9 := fun b o e => s9 _ _ (pg e) (s8 _ _ (s7 _ _ e))
          clear t9 s9 t8 e8 ppg pg eDg8 ep8 s8 s7 nDg eDg ul ul' us
          obtain ⟨gd, hgd⟩ : ∃ gd, gd = goodL ys y := ⟨_, rfl⟩
          rw [← hgd] at t9'
          have glen : gd.length ≤ 128 := by
            rw [hgd]
            refine Nat.le_trans (List.length_filter_le _ _) ?_
            rw [List.length_dropLast]
            omega
          have gpos : 0 < gd.length := by
            rcases Nat.eq_zero_or_pos gd.length with h | h
            · exact absurd (List.length_eq_zero_iff.mp h) (by rw [hgd]; exact good_some nd n0)
            · exact h
          have gl := t9'.len
          -- the fewest
          refine ⟨_, rfl, Dg, rfl, ⟨_, SqL.of e9⟩, fun D nD => lc_list (K := K) (a := Dg) (xs := gs) (fun m H' => Same H9 H' ∧ H' D = some (.lst (((gd.take m).map fun s => (s.length : Int)).map V.int))) ⟨same_new nD, upd_same⟩ (fun m H' _ hP => SqL.of (hP.1 _ _ e9)) (fun m v H10 hv hP => ?_) (fun H10 hP => ?_)⟩
          · obtain ⟨s10, e10⟩ := hP
            obtain ⟨qq, t, rfl, ht, eqq⟩ := (t9'.same s10).get hv
            refine ⟨rfl, _, rfl, qq, _, rfl, .inr (SqT.of eqq), _, e10, ?_, fun b o h => ?_, ?_⟩
            · rw [List.length_map, List.length_map, List.length_take]
              exact slim (by omega)
            · rw [upd_ne (ne_of_none h nD)]
              exact s10 _ _ h
            · rw [upd_same, List.take_succ, ht, Option.toList_some, List.map_append, List.map_append, List.length_map] <;> rfl
          · obtain ⟨s10, e10⟩ := hP
            rw [gl, List.take_length] at e10
            refine ⟨D, _, rfl, SqL.of e10, by rw [List.length_map]; exact gpos, fun mi hmi hle => ?_⟩
            obtain ⟨s0, hs0, rfl⟩ := List.mem_map.mp hmi
            obtain ⟨k, hk⟩ : ∃ k, k = s0.length := ⟨_, rfl⟩
            rw [← hk]
            have h1 : ∃ s ∈ goodL ys y, s.length = k := ⟨s0, by rw [← hgd]; exact hs0, hk.symm⟩
            have h2 : ∀ s ∈ goodL ys y, k ≤ s.length := fun s hs => by
              have := hle _ (List.mem_map.mpr ⟨s, by rw [hgd]; exact hs, rfl⟩)
              rw [hk]
              omega
            obtain ⟨lk, kn⟩ := fewest_least nd h1 h2
            clear hle hmi nD
            have t10 := t9'.same s10
            have S10 : Same H6 H10 := S9.trans s10
            have eg10 := s10 _ _ e9
            clear s10 e10 t9' e9 S9
            -- those with so few
            refine ⟨_, rfl, Dg, rfl, ⟨_, SqL.of eg10⟩, fun D2 nD2 => lc_list (K := K) (a := Dg) (xs := gs) (fun m H' => Same H10 H' ∧ ∃ fs, H' D2 = some (.lst fs) ∧ TextsAt H' fs ((gd.take m).filter fun s => decide (s.length = k))) ⟨same_new nD2, [], upd_same, .nil⟩ (fun m H' _ hP => SqL.of (hP.1 _ _ eg10)) (fun m v H11 hv hP => ?_) (fun H11 hP => ?_)⟩
            · obtain ⟨s11, fs, e11, t11⟩ := hP
              obtain ⟨qq, t, rfl, ht, eqq⟩ := (t10.same s11).get hv
              have tk : gd.take (m + 1) = gd.take m ++ [t] := by rw [List.take_succ, ht, Option.toList_some]
              have fl : fs.length ≤ 128 := by
                rw [t11.len]
                refine Nat.le_trans (List.length_filter_le _ _) ?_
                rw [List.length_take]
                omega
              refine ⟨rfl, _, rfl, qq, _, rfl, .inr (SqT.of eqq), _, rfl, rfl, _, rfl, ite2 (fun c => ?_) (fun c => ?_)⟩
              · have ck : t.length = k := by
                  have := V.int.inj (of_decide_eq_true c)
                  rw [List.length_map] at this
                  omega
                refine ⟨_, rfl, _, e11, by rw [sizeLine_eq]; omega, fun b o h => ?_, _, upd_same, ?_⟩
                · rw [upd_ne (ne_of_none h nD2)]
                  exact s11 _ _ h
                · have := (t11.app (TextsAt.one eqq)).keep (o := .lst (fs ++ [V.ref qq])) e11 (fun _ _ e => e)
                  rw [tk, List.filter_append, List.filter_cons, if_pos (decide_eq_true ck), List.filter_nil]
                  exact this
              · have ck : t.length ≠ k := fun h => c (decide_eq_true (by rw [List.length_map, h] <;> rfl))
                refine ⟨s11, fs, e11, ?_⟩
                rw [tk, List.filter_append, List.filter_cons, if_neg (fun h => ck (of_decide_eq_true h)), List.filter_nil, List.append_nil]
                exact t11
            · obtain ⟨s11, fs, e11, t11⟩ := hP
              rw [gl, List.take_length] at t11
              obtain ⟨bs, rfl, eb, hbs⟩ := t11
              have bl : bs.length ≤ 128 := by
                have := congrArg List.length eb
                rw [List.length_map] at this
                have h2 := List.length_filter_le (fun s : List Str => decide (s.length = k)) gd
                omega
              have bk : ∀ b ∈ bs, b.2.length = k := fun b hb => by
                have : b.2 ∈ bs.map (·.2) := List.mem_map.mpr ⟨b, hb, rfl⟩
                rw [eb] at this
                exact of_decide_eq_true (List.mem_filter.mp this).2
              have bnd : (bs.map (·.2)).Nodup := by
                rw [eb, hgd]
                exact (good_nd nd).filter _
              have b0 : k = 0 → bs.length = 1 := fun hk0 => by
                have ne : bs ≠ [] := fun h => by
                  obtain ⟨s, hs, sl⟩ := h1
                  have : s ∈ bs.map (·.2) := by rw [eb, hgd]; exact List.mem_filter.mpr ⟨hs, decide_eq_true sl⟩
                  rw [h] at this
                  cases this
                match bs, ne, bk, bnd with
                | [b], _, _, _ => rfl
                | b :: c :: r, _, bk, bnd =>
                  exfalso
                  have e1 := List.length_eq_zero_iff.mp ((bk b List.mem_cons_self).trans hk0)
                  have e2 := List.length_eq_zero_iff.mp ((bk c (List.mem_cons_of_mem _ List.mem_cons_self)).trans hk0)
                  rw [List.map_cons, List.map_cons] at bnd
                  exact (List.nodup_cons.mp bnd).1 (by rw [e1, e2]; exact List.mem_cons_self)
              refine ⟨D2, bs, k, rfl, SqL.of e11, hbs, bk, b0, by omega, fun cs p2 pm so np2 => ⟨p2, _, rfl, .inl ⟨SqL.of upd_same, fun l nl => ?_⟩⟩⟩
              have W : cs.map (·.2) = wayT ys (whlT ys y) k := due_ways lot.up nd kn (by rw [← hgd, ← eb]; exact pm.map _) (List.pairwise_map.mpr so)
              have S12 : Same H6 (upd (upd H11 p2 (.lst (cs.map fun b => V.ref b.1))) l (.tup (cs.map fun b => V.ref b.1))) := S10.trans (s11.trans ((same_new np2).trans (same_new nl)))
              have e12 : (upd (upd H11 p2 (.lst (cs.map fun b => V.ref b.1))) l (.tup (cs.map fun b => V.ref b.1))) l = some (.tup (cs.map fun b => V.ref b.1)) := upd_same
              have t12 : TextsAt (upd (upd H11 p2 (.lst (cs.map fun b => V.ref b.1))) l (.tup (cs.map fun b => V.ref b.1))) (cs.map fun b => V.ref b.1) (wayT ys (whlT ys y) k) := by
                have : TextsAt H11 (cs.map fun b => V.ref b.1) (wayT ys (whlT ys y) k) := ⟨cs, rfl, W, fun b hb => hbs b (pm.mem_iff.mp hb)⟩
                exact this.same ((same_new np2).trans (same_new nl))
              generalize upd (upd H11 p2 (.lst (cs.map fun b => V.ref b.1))) l (.tup (cs.map fun b => V.ref b.1)) = H12 at S12 e12 t12 ⊢
              clear S10 s11 e11 hbs np2 nl t10 eg10 nD2
              have ra12 := ra.same S12
              have ht12 := SqT.of (K := K) (S12 _ _ ep6)
              obtain ⟨wt, hwt⟩ : ∃ wt, wt = wayT ys (whlT ys y) k := ⟨_, rfl⟩
              rw [← hwt] at t12
              have wl : wt.length ≤ 128 := by
                rw [hwt, ← W, List.length_map, pm.length_eq]
                exact bl
              obtain ⟨f1, f2, f3⟩ := out_fine (ts := wt) (fun s hs => by
                rw [hwt] at hs
                obtain ⟨sub, _⟩ := mem_cmbT.mp (List.mem_filter.mp hs).1
                refine ⟨Nat.le_trans sub.length_le (by omega), fun z hz => ?_⟩
                have pz := G.lot.of z (sub.subset hz)
                refine ⟨by rw [perm_size pz]; exact y6, fun c hc => ?_⟩
                have := ((ly.perm pz).2 c hc).2
                omega) (by omega)
              refine ⟨_, rfl, x1, p, ys, y, rfl, ra12, ht12, G, by omega, fun p3 H13 vs3 s13 e13 t13 => ⟨_, rfl, rfl, x1, p, ys, y, rfl, ra12.same s13, same_seqT ht12 s13, G, by omega, fun p4 H14 vs4 s14 e14 t14 => ⟨lim (show 2 ≤ 1000 by decide), fun l1 H15 s15 n15 e15 => ?_⟩⟩⟩
              rw [lk, ← hwt] at t13 t14
              have S1315 := s14.trans s15
              refine ⟨_, .list [outD wt, outD wt], rfl, .base (.lst (SqL.of e15) (.cons (dp_out (S1315 _ _ e13) (t13.same S1315)) (.cons (dp_out (s15 _ _ e14) (t14.same s15)) .nil))), f1, f2, f3, ?_⟩
              have S15 := s13.trans S1315
              refine ⟨_, rfl, _, rfl, lim (show 2 ≤ 1000 by decide), fun l2 H16 s16 n16 e16 => ?_⟩
              have S16 := S15.trans s16
              refine ⟨_, .list [outD wt, outD wt], rfl, .base (.lst (SqL.of e16) (.cons (dp_out (S16 _ _ e12) (t12.same S16)) (.cons (dp_out (S16 _ _ e12) (t12.same S16)) .nil))), f1, f2, f3, rfl, _, rfl, iteNS rfl ?_⟩
              have SS := S12.trans S16
              exact ⟨_, _, _, _, _, _, _, _, _, rfl, J6.same SS, K6.trans (.of SS)⟩
      · refine ⟨_, rfl, rfl, _, rfl, ite2 (fun _ => ?_) (fun _ => ?_)⟩
        · refine ⟨_, rfl, _, rfl, _, rfl, j, y, 3, rfl, J4, by omega, by decide, by decide, fun ys2 p2 H5 k5 J5 np2 ep2 lot2 ym2 => ?_⟩
          have ep05 := k5 _ _ (jne J4 ep0) ep0
          refine ⟨p0, p2, ys0.map V.str, ys2.map V.str, rfl, rfl, SqT.of ep05, SqT.of ep2, fun h => by have := lot0.some; rw [← List.length_map (f := V.str), h] at this; exact absurd this (by decide), by rw [List.length_map, List.length_map]; exact lim (by omega), fun h => by have := lot2.some; rw [← List.length_map (f := V.str), h] at this; exact absurd this (by decide), fun _ pc npc => ?_⟩
          refine ⟨pc, ys0 ++ ys2, rfl, SqT.of (by rw [upd_same, List.map_append] <;> rfl), by rw [List.length_append]; omega, fun zs pz cl nd mem npz => ⟨pz, _, rfl, .inl ⟨SqL.of upd_same, fun t nt => ⟨_, rfl, ?_⟩⟩⟩⟩
          have kin : Kin zs y := fun z hz => by
            rcases List.mem_append.mp ((mem z).mp hz) with h | h
            · exact lot0.of z h
            · exact lot2.of z h
          have pos : 0 < zs.length := List.length_pos_of_mem ((mem _).mpr (List.mem_append_left _ (List.getElem_mem lot0.some)))
          refine sl_j upd_same fun b H6 s6 eb => key _ _ ⟨b, zs.take 7, rfl, ?_, ?_, ?_, lot_take cl nd pos kin (by decide), by rw [List.length_take]; omega⟩
          · exact k5.trans ((Kp.new npc).trans ((Kp.new npz).trans ((Kp.new nt).trans (.of s6))))
          · exact ((((J5.new npc).new npz).new nt).same s6)
          · rw [show cutV (zs.map V.str) none (some 7) = (zs.map V.str).take 7 from cut_take _ 7, ← List.map_take] at eb
            exact eb
        · exact key _ _ ⟨p0, ys0, rfl, .refl, J4, ep0, lot0, by omega⟩
    · obtain ⟨v1, v2, v3, v4, v5, v6, v7, v8, v9, rfl, hJ, hk⟩ := hP
      exact q _ hk hJ
end
end L2.Cal
end

section
set_option maxRecDepth 100000
set_option maxHeartbeats 4000000
set_option synthInstance.maxHeartbeats 400000
namespace L2.Cal
open PySem PySem.Spec PyProof.Rows L2
abbrev sLaw : Stmt := topS 53
theorem scLaw : FnScope ["_law_script", "_law_turn"] ["_law_script"] (defScope sLaw) := ⟨rfl, rfl, rfl, by decide +kernel, rfl, by decide +kernel, by decide +kernel⟩
def spLaw (K : PySem.W.Frag) : Sp := fun vs H Q _ => ∃ (a : Addr) (ns : List Int), vs = [.ref a] ∧ SqL K H a (ns.map V.int) ∧ ns.length ≤ 63 ∧ (∀ n ∈ ns, Builtin.Int.intBits n ≤ 1048576) ∧ ∀ H', Q (.bl true) H'
theorem seqL_new {K : PySem.W.Frag} {H H1 H2 : Hp} {a p : Addr} {xs : List V} (h : SqL K H a xs) (n : H p = none) (s : Same H H1) (k : Kp p H1 H2) : SqL K H2 a xs := by
  rcases h with (h | ⟨o, h⟩) | h
  · exact .inl (.inl (k _ _ (ne_of_none h n) (s _ _ h)))
  · exact .inl (.inr ⟨o, k _ _ (ne_of_none h n) (s _ _ h)⟩)
  · exact .inr h
section
variable {P : Program} {w : World} {K : PySem.W.Frag} {mg : Str → Option Value} {base : Heap} {C : Addr}
theorem ok_law {f fTg fSi fLt fSo fSh fAy fWk fPt fPk fTr fUp fSp fCa fPa fLs fK fWy fB fIc fRu fTo fSt fWu fWa fN fR fIs fH fL fT fOr pT pO : Addr} {fd fdTg fdSi fdLt fdSo fdSh fdAy fdWk fdPt fdPk fdTr fdUp fdSp fdCa fdPa fdLs fdK fdWy fdB fdIc fdRu fdTo fdSt fdWu fdWa fdN fdR fdIs fdH fdL fdT fdOr : FuncData} {fJ fW : Addr} {fdJ fdW : FuncData}
    (DW : DefAt K mg "law" sLaw ["_law_script"] fW fdW) (DJ : DefAt K mg "_law_origin" sOrg ["_law_script", "_law_turn"] fJ fdJ)
    (DR0 : DefAt K mg "_law_right" sRgt ["_law_creek"] f fd)
    (DTg : DefAt K mg "_law_tags" sTag ["_law_creek", "_law_size"] fTg fdTg)
    (DSi : DefAt K mg "_law_sip" sSip ["_law_creek", "_law_size"] fSi fdSi)
    (DLt : DefAt K mg "_law_lots" sLts ["_law_creek", "_law_letters", "_law_most_here"] fLt fdLt)
    (DSo : DefAt K mg "_law_some_one" sSom ["_law_creek", "_law_menu"] fSo fdSo)
    (DSh : DefAt K mg "_law_shuffled" sShu ["_law_creek", "_law_bag"] fSh fdSh)
    (DAy : DefAt K mg "_law_any_lots" sAny ["_law_creek", "_law_letters", "_law_most_here"] fAy fdAy)
    (DWk : DefAt K mg "_law_walk" sWlk ["_law_creek", "_law_letters"] fWk fdWk)
    (DPk : DefAt K mg "_law_peaked" sPek ["_law_line_here"] fPk fdPk)
    (DPt : DefAt K mg "_law_part" sPrt ["_law_creek", "_law_lots_here"] fPt fdPt)
    (DTr : DefAt K mg "_law_trios" sTri ["_law_letters"] fTr fdTr)
    (DUp : DefAt K mg "_law_upon" sUpo ["_law_word", "_law_trio"] fUp fdUp)
    (DSp : DefAt K mg "_law_spots" sSpo ["_law_lots_here", "_law_trio"] fSp fdSp)
    (DCa : DefAt K mg "_law_is_calm" sCal ["_law_lots_here"] fCa fdCa)
    (DPa : DefAt K mg "_law_parts" sPar ["_law_lots_here"] fPa fdPa)
    (DLs : DefAt K mg "least_out" sLst ["roll"] fLs fdLs)
    (kLs : KwF.KB0 fdLs ["roll"] ["roll"] id id)
    (DK : DefAt K mg "check_roll" sChk ["roll"] fK fdK)
    (DWy : DefAt K mg "ways_out" sWay ["orders", "wheels", "many"] fWy fdWy)
    (DB : DefAt K mg "breaks_all" sBrk ["out", "wheels"] fB fdB)
    (DIc : DefAt K mg "is_calm" sIsC ["roll"] fIc fdIc)
    (DRu : DefAt K mg "rough" sRou ["roll"] fRu fdRu)
    (DTo : DefAt K mg "threes_of" sThs ["things"] fTo fdTo)
    (DSt : DefAt K mg "standing" sSta ["order", "three"] fSt fdSt)
    (DWu : DefAt K mg "wheels_upon" sWup ["three"] fWu fdWu)
    (DWa : DefAt K mg "wheel_among" sWam ["orders", "three"] fWa fdWa)
    (DR : DefAt K mg "right_ahead" sRah ["orders"] fR fdR)
    (DIs : DefAt K mg "is_order" sIsO ["value"] fIs fdIs)
    (DH : DefAt K mg "things_of" sThO ["order"] fH fdH)
    (FN : Fun K "__init__" "Roll.__init__" sIni fN fdN)
    (bI : Binds K fdN ["self", "orders"] [])
    (MK : Mk K C fN)
    (OL : Own K C "__len__" fL)
    (FL : Fun K "__len__" "Roll.__len__" sLen fL fdL)
    (bL : Binds K fdL ["self"] [])
    (PT : PropOf K C "things" pT fT)
    (FT : Fun K "things" "Roll.things" sThi fT fdT)
    (bT : Binds K fdT ["self"] [])
    (PO : PropOf K C "orders" pO fOr)
    (FO : Fun K "orders" "Roll.orders" sOrd fOr fdOr)
    (bO : Binds K fdOr ["self"] [])
    (hcb : mg "combinations" = some (.type "itertools.combinations"))
    (cO : ∃ t, mg "MOST_OUT" = some (.int 12 t))
    (bd : mg "divmod" = none)
    (T : Txt mg)
    (Lm : Lims mg)
    (R : RollC K mg C) : FnOkG P w K mg base CX0 7 fW fdW ["_law_script"] (spLaw K) := by
  have GR : FnOkG P w K mg base CX0 6 f fd ["_law_creek"] (spRgt) := ok_rgt DR0 DTg DSi DLt DSo DSh DAy DWk DPk DPt DTr DUp DSp DCa DPa DLs kLs DK DWy DB DIc DRu DTo DSt DWu DWa DR DIs DH FN bI MK OL FL bL PT FT bT PO FO bO hcb cO bd T Lm R
  have GJ : FnOk P w K mg base CX0 1 fJ fdJ ["_law_script", "_law_turn"] (spOrg K) := ok_org DJ T
  refine Fun.okG DW.F scLaw (fun vs H Q E h => ?_) (fun cdv A outer sh H vs Q E hA hr h => ?_)
  · obtain ⟨a, ns, rfl, _⟩ := h
    rfl
  · obtain ⟨a, ns, rfl, hS, hn, hb, q⟩ := h
    refine ⟨_, (pss_one (ps_ret (pe_callB (cr_all rfl) (by rfl) T.b_all (by decide +kernel) (pa_cons (pe_lc (own := [("_law_turn", 1)]) (g := gName 1) (tt := tYes) rfl scLaw.nd (pi_range1 (by rfl) T.b_range (pa_cons (pe_callB (call_max2 rfl) (by rfl) T.b_max (by decide +kernel) (pa_cons pe_int (pa_cons (pe_callB (call_min2 rfl) (by rfl) T.b_min (by decide +kernel) (pa_cons (pe_callB call_len_seq (by rfl) T.b_len (by decide +kernel) (pa_cons (pv 0) pa_nil)) (pa_cons pe_int pa_nil))) pa_nil))) pa_nil)) (blkOk_by (own := [("_law_turn", 1)]) (N := ["_law_script", "_law_turn"]) (sc := (defScope sLaw)) (by decide +kernel)) (fun _ _ _ _ _ => pg_name (i := 1) scLaw.nd rfl (Or.inl rfl)) (fun _ _ _ _ _ => pts_nil) (fun _ _ _ _ _ => (pe_callG GR hA (hr.mono (by decide)) (by rfl) DR0.g DR0.F.kp DR0.b .nil pass0 (pa_cons (pe_call GJ (hr.mono (by decide)) (by rfl) DJ.g DJ.F.kp DJ.b .nil pass0 (pa_cons (pv 0) (pa_cons (pv 1) pa_nil))) pa_nil)))) pa_nil)))), ?_⟩
    refine ⟨_, rfl, a, _, rfl, .inl hS, _, _, rfl, _, _, rfl, ?_⟩
    obtain ⟨j, ej, j0, j4⟩ : ∃ j : Int, j = (if (if (4:Int) < ((ns.map V.int).length : Int) then (4:Int) else ((ns.map V.int).length : Int)) > 2 then (if (4:Int) < ((ns.map V.int).length : Int) then (4:Int) else ((ns.map V.int).length : Int)) else 2) ∧ 0 ≤ j ∧ j ≤ 5 := by
      refine ⟨_, rfl, ?_⟩
      split <;> split <;> omega
    rw [← ej]
    refine ⟨j, rfl, by omega, by omega, fun D2 nD2 => lc_range (lo := 0) (n := j.toNat) (fun k H' => Same H H' ∧ H' D2 = some (.lst ((List.replicate k true).map V.bl))) ⟨same_new nD2, upd_same⟩ (fun k H' hk hP => ?_) (fun G4 hP => ?_)⟩
    · obtain ⟨sk, ek⟩ := hP
      refine ⟨rfl, _, rfl, _, rfl, a, ns, (0 + (k : Int)), rfl, sk.seq hS, hn, by omega, by omega, hb, fun H1 p t1 np J => ⟨p, rfl, J, fun H2 kp _ => ?_⟩⟩
      have pD : ∀ c o, H' c = some o → c ≠ p := fun c o h z => by rw [z] at h; rw [np] at h; cases h
      have hk2 : ∀ c o, H' c = some o → H2 c = some o := fun c o h => kp _ _ (pD c o h) (t1 _ _ h)
      refine ⟨_, hk2 _ _ ek, (by rw [List.length_map, List.length_replicate]; exact Nat.lt_of_lt_of_le (by omega : k < 5) (show 5 ≤ sizeLine by decide)), fun c o h => ?_, ?_⟩
      · rw [upd_ne (ne_of_none h nD2)]
        exact hk2 _ _ (sk _ _ h)
      · rw [upd_same, List.replicate_succ', List.map_append]
        rfl
    · obtain ⟨sk, ek⟩ := hP
      refine ⟨D2, List.replicate j.toNat true, rfl, SqL.of ek, ?_⟩
      rw [show (List.replicate j.toNat true).all id = true by simp]
      exact q _
end
end L2.Cal
end

section
set_option maxRecDepth 100000
set_option maxHeartbeats 4000000
namespace L2.Cal
open PySem PySem.Spec PyProof.Rows L2
theorem def_at {K : PySem.W.Frag} {h : Heap} {mg : Str → Option Value} {x : Str} {st : Stmt} {ps : List Str} {f : Addr} {od an : Option Addr} {sl : Array (Option Value)} {oc kV dc pm cd ct : Value} (X : K.In h) (G : h.Ns mainGlobals mg)
    (a : PySem.W.nsIn K mainGlobals x = some (some (.ref f))) (l : K.lookup f = some ⟨oc, od, .func (PySem.W.fnOf x x (defArgs st) (defBody st) (defScope st) .none kV dc pm an cd ct), sl⟩) (c : PySem.W.codeIn K cd x = true) (k : PySem.W.keepIn K (.ref f) = true)
    (b : ∀ (kV doc pm : Value) (an : Option Addr) (cdv ct : Value) (us : List Value), us.length = ps.length → bindArgs (PySem.W.fnOf x x (defArgs st) (defBody st) (defScope st) .none kV doc pm an cdv ct) ⟨us, []⟩ = pure (ps.zip us)) :
    DefAt K mg x st ps f (PySem.W.fnOf x x (defArgs st) (defBody st) (defScope st) .none kV dc pm an cd ct) :=
  ⟨fun_mk l c k, PySem.W.mg_of X G a, (fun_mk l c k).binds b⟩
theorem meth_at {K : PySem.W.Frag} {x q : Str} {st : Stmt} {ps : List Str} {f : Addr} {od an : Option Addr} {sl : Array (Option Value)} {oc kV dc pm cd ct : Value}
    (l : K.lookup f = some ⟨oc, od, .func (PySem.W.fnOf x q (defArgs st) (defBody st) (defScope st) .none kV dc pm an cd ct), sl⟩) (c : PySem.W.codeIn K cd q = true) (k : PySem.W.keepIn K (.ref f) = true)
    (b : ∀ (kV doc pm : Value) (an : Option Addr) (cdv ct : Value) (us : List Value), us.length = ps.length → bindArgs (PySem.W.fnOf x q (defArgs st) (defBody st) (defScope st) .none kV doc pm an cdv ct) ⟨us, []⟩ = pure (ps.zip us)) :
    Fun K x q st f (PySem.W.fnOf x q (defArgs st) (defBody st) (defScope st) .none kV dc pm an cd ct) ∧ Binds K (PySem.W.fnOf x q (defArgs st) (defBody st) (defScope st) .none kV dc pm an cd ct) ps [] :=
  ⟨fun_mk l c k, (fun_mk l c k).binds b⟩
theorem vals_app : ∀ {vs : List V} {us : List Value} {zs : List V} {ws : List Value}, Vals vs us → Vals zs ws → Vals (vs ++ zs) (us ++ ws)
  | _, _, _, _, .nil, h => h
  | _, _, _, _, .cons a r, h => .cons a (vals_app r h)
theorem all_mk {P : Program} {w : World} {K : PySem.W.Frag} {h : Heap} {mg : Str → Option Value} {fa : Addr} {t_LEAST_THINGS t_MOST_THINGS t_MOST_ORDERS t_MOST_OUT : Tok} {fJ : Addr} {odJ anJ : Option Addr} {slJ : Array (Option Value)} {ocJ kVJ dcJ pmJ cdJ ctJ : Value} {fW : Addr} {odW anW : Option Addr} {slW : Array (Option Value)} {ocW kVW dcW pmW cdW ctW : Value} {fR0 : Addr} {odR0 anR0 : Option Addr} {slR0 : Array (Option Value)} {ocR0 kVR0 dcR0 pmR0 cdR0 ctR0 : Value} {fTg : Addr} {odTg anTg : Option Addr} {slTg : Array (Option Value)} {ocTg kVTg dcTg pmTg cdTg ctTg : Value} {fSi : Addr} {odSi anSi : Option Addr} {slSi : Array (Option Value)} {ocSi kVSi dcSi pmSi cdSi ctSi : Value} {fLt : Addr} {odLt anLt : Option Addr} {slLt : Array (Option Value)} {ocLt kVLt dcLt pmLt cdLt ctLt : Value} {fSo : Addr} {odSo anSo : Option Addr} {slSo : Array (Option Value)} {ocSo kVSo dcSo pmSo cdSo ctSo : Value} {fSh : Addr} {odSh anSh : Option Addr} {slSh : Array (Option Value)} {ocSh kVSh dcSh pmSh cdSh ctSh : Value} {fAy : Addr} {odAy anAy : Option Addr} {slAy : Array (Option Value)} {ocAy kVAy dcAy pmAy cdAy ctAy : Value} {fWk : Addr} {odWk anWk : Option Addr} {slWk : Array (Option Value)} {ocWk kVWk dcWk pmWk cdWk ctWk : Value} {fPk : Addr} {odPk anPk : Option Addr} {slPk : Array (Option Value)} {ocPk kVPk dcPk pmPk cdPk ctPk : Value} {fPt : Addr} {odPt anPt : Option Addr} {slPt : Array (Option Value)} {ocPt kVPt dcPt pmPt cdPt ctPt : Value} {fTr : Addr} {odTr anTr : Option Addr} {slTr : Array (Option Value)} {ocTr kVTr dcTr pmTr cdTr ctTr : Value} {fUp : Addr} {odUp anUp : Option Addr} {slUp : Array (Option Value)} {ocUp kVUp dcUp pmUp cdUp ctUp : Value} {fSp : Addr} {odSp anSp : Option Addr} {slSp : Array (Option Value)} {ocSp kVSp dcSp pmSp cdSp ctSp : Value} {fCa : Addr} {odCa anCa : Option Addr} {slCa : Array (Option Value)} {ocCa kVCa dcCa pmCa cdCa ctCa : Value} {fPa : Addr} {odPa anPa : Option Addr} {slPa : Array (Option Value)} {ocPa kVPa dcPa pmPa cdPa ctPa : Value} {fLs : Addr} {odLs anLs : Option Addr} {slLs : Array (Option Value)} {ocLs kVLs dcLs pmLs cdLs ctLs : Value} {fK : Addr} {odK anK : Option Addr} {slK : Array (Option Value)} {ocK kVK dcK pmK cdK ctK : Value} {fWy : Addr} {odWy anWy : Option Addr} {slWy : Array (Option Value)} {ocWy kVWy dcWy pmWy cdWy ctWy : Value} {fB : Addr} {odB anB : Option Addr} {slB : Array (Option Value)} {ocB kVB dcB pmB cdB ctB : Value} {fIc : Addr} {odIc anIc : Option Addr} {slIc : Array (Option Value)} {ocIc kVIc dcIc pmIc cdIc ctIc : Value} {fRu : Addr} {odRu anRu : Option Addr} {slRu : Array (Option Value)} {ocRu kVRu dcRu pmRu cdRu ctRu : Value} {fTo : Addr} {odTo anTo : Option Addr} {slTo : Array (Option Value)} {ocTo kVTo dcTo pmTo cdTo ctTo : Value} {fSt : Addr} {odSt anSt : Option Addr} {slSt : Array (Option Value)} {ocSt kVSt dcSt pmSt cdSt ctSt : Value} {fWu : Addr} {odWu anWu : Option Addr} {slWu : Array (Option Value)} {ocWu kVWu dcWu pmWu cdWu ctWu : Value} {fWa : Addr} {odWa anWa : Option Addr} {slWa : Array (Option Value)} {ocWa kVWa dcWa pmWa cdWa ctWa : Value} {fR : Addr} {odR anR : Option Addr} {slR : Array (Option Value)} {ocR kVR dcR pmR cdR ctR : Value} {fIs : Addr} {odIs anIs : Option Addr} {slIs : Array (Option Value)} {ocIs kVIs dcIs pmIs cdIs ctIs : Value} {fH : Addr} {odH anH : Option Addr} {slH : Array (Option Value)} {ocH kVH dcH pmH cdH ctH : Value} {C : Addr} {fmN : Addr} {odmN anmN : Option Addr} {slmN : Array (Option Value)} {ocmN kVmN dcmN pmmN cdmN ctmN : Value} {fmT : Addr} {odmT anmT : Option Addr} {slmT : Array (Option Value)} {ocmT kVmT dcmT pmmT cdmT ctmT : Value} {pr_mT : Addr} {remT : List Value} {fmO : Addr} {odmO anmO : Option Addr} {slmO : Array (Option Value)} {ocmO kVmO dcmO pmmO cdmO ctmO : Value} {pr_mO : Addr} {remO : List Value} {fmL : Addr} {odmL anmL : Option Addr} {slmL : Array (Option Value)} {ocmL kVmL dcmL pmmL cdmL ctmL : Value} (X : K.In h) (G : h.Ns mainGlobals mg) (hfa : mg "law" = some (.ref fa))
    (n_int : PySem.W.nsIn K mainGlobals "int" = some none)
    (n_len : PySem.W.nsIn K mainGlobals "len" = some none)
    (n_abs : PySem.W.nsIn K mainGlobals "abs" = some none)
    (n_range : PySem.W.nsIn K mainGlobals "range" = some none)
    (n_repr : PySem.W.nsIn K mainGlobals "repr" = some none)
    (n_max : PySem.W.nsIn K mainGlobals "max" = some none)
    (n_min : PySem.W.nsIn K mainGlobals "min" = some none)
    (n_all : PySem.W.nsIn K mainGlobals "all" = some none)
    (n_list : PySem.W.nsIn K mainGlobals "list" = some none)
    (n_sorted : PySem.W.nsIn K mainGlobals "sorted" = some none)
    (n_set : PySem.W.nsIn K mainGlobals "set" = some none)
    (n_tuple : PySem.W.nsIn K mainGlobals "tuple" = some none)
    (n_str : PySem.W.nsIn K mainGlobals "str" = some none)
    (n_bool : PySem.W.nsIn K mainGlobals "bool" = some none)
    (n_isinstance : PySem.W.nsIn K mainGlobals "isinstance" = some none)
    (n_enumerate : PySem.W.nsIn K mainGlobals "enumerate" = some none)
    (n_super : PySem.W.nsIn K mainGlobals "super" = some none)
    (n_divmod : PySem.W.nsIn K mainGlobals "divmod" = some none)
    (c_LEAST_THINGS : PySem.W.nsIn K mainGlobals "LEAST_THINGS" = some (some (.int 3 t_LEAST_THINGS)))
    (c_MOST_THINGS : PySem.W.nsIn K mainGlobals "MOST_THINGS" = some (some (.int 6 t_MOST_THINGS)))
    (c_MOST_ORDERS : PySem.W.nsIn K mainGlobals "MOST_ORDERS" = some (some (.int 48 t_MOST_ORDERS)))
    (c_MOST_OUT : PySem.W.nsIn K mainGlobals "MOST_OUT" = some (some (.int 12 t_MOST_OUT)))
    (aJ : PySem.W.nsIn K mainGlobals "_law_origin" = some (some (.ref fJ)))
    (lJ : K.lookup fJ = some ⟨ocJ, odJ, .func (PySem.W.fnOf "_law_origin" "_law_origin" (defArgs sOrg) (defBody sOrg) (defScope sOrg) .none kVJ dcJ pmJ anJ cdJ ctJ), slJ⟩)
    (ccJ : PySem.W.codeIn K cdJ "_law_origin" = true)
    (kkJ : PySem.W.keepIn K (.ref fJ) = true)
    (aW : PySem.W.nsIn K mainGlobals "law" = some (some (.ref fW)))
    (lW : K.lookup fW = some ⟨ocW, odW, .func (PySem.W.fnOf "law" "law" (defArgs sLaw) (defBody sLaw) (defScope sLaw) .none kVW dcW pmW anW cdW ctW), slW⟩)
    (ccW : PySem.W.codeIn K cdW "law" = true)
    (kkW : PySem.W.keepIn K (.ref fW) = true)
    (aR0 : PySem.W.nsIn K mainGlobals "_law_right" = some (some (.ref fR0)))
    (lR0 : K.lookup fR0 = some ⟨ocR0, odR0, .func (PySem.W.fnOf "_law_right" "_law_right" (defArgs sRgt) (defBody sRgt) (defScope sRgt) .none kVR0 dcR0 pmR0 anR0 cdR0 ctR0), slR0⟩)
    (ccR0 : PySem.W.codeIn K cdR0 "_law_right" = true)
    (kkR0 : PySem.W.keepIn K (.ref fR0) = true)
    (aTg : PySem.W.nsIn K mainGlobals "_law_tags" = some (some (.ref fTg)))
    (lTg : K.lookup fTg = some ⟨ocTg, odTg, .func (PySem.W.fnOf "_law_tags" "_law_tags" (defArgs sTag) (defBody sTag) (defScope sTag) .none kVTg dcTg pmTg anTg cdTg ctTg), slTg⟩)
    (ccTg : PySem.W.codeIn K cdTg "_law_tags" = true)
    (kkTg : PySem.W.keepIn K (.ref fTg) = true)
    (aSi : PySem.W.nsIn K mainGlobals "_law_sip" = some (some (.ref fSi)))
    (lSi : K.lookup fSi = some ⟨ocSi, odSi, .func (PySem.W.fnOf "_law_sip" "_law_sip" (defArgs sSip) (defBody sSip) (defScope sSip) .none kVSi dcSi pmSi anSi cdSi ctSi), slSi⟩)
    (ccSi : PySem.W.codeIn K cdSi "_law_sip" = true)
    (kkSi : PySem.W.keepIn K (.ref fSi) = true)
    (aLt : PySem.W.nsIn K mainGlobals "_law_lots" = some (some (.ref fLt)))
    (lLt : K.lookup fLt = some ⟨ocLt, odLt, .func (PySem.W.fnOf "_law_lots" "_law_lots" (defArgs sLts) (defBody sLts) (defScope sLts) .none kVLt dcLt pmLt anLt cdLt ctLt), slLt⟩)
    (ccLt : PySem.W.codeIn K cdLt "_law_lots" = true)
    (kkLt : PySem.W.keepIn K (.ref fLt) = true)
    (aSo : PySem.W.nsIn K mainGlobals "_law_some_one" = some (some (.ref fSo)))
    (lSo : K.lookup fSo = some ⟨ocSo, odSo, .func (PySem.W.fnOf "_law_some_one" "_law_some_one" (defArgs sSom) (defBody sSom) (defScope sSom) .none kVSo dcSo pmSo anSo cdSo ctSo), slSo⟩)
    (ccSo : PySem.W.codeIn K cdSo "_law_some_one" = true)
    (kkSo : PySem.W.keepIn K (.ref fSo) = true)
    (aSh : PySem.W.nsIn K mainGlobals "_law_shuffled" = some (some (.ref fSh)))
    (lSh : K.lookup fSh = some ⟨ocSh, odSh, .func (PySem.W.fnOf "_law_shuffled" "_law_shuffled" (defArgs sShu) (defBody sShu) (defScope sShu) .none kVSh dcSh pmSh anSh cdSh ctSh), slSh⟩)
    (ccSh : PySem.W.codeIn K cdSh "_law_shuffled" = true)
    (kkSh : PySem.W.keepIn K (.ref fSh) = true)
    (aAy : PySem.W.nsIn K mainGlobals "_law_any_lots" = some (some (.ref fAy)))
    (lAy : K.lookup fAy = some ⟨ocAy, odAy, .func (PySem.W.fnOf "_law_any_lots" "_law_any_lots" (defArgs sAny) (defBody sAny) (defScope sAny) .none kVAy dcAy pmAy anAy cdAy ctAy), slAy⟩)
    (ccAy : PySem.W.codeIn K cdAy "_law_any_lots" = true)
    (kkAy : PySem.W.keepIn K (.ref fAy) = true)
    (aWk : PySem.W.nsIn K mainGlobals "_law_walk" = some (some (.ref fWk)))
    (lWk : K.lookup fWk = some ⟨ocWk, odWk, .func (PySem.W.fnOf "_law_walk" "_law_walk" (defArgs sWlk) (defBody sWlk) (defScope sWlk) .none kVWk dcWk pmWk anWk cdWk ctWk), slWk⟩)
    (ccWk : PySem.W.codeIn K cdWk "_law_walk" = true)
    (kkWk : PySem.W.keepIn K (.ref fWk) = true)
    (aPk : PySem.W.nsIn K mainGlobals "_law_peaked" = some (some (.ref fPk)))
    (lPk : K.lookup fPk = some ⟨ocPk, odPk, .func (PySem.W.fnOf "_law_peaked" "_law_peaked" (defArgs sPek) (defBody sPek) (defScope sPek) .none kVPk dcPk pmPk anPk cdPk ctPk), slPk⟩)
    (ccPk : PySem.W.codeIn K cdPk "_law_peaked" = true)
    (kkPk : PySem.W.keepIn K (.ref fPk) = true)
    (aPt : PySem.W.nsIn K mainGlobals "_law_part" = some (some (.ref fPt)))
    (lPt : K.lookup fPt = some ⟨ocPt, odPt, .func (PySem.W.fnOf "_law_part" "_law_part" (defArgs sPrt) (defBody sPrt) (defScope sPrt) .none kVPt dcPt pmPt anPt cdPt ctPt), slPt⟩)
    (ccPt : PySem.W.codeIn K cdPt "_law_part" = true)
    (kkPt : PySem.W.keepIn K (.ref fPt) = true)
    (aTr : PySem.W.nsIn K mainGlobals "_law_trios" = some (some (.ref fTr)))
    (lTr : K.lookup fTr = some ⟨ocTr, odTr, .func (PySem.W.fnOf "_law_trios" "_law_trios" (defArgs sTri) (defBody sTri) (defScope sTri) .none kVTr dcTr pmTr anTr cdTr ctTr), slTr⟩)
    (ccTr : PySem.W.codeIn K cdTr "_law_trios" = true)
    (kkTr : PySem.W.keepIn K (.ref fTr) = true)
    (aUp : PySem.W.nsIn K mainGlobals "_law_upon" = some (some (.ref fUp)))
    (lUp : K.lookup fUp = some ⟨ocUp, odUp, .func (PySem.W.fnOf "_law_upon" "_law_upon" (defArgs sUpo) (defBody sUpo) (defScope sUpo) .none kVUp dcUp pmUp anUp cdUp ctUp), slUp⟩)
    (ccUp : PySem.W.codeIn K cdUp "_law_upon" = true)
    (kkUp : PySem.W.keepIn K (.ref fUp) = true)
    (aSp : PySem.W.nsIn K mainGlobals "_law_spots" = some (some (.ref fSp)))
    (lSp : K.lookup fSp = some ⟨ocSp, odSp, .func (PySem.W.fnOf "_law_spots" "_law_spots" (defArgs sSpo) (defBody sSpo) (defScope sSpo) .none kVSp dcSp pmSp anSp cdSp ctSp), slSp⟩)
    (ccSp : PySem.W.codeIn K cdSp "_law_spots" = true)
    (kkSp : PySem.W.keepIn K (.ref fSp) = true)
    (aCa : PySem.W.nsIn K mainGlobals "_law_is_calm" = some (some (.ref fCa)))
    (lCa : K.lookup fCa = some ⟨ocCa, odCa, .func (PySem.W.fnOf "_law_is_calm" "_law_is_calm" (defArgs sCal) (defBody sCal) (defScope sCal) .none kVCa dcCa pmCa anCa cdCa ctCa), slCa⟩)
    (ccCa : PySem.W.codeIn K cdCa "_law_is_calm" = true)
    (kkCa : PySem.W.keepIn K (.ref fCa) = true)
    (aPa : PySem.W.nsIn K mainGlobals "_law_parts" = some (some (.ref fPa)))
    (lPa : K.lookup fPa = some ⟨ocPa, odPa, .func (PySem.W.fnOf "_law_parts" "_law_parts" (defArgs sPar) (defBody sPar) (defScope sPar) .none kVPa dcPa pmPa anPa cdPa ctPa), slPa⟩)
    (ccPa : PySem.W.codeIn K cdPa "_law_parts" = true)
    (kkPa : PySem.W.keepIn K (.ref fPa) = true)
    (aLs : PySem.W.nsIn K mainGlobals "least_out" = some (some (.ref fLs)))
    (lLs : K.lookup fLs = some ⟨ocLs, odLs, .func (PySem.W.fnOf "least_out" "least_out" (defArgs sLst) (defBody sLst) (defScope sLst) .none kVLs dcLs pmLs anLs cdLs ctLs), slLs⟩)
    (ccLs : PySem.W.codeIn K cdLs "least_out" = true)
    (kkLs : PySem.W.keepIn K (.ref fLs) = true)
    (aK : PySem.W.nsIn K mainGlobals "check_roll" = some (some (.ref fK)))
    (lK : K.lookup fK = some ⟨ocK, odK, .func (PySem.W.fnOf "check_roll" "check_roll" (defArgs sChk) (defBody sChk) (defScope sChk) .none kVK dcK pmK anK cdK ctK), slK⟩)
    (ccK : PySem.W.codeIn K cdK "check_roll" = true)
    (kkK : PySem.W.keepIn K (.ref fK) = true)
    (aWy : PySem.W.nsIn K mainGlobals "ways_out" = some (some (.ref fWy)))
    (lWy : K.lookup fWy = some ⟨ocWy, odWy, .func (PySem.W.fnOf "ways_out" "ways_out" (defArgs sWay) (defBody sWay) (defScope sWay) .none kVWy dcWy pmWy anWy cdWy ctWy), slWy⟩)
    (ccWy : PySem.W.codeIn K cdWy "ways_out" = true)
    (kkWy : PySem.W.keepIn K (.ref fWy) = true)
    (aB : PySem.W.nsIn K mainGlobals "breaks_all" = some (some (.ref fB)))
    (lB : K.lookup fB = some ⟨ocB, odB, .func (PySem.W.fnOf "breaks_all" "breaks_all" (defArgs sBrk) (defBody sBrk) (defScope sBrk) .none kVB dcB pmB anB cdB ctB), slB⟩)
    (ccB : PySem.W.codeIn K cdB "breaks_all" = true)
    (kkB : PySem.W.keepIn K (.ref fB) = true)
    (aIc : PySem.W.nsIn K mainGlobals "is_calm" = some (some (.ref fIc)))
    (lIc : K.lookup fIc = some ⟨ocIc, odIc, .func (PySem.W.fnOf "is_calm" "is_calm" (defArgs sIsC) (defBody sIsC) (defScope sIsC) .none kVIc dcIc pmIc anIc cdIc ctIc), slIc⟩)
    (ccIc : PySem.W.codeIn K cdIc "is_calm" = true)
    (kkIc : PySem.W.keepIn K (.ref fIc) = true)
    (aRu : PySem.W.nsIn K mainGlobals "rough" = some (some (.ref fRu)))
    (lRu : K.lookup fRu = some ⟨ocRu, odRu, .func (PySem.W.fnOf "rough" "rough" (defArgs sRou) (defBody sRou) (defScope sRou) .none kVRu dcRu pmRu anRu cdRu ctRu), slRu⟩)
    (ccRu : PySem.W.codeIn K cdRu "rough" = true)
    (kkRu : PySem.W.keepIn K (.ref fRu) = true)
    (aTo : PySem.W.nsIn K mainGlobals "threes_of" = some (some (.ref fTo)))
    (lTo : K.lookup fTo = some ⟨ocTo, odTo, .func (PySem.W.fnOf "threes_of" "threes_of" (defArgs sThs) (defBody sThs) (defScope sThs) .none kVTo dcTo pmTo anTo cdTo ctTo), slTo⟩)
    (ccTo : PySem.W.codeIn K cdTo "threes_of" = true)
    (kkTo : PySem.W.keepIn K (.ref fTo) = true)
    (aSt : PySem.W.nsIn K mainGlobals "standing" = some (some (.ref fSt)))
    (lSt : K.lookup fSt = some ⟨ocSt, odSt, .func (PySem.W.fnOf "standing" "standing" (defArgs sSta) (defBody sSta) (defScope sSta) .none kVSt dcSt pmSt anSt cdSt ctSt), slSt⟩)
    (ccSt : PySem.W.codeIn K cdSt "standing" = true)
    (kkSt : PySem.W.keepIn K (.ref fSt) = true)
    (aWu : PySem.W.nsIn K mainGlobals "wheels_upon" = some (some (.ref fWu)))
    (lWu : K.lookup fWu = some ⟨ocWu, odWu, .func (PySem.W.fnOf "wheels_upon" "wheels_upon" (defArgs sWup) (defBody sWup) (defScope sWup) .none kVWu dcWu pmWu anWu cdWu ctWu), slWu⟩)
    (ccWu : PySem.W.codeIn K cdWu "wheels_upon" = true)
    (kkWu : PySem.W.keepIn K (.ref fWu) = true)
    (aWa : PySem.W.nsIn K mainGlobals "wheel_among" = some (some (.ref fWa)))
    (lWa : K.lookup fWa = some ⟨ocWa, odWa, .func (PySem.W.fnOf "wheel_among" "wheel_among" (defArgs sWam) (defBody sWam) (defScope sWam) .none kVWa dcWa pmWa anWa cdWa ctWa), slWa⟩)
    (ccWa : PySem.W.codeIn K cdWa "wheel_among" = true)
    (kkWa : PySem.W.keepIn K (.ref fWa) = true)
    (aR : PySem.W.nsIn K mainGlobals "right_ahead" = some (some (.ref fR)))
    (lR : K.lookup fR = some ⟨ocR, odR, .func (PySem.W.fnOf "right_ahead" "right_ahead" (defArgs sRah) (defBody sRah) (defScope sRah) .none kVR dcR pmR anR cdR ctR), slR⟩)
    (ccR : PySem.W.codeIn K cdR "right_ahead" = true)
    (kkR : PySem.W.keepIn K (.ref fR) = true)
    (aIs : PySem.W.nsIn K mainGlobals "is_order" = some (some (.ref fIs)))
    (lIs : K.lookup fIs = some ⟨ocIs, odIs, .func (PySem.W.fnOf "is_order" "is_order" (defArgs sIsO) (defBody sIsO) (defScope sIsO) .none kVIs dcIs pmIs anIs cdIs ctIs), slIs⟩)
    (ccIs : PySem.W.codeIn K cdIs "is_order" = true)
    (kkIs : PySem.W.keepIn K (.ref fIs) = true)
    (aH : PySem.W.nsIn K mainGlobals "things_of" = some (some (.ref fH)))
    (lH : K.lookup fH = some ⟨ocH, odH, .func (PySem.W.fnOf "things_of" "things_of" (defArgs sThO) (defBody sThO) (defScope sThO) .none kVH dcH pmH anH cdH ctH), slH⟩)
    (ccH : PySem.W.codeIn K cdH "things_of" = true)
    (kkH : PySem.W.keepIn K (.ref fH) = true)
    (gC : PySem.W.nsIn K mainGlobals "Roll" = some (some (.ref C)))
    (omN : PySem.W.findIn K (.ref C) "__init__" = some (some (.ref fmN)))
    (ymN : PySem.W.typeIn K (.ref fmN) = some (.type "function"))
    (lmN : K.lookup fmN = some ⟨ocmN, odmN, .func (PySem.W.fnOf "__init__" "Roll.__init__" (defArgs sIni) (defBody sIni) (defScope sIni) .none kVmN dcmN pmmN anmN cdmN ctmN), slmN⟩)
    (ccmN : PySem.W.codeIn K cdmN "Roll.__init__" = true)
    (kkmN : PySem.W.keepIn K (.ref fmN) = true)
    (omT : PySem.W.findIn K (.ref C) "things" = some (some (.ref pr_mT)))
    (gmT : PySem.W.specialIn K (.ref pr_mT) "__get__" = some (some (.builtin "property.__get__")))
    (tmT : PySem.W.takesIn K (.ref pr_mT) = some true)
    (rmT : PySem.W.recIn K pr_mT "property" = some (.ref fmT :: remT))
    (lmT : K.lookup fmT = some ⟨ocmT, odmT, .func (PySem.W.fnOf "things" "Roll.things" (defArgs sThi) (defBody sThi) (defScope sThi) .none kVmT dcmT pmmT anmT cdmT ctmT), slmT⟩)
    (ccmT : PySem.W.codeIn K cdmT "Roll.things" = true)
    (kkmT : PySem.W.keepIn K (.ref fmT) = true)
    (omO : PySem.W.findIn K (.ref C) "orders" = some (some (.ref pr_mO)))
    (gmO : PySem.W.specialIn K (.ref pr_mO) "__get__" = some (some (.builtin "property.__get__")))
    (tmO : PySem.W.takesIn K (.ref pr_mO) = some true)
    (rmO : PySem.W.recIn K pr_mO "property" = some (.ref fmO :: remO))
    (lmO : K.lookup fmO = some ⟨ocmO, odmO, .func (PySem.W.fnOf "orders" "Roll.orders" (defArgs sOrd) (defBody sOrd) (defScope sOrd) .none kVmO dcmO pmmO anmO cdmO ctmO), slmO⟩)
    (ccmO : PySem.W.codeIn K cdmO "Roll.orders" = true)
    (kkmO : PySem.W.keepIn K (.ref fmO) = true)
    (omL : PySem.W.findIn K (.ref C) "__len__" = some (some (.ref fmL)))
    (ymL : PySem.W.typeIn K (.ref fmL) = some (.type "function"))
    (lmL : K.lookup fmL = some ⟨ocmL, odmL, .func (PySem.W.fnOf "__len__" "Roll.__len__" (defArgs sLen) (defBody sLen) (defScope sLen) .none kVmL dcmL pmmL anmL cdmL ctmL), slmL⟩)
    (ccmL : PySem.W.codeIn K cdmL "Roll.__len__" = true)
    (kkmL : PySem.W.keepIn K (.ref fmL) = true)
    (mkm : PySem.W.makesIn K C = true)
    (mkk : PySem.W.keepIn K (.ref C) = true)
    (cpg : PySem.W.plainGet K C Str.empty = true)
    (chd : PySem.W.hasDictIn K C = true)
    (cpo : PySem.W.plainOver K C = true)
    (csa : PySem.W.findIn K (.ref C) "__setattr__" = some (some (.builtin "object.__setattr__")))
    (no1 : PySem.W.findIn K (.ref C) "_orders" = some none)
    (no2 : PySem.W.findIn K (.ref C) "_things" = some none)
    (dcl : PySem.W.findIn K (.ref C) "__class__" = some (some (.builtin "object.__class__")))
    (dget : PySem.W.specialIn K (.builtin "object.__class__") "__get__" = some (some (.builtin "getset_descriptor.__get__")))
    (dtk : PySem.W.takesIn K (.builtin "object.__class__") = some true)
    (mobj : PySem.W.mroIn K C (.type "object") = some true)
    (cmb : PySem.W.nsIn K mainGlobals "combinations" = some (some (.type "itertools.combinations"))) :
    ∃ fd : FuncData, (∀ (s : Shared) (u : Value), BindsTo s fd ⟨[u], []⟩ [("_law_script", u)]) ∧ ∀ base : Heap, K.In base → base.Ns mainGlobals mg → FnOkG P w K mg base CX0 7 fa fd ["_law_script"] (spLaw K) := by
  have e := hfa.symm.trans (PySem.W.mg_of X G aW)
  cases e
  have DJ := def_at (st := sOrg) (ps := ["_law_script", "_law_turn"]) X G aJ lJ ccJ kkJ fun _ _ _ _ _ _ us hl => match us, hl with | [_, _], _ => rfl
  have DW := def_at (st := sLaw) (ps := ["_law_script"]) X G aW lW ccW kkW fun _ _ _ _ _ _ us hl => match us, hl with | [_], _ => rfl
  have DR0 := def_at (st := sRgt) (ps := ["_law_creek"]) X G aR0 lR0 ccR0 kkR0 fun _ _ _ _ _ _ us hl => match us, hl with | [_], _ => rfl
  have DTg := def_at (st := sTag) (ps := ["_law_creek", "_law_size"]) X G aTg lTg ccTg kkTg fun _ _ _ _ _ _ us hl => match us, hl with | [_, _], _ => rfl
  have DSi := def_at (st := sSip) (ps := ["_law_creek", "_law_size"]) X G aSi lSi ccSi kkSi fun _ _ _ _ _ _ us hl => match us, hl with | [_, _], _ => rfl
  have DLt := def_at (st := sLts) (ps := ["_law_creek", "_law_letters", "_law_most_here"]) X G aLt lLt ccLt kkLt fun _ _ _ _ _ _ us hl => match us, hl with | [_, _, _], _ => rfl
  have DSo := def_at (st := sSom) (ps := ["_law_creek", "_law_menu"]) X G aSo lSo ccSo kkSo fun _ _ _ _ _ _ us hl => match us, hl with | [_, _], _ => rfl
  have DSh := def_at (st := sShu) (ps := ["_law_creek", "_law_bag"]) X G aSh lSh ccSh kkSh fun _ _ _ _ _ _ us hl => match us, hl with | [_, _], _ => rfl
  have DAy := def_at (st := sAny) (ps := ["_law_creek", "_law_letters", "_law_most_here"]) X G aAy lAy ccAy kkAy fun _ _ _ _ _ _ us hl => match us, hl with | [_, _, _], _ => rfl
  have DWk := def_at (st := sWlk) (ps := ["_law_creek", "_law_letters"]) X G aWk lWk ccWk kkWk fun _ _ _ _ _ _ us hl => match us, hl with | [_, _], _ => rfl
  have DPk := def_at (st := sPek) (ps := ["_law_line_here"]) X G aPk lPk ccPk kkPk fun _ _ _ _ _ _ us hl => match us, hl with | [_], _ => rfl
  have DPt := def_at (st := sPrt) (ps := ["_law_creek", "_law_lots_here"]) X G aPt lPt ccPt kkPt fun _ _ _ _ _ _ us hl => match us, hl with | [_, _], _ => rfl
  have DTr := def_at (st := sTri) (ps := ["_law_letters"]) X G aTr lTr ccTr kkTr fun _ _ _ _ _ _ us hl => match us, hl with | [_], _ => rfl
  have DUp := def_at (st := sUpo) (ps := ["_law_word", "_law_trio"]) X G aUp lUp ccUp kkUp fun _ _ _ _ _ _ us hl => match us, hl with | [_, _], _ => rfl
  have DSp := def_at (st := sSpo) (ps := ["_law_lots_here", "_law_trio"]) X G aSp lSp ccSp kkSp fun _ _ _ _ _ _ us hl => match us, hl with | [_, _], _ => rfl
  have DCa := def_at (st := sCal) (ps := ["_law_lots_here"]) X G aCa lCa ccCa kkCa fun _ _ _ _ _ _ us hl => match us, hl with | [_], _ => rfl
  have DPa := def_at (st := sPar) (ps := ["_law_lots_here"]) X G aPa lPa ccPa kkPa fun _ _ _ _ _ _ us hl => match us, hl with | [_], _ => rfl
  have DLs := def_at (st := sLst) (ps := ["roll"]) X G aLs lLs ccLs kkLs fun _ _ _ _ _ _ us hl => match us, hl with | [_], _ => rfl
  have DK := def_at (st := sChk) (ps := ["roll"]) X G aK lK ccK kkK fun _ _ _ _ _ _ us hl => match us, hl with | [_], _ => rfl
  have DWy := def_at (st := sWay) (ps := ["orders", "wheels", "many"]) X G aWy lWy ccWy kkWy fun _ _ _ _ _ _ us hl => match us, hl with | [_, _, _], _ => rfl
  have DB := def_at (st := sBrk) (ps := ["out", "wheels"]) X G aB lB ccB kkB fun _ _ _ _ _ _ us hl => match us, hl with | [_, _], _ => rfl
  have DIc := def_at (st := sIsC) (ps := ["roll"]) X G aIc lIc ccIc kkIc fun _ _ _ _ _ _ us hl => match us, hl with | [_], _ => rfl
  have DRu := def_at (st := sRou) (ps := ["roll"]) X G aRu lRu ccRu kkRu fun _ _ _ _ _ _ us hl => match us, hl with | [_], _ => rfl
  have DTo := def_at (st := sThs) (ps := ["things"]) X G aTo lTo ccTo kkTo fun _ _ _ _ _ _ us hl => match us, hl with | [_], _ => rfl
  have DSt := def_at (st := sSta) (ps := ["order", "three"]) X G aSt lSt ccSt kkSt fun _ _ _ _ _ _ us hl => match us, hl with | [_, _], _ => rfl
  have DWu := def_at (st := sWup) (ps := ["three"]) X G aWu lWu ccWu kkWu fun _ _ _ _ _ _ us hl => match us, hl with | [_], _ => rfl
  have DWa := def_at (st := sWam) (ps := ["orders", "three"]) X G aWa lWa ccWa kkWa fun _ _ _ _ _ _ us hl => match us, hl with | [_, _], _ => rfl
  have DR := def_at (st := sRah) (ps := ["orders"]) X G aR lR ccR kkR fun _ _ _ _ _ _ us hl => match us, hl with | [_], _ => rfl
  have DIs := def_at (st := sIsO) (ps := ["value"]) X G aIs lIs ccIs kkIs fun _ _ _ _ _ _ us hl => match us, hl with | [_], _ => rfl
  have DH := def_at (st := sThO) (ps := ["order"]) X G aH lH ccH kkH fun _ _ _ _ _ _ us hl => match us, hl with | [_], _ => rfl
  have MmN := meth_at (st := sIni) (ps := ["self", "orders"]) lmN ccmN kkmN fun _ _ _ _ _ _ us hl => match us, hl with | [_, _], _ => rfl
  have MmT := meth_at (st := sThi) (ps := ["self"]) lmT ccmT kkmT fun _ _ _ _ _ _ us hl => match us, hl with | [_], _ => rfl
  have MmO := meth_at (st := sOrd) (ps := ["self"]) lmO ccmO kkmO fun _ _ _ _ _ _ us hl => match us, hl with | [_], _ => rfl
  have MmL := meth_at (st := sLen) (ps := ["self"]) lmL ccmL kkmL fun _ _ _ _ _ _ us hl => match us, hl with | [_], _ => rfl
  have T : Txt mg := ⟨PySem.W.mg_none_of X G n_int, PySem.W.mg_none_of X G n_len, PySem.W.mg_none_of X G n_abs, PySem.W.mg_none_of X G n_range, PySem.W.mg_none_of X G n_repr, PySem.W.mg_none_of X G n_max, PySem.W.mg_none_of X G n_min, PySem.W.mg_none_of X G n_all, PySem.W.mg_none_of X G n_list, PySem.W.mg_none_of X G n_sorted, PySem.W.mg_none_of X G n_set, PySem.W.mg_none_of X G n_tuple, PySem.W.mg_none_of X G n_str, PySem.W.mg_none_of X G n_bool, PySem.W.mg_none_of X G n_isinstance, PySem.W.mg_none_of X G n_enumerate, PySem.W.mg_none_of X G n_super⟩
  have Lm : Lims mg := ⟨⟨_, PySem.W.mg_of X G c_LEAST_THINGS⟩, ⟨_, PySem.W.mg_of X G c_MOST_THINGS⟩, ⟨_, PySem.W.mg_of X G c_MOST_ORDERS⟩⟩
  have R : RollC K mg C := ⟨PySem.W.mg_of X G gC, ⟨cpg, chd, cpo, csa⟩, no1, no2, dcl, dget, dtk, mobj⟩
  have MK : Mk K C fmN := ⟨mkm, omN, beq_iff_eq.mpr ymN, mkk⟩
  exact ⟨_, fun s u => .of_eq rfl, fun base _ _ => ok_law DW DJ DR0 DTg DSi DLt DSo DSh DAy DWk DPk DPt DTr DUp DSp DCa DPa DLs (⟨fun s ws h => match ws, h with | [_], _ => .of_eq rfl, fun _ h => h⟩) DK DWy DB DIc DRu DTo DSt DWu DWa DR DIs DH (MmN.1) (MmN.2) MK (⟨omL, ymL⟩) (MmL.1) (MmL.2) (⟨omT, gmT, tmT, ⟨_, rmT⟩⟩) (MmT.1) (MmT.2) (⟨omO, gmO, tmO, ⟨_, rmO⟩⟩) (MmO.1) (MmO.2) (PySem.W.mg_of X G cmb) (⟨_, PySem.W.mg_of X G c_MOST_OUT⟩) (PySem.W.mg_none_of X G n_divmod) T Lm R⟩
end L2.Cal
end

open PySem PySem.W PyProof.Rows

set_option maxRecDepth 100000 in
set_option maxHeartbeats 0 in
theorem PySem.Challenge.cw_calmlists_k60_whole_fewest_orders_left_o_holds : PySem.Challenge.rw_calmlists_k60_whole_fewest_orders_left_o.Holds := by
  w_on; o_law; k_head; (case hw => w_witness2)
  k_fill
  refine L2.Cal.walkGB (l := PySem.Challenge.rw_calmlists_k60_whole_fewest_orders_left_o) (n := 63) (k := 7) (x := "_law_script") (CX := fun _ => L2.CX0) (sp := fun w => L2.Cal.spLaw _) rfl (by decide) rfl ⟨rfl, by decide, by decide⟩ (fun w h Y => PySem.W.kIn_of Y) ?F (fun _ _ a ns hl hb hS => ⟨a, ns, rfl, hS, hl, hb, fun _ => rfl⟩) (fun _ _ _ _ _ h => h)
  case F =>
    intro w mg fa h KX G hmg
    refine' L2.Cal.all_mk KX G hmg ?cm_n_int ?cm_n_len ?cm_n_abs ?cm_n_range ?cm_n_repr ?cm_n_max ?cm_n_min ?cm_n_all ?cm_n_list ?cm_n_sorted ?cm_n_set ?cm_n_tuple ?cm_n_str ?cm_n_bool ?cm_n_isinstance ?cm_n_enumerate ?cm_n_super ?cm_n_divmod ?cm_c_LEAST_THINGS ?cm_c_MOST_THINGS ?cm_c_MOST_ORDERS ?cm_c_MOST_OUT ?cm_aJ ?cm_lJ ?cm_ccJ ?cm_kkJ ?cm_aW ?cm_lW ?cm_ccW ?cm_kkW ?cm_aR0 ?cm_lR0 ?cm_ccR0 ?cm_kkR0 ?cm_aTg ?cm_lTg ?cm_ccTg ?cm_kkTg ?cm_aSi ?cm_lSi ?cm_ccSi ?cm_kkSi ?cm_aLt ?cm_lLt ?cm_ccLt ?cm_kkLt ?cm_aSo ?cm_lSo ?cm_ccSo ?cm_kkSo ?cm_aSh ?cm_lSh ?cm_ccSh ?cm_kkSh ?cm_aAy ?cm_lAy ?cm_ccAy ?cm_kkAy ?cm_aWk ?cm_lWk ?cm_ccWk ?cm_kkWk ?cm_aPk ?cm_lPk ?cm_ccPk ?cm_kkPk ?cm_aPt ?cm_lPt ?cm_ccPt ?cm_kkPt ?cm_aTr ?cm_lTr ?cm_ccTr ?cm_kkTr ?cm_aUp ?cm_lUp ?cm_ccUp ?cm_kkUp ?cm_aSp ?cm_lSp ?cm_ccSp ?cm_kkSp ?cm_aCa ?cm_lCa ?cm_ccCa ?cm_kkCa ?cm_aPa ?cm_lPa ?cm_ccPa ?cm_kkPa ?cm_aLs ?cm_lLs ?cm_ccLs ?cm_kkLs ?cm_aK ?cm_lK ?cm_ccK ?cm_kkK ?cm_aWy ?cm_lWy ?cm_ccWy ?cm_kkWy ?cm_aB ?cm_lB ?cm_ccB ?cm_kkB ?cm_aIc ?cm_lIc ?cm_ccIc ?cm_kkIc ?cm_aRu ?cm_lRu ?cm_ccRu ?cm_kkRu ?cm_aTo ?cm_lTo ?cm_ccTo ?cm_kkTo ?cm_aSt ?cm_lSt ?cm_ccSt ?cm_kkSt ?cm_aWu ?cm_lWu ?cm_ccWu ?cm_kkWu ?cm_aWa ?cm_lWa ?cm_ccWa ?cm_kkWa ?cm_aR ?cm_lR ?cm_ccR ?cm_kkR ?cm_aIs ?cm_lIs ?cm_ccIs ?cm_kkIs ?cm_aH ?cm_lH ?cm_ccH ?cm_kkH ?cm_gC ?cm_omN ?cm_ymN ?cm_lmN ?cm_ccmN ?cm_kkmN ?cm_omT ?cm_gmT ?cm_tmT ?cm_rmT ?cm_lmT ?cm_ccmT ?cm_kkmT ?cm_omO ?cm_gmO ?cm_tmO ?cm_rmO ?cm_lmO ?cm_ccmO ?cm_kkmO ?cm_omL ?cm_ymL ?cm_lmL ?cm_ccmL ?cm_kkmL ?cm_mkm ?cm_mkk ?cm_cpg ?cm_chd ?cm_cpo ?cm_csa ?cm_no1 ?cm_no2 ?cm_dcl ?cm_dget ?cm_dtk ?cm_mobj ?cm_cmb
    (case cm_n_int => k_is)
    (case cm_n_len => k_is)
    (case cm_n_abs => k_is)
    (case cm_n_range => k_is)
    (case cm_n_repr => k_is)
    (case cm_n_max => k_is)
    (case cm_n_min => k_is)
    (case cm_n_all => k_is)
    (case cm_n_list => k_is)
    (case cm_n_sorted => k_is)
    (case cm_n_set => k_is)
    (case cm_n_tuple => k_is)
    (case cm_n_str => k_is)
    (case cm_n_bool => k_is)
    (case cm_n_isinstance => k_is)
    (case cm_n_enumerate => k_is)
    (case cm_n_super => k_is)
    (case cm_n_divmod => k_is)
    (case cm_c_LEAST_THINGS => k_is)
    (case cm_c_MOST_THINGS => k_is)
    (case cm_c_MOST_ORDERS => k_is)
    (case cm_c_MOST_OUT => k_is)
    (case cm_aJ => k_is)
    (case cm_lJ => k_is)
    (case cm_ccJ => k_is)
    (case cm_kkJ => k_is)
    (case cm_aW => k_is)
    (case cm_lW => k_is)
    (case cm_ccW => k_is)
    (case cm_kkW => k_is)
    (case cm_aR0 => k_is)
    (case cm_lR0 => k_is)
    (case cm_ccR0 => k_is)
    (case cm_kkR0 => k_is)
    (case cm_aTg => k_is)
    (case cm_lTg => k_is)
    (case cm_ccTg => k_is)
    (case cm_kkTg => k_is)
    (case cm_aSi => k_is)
    (case cm_lSi => k_is)
    (case cm_ccSi => k_is)
    (case cm_kkSi => k_is)
    (case cm_aLt => k_is)
    (case cm_lLt => k_is)
    (case cm_ccLt => k_is)
    (case cm_kkLt => k_is)
    (case cm_aSo => k_is)
    (case cm_lSo => k_is)
    (case cm_ccSo => k_is)
    (case cm_kkSo => k_is)
    (case cm_aSh => k_is)
    (case cm_lSh => k_is)
    (case cm_ccSh => k_is)
    (case cm_kkSh => k_is)
    (case cm_aAy => k_is)
    (case cm_lAy => k_is)
    (case cm_ccAy => k_is)
    (case cm_kkAy => k_is)
    (case cm_aWk => k_is)
    (case cm_lWk => k_is)
    (case cm_ccWk => k_is)
    (case cm_kkWk => k_is)
    (case cm_aPk => k_is)
    (case cm_lPk => k_is)
    (case cm_ccPk => k_is)
    (case cm_kkPk => k_is)
    (case cm_aPt => k_is)
    (case cm_lPt => k_is)
    (case cm_ccPt => k_is)
    (case cm_kkPt => k_is)
    (case cm_aTr => k_is)
    (case cm_lTr => k_is)
    (case cm_ccTr => k_is)
    (case cm_kkTr => k_is)
    (case cm_aUp => k_is)
    (case cm_lUp => k_is)
    (case cm_ccUp => k_is)
    (case cm_kkUp => k_is)
    (case cm_aSp => k_is)
    (case cm_lSp => k_is)
    (case cm_ccSp => k_is)
    (case cm_kkSp => k_is)
    (case cm_aCa => k_is)
    (case cm_lCa => k_is)
    (case cm_ccCa => k_is)
    (case cm_kkCa => k_is)
    (case cm_aPa => k_is)
    (case cm_lPa => k_is)
    (case cm_ccPa => k_is)
    (case cm_kkPa => k_is)
    (case cm_aLs => k_is)
    (case cm_lLs => k_is)
    (case cm_ccLs => k_is)
    (case cm_kkLs => k_is)
    (case cm_aK => k_is)
    (case cm_lK => k_is)
    (case cm_ccK => k_is)
    (case cm_kkK => k_is)
    (case cm_aWy => k_is)
    (case cm_lWy => k_is)
    (case cm_ccWy => k_is)
    (case cm_kkWy => k_is)
    (case cm_aB => k_is)
    (case cm_lB => k_is)
    (case cm_ccB => k_is)
    (case cm_kkB => k_is)
    (case cm_aIc => k_is)
    (case cm_lIc => k_is)
    (case cm_ccIc => k_is)
    (case cm_kkIc => k_is)
    (case cm_aRu => k_is)
    (case cm_lRu => k_is)
    (case cm_ccRu => k_is)
    (case cm_kkRu => k_is)
    (case cm_aTo => k_is)
    (case cm_lTo => k_is)
    (case cm_ccTo => k_is)
    (case cm_kkTo => k_is)
    (case cm_aSt => k_is)
    (case cm_lSt => k_is)
    (case cm_ccSt => k_is)
    (case cm_kkSt => k_is)
    (case cm_aWu => k_is)
    (case cm_lWu => k_is)
    (case cm_ccWu => k_is)
    (case cm_kkWu => k_is)
    (case cm_aWa => k_is)
    (case cm_lWa => k_is)
    (case cm_ccWa => k_is)
    (case cm_kkWa => k_is)
    (case cm_aR => k_is)
    (case cm_lR => k_is)
    (case cm_ccR => k_is)
    (case cm_kkR => k_is)
    (case cm_aIs => k_is)
    (case cm_lIs => k_is)
    (case cm_ccIs => k_is)
    (case cm_kkIs => k_is)
    (case cm_aH => k_is)
    (case cm_lH => k_is)
    (case cm_ccH => k_is)
    (case cm_kkH => k_is)
    (case cm_gC => k_is)
    (case cm_omN => k_is)
    (case cm_ymN => k_is)
    (case cm_lmN => k_is)
    (case cm_ccmN => k_is)
    (case cm_kkmN => k_is)
    (case cm_omT => k_is)
    (case cm_gmT => k_is)
    (case cm_tmT => k_is)
    (case cm_rmT => k_is)
    (case cm_lmT => k_is)
    (case cm_ccmT => k_is)
    (case cm_kkmT => k_is)
    (case cm_omO => k_is)
    (case cm_gmO => k_is)
    (case cm_tmO => k_is)
    (case cm_rmO => k_is)
    (case cm_lmO => k_is)
    (case cm_ccmO => k_is)
    (case cm_kkmO => k_is)
    (case cm_omL => k_is)
    (case cm_ymL => k_is)
    (case cm_lmL => k_is)
    (case cm_ccmL => k_is)
    (case cm_kkmL => k_is)
    (case cm_mkm => kernel_rfl)
    (case cm_mkk => k_is)
    (case cm_cpg => kernel_rfl)
    (case cm_chd => kernel_rfl)
    (case cm_cpo => kernel_rfl)
    (case cm_csa => k_is)
    (case cm_no1 => k_is)
    (case cm_no2 => k_is)
    (case cm_dcl => k_is)
    (case cm_dget => k_is)
    (case cm_dtk => k_is)
    (case cm_mobj => k_is)
    (case cm_cmb => k_is)
